import PyProof.Rows.All
import KE.KLam
import KE.KNestM
import KE.KSortedM
import KE.KEqDict
import KE.KFromBytes
import KE.KMinKey
import KE.KIsAll
import KE.KSortTup
import PySem.Challenge.RW_traylate_k71_all_ends
set_option Elab.async false
set_option genInjectivity false
set_option linter.all false
set_option maxRecDepth 100000
set_option maxHeartbeats 0
set_option synthInstance.maxSize 100000
set_option synthInstance.maxHeartbeats 0
set_option genSizeOf false
set_option compiler.extract_closed false
open Option renaming some→a_,none→b_
open Bool renaming true→c_,false→d_
open PySem renaming Addr→e_,Value→f_,Shared→g_,Around→h_,Scope→i_,Heap→j_,World→k_,Program→l_
open PySem renaming wpAny_bind→ak,wpAny_pure→aO,sizeLine→aX,starEach→cg,mainGlobals→fZ,sizeLine_eq→ij,wpAny_mono→ik,NameKind→iq,FuncData→ir,wpAny_field→i7,compareOp→jL,PassesOwn→lO,wpAny_holding→mj,binaryOp→oO,wpAny_truthy_bool→qO,wpAny_seqItems→sU,wpAny_call→tj,builtinsNs→tm,bindArgs→vf,wpAny_Call_Name_kw→wc,wpAny_newObj_type→we,wpAny_loadPart_at→wm,wpAny_call_entry→wx,noteFrame→wB,behindInMarks→yc,codeAny_mono→yf,call_meets→yn,getMethod→yp,wpAny_callSpecial?_slot→z6,wpAny_passesOwn→Ah,wpAny_setField→Aj,wpAny_standAt→Ak,bootBuiltins→Ao,wpAny_letGo→As,keywordEach→Au,wpAny_rule→Ay,swapsWith→AA,backToKw→AG,wpAny_setField_rec→Cq,wpAny_execs_nil→Cr,attributeBase→Cu,sysModules→CA,isInstance→CB,assignEach→CD,treeTable→CJ,callWith→CV,ReadsAll→CW,importedModules→FD,recursionLimit→FJ,wpAny_attempt→FK,typeLookup→FY,typeIs_int→FZ,setFlight→Gh,compEnvC→GQ,wpAny_pyIter_list→KU,foldedSetIterable→KW,wpAny_isInstance→Ld,wpAny_forIn_list→Le,letOwnedTupleGo→Lj,wpAny_tryCatch→Lo,wpAny_loadPart→Lp,wpAny_onRaise→Lx,plainId_quiet→Ly,wpAny_typeOf→LH,refuseLoop→L8,seqItems?→MD,seqIndex?→ME,plainObj_wpAny_Assign_Attribute→SR,wpAny_comprehension_free→Ta,wpAny_updateSeq_pair→Tg,codeAny_call_builtin→Th,wpAny_isSubtype_exc→Tj,wpAny_tupleItemsOf→Tn,wpAny_pyHash_int→Tz,wpAny_lookBehind→TC,wpAny_eqBool_int→TF,pastItsLine_dict→TH,noFill_tuple_add→TJ,wpAny_updateSeq→TR,wpAny_loadPart'→TU,wpAny_newList→T8,seq_tuple_add→T9,wpAny_nsSet1→Uj,seqIndex_neg→Uk,concat_meets→Ul,wpAny_check_type_call_sub→abl,wpAny_binaryOp_repeat_ref→abm,codeAny_call_builtin_code→abn,codeAny_call_builtin_at→abr,wpAny_isTrue_Compare1→abx,isSubtype_tuple_tuple→aby,codeAny_handlers_test→abz
open Nat renaming le_refl→aD,zero_le→bJ,le_of_lt→cI,le_trans→cQ,lt_of_lt_of_le→ff,ne_of_lt→fh,lt_irrefl→je,le_succ→jf,lt_of_le_of_lt→m7,le_of_eq→m8,lt_succ_self→sO,le_succ_of_le→uQ,ne_of_gt→uX,add_le_add_left→xZ,succ→CY,beq→C9,succ_ne_self→Fz,succ_le_succ→FA,min_eq_left→FE,lt_trichotomy→KZ,lt_succ_of_lt→K',le_add_right→Lg,sub_self→LI,lt_or_gt_of_ne→To,lt_of_lt_of_eq→Tp,not_lt_zero→TX,min_le_left→TY,zero_add→Um,succ_pos→Uo,mul_comm→Up,add_mul_mod_self_left→abo,le_of_succ_le→abW
open Or renaming inl→aP,inr→yA
open List renaming length_map→aS,getElem?_eq_getElem→a8,mem_cons→a9,mem_cons_self→cb,mem_cons_of_mem→cu,mem_of_getElem?→cH,mem_singleton→c7,length_append→dg,replicate→dB,getElem?_eq_some_iff→dX,mem_map→eR,size_toArray→eW,getElem?_map→eX,map_append→fg,map_cons→fu,length_cons→gE,length_take→gX,mem_append_right→ig,mem_append→i6,take_of_length_le→jd,take_add_one→kN,all_eq_true→kQ,pairwise_iff_getElem→mZ,getD_eq_getElem?_getD→nS,getElem?_set_self→nU,length_set→oG,mem_append_left→pU,mem_filter→pY,append_nil→pZ,not_mem_nil→qQ,lookup_cons→qR,map_map→qU,mem_nil_iff→sP,filter_cons→sQ,range_succ→sS,length_filter_le→uP,mem_range→uU,cons→vd,length_range→wq,getElem_of_mem→x9,all_cons→yd,all_map→yh,lookup→yl,lookup_cons_self→Aa,getElem?_of_mem→Ac,filter_append→Ae,flatMap_cons→Af,getElem_mem→Ag,forIn_cons→Ai,any_cons→Am,getElem?_append_right→Cf,getElem?_eq_none_iff→Ci,getElem?_append_left→Cj,getElem?_eq_none→Cm,mem_of_mem_take→Co,getElem?_set_ne→Cp,nodup_cons→Cs,nil_append→Ct,Perm→CM,length_eq_zero_iff→Fq,take_append_drop→Ft,replicate_succ→Fu,flatMap_append→Fw,filterMap_cons→Fx,length_drop→FC,of_mem_zip→FG,map_set→FN,length→FR,length_singleton→KI,cons_lt_cons_iff→KJ,mem_filterMap→KR,nodup_append→La,flatten_cons→Lb,prefix_refl→Lh,drop_zero→Lq,set_set→LJ,foldl→Ma,mem_or_eq_of_mem_set→SU,drop_eq_getElem_cons→SV,length_eq_one_iff→Td,drop_of_length_le→Te,zip_cons_cons→Tq,pairwise_cons→Tr,map_singleton→Ts,length_zipIdx→Tt,pairwise_map→Tu,take_length→TM,ext_getElem→TN,cons_append→TQ,filter→UB,take_append_of_le_length→abd,getElem?_zip_eq_some→abp,eq_of_mem_replicate→abq,getElem?_replicate→abt,getElem?_cons_succ→abu,length_replicate→abA,getElem?_range→abI,take_sublist→abX,foldl_append→abY,ext_getElem?→abZ,append_assoc→ab0,any_eq_false→ab1,getElem_map→ab',flatMap_nil→aca,countP_cons→acb
open PySem.Heap renaming get?_push_of_some→bo,lt_size→bP,get?_push_size→iF,size_push→nW,get?_update_other→sM,SameBut→sX,get?_update_self→Ab,get?_update_ne→KP,ExtBut→LS,size_after_update→abw,get?_none_of_le→abC
open PySem.Value renaming ref→bN,none→gq,int→nj,type→nX,bool→oJ,builtin→Al,str→Gj,float→Uz
open Option renaming some→dN,map_eq_some_iff→Fs,bind_some→Lf,isSome_iff_exists→Tb
open Bool renaming false_ne_true→dS,and_eq_true→fY,true_and→qb,false_and→qS,false_eq_true→yb,eq_iff_iff→Ln,and_false→Lr,and_eq_true_iff→Ti,not_eq_true'→ab4
open Option.some renaming inj→eG,injEq→KY
open Ne renaming symm→eJ
open PySem.Str renaming ofString→eQ
open False renaming elim→ip
open PyProof.Rows renaming boot_tuple→i8,boot_isinstance→jI,boot_list→wC,slot_tuple_getitem→Ce,boot_all→GR,callWith_type1→Ky,get?_update_seq→TV,Constant_none→Ua,subscriptTail_builtinR→abv
open PySem.SeqAt renaming EqAt→jX
open Int renaming toNat_natCast→mh,emod_lt_of_pos→pV,emod_nonneg→qa,toNat_of_nonneg→KO,lt_irrefl→Lz,zero_add→LL,natCast_nonneg→abL,emod_eq_of_lt→ab3
open PySem.PyData renaming eqv→mm,int→oK,canLayAll0→pX,depthAll→sR,eqvAll→uV,canLay0→wy,strOk→yg,depth→Ap,tuple→Cv,none→UA
open True renaming intro→nY
open Classical renaming byContradiction→oF,propDecidable→Tc
open PySem.Obj renaming mapSeq→qf,mapFields→sV,data_mapFields→Ad,isFreed_of_fields→KH,cls_mapFields→abV
open PySem.W renaming boot_heap→qg,boot_drawn→L',boot_toks→MF
open PySem.NameKind renaming free→sW
open PySem.Builtin.SmallTypes renaming nextOf→uO,ownedTupleIsFree→Kx,ownedTupleHandOut→aba
open PySem.PassesOwn renaming never→uS,looking→abU
open Prod renaming mk→vi
open Array renaming length_toList→v8,getElem?_eq_some_iff→Cg,mk→GU,getD_eq_getD_getElem?→Kz,getD→Mb,perm_iff_toList_perm→SS,getElem?_toList→Tf,getElem?_setIfInBounds_ne→abb,eq_empty_of_size_eq_zero→abc,forIn_toList→abM
open List.cons renaming inj→wz
open Prod.mk renaming inj→yk,injEq→acH
open Nat.succ renaming inj→Cw
open LawfulBEq renaming eq_of_beq→CL
open PySem.Fin renaming done→CZ
open PySem.Builtin.Tuple renaming tupleExact→Fp,tupleHashOf→SW,tupleTooMany→abi,tupleItemsOf→abj
open PySem.Builtin.Int renaming intBits→Fy
open PySem.W.KasT renaming kasWp_bind→FH
open PySem.W.WData renaming int→Gi,layableAll→ab8,weightAll→acn
open PyProof.Rows.IsTup renaming new→Gk,typeIs→LK
open PySem.F renaming slot_tuple_iterator_next→KA,slot_tuple_mul→Li,slot_zip_next→Ll,slot_int_rmul→Lm,args_tuple_iterator_next_1→abe,entry_tuple_iterator_next→abf,slot_enumerate_next→abB
open PySem.Builtin.Slice renaming slicePlaces→KC,sliceAdjust→SX,sliceApplied→abk
open PySem.Builtin.ObjectAttr renaming Found→KD,bindTo→SY,storeInOwnDict→aoK
open PySem.Builtin.List renaming listTooLong→KG
open PySem.Heap.SameBut renaming update→KQ
open PySem.Code renaming quiet_builtin→KS
open ForInStep renaming yield→Lk
open Except renaming error→LM,ok→VU
open PySem.Around renaming under→Uq,under_plainId→abD,frames_deeper→abE
open PySem.Walks renaming list→U5
open PySem.Builtin.Builtins renaming bindParams→abg
open PySem.Calls renaming Name_function_global→abh
open PySem.SeqAt.EqAt renaming none_int→abG,int_none→abH
open PySem.EntryCells renaming newEntry→abJ
open List.Pairwise renaming nil→ab2
open PySem.PyData.tuple renaming inj→ab9
open Array.Perm renaming refl→aco
open PySem.Builtin.ObjectAttr.Found renaming missing→aoL,value→aoM,bind→aoN
open PySem.F renaming plainAttrs_list→m_,slot_list_append→n_,type_list_append→o_
open PySem renaming boot_len→q_,mem_of_lookup→t_
open PySem.Paired renaming length→r_
open PySem.W renaming Frag→u_,kitOne→v_,findIn→w_,keepIn→x_,kitCls→y_,mg_none_of→z_,Looks→s_,mroIn→A_,fnOf→B_,mg_of→C_,InstAt→D_,kia_one→E_,hasDictIn→F_,callWith_K→G_
open PySem PySem.Spec PyProof.Rows
open PySem renaming wpAny→bz,model→bK,Paired→bL,Stmt→bM,Expr→bT,backTo→cc,PyData→ci,OsState→cj,rawInt→cr,Str→cw,Obj→cB,Model→d5
open PyProof.Rows renaming seqObj→d6,envOfC→d8
theorem bn(_:True:=by decide):True:=⟨⟩
def ap:=bn._auto_1
theorem bt(_:True:=by rfl):True:=⟨⟩
def am:=bt._auto_1
theorem bv(_:True:=by with_reducible assumption):True:=⟨⟩
def ab:=bv._auto_1
theorem bw(_:True:=by with_unfolding_all rfl):True:=⟨⟩
def b7:=bw._auto_1
theorem xz{b:Sort u}{a:b}:a=a:=Eq.refl a
noncomputable abbrev H_:String:="name"
noncomputable abbrev I_:String:="swap"
noncomputable abbrev J_:String:="skip"
noncomputable abbrev K_:String:="parts"
noncomputable abbrev L_:String:="look"
noncomputable abbrev M_:String:="__init__"
noncomputable abbrev N_:String:="clear"
noncomputable abbrev O_:String:="reg"
noncomputable abbrev P_:String:="_law_cell"
noncomputable abbrev Q_:String:="add"
noncomputable abbrev R_:String:="empties"
noncomputable abbrev S_:String:="put"
noncomputable abbrev T_:String:="kind"
noncomputable abbrev U_:String:="set"
noncomputable abbrev V_:String:="self"
noncomputable abbrev W_:String:="ends"
noncomputable abbrev X_:String:="clerk"
noncomputable abbrev Y_:String:="is_whole"
noncomputable abbrev Z_:String:="tuple"
noncomputable abbrev ac1:String:="_law_clerk"
noncomputable abbrev ac2:String:="place"
noncomputable abbrev an3:String:="_law_program_here"
noncomputable abbrev ap2:String:="_law_gone_over"
noncomputable abbrev ap3:String:="object.__class__"
noncomputable abbrev ap4:String:="none"
noncomputable abbrev ap5:String:="_law_clerks"
noncomputable abbrev ap6:String:="told"
noncomputable abbrev ap7:String:="part"
noncomputable abbrev ap8:String:="turn"
noncomputable abbrev ap9:String:="row"
noncomputable abbrev aq0:String:="_law_kind"
noncomputable abbrev aq1:String:="machine"
noncomputable abbrev aq2:String:="_law_names"
noncomputable abbrev aq3:String:="move"
noncomputable abbrev aq4:String:="bounds_of"
noncomputable abbrev aq5:String:="setting"
noncomputable abbrev aq6:String:="thing"
noncomputable abbrev aq7:String:="other"
noncomputable abbrev aq8:String:="more"
noncomputable section
def ei:=@if_neg
def ek:=@if_pos
def eo:=@absurd
def er:=@of_decide_eq_true
def eu:=@decide_eq_true
def eT:=@decide_eq_false
def f':=@of_decide_eq_false
def fi:=@beq_eq_false_iff_ne
def fv:=@beq_iff_eq
def fw:=@congrArg
def Eq.fC:=@Eq.trans
def Iff.fC:=@Iff.trans
def List.Perm.fC:=@List.Perm.trans
def HEq.fC:=@HEq.trans
def Eq.fF:=@Eq.symm
def Iff.fF:=@Iff.symm
def List.Perm.fF:=@List.Perm.symm
def Ne.fF:=@Ne.symm
theorem dk{p:Prop}(h:p:=by decide +kernel):p:=h
theorem qc{p:Prop}(h:autoParam p ap):p:=h
theorem om{p:Prop}(h:p:=by omega):p:=h
theorem li{p:Prop}(h:p:=by lia):p:=h
noncomputable abbrev g8:List PySem.Str:=["self","told"]
noncomputable abbrev gr:List PySem.Str:=["self","clerk"]
noncomputable abbrev g0:List PySem.Str:=["self"]
noncomputable abbrev jc:List PySem.Str:=["_law_draw","_law_k","_law_clerk","_law_clerks","_law_names"]
noncomputable abbrev hA:List PySem.Str:=["self","program","kind"]
noncomputable abbrev gW:List PySem.Str:=["self","clerk","step"]
noncomputable abbrev iE:List PySem.Str:=["_law_draw","_law_cell","_law_length","_law_names"]
noncomputable abbrev hH:List PySem.Str:=["_law_machine","_law_clerks"]
noncomputable abbrev ki:List PySem.Str:=["_law_cell","_law_clerks","_law_length","_law_names"]
noncomputable abbrev hD:List PySem.Str:=["program","kind","most"]
noncomputable abbrev gP:List PySem.Str:=["self","name"]
noncomputable abbrev iv:List PySem.Str:=["self","name","number","deed"]
noncomputable abbrev hO:List PySem.Str:=["self","clerk","place"]
noncomputable abbrev hJ:List PySem.Str:=["self","clerk","name"]
noncomputable abbrev gx:List PySem.Str:=["machine"]
noncomputable abbrev io:List PySem.Str:=["_law_cell","_law_amount"]
noncomputable abbrev js:List PySem.Str:=["_law_program_here","_law_kind"]
noncomputable abbrev jr:List PySem.Str:=["_law_program_here","_law_cell"]
noncomputable abbrev gy:List PySem.Str:=["program"]
noncomputable abbrev im:List PySem.Str:=["told","place","length"]
noncomputable abbrev ii:List PySem.Str:=["_law_script","_law_k"]
noncomputable abbrev ic:List PySem.Str:=["step","place","regs"]
noncomputable abbrev hF:List PySem.Str:=["self","kind"]
noncomputable abbrev hU:List PySem.Str:=["_law_cell","_law_k"]
namespace L2
end L2
namespace L3
end L3
namespace L4
end L4
namespace L5
end L5
namespace HT
open PySem.W
noncomputable def GZ(tb:String->Option Builtin)(p:l_)(w:k_)(a:Nat)(b:Option f_):Nat->SharedT->Thread->Option SharedT
 | 0,_,_=>b_
 | n+1,s,t=>match through t with
  | true=>a_ s
  | false=>match stepOk a b t with
   | false=>b_
   | true=>match stepT (denote tb) p w s t with
    | some (s',t')=>GZ tb p w a b n s' t'
    | none=>b_
theorem UD{w:k_}:∀{n:Nat}{s s':SharedT}{t:Thread},GZ tb p w n₀ ann n s t=a_ s'->topRun tb p w n₀ ann n s.abs t=a_ s'.abs
 | 0,_,_,_,h=>by cases h
 | n+1,s,s',t,h=>by
  unfold GZ at h;unfold topRun;cases a:through t with
  | true=>rw[a]at h;cases h;rfl
  | false=>
   rw[a]at h;cases b:stepOk n₀ ann t with
   | false=>rw[b]at h;cases h
   | true=>
    rw[b]at h;cases hs:stepT (denote tb) p w s t with
    | none=>rw[hs]at h;cases h
    | some r=>obtain⟨c,d⟩:=r;rw[hs]at h;rw[stepT_spec hs];exact UD h
noncomputable def WT:List cB->Nat->BT->BT
 | [],_,t=>t
 | o::r,i,t=>WT r (i+1)<|t.ins i o
def PH(P:Params):BT:=WT (qg P).objs.toList 0 .nil
def D1(P:Params):Nat:=(qg P).objs.size
def PJ(P:Params):Life:=(qg P).life
def akR(P:Params):Option Value:=(qg P).nsMap fZ "__annotations__"
theorem boot_abs(P:Params):absHeap (PH P) (D1 P) (PJ P)=qg P:=by kernel_rfl
theorem ahL(P:Params):((qg P).isNs fZ,(qg P).objs.size)=(c_,D1 P):=by kernel_rfl
def Yb(P:Params)(os:cj):SharedT:=⟨PH P,D1 P,PJ P,#[],L',MF,os⟩
def ou(p:l_)(w:k_)(N:Nat)(os:cj):Option SharedT:=GZ CJ p w (D1 w.params) (akR w.params) N (Yb w.params os)<|topStub p
def held(p:l_)(P:Params)(s:g_):Bool:=staticsOk (FD p.main.body) (qg P) s.heap&&namesBound p s.heap&&gensDone s&&laidKept (qg P) s.heap
theorem both{a d e:Type}{o:Option a}{f:a->d}{g:a->e}{b:d}{c:e}(h1:o.map f=a_ b)(h2:o.map g=a_ c):o.map (λs=>(f s,g s))=a_ (b,c):=by
 cases o with
 | none=>cases h1
 | some s=>cases h1;cases h2;rfl
theorem adb{w:k_}(a:(s₀.heap.isNs fZ&&s₀.gens.size==0)=c_)(r:topRun CJ p w s₀.heap.objs.size (s₀.heap.nsMap fZ "__annotations__") N s₀ (topStub p)=a_ s₁)(b:(staticsOk (FD p.main.body) s₀.heap s₁.heap&&namesBound p s₁.heap&&gensDone s₁&&laidKept s₀.heap s₁.heap)=c_):topFrom CJ p w N s₀=a_ s₁:=by
 unfold topFrom;rw[a];dsimp only;rw[r];dsimp only[Option.bind];rw[b]
theorem ahk(e:opening p=plainProg p.main.scope.names)(hN:Nat.ble 600 N=c_)(f:∀s,fenceModules? p s=a_ s)(run:∀(w:k_)(os:cj),(ou p w N os).map (λs=>(held p w.params s.abs,(openSeen q loose (FD p.main.body) Xt c_ s.abs,Yf s.abs)))=a_ (c_,(openGood q loose,Ya w))):LeftO p q loose Xt Yf Ya N:=λw=>by
 obtain⟨⟨h,b,d,k,os⟩,c,g⟩:=Fs.mp<|boot_open e hN f w;obtain⟨rfl,rfl,rfl,rfl⟩:h=qg w.params/\b=GU []/\d=L'/\k=MF:=by simpa using g
 obtain⟨i,r,l⟩:=Fs.mp<|run w os;obtain⟨l1,l2⟩:=yk l;obtain⟨j,m⟩:=yk<|ahL w.params;have a:=UD r
 have ea:(Yb w.params os).abs=⟨qg w.params,GU [],L',MF,os⟩:=by
  show (⟨absHeap (PH w.params) (D1 w.params)<|PJ w.params,_,_,_,_⟩:g_)=_;rw[boot_abs];rfl
 rw[ea]at a;have t:topFrom CJ p w N ⟨qg w.params,GU [],L',MF,os⟩=a_ i.abs:=adb (by rw[j];rfl) (by show topRun CJ p w (qg w.params).objs.size _ N _ _=_;rw[m];exact a) l1;unfold openEnds;rw[c];show (topFrom CJ p w N _).map _=_;rw[t];exact fw a_ l2
end HT
namespace TL
open PySem.SeqAt L2 L3
noncomputable def qv:Program:=W.view PySem.Challenge.rw_traylate_k71_all_ends.prog [0,2,3,4,5,6,7,9,10,11,12,13,14,15,16,17,18,19,20,21,22,23,24,26,27,28,29,31,32,33,35,36,37,38,40,41,42,43,44,46,47,48,49,50,51,52,53,54,55,56,57,58,59]
end TL
section
open PySem.W
abbrev TL.rn(w:k_)(os:cj):=HT.ou PySem.Challenge.rw_traylate_k71_all_ends.row.prog w 12254 os
noncomputable abbrev TL.lo:List cw:=["Machine","KINDS"]
theorem TL.lw:looseW TL.qv []=TL.lo:=by kernel_rfl
theorem TL.QX:W.OpenLaw.wellSaid PySem.Challenge.rw_traylate_k71_all_ends=true:=by kernel_rfl
theorem TL.l0(w:k_)(os:cj):(TL.rn w os).map (λs=>((s.abs.heap.keysOk TL.lo ((recsOf TL.qv).map (·.name)) ((litsOf TL.qv).map (·.1))<|(clssOf TL.qv TL.lo).map (·.name)),((plainSeenE TL.qv TL.lo s.abs))))=a_ (c_,(plainGoodE TL.qv TL.lo)):=by kernel_rfl
theorem TL.l1(w:k_)(os:cj):(TL.rn w os).map (λs=>(wideSeen TL.qv s.abs,clsSeenW TL.qv [] s.abs))=a_ (wideGood TL.qv,clsGoodW TL.qv []):=by kernel_rfl
theorem TL.l2(w:k_)(os:cj):(TL.rn w os).map (λs=>((plainSeenD TL.qv [] s.abs),((HT.held PySem.Challenge.rw_traylate_k71_all_ends.row.prog w.params s.abs),((s.abs.heap.bmainOk&&(valsOk TL.qv s.abs.heap&&(!importsNone TL.qv||s.abs.heap.noSeerOk)))))))=a_ (plainGoodD TL.qv [],(c_,(c_))):=by kernel_rfl
theorem TL.l3(w:k_)(os:cj):(TL.rn w os).map (λs=>((((recsOf TL.qv).map λd=>s.abs.heap.tab0Ok d.name).take 22 |>.all id),((s.abs.heap.bltView))))=a_ (c_,(bltViewBooted)):=by kernel_rfl
theorem TL.l4(w:k_)(os:cj):(TL.rn w os).map (λs=>((recsOf TL.qv).map λd=>s.abs.heap.tab0Ok d.name).drop 22 |>.all id)=a_ true:=by kernel_rfl
theorem TL.l5(w:k_)(os:cj):(TL.rn w os).map (λs=>(((((recsOf TL.qv).map (·.name)).map<|s.abs.heap.shapeAt fZ).take 18),(((ownsOf TL.qv).all (λo=>s.abs.heap.ownExcOk o.name o.chain o.bm o.newId&&s.abs.heap.quietOk o.name)&&(s.abs.heap.noLimitOk&&s.abs.heap.noDigitsOk)),((pinSeenD TL.qv (drecsOf TL.qv) s.abs),((s.abs.heap.accountedOkI (FD PySem.Challenge.rw_traylate_k71_all_ends.row.prog.main.body)&&(s.abs.heap.isNs fZ&&(s.abs.heap.isNs tm&&(tablesOk TL.qv s.abs.heap&&((W.xlAt TL.qv [] s.abs&&W.recOk PySem.Challenge.rw_traylate_k71_all_ends.row.records s.abs)&&(s.abs.gens.size==0)))))))))))=a_ ((((recsOf TL.qv).take 18).map λd=>a_ d.shape),(c_,(pinGoodD<|drecsOf TL.qv,(c_)))):=by kernel_rfl
theorem TL.l6(w:k_)(os:cj):(TL.rn w os).map (λs=>(((recsOf TL.qv).map (·.name)).map<|s.abs.heap.shapeAt fZ).drop 18)=a_ ((((recsOf TL.qv).drop 18).map λd=>a_ d.shape)):=by kernel_rfl
end
namespace L2
def dL(s:bM)(j:Nat):bM:=match s with
 | .ClassDef _ _ _ body _ _ _ _ _ _ _=>body.getD j<|.Pass ⟨0,0,0,0⟩
 | _=>.Pass ⟨0,0,0,0⟩
noncomputable def mw(s:bM):Arguments:=match s with
 | .FunctionDef _ a _ _ _ _ _ _ _ _=>a
 | _=>{posonlyargs:=[],args:=[],vararg:=b_,kwonlyargs:=[],kw_defaults:=[],kwarg:=b_,defaults:=[]}
noncomputable def fj(s:bM):List bM:=match s with
 | .FunctionDef _ _ b _ _ _ _ _ _ _=>b
 | _=>[]
noncomputable def aR(s:bM):Scope:=match s with
 | .FunctionDef _ _ _ _ _ _ sc _ _ _=>sc
 | _=>{kind:=.function,names:=[],isGenerator:=d_,isCoroutine:=d_}
end L2
namespace TL
open L2 L3
noncomputable abbrev dH:Int:=1000000000000000000000000000000000000000000000000000000000000
def top(i:Nat):bM:=PySem.Challenge.pw_traylate_k71_all_ends.main.body.getD i<|.Pass ⟨0,0,0,0⟩
abbrev HU:bM:=dL (top 13) 0
abbrev Df:bM:=top 21
abbrev C2:bM:=top 22
abbrev Hc:bM:=top 23
abbrev Nw:bM:=top 24
abbrev HS:bM:=dL (top 14) 0
abbrev HV:bM:=dL (top 15) 0
abbrev HR:bM:=dL (top 16) 0
abbrev Hz:bM:=dL (top 17) 0
abbrev Hx:bM:=dL (top 18) 0
abbrev Hy:bM:=dL (top 20) 0
end TL
namespace L2
noncomputable abbrev mu:Addr:=87
end L2
namespace L2
open L3
open Sem (wp)
noncomputable abbrev xh:List Value:=[.type "ValueError",.type "Exception",.type "BaseException",.type "object"]
end L2
namespace L2
noncomputable abbrev jk:String:="BaseException.__getattribute__"
end L2
namespace L2
open L3
noncomputable def tH:List f_->Bool
 | .ref _::r=>tH r
 | .type a::r=>a=="ValueError"&&(r==[.type "Exception",.type "BaseException",.type "object"])
 | _=>d_
noncomputable def OL(K:u_)(C:e_)(a:List f_)(b:String):Bool:=
 match yl C K with
 | some {cls:=nX "type",dict:=_,data:=Data.cls cd,slots:=sl}=>
  match cd.mro,sl.toList with
  | bN C'::bm,[_,_,_,_,a_ (Al n),_]=>C'==C&&n==b&&!cd.hasDel&&W.tailIn K a bm&&W.nsOkIn K cd.ns
  | _,_=>d_
 | _=>d_
end L2
namespace TL
open PySem.SeqAt L2 L3
abbrev Qd:bM:=dL (top 5) 0
abbrev Qg:bM:=top 27
abbrev Ph:bM:=top 28
abbrev Mi:bM:=top 29
end TL
namespace TL
open L2 L3
abbrev Nt:bM:=top 21
abbrev Es:bM:=dL (top 32) 0
abbrev Pd:bM:=dL (top 32) 1
abbrev MO:bM:=dL (top 32) 2
abbrev Gs:bM:=dL (top 32) 3
abbrev N0:bM:=dL (top 32) 4
abbrev Nv:bM:=dL (top 32) 5
abbrev MN:bM:=dL (top 32) 6
abbrev Nu:bM:=top 33
end TL
namespace TL
open PySem.SeqAt L2 L3
abbrev NZ:bM:=dL (top 32) 7
end TL
namespace TL
open PySem.SeqAt L2 L3 L4
abbrev HC:bM:=dL (top 13) 5
abbrev F8:bM:=dL (top 18) 3
abbrev FT:bM:=dL (top 19) 0
abbrev Dg:bM:=dL (top 38) 0
abbrev Of:bM:=dL (top 38) 1
abbrev N5:bM:=dL (top 38) 2
abbrev MS:bM:=dL (top 38) 3
abbrev Ny:bM:=dL (top 38) 4
abbrev Qe:bM:=dL (top 38) 5
abbrev NA:bM:=dL (top 38) 6
abbrev Ob:bM:=dL (top 38) 7
abbrev NB:bM:=dL (top 38) 8
abbrev Nz:bM:=dL (top 38) 9
abbrev Od:bM:=dL (top 38) 10
abbrev Pj:bM:=dL (top 38) 11
abbrev MR:bM:=dL (top 38) 12
abbrev N9:bM:=dL (top 38) 14
abbrev NY:bM:=dL (top 38) 15
abbrev LV:bM:=dL (top 38) 17
abbrev MM:bM:=dL (top 38) 18
abbrev Oe:bM:=dL (top 38) 19
abbrev MP:bM:=top 35
abbrev LA:bM:=top 37
abbrev Pg:bM:=top 36
abbrev Nx:bM:=top 40
abbrev N':bM:=top 41
abbrev MQ:bM:=top 42
abbrev N6:bM:=dL (top 38) 24
abbrev LN:bM:=top 43
abbrev tT:bM:=top 44
abbrev NC:bM:=top 46
abbrev N2:bM:=top 47
abbrev N7:bM:=top 48
abbrev Oc:bM:=top 49
abbrev Oa:bM:=top 50
abbrev N8:bM:=top 51
abbrev Pc:bM:=top 57
abbrev Pe:bM:=top 52
abbrev Pf:bM:=top 53
abbrev vn:bM:=top 54
abbrev CN:bM:=top 55
abbrev yB:bM:=top 56
abbrev Qc:bM:=top 58
abbrev rJ:bM:=top 59
end TL
namespace HT
open PySem.W
theorem ud{a d e:Type}{o:Option a}{f:a->d}{g:a->e}{b:d}{c:e}(h:o.map (λs=>(f s,g s))=a_ (b,c)):o.map f=a_ b:=by
 cases o with
 | none=>cases h
 | some s=>
  have h':(f s,g s)=(b,c):=eG h;exact fw a_ (yk h').1
theorem o7{a d e:Type}{o:Option a}{f:a->d}{g:a->e}{b:d}{c:e}(h:o.map (λs=>(f s,g s))=a_ (b,c)):o.map g=a_ c:=by
 cases o with
 | none=>cases h
 | some s=>
  have h':(f s,g s)=(b,c):=eG h;exact fw a_ (yk h').2
theorem vG{a:Type}{o:Option a}{f g:a->Bool}(h1:o.map f=a_ c_)(h2:o.map g=a_ c_):o.map (λs=>f s&&g s)=a_ true:=by
 cases o with
 | none=>cases h1
 | some s=>
  have p:f s=true:=eG h1;show a_ (f s&&g s)=a_ c_;rw[p];exact h2
theorem wX{a:Type}{o:Option a}{f g:a->Bool}(h:o.map (λs=>f s&&g s)=a_ c_):o.map f=a_ c_/\o.map g=a_ true:=by
 cases o with
 | none=>cases h
 | some s=>
  have p:=Ti.mp<|eG h;exact⟨fw a_ p.1,fw a_ p.2⟩
theorem td{a b c:Type}{o:Option a}{F:a->List b}{l:List c}{g:c->b}(k:Nat)(h1:o.map (λs=>(F s).take k)=a_ ((l.take k).map g))(h2:o.map (λs=>(F s).drop k)=a_ ((l.drop k).map g)):o.map F=a_ (l.map g):=by
 cases o with
 | none=>cases h1
 | some s=>
  refine fw a_ ?_;rw[<-Ft k<|F s,show (F s).take k=(l.take k).map g from eG h1,show (F s).drop k=(l.drop k).map g from eG h2,<-fg,Ft]
theorem NS{a:Type}{o:Option a}{F:a->List Bool}(k:Nat)(h1:o.map (λs=>((F s).take k).all id)=a_ c_)(h2:o.map (λs=>((F s).drop k).all id)=a_ c_):o.map (λs=>(F s).all id)=a_ true:=by
 cases o with
 | none=>cases h1
 | some s=>
  refine fw a_ ?_;show (F s).all id=c_;rw[<-Ft k<|F s,List.all_append,show ((F s).take k).all id=c_ from eG h1,show ((F s).drop k).all id=c_ from eG h2];rfl
theorem mkS(h1:d=D)(h2:o=c_)(h3:g=c_)(h4:b=c_)(h5:n=c_):(⟨d,o,[],g,b,n,0⟩:Seen)=⟨D,c_,[],c_,c_,c_,0⟩:=by
 subst h1 h2 h3 h4 h5;rfl
theorem tb_{a b:Type}{o:Option a}{l:List b}{f:a->b->Bool}(h:o.map (λs=>(l.map λd=>f s d).all id)=a_ c_):o.map (λs=>l.all λd=>f s d)=a_ true:=by
 cases o with
 | none=>cases h
 | some s=>
  refine fw a_ ?_;have e:(l.map λd=>f s d).all id=true:=eG h;rw[yh]at e;exact e
theorem agn{w:k_}{N:Nat}{os:cj}{f:g_->Bool}(g:looseW q loose=L)(h3:(ou p w N os).map (λs=>s.abs.heap.keysOk L ((recsOf q).map (·.name)) ((litsOf q).map (·.1))<|(clssOf q L).map (·.name))=a_ c_)(h5:(ou p w N os).map (λs=>s.abs.heap.accountedOkI mods&&(s.abs.heap.isNs fZ&&(s.abs.heap.isNs tm&&(tablesOk q s.abs.heap&&(f s.abs&&(s.abs.gens.size==0))))))=a_ c_)(h1:(ou p w N os).map (λs=>((recsOf q).map (·.name)).map<|s.abs.heap.shapeAt fZ)=a_ ((recsOf q).map λd=>a_ d.shape))(h:(ou p w N os).map (λs=>(ownsOf q).all (λo=>s.abs.heap.ownExcOk o.name o.chain o.bm o.newId&&s.abs.heap.quietOk o.name)&&(s.abs.heap.noLimitOk&&s.abs.heap.noDigitsOk))=a_ c_)(h2:(ou p w N os).map (λs=>s.abs.heap.bltView)=a_ bltViewBooted)(i:(ou p w N os).map (λs=>(recsOf q).all λd=>s.abs.heap.tab0Ok d.name)=a_ c_)(b:(ou p w N os).map (λs=>s.abs.heap.bmainOk&&(valsOk q s.abs.heap&&(!importsNone q||s.abs.heap.noSeerOk)))=a_ c_)(h4:(ou p w N os).map (λs=>(pinSeenD q (drecsOf q) s.abs,(plainSeenE q L s.abs,(plainSeenD q loose s.abs,(wideSeen q s.abs,clsSeenW q loose s.abs)))))=a_ ((pinGoodD<|drecsOf q,(plainGoodE q L,(plainGoodD q loose,(wideGood q,clsGoodW q loose)))))):(ou p w N os).map (λs=>openSeen q loose mods f c_ s.abs)=a_ (openGood q loose):=by
 subst g;obtain⟨j,h5⟩:=wX h5;obtain⟨c,h5⟩:=wX h5;obtain⟨e,h5⟩:=wX h5;obtain⟨k,h5⟩:=wX h5;obtain⟨l,m⟩:=wX h5;obtain⟨b1,b2⟩:=wX h;obtain⟨c1,b⟩:=wX b;obtain⟨c2,c3⟩:=wX b
 have n:(ou p w N os).map (λs=>seen ((recsOf q).map (·.name)) (ownsOf q) [] {heap:=s.abs.heap,drawn:=s.abs.drawn,toks:=s.abs.toks,os:=s.abs.os})=a_ (expectedOf q):=by
  generalize ou p w N os=o at h1 c e b1 b2 ⊢;cases o with
  | none=>cases h1
  | some s=>
   refine fw a_ ?_;exact mkS (eG h1) (eG b1) (eG c) (eG e)<|eG b2
 have tb:(ou p w N os).map (λs=>tabsOk q s.abs)=a_ true:=vG (vG (vG i c1) c2) c3;have a:=both n<|both h2<|both (vG (vG (vG (vG (vG (vG h3 j) c) e) k) l) m)<|both tb h4;exact a
end HT
namespace HT
open PySem.W
theorem NG{g:e_->Option cB}:∀l:List e_,(l.filterMap λa=>(g a).map λo=>(a,o)).lookup a=a_ o->g a=a_ o
 | [],h=>by cases h
 | b::r,h=>by
  rw[Fx]at h;cases e:g b with
  | none=>rw[e]at h;exact NG r h
  | some x=>
   rw[e]at h;dsimp only[Option.map]at h;rw[qR]at h;cases q:a==b with
   | true=>rw[q]at h;cases h;rw[fv.mp q];exact e
   | false=>rw[q]at h;exact NG r h
noncomputable def rf:Option (Option f_)->e_
 | some (a_ (.ref a))=>a
 | _=>0
noncomputable def Jj:Option (Option f_)->Bool
 | some (a_ (.ref _))=>c_
 | _=>d_
theorem lb(h:Jj o=c_):o=a_ (a_<|.ref<|rf o):=by
 unfold Jj at h
 split at h
 .rfl
 .cases h
noncomputable def yX(o:Option (Option f_))(n:Int):Bool:=match o with
 | some (a_ (.int m _))=>decide<|m=n
 | _=>d_
theorem Du(h:yX o n=c_):∃t,o=a_ (a_<|.int n t):=by
 unfold yX at h
 split at h
 .rename_i m t;exact⟨t,by rw[er h]⟩
 .cases h
noncomputable def QY(o:Option CFound)(f:e_):Bool:=match o with
 | some (.val (.ref a))=>C9 a f
 | _=>d_
theorem aiT(h:QY o f=c_):o=a_ (.val<|.ref f):=by
 unfold QY at h
 split at h
 .rw[Nat.eq_of_beq_eq_true h]
 .cases h
abbrev r6:=cw×cw×Arguments×FuncBody×i_×e_×List (cw×e_)×f_×e_
def bh(K:Frag)(f:e_):Option r6:=match K.lookup f with
 | some ⟨_,_,.func d,_⟩=>a_ (d.name,d.qualname,d.params,d.body,d.scope,d.globals,d.closure,d.defaults,d.builtins)
 | _=>b_
noncomputable def codeOk(K:Frag)(f:e_)(q:cw):Bool:=match K.lookup f with
 | some ⟨_,_,.func d,_⟩=>codeIn K d.code q
 | _=>d_
theorem vy{K:Frag}(h:bh K f=a_ (n,q,A,.stmts B,S,fZ,[],.none,tm))(a:codeOk K f q'=c_):∃(oc:f_)(od:Option e_)(kV b pm:f_)(an:Option e_)(cd ct:f_)(sl:Array (Option f_)),K.lookup f=a_ ⟨oc,od,.func<|fnOf n q A B S .none kV b pm an cd ct,sl⟩/\codeIn K cd q'=true:=by
 unfold bh at h;unfold codeOk at a
 split at h
 .rename_i oc od d sl e
  rw[e]at a;obtain⟨d1,c,g,i,j,k,l,m,d9,o,p,r,s,t,u⟩:=d;simp only[KY,acH]at h;obtain⟨rfl,rfl,rfl,rfl,rfl,rfl,rfl,rfl,rfl⟩:=h;exact⟨oc,od,_,_,_,_,_,_,sl,e,a⟩
 .cases h
def Iy(K:Frag)(f:e_):Option r6:=match K.lookup f with
 | some ⟨_,_,.func d,_⟩=>a_ (d.name,d.qualname,d.params,d.body,d.scope,d.globals,d.closure,.none,d.builtins)
 | _=>b_
noncomputable def ID(K:Frag)(f:e_)(x:cw):Bool:=match K.lookup f with
 | some ⟨_,_,.func d,_⟩=>(match d.defaults with
  | .ref T=>(match K.lookup T with
   | some ⟨_,_,.seq ar _,_⟩=>(match ar.toList with
    | [.str y _]=>decide<|y=x
    | _=>d_)
   | _=>d_)
  | _=>d_)
 | _=>d_
theorem aiZ{K:Frag}(h:Iy K f=a_ (n,q,A,.stmts B,S,fZ,[],.none,tm))(a:codeOk K f q'=c_)(hd:ID K f x=c_):∃(oc:f_)(od:Option e_)(T:e_)(kV i pm:f_)(an:Option e_)(cd ct:f_)(sl:Array (Option f_))(c1:f_)(d1:Option e_)(n1:Nat)(uu:Array (Option f_))(tk:Nat),K.lookup f=a_ ⟨oc,od,.func<|fnOf n q A B S (.ref T) kV i pm an cd ct,sl⟩/\codeIn K cd q'=c_/\K.lookup T=a_ ⟨c1,d1,.seq #[.str x tk] n1,uu⟩:=by
 unfold Iy at h;unfold codeOk at a;unfold ID at hd
 split at h
 .rename_i oc od d sl e
  rw[e]at a hd;obtain⟨d1,m,o,p,r,s,t,j,d9,u,v,w,z,C,D⟩:=d;simp only[KY,acH]at h;obtain⟨rfl,rfl,rfl,rfl,rfl,rfl,rfl,_,rfl⟩:=h;cases j with
  | ref T=>
   have hd:(match K.lookup T with
    | some ⟨_,_,.seq b _,_⟩=>(match b.toList with
     | [.str y _]=>decide<|y=x
     | _=>d_)
    | _=>d_)=true:=hd
   split at hd
   .rename_i c1 k b n1 uu c
    split at hd
    .rename_i y tk g
     rw[er hd]at g
     have l:b=#[.str x tk]:=by
      have:=fw List.toArray g;simpa using this
     rw[l]at c;exact⟨oc,od,T,_,_,_,_,_,_,sl,c1,k,n1,uu,tk,e,a,c⟩
    .cases hd
   .cases hd
  | _=>cases hd
 .cases h
noncomputable def wW(h:j_)(b:List e_)(T:e_):Frag:=b.filterMap λa=>(if C9 a T=c_ then b_ else h.get? a).map λo=>(a,o)
theorem US(e:(wW h as T).lookup a=a_ o):a≠T/\h.get? a=a_ o:=by
 have z:=NG (g:=λa=>if C9 a T=c_ then b_ else h.get? a) _ e
 by_cases y:C9 a T=c_
 .rw[ek y]at z;cases z
 .rw[ei y]at z;exact⟨λq=>y (by rw[q];exact Nat.beq_refl T),z⟩
theorem afW(h:j_)(a:List e_)(T:e_):(wW h a T).In h:=λ_ _ e=>(US e).2
theorem afV(h:j_)(a:List e_)(T:e_):(wW h a T).lookup T=none:=by
 cases e:(wW h a T).lookup T with
 | none=>rfl
 | some o=>exact eo xz (US e).1
noncomputable def gT(s:SharedT)(a:e_):Option cB:=match Nat.ble (a+1) s.n with
 | true=>alive<|(s.tree.get a).getD default
 | false=>b_
theorem ZJ(s:SharedT)(a:e_):s.abs.heap.get? a=gT s a:=by
 show (absHeap s.tree s.n s.life).get? a=gT s a;unfold gT;cases h:Nat.ble (a+1) s.n with
 | true=>
  have h1:a<s.n:=Nat.le_of_ble_eq_true h;unfold Heap.get?;rw[absHeap_at,ek h1];generalize (s.tree.get a).getD default=o;show (match a_ o with | some ⟨_,_,.freed,_⟩=>b_ | o=>o)=alive o;obtain⟨c,d,b,sl⟩:=o;cases b <;> rfl
 | false=>exact abs_get_none λz=>by rw[Nat.ble_eq_true_of_le (show a+1<=s.n from z)]at h;cases h
def wV(s:SharedT)(b:List e_)(T:e_):Frag:=b.filterMap λa=>match C9 a T with
 | true=>b_
 | false=>(gT s a).map λo=>(a,o)
theorem afU(s:SharedT)(b:List e_)(T:e_):wW s.abs.heap b T=wV s b T:=by
 unfold wW wV
 congr 1
 funext a
 rw[ZJ];cases C9 a T <;> rfl
noncomputable def yD:Option cB->Bool
 | some ⟨.none,b_,.fields vs,sl⟩=>vs.size==0&&sl.size==0
 | _=>d_
theorem afK(h:yD o=c_):o=a_ (tabObj #[]):=by
 unfold yD at h
 split at h
 .rename_i vs sl
  rw[fY]at h;have a:=abc<|fv.mp h.1;have b:=abc<|fv.mp h.2;subst a;subst b;rfl
 .cases h
def vt(c:List e_)(T:e_)(d:Frag->Bool×List (Option r6))(val:Bool×List (Option r6)):Hook:=
 ⟨Bool×(Bool×List (Option r6)),λs=>(yD<|s.heap.get? T,d<|wW s.heap c T),λ_=>(c_,val),λ_ h=>∃K:Frag,K.In h/\K.lookup T=b_/\h.get? T=a_ (tabObj #[])/\d K=val,λ_ s e=>⟨_,afW s.heap c T,afV _ _ _,afK (yk e).1,(yk e).2⟩,λ_ _ _⟨K,a,n,t,b⟩k=>⟨K,a.keeps k,n,k _ _ t,b⟩⟩
theorem aiN{a:Frag->Bool×List (Option r6)}{val:Bool×List (Option r6)}{o:Option SharedT}(h1:o.map (λs=>yD<|gT s T)=a_ c_)(h2:o.map (λs=>a<|wV s as T)=a_ val):o.map (λs=>(vt as T a val).obs s.abs)=a_ (c_,val):=by
 have e:(λs:SharedT=>(vt as T a val).obs s.abs)=λs=>(yD<|gT s T,a<|wV s as T):=by
  funext s
  show (yD<|s.abs.heap.get? T,a<|wW s.abs.heap as T)=_;rw[ZJ,afU]
 rw[e];exact both h1 h2
noncomputable def vR:f_->e_
 | .ref q=>q
 | _=>0
noncomputable def vB:f_->Bool
 | .ref _=>c_
 | _=>d_
theorem ajT(h:vB v=c_):v=.ref (vR v):=by cases v <;> first | rfl | cases h
def Bj(K:Frag)(f:e_):Addr:=match K.lookup f with
 | some ⟨_,_,.func d,_⟩=>vR d.code
 | _=>0
def IE(K:Frag)(f:e_):Bool:=match K.lookup f with
 | some ⟨_,_,.func d,_⟩=>vB d.code
 | _=>d_
theorem ai1{K:Frag}(h:bh K f=a_ (n,q,A,.stmts B,S,fZ,[],.none,tm))(d:codeOk K f q'=c_)(a:IE K f=c_):∃(oc:f_)(od:Option e_)(kV b pm:f_)(an:Option e_)(ct:f_)(sl:Array (Option f_)),K.lookup f=a_ ⟨oc,od,.func<|fnOf n q A B S .none kV b pm an (.ref<|Bj K f) ct,sl⟩/\codeIn K (.ref<|Bj K f) q'=true:=by
 obtain⟨oc,od,kV,b,pm,an,cd,ct,sl,e,c⟩:=vy h d
 have g:cd=.ref (Bj K f):=by
  unfold IE at a;unfold Bj;rw[e]at a ⊢;exact ajT a
 rw[g]at e c;exact⟨oc,od,kV,b,pm,an,ct,sl,e,c⟩
noncomputable def tD:List f_->List cw->Bool
 | [],[]=>c_
 | .str y _::us,x::xs=>decide (y=x)&&tD us xs
 | _,_=>d_
def tupS(K:Frag)(a:e_)(xs:List cw):Bool:=match K.lookup a with
 | some ⟨.type "tuple",_,.seq ar _,_⟩=>tD ar.toList xs
 | _=>d_
end HT
namespace TL
open PySem.SeqAt L2 L3
def gN(K:u_)(x:cw):Addr:=HT.rf<|W.nsIn K fZ x
def gM(K:u_)(c:e_)(x:cw):Addr:=HT.rf<|w_ K (.ref c) x
abbrev rN(K:u_)(x:cw):Prop:=HT.Jj (W.nsIn K fZ x)=c_
abbrev zN(K:u_)(x:cw):Prop:=W.nsIn K fZ x=a_ b_
abbrev no(K:u_)(c:e_)(x:cw):Prop:=w_ K (.ref c) x=a_ b_
abbrev fN(K:u_)(x:cw):Prop:=rN K x/\HT.codeOk K (gN K x) x=c_/\x_ K (.ref<|gN K x)=c_
abbrev fM(K:u_)(c:e_)(m q:cw):Prop:=HT.Jj (w_ K (.ref c) m)=c_/\HT.codeOk K (gM K c m) q=c_/\x_ K (.ref<|gM K c m)=c_/\W.isFn K (.ref<|gM K c m)=c_
abbrev cK(K:u_)(x:cw):Prop:=rN K x/\W.plainGet K (gN K x) Str.empty=c_/\F_ K (gN K x)=c_/\W.plainOver K (gN K x)=c_/\w_ K (.ref<|gN K x) "__setattr__"=a_ (a_<|.builtin "object.__setattr__")
abbrev mK(K:u_)(c:e_):Prop:=W.makesIn K c=c_/\x_ K (.ref c)=c_
abbrev xF(K:u_)(x e:e_):Prop:=W.excIn K x xh "ValueError.__new__"=c_/\x_ K (.ref x)=c_/\y_ K (.ref x) (.ref x)=a_ c_/\y_ K (.ref x) (.type "BaseException")=a_ c_/\v_ K (.ref x) (.ref e)=a_ c_/\v_ K (.ref x) (.type "ValueError")=a_ c_
def fp(n q:cw)(st:bM):Option HT.r6:=a_ (n,q,mw st,.stmts<|fj st,aR st,fZ,[],.none,tm)
abbrev t8(K:u_):Addr:=gN K "TrayError"
abbrev akV(K:u_):Addr:=gN K "NoStep"
abbrev lD(K:u_):Addr:=gN K "NoKind"
abbrev lC(K:u_):Addr:=gN K "NoClerks"
abbrev iy(K:u_):Addr:=gN K "NoProgram"
abbrev vh(K:u_):Addr:=gN K "Step"
abbrev iM(K:u_):Addr:=gN K "Put"
abbrev iN(K:u_):Addr:=gN K "Add"
abbrev iL(K:u_):Addr:=gN K "Set"
abbrev iK(K:u_):Addr:=gN K "Look"
abbrev iI(K:u_):Addr:=gN K "Swap"
abbrev iJ(K:u_):Addr:=gN K "Skip"
abbrev nu(K:u_):Addr:=gN K "Clear"
abbrev gH(K:u_):Addr:=gN K "Tray"
abbrev cR(K:u_):Addr:=gN K "Machine"
abbrev WQ(K:u_):Addr:=gN K "KINDS"
abbrev lp(K:u_):Addr:=gN K "is_whole"
abbrev pd(K:u_):Addr:=gN K "bounds_of"
abbrev lg(K:u_):Addr:=gN K "is_step"
abbrev pf(K:u_):Addr:=gN K "step_of"
abbrev Bq(K:u_):Addr:=gM K (vh K) "__init__"
abbrev OR(K:u_):Addr:=gM K (iM K) "__init__"
abbrev OT(K:u_):Addr:=gM K (iN K) "__init__"
abbrev OQ(K:u_):Addr:=gM K (iL K) "__init__"
abbrev NQ(K:u_):Addr:=gM K (iK K) "__init__"
abbrev NO(K:u_):Addr:=gM K (iI K) "__init__"
abbrev NP(K:u_):Addr:=gM K (iJ K) "__init__"
abbrev qu(K:u_):Addr:=gM K (vh K) "empties"
abbrev X2(K:u_):Addr:=gM K (iI K) "empties"
abbrev X3(K:u_):Addr:=gM K (nu K) "empties"
abbrev ald(K:u_):Addr:=gN K "has_clerks"
abbrev ale(K:u_):Addr:=gN K "fits"
abbrev alb(K:u_):Addr:=gN K "look_over"
abbrev ZX(K:u_):Addr:=gM K (gH K) "__init__"
abbrev ak4(K:u_):Addr:=gM K (gH K) "add"
abbrev ak1(K:u_):Addr:=gM K (gH K) "latest"
abbrev PQ(K:u_):Addr:=gM K (gH K) "fronts"
abbrev akZ(K:u_):Addr:=gM K (gH K) "take"
abbrev ak2(K:u_):Addr:=gM K (gH K) "is_empty"
abbrev ak3(K:u_):Addr:=gM K (gH K) "listed"
abbrev akY(K:u_):Addr:=gM K (gH K) "twin"
abbrev ak0(K:u_):Addr:=gN K "tray_of"
abbrev OS(K:u_):Addr:=gM K (cR K) "__init__"
abbrev alq(K:u_):Addr:=gM K (cR K) "at_end"
abbrev ak9(K:u_):Addr:=gM K (cR K) "may_do"
abbrev aln(K:u_):Addr:=gM K (cR K) "carries"
abbrev ala(K:u_):Addr:=gM K (cR K) "moves"
abbrev alj(K:u_):Addr:=gM K (cR K) "do"
abbrev ali(K:u_):Addr:=gM K (cR K) "do_step"
abbrev alh(K:u_):Addr:=gM K (cR K) "do_set"
abbrev alk(K:u_):Addr:=gM K (cR K) "do_look"
abbrev alg(K:u_):Addr:=gM K (cR K) "do_swap"
abbrev alm(K:u_):Addr:=gM K (cR K) "carry"
abbrev alo(K:u_):Addr:=gM K (cR K) "come"
abbrev ak8(K:u_):Addr:=gM K (cR K) "on_board"
abbrev alf(K:u_):Addr:=gM K (cR K) "ended"
abbrev ak'(K:u_):Addr:=gM K (cR K) "twin"
abbrev akX(K:u_):Addr:=gM K (cR K) "where"
abbrev ak6(K:u_):Addr:=gM K (cR K) "registers"
abbrev akW(K:u_):Addr:=gM K (cR K) "waiting"
abbrev alp(K:u_):Addr:=gM K (cR K) "board"
abbrev ak7(K:u_):Addr:=gN K "place_behind"
abbrev alc(K:u_):Addr:=gN K "has_form_of_move"
abbrev ak5(K:u_):Addr:=gN K "steps_of"
abbrev ajp(K:u_):Addr:=gM K (iy K) "__init__"
abbrev ajo(K:u_):Addr:=gN K "registers_of"
abbrev ajF(K:u_):Addr:=gN K "end_of"
abbrev ajn(K:u_):Addr:=gN K "stand_of"
abbrev ajG(K:u_):Addr:=gN K "behind_move"
abbrev ajE(K:u_):Addr:=gN K "ends"
abbrev ajD(K:u_):Addr:=gN K "_law_cell_at"
abbrev ajw(K:u_):Addr:=gN K "_law_mixed"
abbrev ajs(K:u_):Addr:=gN K "_law_step"
abbrev ajC(K:u_):Addr:=gN K "_law_crossing"
abbrev ajA(K:u_):Addr:=gN K "_law_draws"
abbrev aju(K:u_):Addr:=gN K "_law_program"
abbrev ajx(K:u_):Addr:=gN K "_law_key"
abbrev ajz(K:u_):Addr:=gN K "_law_end"
abbrev ajy(K:u_):Addr:=gN K "_law_gone_over"
abbrev ajB(K:u_):Addr:=gN K "_law_counted"
abbrev ajv(K:u_):Addr:=gN K "_law_on_and_on"
abbrev ajr(K:u_):Addr:=gN K "_law_word"
abbrev ajt(K:u_):Addr:=gN K "_law_refused"
abbrev ajq(K:u_):Addr:=gN K "law"
noncomputable abbrev d9(p:Prop)[Decidable p]:Bool:=decide p
noncomputable def Bz(K:u_)(_:Unit):List Bool:=[d9 (rN K "TrayError"),d9<|rN K "NoStep",d9<|xF K (akV K)<|t8 K,d9<|rN K "NoKind",d9<|xF K (lD K)<|t8 K,d9<|rN K "NoClerks",d9<|xF K (lC K)<|t8 K,d9<|rN K "NoProgram",d9<|cK K "Step",d9<|cK K "Put",d9<|mK K<|iM K,d9<|no K (iM K) "parts",d9<|no K (iM K) "reg",d9<|no K (iM K) "number",d9<|cK K "Add",d9<|mK K<|iN K,d9<|no K (iN K) "parts",d9<|no K (iN K) "reg",d9<|no K (iN K) "other",d9<|cK K "Set",d9<|mK K<|iL K,d9<|no K (iL K) "parts",d9<|no K (iL K) "name",d9<|no K (iL K) "reg",d9<|cK K "Look",d9<|mK K<|iK K,d9<|no K (iK K) "parts",d9<|no K (iK K) "reg",d9<|no K (iK K) "name",d9<|cK K "Swap",d9<|mK K<|iI K,d9<|no K (iI K) "parts",d9<|no K (iI K) "reg",d9<|no K (iI K) "name",d9<|cK K "Skip",d9<|mK K<|iJ K,d9<|no K (iJ K) "parts",d9<|no K (iJ K) "reg",d9<|no K (iJ K) "place",d9<|cK K "Clear",d9<|mK K<|nu K,d9<|no K (nu K) "parts",d9<|cK K "Tray",d9<|mK K<|gH K,d9<|no K (gH K) "kind",d9<|no K (gH K) "turn",d9<|no K (gH K) "queues",d9<|cK K "Machine",d9<|mK K<|cR K,d9<|no K (cR K) "trays",d9<|no K (cR K) "program",d9<|no K (cR K) "kind",d9<|no K (cR K) "steps",d9<|no K (cR K) "places",d9<|no K (cR K) "counts",d9<|no K (cR K) "regs",d9<|no K (cR K) "cells",d9<|no K (cR K) "acts",d9<|no K (cR K) "comers",d9<|fN K "is_whole",d9<|fN K "bounds_of",d9<|fN K "is_step",d9<|fN K "step_of",d9<|fM K (vh K) "__init__" "Step.__init__",d9<|fM K (iM K) "__init__" "Put.__init__",d9<|fM K (iN K) "__init__" "Add.__init__",d9<|fM K (iL K) "__init__" "Set.__init__",d9<|fM K (iK K) "__init__" "Look.__init__",d9<|fM K (iI K) "__init__" "Swap.__init__",d9<|fM K (iJ K) "__init__" "Skip.__init__",d9<|fM K (vh K) "empties" "Step.empties",d9<|fM K (iI K) "empties" "Swap.empties",d9<|fM K (nu K) "empties" "Clear.empties",d9<|fN K "has_clerks",d9<|fN K "fits",d9<|fN K "look_over",d9<|fM K (gH K) "__init__" "Tray.__init__",d9<|fM K (gH K) "add" "Tray.add",d9<|fM K (gH K) "latest" "Tray.latest",d9<|fM K (gH K) "fronts" "Tray.fronts",d9<|HT.IE K (PQ K)=c_,d9<|W.codeHdIn K (HT.Bj K<|PQ K) 406=c_,d9<|fM K (gH K) "take" "Tray.take",d9<|fM K (gH K) "is_empty" "Tray.is_empty",d9<|fM K (gH K) "listed" "Tray.listed",d9<|fM K (gH K) "twin" "Tray.twin",d9<|fN K "tray_of",d9<|fM K (cR K) "__init__" "Machine.__init__",d9<|HT.ID K (OS K) "row"=c_,d9<|fM K (cR K) "at_end" "Machine.at_end",d9<|fM K (cR K) "may_do" "Machine.may_do",d9<|fM K (cR K) "carries" "Machine.carries",d9<|fM K (cR K) "moves" "Machine.moves",d9<|fM K (cR K) "do" "Machine.do",d9<|fM K (cR K) "do_step" "Machine.do_step",d9<|fM K (cR K) "do_set" "Machine.do_set",d9<|fM K (cR K) "do_look" "Machine.do_look",d9<|fM K (cR K) "do_swap" "Machine.do_swap",d9<|fM K (cR K) "carry" "Machine.carry",d9<|fM K (cR K) "come" "Machine.come",d9<|fM K (cR K) "on_board" "Machine.on_board",d9<|fM K (cR K) "ended" "Machine.ended",d9<|fM K (cR K) "twin" "Machine.twin",d9<|fM K (cR K) "where" "Machine.where",d9<|fM K (cR K) "registers" "Machine.registers",d9<|fM K (cR K) "waiting" "Machine.waiting",d9<|fM K (cR K) "board" "Machine.board",d9<|fN K "place_behind",d9<|fN K "has_form_of_move",d9<|fN K "steps_of",d9<|fM K (iy K) "__init__" "NoProgram.__init__",d9<|fN K "registers_of",d9<|fN K "end_of",d9<|fN K "stand_of",d9<|fN K "behind_move",d9<|fN K "ends",d9<|fN K "_law_cell_at",d9<|fN K "_law_mixed",d9<|fN K "_law_step",d9<|fN K "_law_crossing",d9<|fN K "_law_draws",d9<|fN K "_law_program",d9<|fN K "_law_key",d9<|fN K "_law_end",d9<|fN K "_law_gone_over",d9<|fN K "_law_counted",d9<|fN K "_law_on_and_on",d9<|fN K "_law_word",d9<|fN K "_law_refused",d9<|fN K "law",d9<|w_ K (.ref<|iM K) "empties"=a_ (a_<|.ref<|qu K),d9<|w_ K (.ref<|iN K) "empties"=a_ (a_<|.ref<|qu K),d9<|w_ K (.ref<|iL K) "empties"=a_ (a_<|.ref<|qu K),d9<|w_ K (.ref<|iK K) "empties"=a_ (a_<|.ref<|qu K),d9<|w_ K (.ref<|iJ K) "empties"=a_ (a_<|.ref<|qu K),d9<|w_ K (.ref<|nu K) "__init__"=a_ (a_<|.ref<|Bq K),d9<|W.specialIn K (.ref<|vh K) "__getattribute__"=a_ (a_<|.builtin "type.__getattribute__"),d9<|W.readsIn K (vh K) (.type "type")=c_,d9<|HT.QY (W.findCls K (.ref<|vh K) (.type "type") "__init__") (Bq K)=c_,d9<|zN K "isinstance",d9<|zN K "int",d9<|zN K "bool",d9<|zN K "str",d9<|zN K "tuple",d9<|zN K "len",d9<|zN K "all",d9<|zN K "zip",d9<|zN K "enumerate",d9<|zN K "range",d9<|zN K "list",d9<|zN K "min",d9<|zN K "sorted",d9<|zN K "max",d9<|HT.yX (W.nsIn K fZ "TOP") dH=c_,d9<|HT.yX (W.nsIn K fZ "NAMES") 12=c_,d9<|HT.yX (W.nsIn K fZ "REGISTERS") 4=c_,d9<|HT.yX (W.nsIn K fZ "LONGEST") 120=c_,d9<|HT.yX (W.nsIn K fZ "CLERKS") 4=c_,d9<|rN K "KINDS",d9<|HT.tupS K (WQ K) ["row","name","none"]=c_,d9<|W.specialIn K (.builtin "object.__class__") "__get__"=a_ (a_<|.builtin "getset_descriptor.__get__"),d9<|W.takesIn K (.builtin "object.__class__")=a_ c_,d9<|w_ K (.ref<|iM K) "__class__"=a_ (a_<|.builtin "object.__class__"),d9<|A_ K (iM K) (.type "object")=a_ c_,d9<|v_ K (.ref<|iM K) (.ref<|iM K)=a_ c_,d9<|v_ K (.ref<|iM K) (.ref<|iN K)=a_ d_,d9<|v_ K (.ref<|iM K) (.ref<|iL K)=a_ d_,d9<|v_ K (.ref<|iM K) (.ref<|iK K)=a_ d_,d9<|v_ K (.ref<|iM K) (.ref<|iI K)=a_ d_,d9<|v_ K (.ref<|iM K) (.ref<|iJ K)=a_ d_,d9<|w_ K (.ref<|iN K) "__class__"=a_ (a_<|.builtin "object.__class__"),d9<|A_ K (iN K) (.type "object")=a_ c_,d9<|v_ K (.ref<|iN K) (.ref<|iM K)=a_ d_,d9<|v_ K (.ref<|iN K) (.ref<|iN K)=a_ c_,d9<|v_ K (.ref<|iN K) (.ref<|iL K)=a_ d_,d9<|v_ K (.ref<|iN K) (.ref<|iK K)=a_ d_,d9<|v_ K (.ref<|iN K) (.ref<|iI K)=a_ d_,d9<|v_ K (.ref<|iN K) (.ref<|iJ K)=a_ d_,d9<|w_ K (.ref<|iL K) "__class__"=a_ (a_<|.builtin "object.__class__"),d9<|A_ K (iL K) (.type "object")=a_ c_,d9<|v_ K (.ref<|iL K) (.ref<|iM K)=a_ d_,d9<|v_ K (.ref<|iL K) (.ref<|iN K)=a_ d_,d9<|v_ K (.ref<|iL K) (.ref<|iL K)=a_ c_,d9<|v_ K (.ref<|iL K) (.ref<|iK K)=a_ d_,d9<|v_ K (.ref<|iL K) (.ref<|iI K)=a_ d_,d9<|v_ K (.ref<|iL K) (.ref<|iJ K)=a_ d_,d9<|w_ K (.ref<|iK K) "__class__"=a_ (a_<|.builtin "object.__class__"),d9<|A_ K (iK K) (.type "object")=a_ c_,d9<|v_ K (.ref<|iK K) (.ref<|iM K)=a_ d_,d9<|v_ K (.ref<|iK K) (.ref<|iN K)=a_ d_,d9<|v_ K (.ref<|iK K) (.ref<|iL K)=a_ d_,d9<|v_ K (.ref<|iK K) (.ref<|iK K)=a_ c_,d9<|v_ K (.ref<|iK K) (.ref<|iI K)=a_ d_,d9<|v_ K (.ref<|iK K) (.ref<|iJ K)=a_ d_,d9<|w_ K (.ref<|iI K) "__class__"=a_ (a_<|.builtin "object.__class__"),d9<|A_ K (iI K) (.type "object")=a_ c_,d9<|v_ K (.ref<|iI K) (.ref<|iM K)=a_ d_,d9<|v_ K (.ref<|iI K) (.ref<|iN K)=a_ d_,d9<|v_ K (.ref<|iI K) (.ref<|iL K)=a_ d_,d9<|v_ K (.ref<|iI K) (.ref<|iK K)=a_ d_,d9<|v_ K (.ref<|iI K) (.ref<|iI K)=a_ c_,d9<|v_ K (.ref<|iI K) (.ref<|iJ K)=a_ d_,d9<|w_ K (.ref<|nu K) "__class__"=a_ (a_<|.builtin "object.__class__"),d9<|A_ K (nu K) (.type "object")=a_ c_,d9<|v_ K (.ref<|nu K) (.ref<|iM K)=a_ d_,d9<|v_ K (.ref<|nu K) (.ref<|iN K)=a_ d_,d9<|v_ K (.ref<|nu K) (.ref<|iL K)=a_ d_,d9<|v_ K (.ref<|nu K) (.ref<|iK K)=a_ d_,d9<|v_ K (.ref<|nu K) (.ref<|iI K)=a_ d_,d9<|v_ K (.ref<|nu K) (.ref<|iJ K)=a_ d_,d9<|w_ K (.ref<|iJ K) "__class__"=a_ (a_<|.builtin "object.__class__"),d9<|A_ K (iJ K) (.type "object")=a_ c_,d9<|v_ K (.ref<|iJ K) (.ref<|iM K)=a_ d_,d9<|v_ K (.ref<|iJ K) (.ref<|iN K)=a_ d_,d9<|v_ K (.ref<|iJ K) (.ref<|iL K)=a_ d_,d9<|v_ K (.ref<|iJ K) (.ref<|iK K)=a_ d_,d9<|v_ K (.ref<|iJ K) (.ref<|iI K)=a_ d_,d9<|v_ K (.ref<|iJ K) (.ref<|iJ K)=a_ c_,d9<|OL K (iy K) xh "ValueError.__new__"=c_,d9<|x_ K (.ref<|iy K)=c_,d9<|w_ K (.ref<|iy K) "__setattr__"=a_ (a_<|.builtin "object.__setattr__"),d9<|(W.clsIn K<|iy K).any (λcd=>tH cd.mro&&cd.hasDict)=c_,d9<|w_ K (.ref<|iy K) "clerk"=a_ b_,d9<|w_ K (.ref<|iy K) "place"=a_ b_,d9<|y_ K (.ref<|t8 K) (.type "BaseException")=a_ c_,d9<|w_ K (.ref<|lD K) (eQ "__getattribute__")=a_ (a_<|.builtin jk),d9<|w_ K (.ref<|lD K) (eQ "__getattr__")=a_ b_,d9<|A_ K (lD K) (.type "BaseException")=a_ c_,d9<|F_ K (lD K)=c_,d9<|w_ K (.ref<|lD K) (eQ "__class__")=a_ (a_<|.builtin "object.__class__"),d9<|A_ K (lD K) (.type "object")=a_ c_,d9<|y_ K (.ref<|lD K) (.ref<|t8 K)=a_ c_,d9<|v_ K (.ref<|lD K) (.ref<|iy K)=a_ d_,d9<|v_ K (.ref<|lD K) (.ref<|lC K)=a_ d_,d9<|v_ K (.ref<|lD K) (.ref<|lD K)=a_ c_,d9<|w_ K (.ref<|lC K) (eQ "__getattribute__")=a_ (a_<|.builtin jk),d9<|w_ K (.ref<|lC K) (eQ "__getattr__")=a_ b_,d9<|A_ K (lC K) (.type "BaseException")=a_ c_,d9<|F_ K (lC K)=c_,d9<|w_ K (.ref<|lC K) (eQ "__class__")=a_ (a_<|.builtin "object.__class__"),d9<|A_ K (lC K) (.type "object")=a_ c_,d9<|y_ K (.ref<|lC K) (.ref<|t8 K)=a_ c_,d9<|v_ K (.ref<|lC K) (.ref<|iy K)=a_ d_,d9<|v_ K (.ref<|lC K) (.ref<|lC K)=a_ c_,d9<|v_ K (.ref<|lC K) (.ref<|lD K)=a_ d_,d9<|w_ K (.ref<|iy K) (eQ "__getattribute__")=a_ (a_<|.builtin jk),d9<|w_ K (.ref<|iy K) (eQ "__getattr__")=a_ b_,d9<|A_ K (iy K) (.type "BaseException")=a_ c_,d9<|F_ K (iy K)=c_,d9<|w_ K (.ref<|iy K) (eQ "__class__")=a_ (a_<|.builtin "object.__class__"),d9<|A_ K (iy K) (.type "object")=a_ c_,d9<|y_ K (.ref<|iy K) (.ref<|t8 K)=a_ c_,d9<|v_ K (.ref<|iy K) (.ref<|iy K)=a_ c_,d9<|v_ K (.ref<|iy K) (.ref<|lC K)=a_ d_,d9<|v_ K (.ref<|iy K) (.ref<|lD K)=a_ d_]
def seen(K:u_):Bool:=(Bz K ()).all id
noncomputable def pG:List Nat:=[3,2,0,1,6,31,44,56,75,87,99,153,174,193,219,245,285,304,330,434,638,24,30,37,43,49,55,61,74,80,86,92,98,104,152,160,173,179,192,198,218,224,244,250,284,290,303,309,329,381,433,465,637,19,21,70,72,113,115,120,122,127,129,134,136,141,143,148,150,169,171,188,190,207,209,214,216,233,235,240,242,259,261,266,268,273,275,280,282,299,301,318,320,325,327,337,339,344,346,349,351,356,358,361,363,368,370,375,377,388,390,395,397,402,404,407,409,414,416,419,421,424,426,429,431,443,445,448,450,453,455,460,462,473,475,480,482,487,489,492,494,497,499,504,506,511,513,518,520,525,527,532,534,539,541,546,548,553,555,560,562,565,567,572,574,579,581,586,588,593,595,600,602,607,609,614,616,621,623,628,630,633,635,645,647,652,654,657,659,664,666,671,673,678,680,685,687,692,694,699,701,706,708,711,713,718,720,723,725,730,732,737,739,744,746,751,753,758,760,765,767,4,5,7,8,9,10,11,12,13,14,15,16,17,18,20,22,23,25,26,27,28,29,32,33,34,35,36,38,39,40,41,42,45,46,47,48,50,51,52,53,54,57,58,59,60,62,63,64,65,66,67,68,69,71,73,76,77,78,79,81,82,83,84,85,88,89,90,91,93,94,95,96,97,100,101,102,103,105,106,107,108,109,110,111,112,114,116,117,118,119,121,123,124,125,126,128,130,131,132,133,135,137,138,139,140,142,144,145,146,147,149,151,154,155,156,157,158,159,161,162,163,164,165,166,167,168,170,172,175,176,177,178,180,181,182,183,184,185,186,187,189,191,194,195,196,197,199,200,201,202,203,204,205,206,208,210,211,212,213,215,217,220,221,222,223,225,226,227,228,229,230,231,232,234,236,237,238,239,241,243,246,247,248,249,251,252,253,254,255,256,257,258,260,262,263,264,265,267,269,270,271,272,274,276,277,278,279,281,283,286,287,288,289,291,292,293,294,295,296,297,298,300,302,305,306,307,308,310,311,312,313,314,315,316,317,319,321,322,323,324,326,328,331,332,333,334,335,336,338,340,341,342,343,345,347,348,350,352,353,354,355,357,359,360,362,364,365,366,367,369,371,372,373,374,376,378,379,380,382,383,384,385,386,387,389,391,392,393,394,396,398,399,400,401,403,405,406,408,410,411,412,413,415,417,418,420,422,423,425,427,428,430,432,435,436,437,438,439,440,441,442,444,446,447,449,451,452,454,456,457,458,459,461,463,464,466,467,468,469,470,471,472,474,476,477,478,479,481,483,484,485,486,488,490,491,493,495,496,498,500,501,502,503,505,507,508,509,510,512,514,515,516,517,519,521,522,523,524,526,528,529,530,531,533,535,536,537,538,540,542,543,544,545,547,549,550,551,552,554,556,557,558,559,561,563,564,566,568,569,570,571,573,575,576,577,578,580,582,583,584,585,587,589,590,591,592,594,596,597,598,599,601,603,604,605,606,608,610,611,612,613,615,617,618,619,620,622,624,625,626,627,629,631,632,634,636,639,640,641,642,643,644,646,648,649,650,651,653,655,656,658,660,661,662,663,665,667,668,669,670,672,674,675,676,677,679,681,682,683,684,686,688,689,690,691,693,695,696,697,698,700,702,703,704,705,707,709,710,712,714,715,716,717,719,721,722,724,726,727,728,729,731,733,734,735,736,738,740,741,742,743,745,747,748,749,750,752,754,755,756,757,759,761,762,763,764,766]
noncomputable def rD(K:u_):List (Option HT.r6):=[HT.bh K (lp K),HT.bh K<|pd K,HT.bh K<|lg K,HT.bh K<|pf K,HT.bh K<|Bq K,HT.bh K<|OR K,HT.bh K<|OT K,HT.bh K<|OQ K,HT.bh K<|NQ K,HT.bh K<|NO K,HT.bh K<|NP K,HT.bh K<|qu K,HT.bh K<|X2 K,HT.bh K<|X3 K,HT.bh K<|ald K,HT.bh K<|ale K,HT.bh K<|alb K,HT.bh K<|ZX K,HT.bh K<|ak4 K,HT.bh K<|ak1 K,HT.bh K<|PQ K,HT.bh K<|akZ K,HT.bh K<|ak2 K,HT.bh K<|ak3 K,HT.bh K<|akY K,HT.bh K<|ak0 K,HT.Iy K<|OS K,HT.bh K<|alq K,HT.bh K<|ak9 K,HT.bh K<|aln K,HT.bh K<|ala K,HT.bh K<|alj K,HT.bh K<|ali K,HT.bh K<|alh K,HT.bh K<|alk K,HT.bh K<|alg K,HT.bh K<|alm K,HT.bh K<|alo K,HT.bh K<|ak8 K,HT.bh K<|alf K,HT.bh K<|ak' K,HT.bh K<|akX K,HT.bh K<|ak6 K,HT.bh K<|akW K,HT.bh K<|alp K,HT.bh K<|ak7 K,HT.bh K<|alc K,HT.bh K<|ak5 K,HT.bh K<|ajp K,HT.bh K<|ajo K,HT.bh K<|ajF K,HT.bh K<|ajn K,HT.bh K<|ajG K,HT.bh K<|ajE K,HT.bh K<|ajD K,HT.bh K<|ajw K,HT.bh K<|ajs K,HT.bh K<|ajC K,HT.bh K<|ajA K,HT.bh K<|aju K,HT.bh K<|ajx K,HT.bh K<|ajz K,HT.bh K<|ajy K,HT.bh K<|ajB K,HT.bh K<|ajv K,HT.bh K<|ajr K,HT.bh K<|ajt K,HT.bh K<|ajq K]
noncomputable def qo:List (Option HT.r6):=[fp "is_whole" "is_whole" Df,fp "bounds_of" "bounds_of" C2,fp "is_step" "is_step" Hc,fp "step_of" "step_of" Nw,fp "__init__" "Step.__init__" HU,fp "__init__" "Put.__init__" HS,fp "__init__" "Add.__init__" HV,fp "__init__" "Set.__init__" HR,fp "__init__" "Look.__init__" Hz,fp "__init__" "Swap.__init__" Hx,fp "__init__" "Skip.__init__" Hy,fp "empties" "Step.empties" HC,fp "empties" "Swap.empties" F8,fp "empties" "Clear.empties" FT,fp "has_clerks" "has_clerks" Qg,fp "fits" "fits" Ph,fp "look_over" "look_over" Mi,fp "__init__" "Tray.__init__" Es,fp "add" "Tray.add" Pd,fp "latest" "Tray.latest" MO,fp "fronts" "Tray.fronts" Gs,fp "take" "Tray.take" N0,fp "is_empty" "Tray.is_empty" Nv,fp "listed" "Tray.listed" MN,fp "twin" "Tray.twin" NZ,fp "tray_of" "tray_of" Nu,fp "__init__" "Machine.__init__" Dg,fp "at_end" "Machine.at_end" Of,fp "may_do" "Machine.may_do" N5,fp "carries" "Machine.carries" MS,fp "moves" "Machine.moves" Ny,fp "do" "Machine.do" Qe,fp "do_step" "Machine.do_step" NA,fp "do_set" "Machine.do_set" Ob,fp "do_look" "Machine.do_look" NB,fp "do_swap" "Machine.do_swap" Nz,fp "carry" "Machine.carry" Od,fp "come" "Machine.come" Pj,fp "on_board" "Machine.on_board" MR,fp "ended" "Machine.ended" N9,fp "twin" "Machine.twin" N6,fp "where" "Machine.where" NY,fp "registers" "Machine.registers" LV,fp "waiting" "Machine.waiting" MM,fp "board" "Machine.board" Oe,fp "place_behind" "place_behind" LA,fp "has_form_of_move" "has_form_of_move" Pg,fp "steps_of" "steps_of" MP,fp "__init__" "NoProgram.__init__" Qd,fp "registers_of" "registers_of" Nx,fp "end_of" "end_of" N',fp "stand_of" "stand_of" MQ,fp "behind_move" "behind_move" LN,fp "ends" "ends" tT,fp "_law_cell_at" "_law_cell_at" NC,fp "_law_mixed" "_law_mixed" N2,fp "_law_step" "_law_step" N7,fp "_law_crossing" "_law_crossing" Oc,fp "_law_draws" "_law_draws" Oa,fp "_law_program" "_law_program" N8,fp "_law_key" "_law_key" Pe,fp "_law_end" "_law_end" Pf,fp "_law_gone_over" "_law_gone_over" vn,fp "_law_counted" "_law_counted" CN,fp "_law_on_and_on" "_law_on_and_on" yB,fp "_law_word" "_law_word" Pc,fp "_law_refused" "_law_refused" Qc,fp "law" "law" rJ]
def aiP:Pos:=match rJ with
 | .FunctionDef _ _ _ _ _ _ _ _ _ p=>p
 | _=>default
def dl:DefRec:=⟨"law",mw rJ,fj rJ,aR rJ,aiP⟩
end TL
open PySem PySem.W PyProof.Rows in
theorem TL.mark_:True:=trivial
section
open PySem.W
theorem TL.l7(w:k_)(os:cj):(TL.rn w os).map (λs=>(((HT.yD<|HT.gT s 406,TL.rD<|HT.wV s TL.pG 406)),(((((TL.Bz (HT.wV s TL.pG 406) ()).drop 90).drop 50).all id))))=a_ ((c_,TL.qo),(c_)):=by kernel_rfl
theorem TL.l8(w:k_)(os:cj):(TL.rn w os).map (λs=>((TL.Bz (HT.wV s TL.pG 406) ()).take 90).all id)=a_ true:=by kernel_rfl
theorem TL.l9(w:k_)(os:cj):(TL.rn w os).map (λs=>(((TL.Bz (HT.wV s TL.pG 406) ()).drop 90).take 50).all id)=a_ true:=by kernel_rfl
theorem TL.r2(w:k_)(os:cj):(TL.rn w os).map (λs=>W.openSeen TL.qv [] (FD PySem.Challenge.rw_traylate_k71_all_ends.row.prog.main.body) (λs=>W.xlAt TL.qv [] s&&W.recOk PySem.Challenge.rw_traylate_k71_all_ends.row.records s) c_ s.abs)=a_ (W.openGood TL.qv []):=HT.agn TL.lw (HT.ud<|TL.l0 w os) (HT.o7<|HT.o7<|HT.o7<|TL.l5 w os) (HT.td 18 (HT.ud<|TL.l5 w os)<|TL.l6 w os) (HT.ud<|HT.o7<|TL.l5 w os) (HT.o7<|TL.l3 w os) (HT.tb_<|HT.NS 22 (HT.ud<|TL.l3 w os)<|TL.l4 w os) (HT.o7<|HT.o7<|TL.l2 w os)<|HT.both (HT.ud<|HT.o7<|HT.o7<|TL.l5 w os)<|HT.both (HT.o7<|TL.l0 w os)<|HT.both (HT.ud<|TL.l2 w os)<|TL.l1 w os
theorem TL.r3(w:k_)(os:cj):(TL.rn w os).map (λs=>(HT.vt TL.pG 406 (λK=>(TL.seen K,TL.rD K)) (c_,TL.qo)).obs s.abs)=a_ (c_,(c_,TL.qo)):=HT.aiN (HT.ud<|HT.ud<|TL.l7 w os)<|HT.both (HT.NS 90 (TL.l8 w os)<|HT.NS 50 (TL.l9 w os)<|HT.o7<|TL.l7 w os)<|HT.o7<|HT.ud<|TL.l7 w os
end
namespace L2
universe u0 u1 u2 u3 u4 u5 u6 u7 u8 u9
section
variable{A:Sort u0}{B:Sort u1}{C:Sort u2}{D:Sort u3}{E:Sort u4}{F:Sort u5}{I:Sort u6}{J:Sort u7}{L:Sort u8}{M:Sort u9}{G:Prop}
theorem oA{p q:Prop}(H:p/\q)(K:p->q->G):G:=by
 obtain⟨k,m⟩:=H;exact K k m
theorem oE{p:A->Prop}(H:∃a,p a)(K:∀a,p a->G):G:=by
 obtain⟨a,k⟩:=H;exact K a k
theorem gQ{p q r:Prop}(k:p)(m:q)(n:r):p/\q/\r:=⟨k,m,n⟩
theorem au{p q:A->Prop}(a:A)(k:p a)(m:q a):∃a,p a/\q a:=⟨a,k,m⟩
theorem BC{p:A->B->Prop}(a:A)(b:B)(k:p a b):∃a b,p a b:=⟨a,b,k⟩
theorem jm{p q r:Prop}(H:p/\q/\r)(K:p->q->r->G):G:=by
 obtain⟨k,m,n⟩:=H;exact K k m n
theorem aJ{p q:A->Prop}(H:∃a,p a/\q a)(K:∀a,p a->q a->G):G:=by
 obtain⟨a,k,m⟩:=H;exact K a k m
theorem Ji{p:A->B->Prop}(H:∃a b,p a b)(K:∀a b,p a b->G):G:=by
 obtain⟨a,b,k⟩:=H;exact K a b k
theorem dD{p q r:A->Prop}(a:A)(k:p a)(m:q a)(n:r a):∃a,p a/\q a/\r a:=⟨a,k,m,n⟩
theorem gw{p q:A->B->Prop}(a:A)(b:B)(k:p a b)(m:q a b):∃a b,p a b/\q a b:=⟨a,b,k,m⟩
def Iv{p q r s:Prop}(H:p/\q/\r/\s)(K:p->q->r->s->G):G:=by
 obtain⟨k,m,n,o⟩:=H;exact K k m n o
def aZ{p q r:A->Prop}(H:∃a,p a/\q a/\r a)(K:∀a,p a->q a->r a->G):G:=by
 obtain⟨a,k,m,n⟩:=H;exact K a k m n
def dC{p q:A->B->Prop}(H:∃a b,p a b/\q a b)(K:∀a b,p a b->q a b->G):G:=by
 obtain⟨a,b,k,m⟩:=H;exact K a b k m
def nr{p:A->B->C->Prop}(H:∃a b c,p a b c)(K:∀a b c,p a b c->G):G:=by
 obtain⟨a,b,c,k⟩:=H;exact K a b c k
def dG{p q r:A->B->Prop}(a:A)(b:B)(k:p a b)(m:q a b)(n:r a b):∃a b,p a b/\q a b/\r a b:=⟨a,b,k,m,n⟩
def dF{p:A->B->C->D->Prop}(a:A)(b:B)(c:C)(d:D)(k:p a b c d):∃a b c d,p a b c d:=⟨a,b,c,d,k⟩
def AX{p q r s t:Prop}(H:p/\q/\r/\s/\t)(K:p->q->r->s->t->G):G:=by
 obtain⟨k,m,n,o,h⟩:=H;exact K k m n o h
def eh{p q r s:A->Prop}(H:∃a,p a/\q a/\r a/\s a)(K:∀a,p a->q a->r a->s a->G):G:=by
 obtain⟨a,k,m,n,o⟩:=H;exact K a k m n o
def gf{p q r:A->B->Prop}(H:∃a b,p a b/\q a b/\r a b)(K:∀a b,p a b->q a b->r a b->G):G:=by
 obtain⟨a,b,k,m,n⟩:=H;exact K a b k m n
def rE{p q:A->B->C->Prop}(H:∃a b c,p a b c/\q a b c)(K:∀a b c,p a b c->q a b c->G):G:=by
 obtain⟨a,b,c,k,m⟩:=H;exact K a b c k m
def akt{p:A->B->C->D->Prop}(H:∃a b c d,p a b c d)(K:∀a b c d,p a b c d->G):G:=by
 obtain⟨a,b,c,d,k⟩:=H;exact K a b c d k
def i9{p q r s t:A->Prop}(a:A)(k:p a)(m:q a)(n:r a)(o:s a)(h:t a):∃a,p a/\q a/\r a/\s a/\t a:=⟨a,k,m,n,o,h⟩
def rm{p q r s:A->B->Prop}(a:A)(b:B)(k:p a b)(m:q a b)(n:r a b)(o:s a b):∃a b,p a b/\q a b/\r a b/\s a b:=⟨a,b,k,m,n,o⟩
def rj{p q r s t u:Prop}(H:p/\q/\r/\s/\t/\u)(K:p->q->r->s->t->u->G):G:=by
 obtain⟨k,m,n,o,h,h1⟩:=H;exact K k m n o h h1
def Oq{p q r s t:A->Prop}(H:∃a,p a/\q a/\r a/\s a/\t a)(K:∀a,p a->q a->r a->s a->t a->G):G:=by
 obtain⟨a,k,m,n,o,h⟩:=H;exact K a k m n o h
def Oo{p q r s:A->B->Prop}(H:∃a b,p a b/\q a b/\r a b/\s a b)(K:∀a b,p a b->q a b->r a b->s a b->G):G:=by
 obtain⟨a,b,k,m,n,o⟩:=H;exact K a b k m n o
def jx{p q r:A->B->C->Prop}(H:∃a b c,p a b c/\q a b c/\r a b c)(K:∀a b c,p a b c->q a b c->r a b c->G):G:=by
 obtain⟨a,b,c,k,m,n⟩:=H;exact K a b c k m n
def Dn{p q:A->B->C->D->Prop}(H:∃a b c d,p a b c d/\q a b c d)(K:∀a b c d,p a b c d->q a b c d->G):G:=by
 obtain⟨a,b,c,d,k,m⟩:=H;exact K a b c d k m
def jw{p:A->B->C->D->E->Prop}(H:∃a b c d e,p a b c d e)(K:∀a b c d e,p a b c d e->G):G:=by
 obtain⟨a,b,c,d,e,k⟩:=H;exact K a b c d e k
def jg{p q r s t u:A->Prop}(a:A)(k:p a)(m:q a)(n:r a)(o:s a)(h:t a)(h1:u a):∃a,p a/\q a/\r a/\s a/\t a/\u a:=⟨a,k,m,n,o,h,h1⟩
def oN{p q r s t:A->B->C->Prop}(a:A)(b:B)(c:C)(k:p a b c)(m:q a b c)(n:r a b c)(o:s a b c)(h:t a b c):∃a b c,p a b c/\q a b c/\r a b c/\s a b c/\t a b c:=⟨a,b,c,k,m,n,o,h⟩
def eY{p q r s t u:A->B->Prop}(H:∃a b,p a b/\q a b/\r a b/\s a b/\t a b/\u a b)(K:∀a b,p a b->q a b->r a b->s a b->t a b->u a b->G):G:=by
 obtain⟨a,b,k,m,n,o,h,h1⟩:=H;exact K a b k m n o h h1
def kU{p q r s t u:A->B->C->D->Prop}(a:A)(b:B)(c:C)(d:D)(k:p a b c d)(m:q a b c d)(n:r a b c d)(o:s a b c d)(h:t a b c d)(h1:u a b c d):∃a b c d,p a b c d/\q a b c d/\r a b c d/\s a b c d/\t a b c d/\u a b c d:=⟨a,b,c,d,k,m,n,o,h,h1⟩
def qe{p q r s t u:A->B->C->D->E->Prop}(a:A)(b:B)(c:C)(d:D)(e:E)(k:p a b c d e)(m:q a b c d e)(n:r a b c d e)(o:s a b c d e)(h:t a b c d e)(h1:u a b c d e):∃a b c d e,p a b c d e/\q a b c d e/\r a b c d e/\s a b c d e/\t a b c d e/\u a b c d e:=⟨a,b,c,d,e,k,m,n,o,h,h1⟩
def Ux{p q r s t u:A->B->C->D->E->Prop}(H:∃a b c d e,p a b c d e/\q a b c d e/\r a b c d e/\s a b c d e/\t a b c d e/\u a b c d e)(K:∀a b c d e,p a b c d e->q a b c d e->r a b c d e->s a b c d e->t a b c d e->u a b c d e->G):G:=by
 obtain⟨a,b,c,d,e,k,m,n,o,h,h1⟩:=H;exact K a b c d e k m n o h h1
def qV{p q r s t:A->B->C->D->E->F->Prop}(H:∃a b c d e f,p a b c d e f/\q a b c d e f/\r a b c d e f/\s a b c d e f/\t a b c d e f)(K:∀a b c d e f,p a b c d e f->q a b c d e f->r a b c d e f->s a b c d e f->t a b c d e f->G):G:=by
 obtain⟨a,b,c,d,e,f,k,m,n,o,h⟩:=H;exact K a b c d e f k m n o h
def FQ{p q r s:A->B->C->D->E->F->I->Prop}(H:∃a b c d e f g,p a b c d e f g/\q a b c d e f g/\r a b c d e f g/\s a b c d e f g)(K:∀a b c d e f g,p a b c d e f g->q a b c d e f g->r a b c d e f g->s a b c d e f g->G):G:=by
 obtain⟨a,b,c,d,e,f,g,k,m,n,o⟩:=H;exact K a b c d e f g k m n o
def qd{p:A->B->C->D->E->F->I->J->L->M->Prop}(H:∃a b c d e f g i j l,p a b c d e f g i j l)(K:∀a b c d e f g i j l,p a b c d e f g i j l->G):G:=by
 obtain⟨a,b,c,d,e,f,g,i,j,l,k⟩:=H;exact K a b c d e f g i j l k
end
def w0{p:Prop}(h:autoParam p ab):p:=h
def w1{a:Nat}: a<=a:=aD a
def w2{a:Nat}: 0<=a:=bJ a
def w3{a b:Nat}(h:autoParam (a<b) ab):a<=b:=cI h
def w4{a b c:Nat}(h:autoParam (a<=b) ab)(g:autoParam (b<=c) ap):a<=c:=cQ h g
def w5{a b c:Nat}(h:autoParam (a<b) ab)(g:autoParam (b<=c) ap):a<=c:=cQ (cI h) g
def w6{a b c:Nat}(h:autoParam (a=b) ab)(g:autoParam (b<=c) ap):a<=c:=cQ (m8 h) g
def w7{a b c:Nat}(h:autoParam (a=b) ab)(g:autoParam (b<=c) ab):a<=c:=cQ (m8 h) g
def w8{a b c d:Nat}(h:autoParam (a=b) ab)(g:autoParam (b<=c) ab)(k:autoParam (c<=d) ap):a<=d:=cQ (m8 h)<|cQ g k
def wa{a b c:Nat}(h:autoParam (a<b) ab)(g:autoParam (b<=c) ap):a<c:=ff h g
def wb{a b c:Nat}(h:autoParam (a<=b) ab)(g:autoParam (b<c) ap):a<c:=m7 h g
def wd{a b c d:Nat}(h:autoParam (a=b) ab)(g:autoParam (b<=c) ab)(k:autoParam (c<d) ap):a<d:=m7 (m8 h)<|m7 g k
def wf{a b c:Nat}(h:autoParam (a<b) ab)(g:autoParam (b=c) ab):a<c:=Tp h g
def wg{a b c:Nat}(h:autoParam (a<b) ab)(g:autoParam (c=b) ab):a<c:=Tp h g.fF
def wh{a b c:Nat}(h:autoParam (a<b) ab)(g:autoParam (b<=c) ab):a<c:=ff h g
def wi{a b c:Nat}(h:autoParam (a<=b) ab)(g:autoParam (b<c) ab):a<c:=m7 h g
def wj{a b c:Nat}(h:autoParam (a<=b) ab)(g:autoParam (b<=c) ab):a<=c:=cQ h g
def wk{a b c m:Nat}(h:autoParam (a=b+m*c) ab)(g:autoParam (a<b) ap):False:=by omega
def wl{a b c m:Nat}(h:autoParam (b+m*c=a) ab)(g:autoParam (a<b) ap):False:=by omega
def wo{a b c:Nat}(h:autoParam (a=b) ab)(g:autoParam (b=c) ab):a=c:=h.fC g
def wp{a b c:Nat}(h:autoParam (a=b) ab)(g:autoParam (c=b) ab):a=c:=h.fC g.fF
def wr{a b c:Nat}(h:autoParam (a=b) ab)(g:autoParam (c<b) ab):c<a:=Tp g h.fF
def ws{a b c:Nat}(h:autoParam (a=b) ab)(g:autoParam (b<=c) ab):a<=c:=cQ (m8 h) g
def wt{a b c d:Nat}(h:autoParam (a=b) ab)(g:autoParam (c=b) ab)(k:autoParam (a<=d) ab):c<=d:=cQ (m8<|g.fC h.fF) k
def wu{a b c d e:Nat}(h:autoParam (a=b) ab)(g:autoParam (b=c) ab)(k:autoParam (c<=d) ab)(m:autoParam (d<=e) ap):a<=e:=cQ (m8<|h.fC g)<|cQ k m
def xa{a b c d e:Nat}(h:autoParam (a<b) ab)(g:autoParam (b=c) ab)(k:autoParam (c<=d) ab)(m:autoParam (d<=e) ap):a<e:=ff h<|cQ (m8 g)<|cQ k m
def xc{a b c d e:Nat}(h:autoParam (a<b) ab)(g:autoParam (b=c) ab)(k:autoParam (c<=d) ab)(m:autoParam (d<=e) ap):a<=e:=cQ (cI h)<|cQ (m8 g)<|cQ k m
def xd{a:Nat}: a<=a+1:=jf a
def xe{a b:Nat}(h:autoParam (a<b) ab):a<=b+1:=uQ<|cI h
def xf{a b:Nat}(h:autoParam (a<b) ab):a+1<=b:=h
def xi{a b c e:Nat}(h:autoParam (a<=b+1) ab)(g:autoParam (b<=c) ab)(k:autoParam (c+1<e) ap):a<e:=m7 h<|m7 (FA g) k
def xl{a n:Nat}: min a n<=a:=TY a n
def xm{a:Int}(h:autoParam (0<=a) ab):a=(a.toNat:Int):=(KO h).fF
end L2
namespace L2
abbrev ed:=Option Int
noncomputable def akH:f_->Bool
 | .none=>c_
 | _=>d_
def ZI:ed->f_->Bool
 | some k,v=>Value.isInt k v
 | none,v=>akH v
noncomputable def amb:ed->Int
 | some k=>hashInt k
 | none=>4238894112
def uZ:∀{k:ed}{v:f_},ZI k v=c_->(∃i t,k=a_ i/\v=nj i t)\/(k=b_/\v=gq)
 | some i,v,h=>by
  obtain⟨t,e⟩:=Value.isInt_shape (k:=i) (v:=v) h;exact .inl ⟨i,t,xz,e⟩
 | none,v,h=>by
  cases v <;> first | exact .inr ⟨xz,xz⟩ | cases h
def aiS(a b:Int):decide ((a_ a:ed)=a_ b)=(a==b):=by
 by_cases e:a=b
 .subst e;simp
 .simp[e]
def aeo{w:k_}{Q:Int->g_->Prop}(h:Q 4238894112 {s with toks:=s.toks+1}):bz (bK prog w) A (pyHash .none) Q E s:=by
 show bz (bK prog w) A (pyHashByItsType .none) Q E s;refine W.pyHash_slot (T:="NoneType") xz F.slot_NoneType_hash F.entry_NoneType_hash (F.args_NoneType_hash_1 _) xz (.inl xz) ?_;refine ak (show bz (bK prog w) A.in1 (pure (gq,[])) _ E s from aO ?_)
 exact ik (wpAny_ret_mkInt (Q:=λv s'=>∃n t,v=nj n t/\Q (reduceHash n) s') ⟨_,_,xz,h⟩) (λb s' z=>by
  obtain⟨v,e,n,t,a,q⟩:=z;exact⟨n,t,by rw[e,a],q⟩) λ_ _ x=>x
def ahg(prog:l_)(w:k_):PySem.KeyKind prog w ed where
 is:=ZI
 hash:=amb
 inj:=λv a b ha c=>by
  obtain⟨i,t,rfl,rfl⟩|⟨rfl,rfl⟩:=uZ ha
  .obtain⟨j,u,rfl,e⟩|⟨rfl,e⟩:=uZ c
   .injection e with d _;rw[d]
   .exact nomatch e
  .obtain⟨j,u,rfl,e⟩|⟨rfl,e⟩:=uZ c
   .exact nomatch e
   .rfl
 byValue:=λk v h=>by
  rcases uZ h with ⟨i,t,rfl,rfl⟩ | ⟨rfl,rfl⟩ <;> rfl
 pyHash:=λhv h=>by
  obtain⟨i,t,rfl,rfl⟩|⟨rfl,rfl⟩:=uZ hv
  .exact Tz h
  .exact aeo h
 eqBool:=λf hv h=>by
  obtain⟨i,t,rfl,rfl⟩|⟨rfl,rfl⟩:=uZ f
  .obtain⟨j,u,rfl,rfl⟩|⟨rfl,rfl⟩:=uZ hv
   .rw[aiS]at h;exact TF h
   .exact abH i t _ _ _ _ h
  .obtain⟨j,u,rfl,rfl⟩|⟨rfl,rfl⟩:=uZ hv
   .exact abG j u _ _ _ _ h
   .exact mj (wpAny_ite_split (λ_=>ak<|Ay<|aO h) λz=>eo xz z)
 «strs»:=λk x t v h=>by
  rcases uZ h with ⟨i,u,rfl,e⟩ | ⟨rfl,e⟩ <;> exact nomatch e
set_option genInjectivity true in
inductive V where
 | aH | bl (b:Bool) | int (i:Int) | str (x:cw) | pD (b:Array UInt8) | uk (b:UInt64) | ref (a:e_) | ty (n:String)
 deriving DecidableEq
def df:V->f_->Prop
 | .aH,u=>u=gq
 | .bl b,u=>u=oJ b
 | .int i,u=>∃t,u=nj i t
 | .str x,u=>∃t,u=Gj x t
 | .pD b,u=>∃t,u=Value.bytes b t
 | .uk b,u=>∃t,u=Uz b t
 | .ref a,u=>u=bN a
 | .ty n,u=>u=nX n
abbrev dn:List V->List f_->Prop:=bL df
def dn.length(r:dn xs us):xs.length=us.length:=r_ r
theorem dn.get:∀{xs:List V}{us:List f_}{i:Nat}{x:V},dn xs us->xs[i]?=a_ x->∃u,us[i]?=a_ u/\df x u
 | _,_,_,_,.nil,e=>by simp at e
 | _,_,0,_,.cons r _,e=>by simp at e;subst e;exact⟨_,xz,r⟩
 | _,_,i+1,x,.cons _ t,e=>by
  obtain⟨u,h1,h2⟩:=dn.get (i:=i) (x:=x) t (by simpa using e);exact⟨u,by simpa using h1,h2⟩
theorem dn.set(r:df x u):∀{xs:List V}{us:List f_}(i:Nat),dn xs us->dn (xs.set i x) (us.set i u)
 | _,_,_,.nil=>.nil
 | _,_,0,.cons _ t=>.cons r t
 | _,_,i+1,.cons q t=>.cons q<|dn.set r i t
theorem dn.append:∀{xs ys:List V}{us ws:List f_},dn xs us->dn ys ws->dn (xs++ys) (us++ws)
 | _,_,_,_,.nil,s=>s
 | _,_,_,_,.cons r t,s=>.cons r<|dn.append t s
theorem dn.take:∀{xs:List V}{us:List f_}(n:Nat),dn xs us->dn (xs.take n) (us.take n)
 | _,_,0,_=>.nil
 | _,_,_+1,.nil=>.nil
 | _,_,n+1,.cons r t=>.cons r<|dn.take n t
theorem dn.drop:∀{xs:List V}{us:List f_}(n:Nat),dn xs us->dn (xs.drop n) (us.drop n)
 | _,_,0,r=>r
 | _,_,_+1,.nil=>.nil
 | _,_,n+1,.cons _ t=>dn.drop n t
def dn.none_of:∀{xs:List V}{us:List f_}{i:Nat},dn xs us->xs[i]?=b_->us[i]?=none:=λ{xs us i}r e=>by
 have h1:=r.length;have h2:xs.length<=i:=Ci.mp e;exact Ci.mpr om
def mG:Option V->Option f_->Prop
 | some v,a_ u=>df v u
 | none,b_=>True
 | _,_=>False
def KV{κ:Type}:List (κ×V)->List (κ×f_)->Prop:=bL λ(p:κ×V)(q:κ×f_)=>p.1=q.1/\df p.2 q.2
noncomputable def DQ:Nat->ci->Int
 | _,.int i=>hashInt i
 | n+1,.tuple xs=>reduceHash<|SW<|xs.map<|DQ n
 | _,_=>0
inductive HO where
  | lst (xs:List V)
  | tup (xs:List V)
  | dK (iC:List (ed×V)) | dT (iC:List (ci×e_))
  | set (S:Int->Bool) (n:Nat)
  | ins (C dx:e_) (fs:List (cw×V))
  | own (x:e_)
  | xd (fs:List (cw×V))
  | met (f x:e_)
  | QT (lo hi:Int)
  | lY (o:cB) (u:HO)
  | gg (ps:Array f_)
  | ext (φ:j_->Prop)
abbrev Hp:=e_->Option HO
noncomputable def db(H:Hp)(a:e_)(o:HO):Hp:=λb=>if b=a then a_ o else H b
def ai{o:HO}:db H a o a=a_ o:=by unfold db;rw[ek rfl]
def ah{o:HO}(h:b≠a):db H a o b=H b:=by unfold db;rw[ei h]
def nZ{o u:HO}:db (db H a o) a u=db H a u:=by
 funext b;unfold db;split <;> rfl
def hV{H:Hp}{a b:e_}{o u:HO}(h:H a=a_ o)(h':H b=a_ u)(d:o≠u):a≠b:=by
 intro e;subst e;rw[h]at h';exact d<|eG h'
def aQ{H:Hp}{a b:e_}{o:HO}(h:H a=a_ o)(h':H b=b_):a≠b:=by
 intro e;subst e;rw[h]at h';cases h'
section
variable(P:l_)(w:k_)
noncomputable def hZ(H:Hp)(h:j_)(a:e_):HO->Prop
 | .lst xs=>xs.length<=aX/\∃(b:List f_)(n:Nat),dn xs b/\h.get? a=a_ {cls:=.type "list",data:=.seq b.toArray n}
 | .tup xs=>xs.length<=aX/\∃b:List f_,dn xs b/\IsTup h a b.toArray
 | .dK iC=>iC.length<=aX/\(a==CA)=d_/\∃vs,KV iC vs/\h.DictOf (ahg P w) a vs
 | .dT iC=>(a==CA)=d_/\iC.length<=aX/\
   ∃o es c,h.get? a=a_ o/\o.ExactDict/\o.data=.dict es c/\es.toList=iC.map (λx=>DictEntry.mk (DQ 8 x.1) (.ref x.2)<|.bool c_)/\(iC.map (·.1)).Nodup
 | .set S n=>h.SetOf (intKind P w) a S n
 | .ins C dx fs=>H dx=a_ (.own a)/\fs.length<=1000/\dx≠a/\h.get? a=a_ (W.instObj C dx)/\
   ∃mA,h.Ns1 dx mA/\(∀f,mG (fs.lookup f)<|mA f)/\PySem.Within mA (fs.map (·.1))
 | .own _=>∃o,h.get? a=a_ o
 | .xd fs=>∃mA,h.Ns1 a mA/\∀f,mG (fs.lookup f)<|mA f
 | .QT lo hi=>∃t u v,h.get? a=a_ {cls:=.type "range",data:=.fields #[.int lo t,.int hi u,.int 1 v]}
 | .lY o u=>h.get? a=a_ o/\hZ H h a u
 | .gg ps=>h.get? a=a_ {cls:=.none,data:=.fields ps}
 | .met f x=>h.get? a=a_ (W.methodObj (.ref f)<|.ref x)
 | .ext φ=>φ h/\(∃o,h.get? a=a_ o)/\∀h1 h2:j_,φ h1->(∀o,h1.get? a=a_ o->h2.get? a=a_ o)->φ h2
def fV(H:Hp)(h:j_):Prop:=∀a o,H a=a_ o->hZ P w H h a o
end
section
variable{P:l_}{w:k_}{H H':Hp}{h h':j_}{a:e_}{o:HO}
def hZ.lt(x:hZ P w H h a o):a<h.objs.size:=by
 cases o with
 | lst xs=>obtain⟨_,_,_,_,e⟩:=x;exact bP e
 | tup xs=>obtain⟨_,_,_,p⟩:=x;exact p.lt
 | dK iC=>obtain⟨_,_,_,_,o,_,_,e,_⟩:=x;exact bP e
 | dT iC=>obtain⟨_,_,o,_,_,e,_⟩:=x;exact bP e
 | set S n=>obtain⟨o,_,_,_,e,_⟩:=x;exact bP e
 | ins C dx fs=>obtain⟨_,_,_,e,_⟩:=x;exact bP e
 | own y=>obtain⟨_,e⟩:=x;exact bP e
 | xd fs=>obtain⟨_,⟨_,_,_,e,_⟩,_⟩:=x;exact bP e
 | QT lo hi=>obtain⟨_,_,_,e⟩:=x;exact bP e
 | lY ob u=>obtain⟨e,_⟩:=x;exact bP e
 | gg ps=>exact bP (show h.get? a=a_ _ from x)
 | met f y=>exact bP (show h.get? a=a_ _ from x)
 | ext φ=>obtain⟨_,⟨_,e⟩,_⟩:=x;exact bP e
theorem Paired.cq{c d:Type}{F G:c->d->Prop}:∀{e:List c}{g:List d},bL F e g->(∀a b,F a b->G a b)->bL G e g
 | _,_,.nil,_=>.nil
 | _,_,.cons r t,f=>.cons (f _ _ r)<|Paired.cq t f
def hZ.qw(x:hZ P w H h a o)(k:∀b u,(b=a\/H b=a_ (.own a))->h.get? b=a_ u->h'.get? b=a_ u)(l:∀b,H b=a_ (.own a)->H' b=a_ (.own a))(s:∀b xs,H b=a_ (.tup xs)->H' b=a_ (.tup xs)):hZ P w H' h' a o:=by
 induction o with
 | lst xs=>obtain⟨z,j,n,r,e⟩:=x;exact⟨z,j,n,r,k _ _ (.inl xz) e⟩
 | tup xs=>obtain⟨z,j,r,g,e,c⟩:=x;exact⟨z,j,r,g,k _ _ (.inl xz) e,c⟩
 | dK iC=>obtain⟨z,y,vs,r,g,es,i,e,c⟩:=x;exact⟨z,y,vs,r,g,es,i,k _ _ (.inl xz) e,c⟩
 | dT iC=>
  obtain⟨z,y,g,es,i,e,c⟩:=x;exact⟨z,y,g,es,i,k _ _ (.inl xz) e,c⟩
 | set S n=>obtain⟨g,es,i,t,e,c⟩:=x;exact⟨g,es,i,t,k _ _ (.inl xz) e,c⟩
 | ins C dx fs=>
  obtain⟨d,z,ne,e,mA,⟨od,es,i,m,c⟩,r⟩:=x;exact⟨l _ d,z,ne,k _ _ (.inl xz) e,mA,⟨od,es,i,k _ _ (.inr d) m,c⟩,r⟩
 | own y=>obtain⟨g,e⟩:=x;exact⟨g,k _ _ (.inl xz) e⟩
 | xd fs=>obtain⟨mA,⟨od,es,i,e,c⟩,r⟩:=x;exact⟨mA,⟨od,es,i,k _ _ (.inl xz) e,c⟩,r⟩
 | QT lo hi=>obtain⟨t,u,v,e⟩:=x;exact⟨t,u,v,k _ _ (.inl xz) e⟩
 | lY g u ih=>obtain⟨e,q⟩:=x;exact⟨k _ _ (.inl xz) e,ih q⟩
 | gg ps=>
  have e:h.get? a=a_ {cls:=.none,data:=.fields ps}:=x;show h'.get? a=a_ {cls:=.none,data:=.fields ps};exact k a _ (.inl xz) e
 | met f y=>
  have e:h.get? a=a_ (W.methodObj (.ref f)<|.ref y):=x;show h'.get? a=a_ (W.methodObj (.ref f)<|.ref y);exact k a _ (.inl xz) e
 | ext φ=>obtain⟨p,⟨o,e⟩,st⟩:=x;exact⟨st _ _ p λo q=>k _ _ (.inl xz) q,⟨o,k _ _ (.inl xz) e⟩,st⟩
def fV.lt(x:fV P w H h)(e:H a=a_ o):a<h.objs.size:=(x a o e).lt
def fV.fresh(x:fV P w H h)(e:h.objs.size<=a):H a=none:=by
 cases q:H a with
 | none=>rfl
 | some u=>exact eo (ff (x.lt q) e)<|je _
def fV.kept(x:fV P w H h)(k:∀b u,h.get? b=a_ u->h'.get? b=a_ u):fV P w H h':=λa o e=>
 (x a o e).qw (λb u _ q=>k b u q) (λ_ q=>q) λ_ _ q=>q
def fV.laid(x:fV P w H h)(k:∀b u,h.get? b=a_ u->h'.get? b=a_ u)(f:h.objs.size<=a)(new:hZ P w (db H a o) h' a o):fV P w (db H a o) h':=λb u e=>by
 have hn:=x.fresh f
 by_cases d:b=a
 .subst d;rw[ai]at e;cases e;exact new
 .rw[ah d]at e;exact(x b u e).qw (λc v _ q=>k c v q) (λc q=>by rw[ah<|aQ q hn];exact q) λc xs q=>by rw[ah<|aQ q hn];exact q
end
def Rd(H:Hp)(a:e_)(u:HO):Prop:=H a=a_ u\/∃o,H a=a_ (.lY o u)
def Rd.ok{P:l_}{w:k_}{u:HO}(r:Rd H a u)(x:fV P w H h):hZ P w H h a u:=by
 obtain r|⟨o,r⟩:=r
 .exact x a u r
 .obtain⟨_,q⟩:=x a _ r;exact q
def Ju:Option HO->Prop
 | some (.lst _)=>True
 | some (.dK _)=>True
 | some (.dT _)=>True
 | some (.set _ _)=>True
 | some (.ins _ _ _)=>True
 | some (.ext _)=>True
 | _=>False
section
variable{P:l_}{w:k_}{H:Hp}{h h':j_}{x e:e_}{o':HO}
def fV.write(ok:fV P w H h)(a:Ju (H x))(i:e=x\/H e=a_ (.own x))(k:∀b u,b≠e->h.get? b=a_ u->h'.get? b=a_ u)(m:∃u,h'.get? e=a_ u)(new:hZ P w (db H x o') h' x o'):fV P w (db H x o') h':=λb u q=>by
 have j:∀c y,H c=a_ (.own y)->c≠x:=λc y r z=>by subst z;rw[r]at a;exact a
 have n:∀c xs,H c=a_ (.tup xs)->c≠x:=λc xs r z=>by subst z;rw[r]at a;exact a
 by_cases d:b=x
 .subst d;rw[ai]at q;cases q;exact new
 .rw[ah d]at q
  by_cases f:b=e
  .have l:H b=a_ (.own x):=by
    obtain z|z:=i
    .exact eo (f.fC z) d
    .rw[f];exact z
   rw[q]at l;cases l;obtain⟨v,hv⟩:=m;exact⟨v,by rw[f];exact hv⟩
  .refine(ok b u q).qw (λc v g r=>k c v ?_ r) (λc r=>by rw[ah<|j c b r];exact r) λc xs r=>by rw[ah<|n c xs r];exact r
   obtain rfl|g:=g
   .exact f
   .rintro rfl;obtain z|z:=i
    .exact j c b g z
    .rw[g]at z;cases z;exact d xz
end
structure Un(fs ex:List e_)(H H':Hp)(h h':j_):Prop where
 keep:∀b o,h.get? b=a_ o->H b=b_->b∉fs->b∉ex->h'.get? b=a_ o
 slot:∀b o,h.get? b=a_ o->H b=b_->b∈fs->b∉ex->∃sl,h'.get? b=a_ {o with slots:=sl}
 free:∀b o,h.get? b=a_ o->H b=b_->b∉ex->H' b=b_
 there:∀b o,h.get? b=a_ o->b∉ex->∃o',h'.get? b=a_ o'
 oY:∀b xs,H b=a_ (.tup xs)->H' b=a_ (.tup xs)
 oq:∀b o u,H b=a_ (.lY o u)->H' b=a_ (.lY o u)
 oo:∀b ps,H b=a_ (.gg ps)->∃more,H' b=a_ (.gg<|ps++more)
section
variable{fs nR ex ex':List e_}{H H1 H2:Hp}{h h1 h2 h':j_}{a x e:e_}{o:HO}
def Un.any(u:Un fs ex H H1 h h1)(q:h.get? b=a_ ob)(n:H b=b_)(c:b∉ex):∃sl,h1.get? b=a_ {ob with slots:=sl}:=by
 by_cases d:b∈fs
 .exact u.slot b ob q n d c
 .exact⟨ob.slots,u.keep b ob q n d c⟩
def Un.kept(k:∀b u,h.get? b=a_ u->h'.get? b=a_ u):Un fs ex H H h h':=
 ⟨λb c q _ _ _=>k b c q,λb c q _ _ _=>⟨c.slots,k b c q⟩,λ_ _ _ n _=>n,λb c q _=>⟨c,k b c q⟩,λ_ _ q=>q,λ_ _ _ q=>q,λ_ ps q=>⟨#[],by rw[q];simp⟩⟩
def Un.refl:Un fs ex H H h h:=Un.kept λ_ _ q=>q
def Un.laid(k:∀b u,h.get? b=a_ u->h'.get? b=a_ u)(c:h.objs.size<=a)(hn:H a=b_):Un fs ex H (db H a o) h h' where
 keep:=λb u q _ _ _=>k b u q
 slot:=λb u q _ _ _=>⟨u.slots,k b u q⟩
 free:=λb u q n _=>by rw[ah<|fh<|ff (bP q) c];exact n
 there:=λb u q _=>⟨u,k b u q⟩
 oY:=λb xs q=>by rw[ah<|aQ q hn];exact q
 oq:=λb u xs q=>by rw[ah<|aQ q hn];exact q
 oo:=λb ps q=>⟨#[],by rw[ah<|aQ q hn,q];simp⟩
def Un.write(c:Ju (H x))(i:e=x\/H e=a_ (.own x))(k:∀b u,b≠e->h.get? b=a_ u->h'.get? b=a_ u)(j:∃u,h'.get? e=a_ u):Un fs ex H (db H x o) h h':=by
 have d:∀b,H b=b_->b≠x:=λb n z=>by subst z;rw[n]at c;exact c
 have f:∀b,H b=b_->b≠e:=λb n z=>by
  subst z;obtain r|r:=i
  .exact d b n r
  .rw[n]at r;cases r
 have hm:∀b u,H b=a_ u->¬Ju (a_ u)->b≠x:=λb u q nm z=>by subst z;rw[q]at c;exact nm c
 refine⟨λb u q n _ _=>k b u (f b n) q,λb u q n _ _=>⟨u.slots,k b u (f b n) q⟩,λb u q n _=>by rw[ah<|d b n];exact n,λb u q _=>?_,λb xs q=>by rw[ah (hm b _ q λz=>z)];exact q,λb u xs q=>by rw[ah (hm b _ q λz=>z)];exact q,λb ps q=>⟨#[],by rw[ah (hm b _ q λz=>z),q];simp⟩⟩
 by_cases g:b=e
 .subst g;exact j
 .exact⟨u,k b u g q⟩
end
noncomputable def Je(h:j_)(H:Hp):List Addr:=(List.range h.objs.size).filter λa=>(H a).isSome
def uc(h:j_)(H:Hp):Heap:=W.hideAll h<|Je h H
def aen(h:j_)(H:Hp):(uc h H).objs.size=h.objs.size:=W.hideAll_size _ _
def afL(e:h.get? b=a_ o)(n:H b=b_):(uc h H).get? b=a_ o:=
 W.hideAll_get _ e λhm=>by
  have q:(H b).isSome=true:=(pY.mp hm).2;rw[n]at q;simp at q
def ag'(e:(uc h H).get? b=a_ o):h.get? b=a_ o/\H b=none:=by
 have a:h.get? b=a_ o:=W.of_hideAll (Je h H) e;refine⟨a,?_⟩;cases q:H b with
 | none=>rfl
 | some x=>
  have hm:b∈Je h H:=pY.mpr ⟨uU.mpr<|bP a,by simp[q]⟩;have z:(uc h H).get? b=none:=W.hideAll_none (Je h H) hm;rw[z]at e;cases e
noncomputable def Hq(g h:j_)(L:e_):List (e_×cB):=(List.range h.objs.size).filterMap λa=>if a=L\/(g.get? a).isSome=c_ then b_ else (h.get? a).map λo=>(a,o)
def ac4(h1:a≠L)(h2:g.get? a=b_)(h3:h.get? a=a_ o):(a,o)∈Hq g h L:=
 KR.mpr ⟨a,uU.mpr<|bP h3,by simp[h1,h2,h3]⟩
def acq{p:e_×cB}(a:p∈Hq g h L):p.1≠L/\g.get? p.1=b_/\h.get? p.1=a_ p.2:=by
 obtain⟨b,_,e⟩:=KR.mp a
 split at e
 .cases e
 .rename_i hn
  cases q:h.get? b with
  | none=>rw[q]at e;simp at e
  | some u=>
   rw[q]at e;simp only[Option.map_some,KY]at e;subst e;refine⟨λz=>hn<|.inl z,?_,q⟩;show g.get? b=b_;cases r:g.get? b with
   | none=>rfl
   | some v=>exact(hn<|.inr<|by simp[r]).elim
def rest(g h:j_)(L d:e_):List (e_×cB):=(Hq g h L).filter λp=>decide<|p.1≠d
def Xd:∀p∈rest g h L d,p.1≠d:=λp a=>er (pY.mp a).2
def afD(h1:a≠L)(h2:g.get? a=b_)(h3:h.get? a=a_ o)(h4:a≠d):(a,o)∈rest g h L d:=
 pY.mpr ⟨ac4 h1 h2 h3,eu h4⟩
def aft:News g L h (Hq g h L):=λp d=>let ⟨a,b,c⟩:=acq d;⟨c,a,b⟩
def acM{m:cw->Option f_}(k:∀b o,g.get? b=a_ o->h.get? b=a_ o)(F:Fr g L h' m)(N:News g L h' (rest g h L d)):∀b o,b≠L->b≠d->h.get? b=a_ o->h'.get? b=a_ o:=λb o h1 h2 e=>by
 cases q:g.get? b with
 | some u=>
  have:=k b u q;rw[e]at this;cases this;exact F.keep b _ q
 | none=>exact(N (b,o)<|afD h1 q e h2).1
structure Mod(K:u_)(mg:cw->Option f_)(base:j_):Prop where
 pk:K.In base
 glob:base.Ns fZ mg
 blt:∃mb,base.Ns tm mb/\∀x:cw,x ≠ "__name__"->mb x=Ao x
 nolimit:base.NoLimit
structure Cx where
 prog:l_
 w:k_
 K:u_
 mg:cw->Option f_
 base:j_
 A:h_
 N:List cw
 s₀:g_
 H₀:Hp
 env:Env
 outer:List Env
 stack:List Env
 ex:List e_
 fn:cw->Bool
 calm:Bool
 pn:List (e_×cB)
 xe:f_->g_->Prop
noncomputable def iA(l:List Env):List Addr:=l.filterMap (·.frame)
abbrev Cx.fs(X:Cx):List Addr:=iA X.outer
def BJ(sc:i_)(x:cw):Prop:=sc.names.lookup x=a_ .local\/sc.names.lookup x=a_ .cell\/sc.names.lookup x=a_ .free
def jp(sc:i_)(x:cw):Prop:=sc.names.lookup x=a_ .local\/sc.names.lookup x=a_ .cell
def Look(env:Env)(h:j_)(m:cw->Option f_)(x:cw)(u:f_):Prop:=
 (env.kindOf x=a_ .local/\m x=a_ u)\/((env.kindOf x=a_ .cell\/env.kindOf x=a_ .free)/\∃c,env.cells.lookup x=a_ c/\h.IsCell c (a_ u))
structure Cx.Ok(X:Cx):Prop where
 mod:Mod X.K X.mg X.base
 kind:X.env.scope.kind=.function
 glob:X.env.globals=fZ
 blt:X.env.builtins=tm
 above:X.s₀.heap.objs.size<=X.env.locals
 inj:∀x y c,X.env.cells.lookup x=a_ c->X.env.cells.lookup y=a_ c->x=y
 has:∀x,(X.env.kindOf x=a_ .cell\/X.env.kindOf x=a_ .free)->∃c,X.env.cells.lookup x=a_ c
 vO:∀x c,X.fn x=c_->X.env.cells.lookup x=a_ c->X.s₀.heap.objs.size<=c
 hd:X.calm=c_->X.A.handled=b_
 frames:X.A.frames=a_ X.stack
 xt:X.stack=X.outer\/(X.stack=X.env::X.outer/\X.env.frame=a_ X.env.locals)
 um:∀b∈X.ex,b≠X.env.locals/\∀x c,X.env.cells.lookup x=a_ c->c≠b
 bs:∀b o,X.base.get? b=a_ o->X.s₀.heap.get? b=a_ o/\X.H₀ b=b_
 mQ:X.base.objs.size<=X.s₀.heap.objs.size
 vD:∀b o,X.base.get? b=a_ o->b∉X.ex
 ue:∀b∈X.ex,b∉X.fs
 mz:X.s₀.heap.FunFrames X.base X.outer
 rW:∀b∈X.fs,X.H₀ b=b_
structure dc(X:Cx)(p_:List (e_×cB))(σ:List (Option V))(H:Hp)(s:g_):Prop where
 ok:X.Ok
 os:s.os=X.s₀.os
 bare:AllBare s.gens
 base:Un X.fs X.ex X.H₀ H X.s₀.heap s.heap
 loc:∃m,s.heap.Ns X.env.locals m/\∀(i:Nat)(x:cw)(v:V),X.N[i]?=a_ x->σ[i]?=a_ (a_ v)->BJ X.env.scope x->∃u,df v u/\Look X.env s.heap m x u
 cell:∀x c,X.env.cells.lookup x=a_ c->∃v,s.heap.IsCell c v
 free:H X.env.locals=b_
 jP:∀x c,X.env.cells.lookup x=a_ c->H c=b_
 pin:∀p∈X.pn++p_,s.heap.get? p.1=a_ p.2/\H p.1=b_/\p.1≠X.env.locals/\p.1∉X.fs/\∀v,p.2.data≠.cell v
 aM:fV X.prog X.w H s.heap
 len:σ.length=X.N.length
section
variable{X:Cx}{p_:List (e_×cB)}{σ:List (Option V)}{H H':Hp}{s:g_}{h':j_}
def Cx.Ok.al9(ok:X.Ok)(e:X.base.get? b=a_ o):b∉X.fs:=λa=>by
 have:=(ok.mz.mem a).1;rw[e]at this;cases this
def dc.bs(I:dc X p_ σ H s):∀b o,X.base.get? b=a_ o->s.heap.get? b=a_ o/\H b=none:=λb o e=>
 ⟨I.base.keep b o (I.ok.bs b o e).1 (I.ok.bs b o e).2 (I.ok.al9 e)<|I.ok.vD b o e,I.base.free b o (I.ok.bs b o e).1 (I.ok.bs b o e).2<|I.ok.vD b o e⟩
def dc.bk(I:dc X p_ σ H s):∀b o,X.base.get? b=a_ o->s.heap.get? b=a_ o:=λb o e=>(I.bs b o e).1
def dc.mod(I:dc X p_ σ H s):Mod X.K X.mg X.base:=I.ok.mod
def dc.cZ(I:dc X p_ σ H s):X.K.In s.heap:=I.ok.mod.pk.keeps I.bk
def dc.nolimit(I:dc X p_ σ H s):s.heap.NoLimit:=I.ok.mod.nolimit.keeps I.bk
def dc.fr(I:dc X p_ σ H s):∃m,Fr X.base X.env.locals s.heap m:=
 let ⟨m,hn,_⟩:=I.loc
 ⟨m,hn,I.bk,cQ I.ok.mQ I.ok.above⟩
def dc.lt(I:dc X p_ σ H s):X.env.locals<s.heap.objs.size:=let ⟨_,hn,_⟩:=I.loc;hn.lt
def dc.sz(I:dc X p_ σ H s):X.s₀.heap.objs.size<=s.heap.objs.size:=cQ I.ok.above<|cI I.lt
def dc.aal(I:dc X p_ σ H s)(h:s.heap.objs.size<=a):a∉X.fs:=λb=>by
 obtain⟨_,o,c,_⟩:=I.ok.mz.mem b;exact eo (ff (bP c)<|cQ I.sz h)<|je _
def dc.vN(I:dc X p_ σ H s):∀x c,X.env.cells.lookup x=a_ c->c≠X.env.locals:=λx c e z=>by
 obtain⟨v,o,a,hd⟩:=I.cell x c e;obtain⟨m,⟨o',es,f,b,d,_⟩,_⟩:=I.loc;rw[z,b]at a;cases a;rw[d]at hd;cases hd
def dc.mz(I:dc X p_ σ H s):s.heap.FunFrames X.base X.outer:=by
 have all:∀(l:List Env),(∀b∈iA l,b∈X.fs)->X.s₀.heap.FunFrames X.base l->s.heap.FunFrames X.base l:=by
  intro l
  induction l with
  | nil=>intro _ _;trivial
  | cons env r ih=>
   intro hs f;obtain⟨g,⟨L,o,a,hn,h,hd⟩,i⟩:=f;have c:L∈X.fs:=hs L (by unfold iA;rw[Fx,a];exact cb);obtain⟨sl,e⟩:=I.base.slot L o h (I.ok.rW L c) c λz=>I.ok.ue L z c;exact⟨g,⟨L,_,a,hn,e,hd⟩,ih (λb d=>hs b<|by unfold iA;rw[Fx,a];exact cu _ d) i⟩
 exact all X.outer (λ_ d=>d) I.ok.mz
def dc.stack(I:dc X p_ σ H s):s.heap.FunFrames X.base X.stack:=by
 obtain e|⟨e,a⟩:=I.ok.xt
 .rw[e];exact I.mz
 .rw[e];obtain⟨m,hn,_⟩:=I.loc;refine .cons (by rw[I.ok.kind];decide) a hn ?_ I.mz;exact abC<|cQ I.ok.mQ I.ok.above
def dc.Dd(I:dc X p_ σ H s):∀b∈iA X.stack,b∈X.env.locals::X.fs:=λb a=>by
 obtain e|⟨e,c⟩:=I.ok.xt
 .rw[e]at a;exact cu _ a
 .rw[e]at a;unfold iA at a;rw[Fx,c]at a;exact a
def dc.G6(I:dc X p_ σ H s):∀b∈iA X.stack,H b=none:=λb a=>by
 rcases a9.mp (I.Dd b a)with e | a
 .rw[e];exact I.free
 .obtain⟨_,o,c,_⟩:=I.ok.mz.mem a;exact I.base.free b o c (I.ok.rW b a) λz=>I.ok.ue b z a
def dc.step{g':Array GenState}{t':Nat}{d':Drawn}{ch:List e_}(I:dc X p_ σ H s)(j:∀b∈ch,(b∈X.ex\/X.s₀.heap.objs.size<=b)/\b≠X.env.locals/\(∀x c,X.env.cells.lookup x=a_ c->c≠b)/\∀p∈X.pn++p_,p.1≠b)(keep:∀b o,b≠X.env.locals->b∉X.fs->b∉ch->s.heap.get? b=a_ o->H b=b_->h'.get? b=a_ o)(slot:∀b o,b≠X.env.locals->b∈X.fs->b∉ch->s.heap.get? b=a_ o->H b=b_->∃sl,h'.get? b=a_ {o with slots:=sl})(free:∀b o,b∉ch->s.heap.get? b=a_ o->H b=b_->H' b=b_)(there:∀b o,b∉ch->s.heap.get? b=a_ o->∃o',h'.get? b=a_ o')(oY:∀b xs,H b=a_ (.tup xs)->H' b=a_ (.tup xs))(oq:∀b o u,H b=a_ (.lY o u)->H' b=a_ (.lY o u))(oo:∀b ps,H b=a_ (.gg ps)->∃more,H' b=a_ (.gg<|ps++more))(ns:∀m,s.heap.Ns X.env.locals m->h'.Ns X.env.locals m)(aM:fV X.prog X.w H' h')(G:AllBare g'):dc X p_ σ H' {s with heap:=h',gens:=g',drawn:=d',toks:=t'}:=by
 have B:∀b o,X.s₀.heap.get? b=a_ o->b≠X.env.locals:=λb o e=>fh<|ff (bP e) I.ok.above
 have A:∀b o,X.s₀.heap.get? b=a_ o->b∉X.ex->b∉ch:=λb o e a g=>by
  rcases(j b g).1 with z | z
  .exact a z
  .exact eo (ff (bP e) z) (je _)
 have C:∀x c,X.env.cells.lookup x=a_ c->∀v,s.heap.IsCell c v->h'.IsCell c v:=λx c e v⟨o,h,hd⟩=>by
  have t:c∉ch:=λz=>(j c z).2.2.1 x c e xz
  by_cases D:c∈X.fs
  .obtain⟨sl,q⟩:=slot c o (I.vN x c e) D t h<|I.jP x c e;exact⟨_,q,hd⟩
  .exact⟨o,keep c o (I.vN x c e) D t h<|I.jP x c e,hd⟩
 refine⟨I.ok,I.os,G,⟨λb o e n g a=>?_,λb o e n g a=>?_,λb o e n a=>?_,λb o e a=>?_,λb xs e=>oY b xs<|I.base.oY b xs e,λb o xs e=>oq b o xs<|I.base.oq b o xs e,λb ps e=>?_⟩,?_,λx c e=>?_,?_,λx c e=>?_,λp E=>?_,aM,I.len⟩
 .exact keep b o (B b o e) g (A b o e a) (I.base.keep b o e n g a) (I.base.free b o e n a)
 .obtain⟨sl,f⟩:=I.base.slot b o e n g a;obtain⟨J,y⟩:=slot b _ (B b o e) g (A b o e a) f<|I.base.free b o e n a;exact⟨J,y⟩
 .obtain⟨o',f⟩:=I.base.there b o e a;exact free b o' (A b o e a) f<|I.base.free b o e n a
 .obtain⟨o',f⟩:=I.base.there b o e a;exact there b o' (A b o e a) f
 .obtain⟨K,f⟩:=I.base.oo b ps e;obtain⟨L,y⟩:=oo b _ f;exact⟨K++L,by rw[y,Array.append_assoc]⟩
 .obtain⟨m,hn,M⟩:=I.loc;refine⟨m,ns m hn,λi x v f y N=>?_⟩;obtain⟨u,r,l⟩:=M i x v f y N;refine⟨u,r,?_⟩;obtain l|⟨k,c,e,z⟩:=l
  .exact .inl l
  .exact .inr ⟨k,c,e,C x c e _ z⟩
 .obtain⟨v,z⟩:=I.cell x c e;exact⟨v,C x c e v z⟩
 .obtain⟨m,⟨o,_,_,h,_⟩,_⟩:=I.loc;exact free _ o (λz=>(j _ z).2.1 xz) h I.free
 .obtain⟨v,o,h,hd⟩:=I.cell x c e;exact free c o (λz=>(j c z).2.2.1 x c e xz) h<|I.jP x c e
 .obtain⟨e,n,ne,F,d⟩:=I.pin p E;have t:p.1∉ch:=λz=>(j p.1 z).2.2.2 p E rfl;exact⟨keep p.1 p.2 ne F t e n,free p.1 p.2 t e n,ne,F,d⟩
def dc.un{t':Nat}(I:dc X p_ σ H s)(u:Un X.fs [] H H' s.heap h')(aM:fV X.prog X.w H' h'):dc X p_ σ H' {s with heap:=h',toks:=t'}:=by
 obtain⟨m,⟨o,es,j,c,r⟩,_⟩:=id I.loc;obtain⟨sl,f⟩:=u.any c I.free (by simp)
 exact I.step (g':=s.gens) (d':=s.drawn) (ch:=[]) (λ_ z=>nomatch z) (λb o _ a _ e n=>u.keep b o e n a<|by simp) (λb o _ a _ e n=>u.slot b o e n a<|by simp) (λb o _ e n=>u.free b o e n<|by simp) (λb o _ e=>u.there b o e<|by simp) u.oY u.oq u.oo (λk hm=>by
  obtain⟨o',g,h,d,i⟩:=hm;rw[c]at d;cases d;exact⟨_,g,h,f,i⟩) aM I.bare
def dc.call{g':Array GenState}{t':Nat}{d':Drawn}{ch:List e_}(I:dc X p_ σ H s)(u:Un (iA X.stack) ch H H' s.heap h')(aM:fV X.prog X.w H' h')(i:AllBare g')(f:∀b∈ch,(b∈X.ex\/X.s₀.heap.objs.size<=b)/\b≠X.env.locals/\(∀x c,X.env.cells.lookup x=a_ c->c≠b)/\∀p∈X.pn++p_,p.1≠b):dc X p_ σ H' {s with heap:=h',gens:=g',drawn:=d',toks:=t'}:=by
 obtain⟨m,⟨o,es,t,g,r⟩,_⟩:=id I.loc;obtain⟨sl,d⟩:=u.any g I.free λz=>(f _ z).2.1 xz
 exact I.step (ch:=ch) f (λb o d j a e n=>u.keep b o e n (λz=>(a9.mp<|I.Dd b z).elim d j) a) (λb o _ _ a e n=>u.any e n a) (λb o a e n=>u.free b o e n a) (λb o a e=>u.there b o e a) u.oY u.oq u.oo (λv hm=>by
  obtain⟨o',k,l,h,q⟩:=hm;rw[g]at h;cases h;exact⟨_,k,l,d,q⟩) aM i
def dc.turned{t':Nat}{it:e_}(I:dc X p_ σ H s)(k:∀b o,b≠it->s.heap.get? b=a_ o->h'.get? b=a_ o)(hn:H it=b_)(d:it≠X.env.locals)(h1:it∈X.ex\/X.s₀.heap.objs.size<=it)(h2:∀x c,X.env.cells.lookup x=a_ c->c≠it)(h3:∀p∈X.pn++p_,p.1≠it):dc X p_ σ H {s with heap:=h',toks:=t'}:=by
 have f:∀b u,H b=a_ u->b≠it:=λb u e z=>by rw[z,hn]at e;cases e
 refine I.step (g':=s.gens) (d':=s.drawn) (ch:=[it]) (λb g=>?_) (λb o _ _ a e _=>k b o (λz=>a<|by simp[z]) e) (λb o _ _ a e _=>⟨o.slots,k b o (λz=>a<|by simp[z]) e⟩) (λ_ _ _ _ n=>n)
  (λb o a e=>⟨o,k b o (λz=>a<|by simp[z]) e⟩) (λ_ _ e=>e) (λ_ _ _ e=>e) (λb ps e=>⟨#[],by rw[e];simp⟩) (λm hm=>?_) (λb u e=>?_) I.bare
 .have e:b=it:=by simpa using g
  subst e;exact⟨h1,d,h2,h3⟩
 .obtain⟨o,es,h,i,r⟩:=hm;exact⟨o,es,h,k _ o (eJ d) i,r⟩
 .refine(I.aM b u e).qw (λc v a q=>k c v ?_ q) (λ_ q=>q) λ_ _ q=>q;obtain z|z:=a
  .rw[z];exact f b u e
  .exact f c _ z
def dc.tok(I:dc X p_ σ H s)(t:Nat):dc X p_ σ H {s with toks:=t}:=I.un (h':=s.heap) (t':=t) Un.refl I.aM
def dc.kept{t':Nat}(I:dc X p_ σ H s)(k:∀b u,s.heap.get? b=a_ u->h'.get? b=a_ u):dc X p_ σ H {s with heap:=h',toks:=t'}:=I.un (Un.kept k)<|I.aM.kept k
def dc.laid{o:HO}{t':Nat}(I:dc X p_ σ H s)(k:∀b u,s.heap.get? b=a_ u->h'.get? b=a_ u)(c:s.heap.objs.size<=a)(new:hZ X.prog X.w (db H a o) h' a o):dc X p_ σ (db H a o) {s with heap:=h',toks:=t'}:=I.un (Un.laid k c<|I.aM.fresh c)<|I.aM.laid k c new
def dc.write{o:HO}{t':Nat}(I:dc X p_ σ H s)(a:Ju (H x))(c:e=x\/H e=a_ (.own x))(k:∀b u,b≠e->s.heap.get? b=a_ u->h'.get? b=a_ u)(d:∃u,h'.get? e=a_ u)(new:hZ X.prog X.w (db H x o) h' x o):dc X p_ σ (db H x o) {s with heap:=h',toks:=t'}:=I.un (Un.write a c k d)<|I.aM.write a c k d new
def dc.weak{a:List (Option V)}(I:dc X p_ σ H s)(b:a.length=σ.length)(w:∀(i:Nat)v,a[i]?=a_ (a_ v)->σ[i]?=a_ (a_ v)):dc X p_ a H s:=
 ⟨I.ok,I.os,I.bare,I.base,let ⟨m,hn,EZ⟩:=I.loc;⟨m,hn,λi x v c d e=>EZ i x v c (w i v d) e⟩,I.cell,I.free,I.jP,I.pin,I.aM,b.fC I.len⟩
def dc.wF(I:dc X p_ σ H s)(h:∀p∈alu,s.heap.get? p.1=a_ p.2/\H p.1=b_/\p.1≠X.env.locals/\p.1∉X.fs/\∀v,p.2.data≠.cell v):dc X alu σ H s:=
 ⟨I.ok,I.os,I.bare,I.base,I.loc,I.cell,I.free,I.jP,λp a=>(i6.mp a).elim (λz=>I.pin p<|pU _ z)<|h p,I.aM,I.len⟩
def MX{N:List cw}(hN:N.Nodup){i j:Nat}{x:cw}(a:N[i]?=a_ x)(b:N[j]?=a_ x):i=j:=by
 obtain⟨h1,c⟩:=dX.mp a;obtain⟨h2,d⟩:=dX.mp b;exact(List.getElem_inj hN).mp (c.fC d.fF)
def Vb{M:d5}{A:h_}{E:f_->g_->Prop}{i:Nat}{x:cw}{v:V}{u:f_}{Q:Unit->g_->Prop}(I:dc X p_ σ H s)(hN:X.N.Nodup)(hi:X.N[i]?=a_ x)(l:jp X.env.scope x)(r:df v u)
  (h:∀s',dc X p_ (σ.set i<|a_ v) H s'->(∃a,sX a s.heap s'.heap/\(a=X.env.locals\/X.env.cells.lookup x=a_ a))->Q () s') (hf:X.fn x=c_\/X.env.scope.names.lookup x=a_ .local:=by first | exact .inl xz | exact .inr xz | assumption):bz M A (storeName X.env x u) Q E s:=by
 obtain⟨m,hn,T⟩:=id I.loc;have QG:(X.env.scope.kind==.class||(X.env.scope.kind==.module&&X.env.locals != X.env.globals))=false:=by rw[I.ok.kind];rfl
 have U:i < σ.length:=by rw[I.len];exact(dX.mp hi).1
 have vN:=I.vN
 have W:∀{a:e_}{h':j_},(∃o,s.heap.get? a=a_ o/\H a=b_)->sX a s.heap h'->fV X.prog X.w H h':=λ{a h'}ha hs b ob e=>by
  obtain⟨_,_,Y⟩:=ha;refine(I.aM b ob e).qw (λc F g q=>(hs.2 c ?_).fC q) (λ_ q=>q) λ_ _ q=>q;rintro rfl;obtain rfl|g:=g
  .rw[Y]at e;cases e
  .rw[Y]at g;cases g
 obtain B|B:=l
 .refine wpAny_storeName_local B hn (λh' uD hs=>?_) QG;obtain⟨oL,_,_,hoL,_⟩:=id hn;refine h _ ⟨I.ok,I.os,I.bare,⟨λb o e n C l=>?_,λb o e n C l=>?_,I.base.free,λb o e l=>?_,I.base.oY,I.base.oq,I.base.oo⟩,⟨_,uD,λj y J f t K=>?_⟩,λy c e=>?_,I.free,I.jP,λp L=>?_,W ⟨oL,hoL,I.free⟩ hs,by simpa using I.len⟩ ⟨_,hs,.inl xz⟩
  .exact(hs.2 b<|fh<|ff (bP e) I.ok.above).fC (I.base.keep b o e n C l)
  .obtain⟨sl,f⟩:=I.base.slot b o e n C l;exact⟨sl,(hs.2 b<|fh<|ff (bP e) I.ok.above).fC f⟩
  .obtain⟨o',f⟩:=I.base.there b o e l;exact⟨o',(hs.2 b<|fh<|ff (bP e) I.ok.above).fC f⟩
  .by_cases D:j=i
   .subst D;rw[hi]at f;cases f;rw[nU U]at t;cases t;exact⟨u,r,.inl ⟨B,by simp⟩⟩
   .rw[Cp<|eJ D]at t;obtain⟨O,P,q⟩:=T j y J f t K;refine⟨O,P,?_⟩;obtain⟨k,e⟩|⟨k,c,e,z⟩:=q
    .refine .inl ⟨k,?_⟩;have:y≠x:=λe=>D<|MX hN f<|e ▸ hi;simp[this,e]
    .exact .inr ⟨k,c,e,z.sameBut hs<|vN y c e⟩
  .obtain⟨F,z⟩:=I.cell y c e;exact⟨F,z.sameBut hs<|vN y c e⟩
  .obtain⟨e,n,ne,R,d⟩:=I.pin p L;exact⟨(hs.2 p.1 ne).fC e,n,ne,R,d⟩
 .have S:X.fn x=true:=by
   obtain z|z:=hf
   .exact z
   .rw[z]at B;cases B
  obtain⟨c,g⟩:=I.ok.has x<|.inl B;obtain⟨F,z⟩:=I.cell x c g;refine wpAny_storeName_cell I.ok.kind B g z λh' Z hs=>?_;obtain⟨oc,zO,am2⟩:=id z;refine h {s with heap:=h'} ⟨I.ok,I.os,I.bare,⟨λb o e n C l=>?_,λb o e n C l=>?_,I.base.free,λb o e l=>?_,I.base.oY,I.base.oq,I.base.oo⟩,⟨m,hn.sameBut hs<|eJ<|vN x c g,λj y J f t K=>?_⟩,λy G e=>?_,I.free,I.jP,λp L=>?_,W ⟨oc,zO,I.jP x c g⟩ hs,by simpa using I.len⟩ ⟨c,hs,.inr g⟩
  .exact(hs.2 b<|fh<|ff (bP e)<|I.ok.vO x c S g).fC (I.base.keep b o e n C l)
  .obtain⟨sl,f⟩:=I.base.slot b o e n C l;exact⟨sl,(hs.2 b<|fh<|ff (bP e)<|I.ok.vO x c S g).fC f⟩
  .obtain⟨o',f⟩:=I.base.there b o e l;exact⟨o',(hs.2 b<|fh<|ff (bP e)<|I.ok.vO x c S g).fC f⟩
  .by_cases D:j=i
   .subst D;rw[hi]at f;cases f;rw[nU U]at t;cases t;exact⟨u,r,.inr ⟨.inl B,c,g,Z⟩⟩
   .rw[Cp<|eJ D]at t;obtain⟨O,P,q⟩:=T j y J f t K;refine⟨O,P,?_⟩;obtain q|⟨k,G,e,z'⟩:=q
    .exact .inl q
    .refine .inr ⟨k,G,e,z'.sameBut hs ?_⟩;rintro rfl;exact D<|MX hN f<|I.ok.inj _ _ _ e g ▸ hi
  .by_cases hcc:G=c
   .subst hcc;exact⟨_,Z⟩
   .obtain⟨w2,z2⟩:=I.cell y G e;exact⟨w2,z2.sameBut hs hcc⟩
  .obtain⟨e,n,ne,R,d⟩:=I.pin p L;refine⟨(hs.2 p.1 ?_).fC e,n,ne,R,d⟩;intro q;rw[q,zO]at e;have q':oc=p.2:=eG e;exact d F (by rw[<-q'];exact am2)
def Gp{M:d5}{i:Nat}{Q:Unit->g_->Prop}(I:dc X p_ σ H s)(hN:X.N.Nodup)(hi:X.N[i]?=a_ x)(a:jp X.env.scope x)(r:df v u)
  (h:∀s',dc X p_ (σ.set i<|a_ v) H s'->Q () s') (b:X.fn x=c_\/X.env.scope.names.lookup x=a_ .local:=by first | exact .inl xz | exact .inr xz | assumption):bz M A (storeName X.env x u) Q E s:=
 Vb I hN hi a r (λs' c _=>h s' c) b
def dc.PF(I:dc X p_ σ H s)(a:s'.os=s.os)(u:Un (iA X.stack) ch H H' s.heap s'.heap)(aM:fV X.prog X.w H' s'.heap)(d:AllBare s'.gens)(f:∀b∈ch,(b∈X.ex\/X.s₀.heap.objs.size<=b)/\b≠X.env.locals/\(∀x c,X.env.cells.lookup x=a_ c->c≠b)/\∀p∈X.pn++p_,p.1≠b):dc X p_ σ H' s':=by
 obtain⟨h',g',d',t',o'⟩:=s';have e:o'=s.os:=a;subst e;exact I.call (g':=g') (t':=t') (d':=d') u aM d f
end
abbrev XK:=f_->Option e_->Hp->Prop
abbrev St:=List<|Option V
abbrev VK:=V->Hp->Prop
abbrev TE:=St->Hp->VK->Prop
abbrev TT:=St->Hp->(Bool->Hp->Prop)->Prop
abbrev TA:=St->Hp->(List V->Hp->Prop)->Prop
structure Ends where
 nx:St->Hp->Prop
 rt:VK
 bk:St->Hp->Prop:=λ_ _=>False
 ct:St->Hp->Prop:=λ_ _=>False
abbrev TS:=Ends->St->Hp->Prop
def EP(X:Cx)(p_:List (e_×cB))(σ:St)(Q:VK)(u:f_)(s':g_):Prop:=∃v H',dc X p_ σ H' s'/\df v u/\Q v H'
def TP(X:Cx)(p_:List (e_×cB))(σ:St)(Q:Bool->Hp->Prop)(b:Bool)(s':g_):Prop:=∃H',dc X p_ σ H' s'/\Q b H'
def AP(X:Cx)(p_:List (e_×cB))(σ:St)(Q:List V->Hp->Prop)(us:List f_)(s':g_):Prop:=∃vs H',dc X p_ σ H' s'/\dn vs us/\Q vs H'
def SP(X:Cx)(p_:List (e_×cB))(D:Ends)(f:Flow)(s':g_):Prop:=
 match f with
 | .next=>∃a H',dc X p_ a H' s'/\D.nx a H'
 | .brk=>∃a H',dc X p_ a H' s'/\D.bk a H'
 | .cont=>∃a H',dc X p_ a H' s'/\D.ct a H'
 | .ret u=>∃v a H',dc X p_ a H' s'/\df v u/\D.rt v H'
def PE(X:Cx)(e:bT)(t:TE):Prop:=
 ∀(p_:List (e_×cB))(s:g_)(σ:St)(H:Hp)(Q:VK),dc X p_ σ H s->t σ H Q->bz (bK X.prog X.w) X.A (eval e X.env) (EP X p_ σ Q) X.xe s
def PT(X:Cx)(e:bT)(t:TT):Prop:=
 ∀(p_:List (e_×cB))(s:g_)(σ:St)(H:Hp)(Q:Bool->Hp->Prop),dc X p_ σ H s->t σ H Q->bz (bK X.prog X.w) X.A (isTrue e X.env<|eval e X.env) (TP X p_ σ Q) X.xe s
def PW(X:Cx)(e:bT)(t:TT):Prop:=
 ∀(a:Sem f_)(p_:List (e_×cB))(s:g_)(σ:St)(H:Hp)(Q:Bool->Hp->Prop),dc X p_ σ H s->t σ H Q->bz (bK X.prog X.w) X.A (isTrue e X.env a) (TP X p_ σ Q) X.xe s
def PW.pt{X:Cx}(h:PW X e t):PT X e t:=h _
def PA(X:Cx)(es:List bT)(t:TA):Prop:=
 ∀(a:Pos)(p_:List (e_×cB))(s:g_)(σ:St)(H:Hp)(Q:List V->Hp->Prop),dc X p_ σ H s->t σ H Q->bz (bK X.prog X.w) X.A (spliced<|cc a<|cg es X.env) (AP X p_ σ Q) X.xe s
def PS(X:Cx)(st:bM)(t:TS):Prop:=
 ∀(p_:List (e_×cB))(s:g_)(σ:St)(H:Hp)(D:Ends),dc X p_ σ H s->t D σ H->bz (bK X.prog X.w) X.A (exec st X.env) (SP X p_ D) X.xe s
def dM(X:Cx)(st:List bM)(t:TS):Prop:=
 ∀(p_:List (e_×cB))(s:g_)(σ:St)(H:Hp)(D:Ends),dc X p_ σ H s->t D σ H->bz (bK X.prog X.w) X.A (execs st X.env) (SP X p_ D) X.xe s
def aT{b:Type}{t:Sem b}{Q c:b->g_->Prop}{M:d5}(h:bz M A t Q E s)(d:∀a s,Q a s->c a s):bz M A t c E s:=ik h d λ_ _ x=>x
def Jf{X:Cx}{K:VK}{t:Sem f_}{M:d5}(h:bz M A t (EP X p_ σ K) E s)(k:∀v s x H,dc X p_ σ H s->df x v->K x H->Q' v s):bz M A t Q' E s:=aT h λv s z=>gf z<|k v s
def thT{X:Cx}{K:Bool->Hp->Prop}{t:Sem Bool}{a:Bool->g_->Prop}{M:d5}(h:bz M A t (TP X p_ σ K) E s)(k:∀v s H,dc X p_ σ H s->K v H->a v s):bz M A t a E s:=aT h λv s z=>aJ z<|k v s
def Bx{X:Cx}{K:List V->Hp->Prop}{t:Sem (List f_)}{a:List f_->g_->Prop}{M:d5}(h:bz M A t (AP X p_ σ K) E s)(k:∀v s x H,dc X p_ σ H s->dn x v->K x H->a v s):bz M A t a E s:=aT h λv s z=>gf z<|k v s
section
variable{X:Cx}
def bin(ha:PE X a ta)(g:PE X b tb){R:V->V->Hp->Prop}(I:dc X p_ σ H s)(h:ta σ H λx d=>tb σ d λy c=>R x y c){e:Type}{Q:e->g_->Prop}{f:f_->f_->Sem e}(i:∀v u s2 x y c,dc X p_ σ c s2->df x v->df y u->R x y c->bz (bK X.prog X.w) X.A (f v u) Q X.xe s2):bz (bK X.prog X.w) X.A (eval a X.env) (λv j=>bz (bK X.prog X.w) X.A (eval b X.env) (λu k=>bz (bK X.prog X.w) X.A (f v u) Q X.xe k) X.xe j) X.xe s:=by
 refine aT (ha p_ s σ H _ I h) λv s1⟨x,d,l,m,n⟩=>?_;refine aT (g p_ s1 σ d _ l n) λu s2⟨y,c,o,r2,p⟩=>?_;exact i v u s2 x y c o m r2 p
def nD(i:Nat):TE:=λσ H Q=>∃v,σ[i]?=a_ (a_ v)/\Q v H
abbrev tC(v:V):TE:=λ_ H Q=>Q v H
def ain{i:Nat}(hN:X.N[i]?=a_ x)(hv:BJ X.env.scope x)(hd:autoParam ((x==("__debug__":cw))=false) ap)(g:autoParam ((x==("__classdict__":cw))=false) ap):PE X (.Name x pos) (nD i):=by
 intro p_ s σ H Q I h;obtain⟨v,e,h⟩:=h;obtain⟨m,hn,j⟩:=I.loc;obtain⟨u,r,l⟩:=j i x v hN e hv;have b:EP X p_ σ Q u s:=⟨v,H,I,r,h⟩;obtain⟨a,hm⟩|⟨a,c,d,f⟩:=l
 .exact wpAny_Name (wpAny_loadName_local I.ok.kind a hn hm b) hd
 .obtain a|a:=a
  .exact wpAny_Name (wpAny_loadName_cell I.ok.kind a d f b) hd
  .exact wpAny_Name (wpAny_loadName_free I.ok.kind a d f b g) hd
def ao{i j pos}:PE X (.Constant (.int i) j pos) (tC<|.int i):=λ_ _ _ H _ I h=>wpAny_Constant_int ⟨.int i,H,I.tok _,⟨_,xz⟩,h⟩
def lj{b j pos}:PE X (.Constant (.bool b) j pos) (tC<|.bl b):=λ_ _ _ H _ I h=>Constant_bool ⟨.bl b,H,I,xz,h⟩
def qi{j pos}:PE X (.Constant .none j pos) (tC .aH):=λ_ _ _ H _ I h=>Ua ⟨.aH,H,I,xz,h⟩
def a7{x j pos}:PE X (.Constant (.str x) j pos) (tC<|.str x):=λ_ _ _ H _ I h=>Calls.Constant_str ⟨.str x,H,I.tok _,⟨_,xz⟩,h⟩
def Gl(X:Cx)(x:cw):Prop:=X.env.kindOf x=a_ .globalImplicit
def tI(I:dc X p_ σ H s)(a:Gl X x)(hm:X.mg x=a_ u)(h:Q u s)
  (hd:autoParam ((x==("__debug__":cw))=false) ap):bz (bK X.prog X.w) X.A (eval (.Name x pos) X.env) Q E s:=
 abh I.ok.kind a (Calls.loadGlobal_global (by rw[I.ok.glob];exact I.mod.glob.keeps I.bk) hm h) hd
def yx(I:dc X p_ σ H s)(a:Gl X x)(hm:X.mg x=b_)(hv:Ao x=a_ u)(h:Q u s)
  (hn:autoParam (x ≠ "__name__") ap) (hd:autoParam ((x==("__debug__":cw))=false) ap):bz (bK X.prog X.w) X.A (eval (.Name x pos) X.env) Q E s:=by
 obtain⟨mb,h1,h2⟩:=I.mod.blt;exact abh I.ok.kind a (Calls.loadGlobal_builtin (by rw[I.ok.glob];exact I.mod.glob.keeps I.bk) hm (by rw[I.ok.blt];exact h1.keeps I.bk) ((h2 x hn).fC hv) h) hd
def gG(a:Gl X x)(hm:X.mg x=a_ u)(r:df v u)(hd:autoParam ((x==("__debug__":cw))=false) ap):PE X (.Name x pos) (tC v):=
 λ_ _ _ H _ I h=>tI I a hm ⟨v,H,I,r,h⟩ hd
def qZ(a:Gl X x)(hm:X.mg x=b_)(hv:Ao x=a_ u)(r:df v u)(hn:autoParam (x ≠ "__name__") ap)(hd:autoParam ((x==("__debug__":cw))=false) ap):PE X (.Name x pos) (tC v):=
 λ_ _ _ H _ I h=>yx I a hm hv ⟨v,H,I,r,h⟩ hn hd
def t2I(a tb:TE)(k:Int->Int->Hp->Prop):St->Hp->Prop:=λσ H=>a σ H λx b=>tb σ b λy c=>∃i j,x=.int i/\y=.int j/\k i j c
variable{a b:bT}{ta tb:TE}{pos:Pos}
def PC(X:Cx)(c:CmpOp)(a b:bT)(t:TE):Prop:=
 ∀(p_:List (e_×cB))(s:g_)(σ:St)(H:Hp)(Q:VK),dc X p_ σ H s->t σ H Q->
  bz (bK X.prog X.w) X.A (eval a X.env) (λv d=>bz (bK X.prog X.w) X.A (eval b X.env) (λu e=>bz (bK X.prog X.w) X.A (jL c v u) (EP X p_ σ Q) X.xe e) X.xe d) X.xe s
def Ws(b:bT){c:CmpOp}(h:c≠.In)(h2:c≠.NotIn):yc c b=false:=by
 have d:(c==CmpOp.In)=false:=by cases c <;> first | rfl | exact eo xz h
 have e:(c==CmpOp.NotIn)=false:=by cases c <;> first | rfl | exact eo xz h2
 cases b <;> simp[yc,d,e]
def P8(p:Int->Int->Bool)(ta tb:TE):TE:=λσ H Q=>t2I ta tb (λi j c=>Q (.bl<|p i j) c) σ H
abbrev QR:TE->TE->TE:=P8 λi j=>decide<|i<=j
abbrev tGe:TE->TE->TE:=P8 λi j=>decide<|j<=i
def Yr{c:CmpOp}{p:Int->Int->Bool}(ha:PE X a ta)(d:PE X b tb)(e:∀(i j:Int)(t u:Tok)(Q:f_->g_->Prop)(s:g_),Q (.bool<|p i j) s->bz (bK X.prog X.w) X.A (jL c (.int i t)<|.int j u) Q X.xe s):PC X c a b (P8 p ta tb):=by
 intro p_ s σ H Q I h;refine bin ha d I h λv u s2 x y f g k l q=>?_;obtain⟨i,j,rfl,rfl,q⟩:=q;obtain⟨t,rfl⟩:=k;obtain⟨t',rfl⟩:=l;exact e i j t t' _ s2 ⟨.bl _,f,g,xz,q⟩
def akg(ha:PE X a ta)(c:PE X b tb):PC X .LtE a b (QR ta tb):=Yr ha c λ_ _ _ _ _ _ h=>le_int h
def akh(ha:PE X a ta)(c:PE X b tb):PC X .GtE a b (tGe ta tb):=Yr ha c λ_ _ _ _ _ _ h=>ge_int h
def alQ(ta:TE):TE:=λσ H Q=>ta σ H λx c=>Q (.bl<|decide<|x=.aH) c
def OY(ta:TE):TE:=λσ H Q=>ta σ H λx c=>Q (.bl<|!decide (x=.aH)) c
def df.Wr(r:df x v):(v==gq)=decide (x=.aH):=by
 cases x with
 | aH=>cases r;rfl
 | bl _=>cases r;rfl
 | int _=>obtain⟨t,rfl⟩:=r;rfl
 | str _=>obtain⟨t,rfl⟩:=r;rfl
 | pD _=>obtain⟨t,rfl⟩:=r;rfl
 | uk _=>obtain⟨t,rfl⟩:=r;rfl
 | ref _=>cases r;rfl
 | ty _=>cases r;rfl
def aix{j pos'}(ha:PE X a ta):PC X .Is a (.Constant .none j pos') (alQ ta):=by
 intro p_ s σ H Q I h;refine aT (ha p_ s σ H _ I h) λv s1⟨x,c,d,e,f⟩=>?_;exact Ua<|is_none_gen ⟨.bl _,c,d,by rw[e.Wr];rfl,f⟩
def Xh{j pos'}(ha:PE X a ta):PC X .IsNot a (.Constant .none j pos') (OY ta):=by
 intro p_ s σ H Q I h;refine aT (ha p_ s σ H _ I h) λv s1⟨x,c,d,e,f⟩=>?_;exact Ua<|isnot_none_gen ⟨.bl _,c,d,by rw[e.Wr];rfl,f⟩
def tB(t:TE):TT:=λσ H Q=>t σ H λx d=>∃c,x=.bl c/\Q c d
def aiw{c:CmpOp}(h:PC X c a b t)(h1:yc c b=false:=by first | exact Ws _ qc qc | rfl):PE X (.Compare a [c] [b] pos) t:=λp_ s σ H Q I hw=>wpAny_Compare1 (h p_ s σ H Q I hw) h1
def AO{e:CmpOp}(h:PC X e a b t)(h1:yc e b=false:=by first | exact Ws _ qc qc | rfl):PT X (.Compare a [e] [b] pos) (tB t):=by
 intro p_ s σ H Q I hw;refine abx (aT (h p_ s σ H _ I hw) λv s1 h1=>aT h1 λu s2 h2=>aT h2 λc k⟨x,f,g,i,j⟩=>?_) h1;obtain⟨d,rfl,q⟩:=j;cases i;exact qO ⟨f,g,q⟩
def gZ(h:PE X e t)(f:∀c,isTrue e X.env c=(do let v <-c;standAt e.pos;holding [v] (truthy v)):=by intro _;rfl):PT X e (tB t):=by
 intro p_ s σ H Q I hw;refine isTrue_plain (aT (h p_ s σ H _ I hw) λv s1⟨x,g,i,j,k⟩=>?_)<|f _;obtain⟨d,rfl,q⟩:=k;cases j;exact qO ⟨g,i,q⟩
variable{tA Jz:TT}{rest:List bT}
def alU(t u:TT):TT:=λσ H Q=>t σ H λc d=>if c=c_ then u σ d Q else Q d_ d
def QQ(t u:TT):TT:=λσ H Q=>t σ H λc d=>if c=c_ then Q c_ d else u σ d Q
def alP(t:TT):TT:=λσ H Q=>t σ H λc d=>Q (!c) d
def pw_and1(ha:PT X a tA):PW X (.BoolOp .And [a] pos) tA:=by
 intro wh p_ s σ H Q I h;refine isTrue_and (aT (ha p_ s σ H Q I h) λc s1 e=>?_);cases c with
 | true=>exact isTrue_and_nil e
 | false=>exact e
def pw_or1(ha:PT X a tA):PW X (.BoolOp .Or [a] pos) tA:=by
 intro wh p_ s σ H Q I h;refine isTrue_or (aT (ha p_ s σ H Q I h) λc s1 e=>?_);cases c with
 | false=>exact isTrue_or_nil e
 | true=>exact e
def pw_and(ha:PT X a tA)(g:PW X (.BoolOp .And (b::rest) pos) Jz):PW X (.BoolOp .And (a::b::rest) pos) (alU tA Jz):=by
 intro wh p_ s σ H Q I h;refine isTrue_and (aT (ha p_ s σ H _ I h) λc s1⟨d,e,f⟩=>?_);cases c with
 | true=>exact g wh p_ s1 σ d Q e f
 | false=>exact⟨d,e,f⟩
def pw_or(ha:PT X a tA)(g:PW X (.BoolOp .Or (b::rest) pos) Jz):PW X (.BoolOp .Or (a::b::rest) pos) (QQ tA Jz):=by
 intro wh p_ s σ H Q I h;refine isTrue_or (aT (ha p_ s σ H _ I h) λc s1⟨d,e,f⟩=>?_);cases c with
 | true=>exact⟨d,e,f⟩
 | false=>exact g wh p_ s1 σ d Q e f
def og(ha:PT X a tA):PT X (.UnaryOp .Not a pos) (alP tA):=by
 intro p_ s σ H Q I h;exact isTrue_not<|ha p_ s σ H (λc d=>Q (!c) d) I h
def aj8(ta tb:TE):TE:=λσ H Q=>ta σ H λx d=>∃c,x=.bl c/\if c=c_ then tb σ d Q else Q (.bl d_) d
def alO(ta tb:TE):TE:=λσ H Q=>ta σ H λx d=>∃c,x=.bl c/\if c=c_ then Q (.bl c_) d else tb σ d Q
def aj2(ta:TE):TE:=λσ H Q=>ta σ H λx d=>∃c,x=.bl c/\Q (.bl<|!c) d
def Dj{op}(h:PE X a t):PE X (.BoolOp op [a] pos) t:=λp_ s σ H Q I hw=>BoolOp_one<|h p_ s σ H Q I hw
def HD(ha:PE X a ta)(g:PE X (.BoolOp .And (b::rest) pos) tb):PE X (.BoolOp .And (a::b::rest) pos) (aj8 ta tb):=by
 intro p_ s σ H Q I h;refine BoolOp_and (aT (ha p_ s σ H _ I h) λv s1⟨x,e,f,i,d⟩=>?_);obtain⟨c,rfl,d⟩:=d;cases i;refine qO ?_;cases c with
 | true=>exact g p_ s1 σ e Q f d
 | false=>exact⟨.bl d_,e,f,xz,d⟩
def akf(ha:PE X a ta)(g:PE X (.BoolOp .Or (b::rest) pos) tb):PE X (.BoolOp .Or (a::b::rest) pos) (alO ta tb):=by
 intro p_ s σ H Q I h;refine BoolOp_or (aT (ha p_ s σ H _ I h) λv s1⟨x,e,f,i,d⟩=>?_);obtain⟨c,rfl,d⟩:=d;cases i;refine qO ?_;cases c with
 | false=>exact g p_ s1 σ e Q f d
 | true=>exact⟨.bl c_,e,f,xz,d⟩
def Oj(ha:PE X a ta):PE X (.UnaryOp .Not a pos) (aj2 ta):=by
 intro p_ s σ H Q I h;refine UnaryOp_ (aT (ha p_ s σ H _ I h) λv s1⟨x,e,f,g,d⟩=>?_);obtain⟨c,rfl,d⟩:=d;cases g;exact not_of<|qO ⟨.bl<|!c,e,f,xz,d⟩
def tIf(t:TT)(ta tb:TE):TE:=λσ H Q=>t σ H λc d=>if c=c_ then ta σ d Q else tb σ d Q
def MW(i:PT X c tA)(ha:PE X a ta)(j:PE X b tb):PE X (.IfExp c a b pos) (tIf tA ta tb):=by
 intro p_ s σ H Q I h;refine wpAny_IfExp (aT (i p_ s σ H _ I h) λd s1⟨e,f,g⟩=>?_);cases d with
 | true=>exact ha p_ s1 σ e Q f g
 | false=>exact j p_ s1 σ e Q f g
end
def aq(K:u_)(H:Hp)(a:e_)(xs:List V):Prop:=
 Rd H a (.lst xs)\/
  ∃(o:cB)(b:Array f_)(n:Nat),K.lookup a=a_ o/\o.cls=.type "list"/\o.dict=b_/\o.data=.seq b n/\b.size<=aX/\dn xs b.toList
def az(K:u_)(H:Hp)(a:e_)(xs:List V):Prop:=
 Rd H a (.tup xs)\/
  ∃(o:cB)(b:Array f_)(n:Nat),K.lookup a=a_ o/\o.cls=.type "tuple"/\o.data=.seq b n/\b.size<=aX/\dn xs b.toList
noncomputable def amh:f_->Option V
 | .none=>a_ .aH
 | .bool b=>a_<|.bl b
 | .int i _=>a_<|.int i
 | .str x _=>a_<|.str x
 | .bytes b _=>a_<|.pD b
 | .float b _=>a_<|.uk b
 | .ref a=>a_<|.ref a
 | .type n=>a_<|.ty n
 | _=>b_
def df.abs(r:df x u):amh u=a_ x:=by
 cases x with
 | aH=>cases r;rfl
 | bl _=>cases r;rfl
 | int _=>obtain⟨t,rfl⟩:=r;rfl
 | str _=>obtain⟨t,rfl⟩:=r;rfl
 | pD _=>obtain⟨t,rfl⟩:=r;rfl
 | uk _=>obtain⟨t,rfl⟩:=r;rfl
 | ref _=>cases r;rfl
 | ty _=>cases r;rfl
def df.inj(r:df x u)(q:df y u):x=y:=eG<|r.abs.fF.fC q.abs
theorem dn.inj:∀{xs ys:List V}{us:List f_},dn xs us->dn ys us->xs=ys
 | _,_,_,.nil,.nil=>rfl
 | _,_,_,.cons r t,.cons r' t'=>by rw[r.inj r',dn.inj t t']
section
variable{X:Cx}{p_:List (e_×cB)}{σ:St}{H:Hp}{s:g_}{a:e_}{xs ys:List V}
def aq.of{K:u_}(h:H a=a_ (.lst xs)):aq K H a xs:=.inl<|.inl h
def az.of{K:u_}(h:H a=a_ (.tup xs)):az K H a xs:=.inl<|.inl h
def dc.list(I:dc X p_ σ H s)(h:aq X.K H a xs):∃b:List f_,dn xs b/\PlainL s.heap a b.toArray/\xs.length<=aX:=by
 obtain h|⟨o,b,n,c,d,hd,hs,f,r⟩:=h
 .obtain⟨z,b,n,r,e⟩:=h.ok I.aM;exact⟨b,r,⟨_,n,e,xz,xz,xz⟩,z⟩
 .refine⟨b.toList,r,⟨o,n,I.cZ a o c,d,hd,by simpa using hs⟩,?_⟩;have e:=r.length;simp only[v8]at e;omega
def dc.tuple(I:dc X p_ σ H s)(h:az X.K H a xs):∃b:List f_,dn xs b/\IsTup s.heap a b.toArray/\xs.length<=aX:=by
 obtain h|⟨o,b,n,c,d,hs,f,r⟩:=h
 .obtain⟨z,b,r,p⟩:=h.ok I.aM;exact⟨b,r,p,z⟩
 .refine⟨b.toList,r,⟨o,I.cZ a o c,d,n,by simpa using hs⟩,?_⟩;have e:=r.length;simp only[v8]at e;omega
def dc.Ww(I:dc X p_ σ H s)(h:aq X.K H a xs)(h':aq X.K H a ys):xs=ys:=by
 obtain⟨c,r,⟨o,n,e,_,_,d⟩,_⟩:=I.list h;obtain⟨nF,f,⟨o',g,b,_,_,d'⟩,_⟩:=I.list h';rw[e]at b;cases b;rw[d]at d';injection d' with d1 _
 have:c=nF:=by simpa using fw Array.toList d1
 subst this;exact r.inj f
def dc.Va(I:dc X p_ σ H s)(h:az X.K H a xs)(h':az X.K H a ys):xs=ys:=by
 obtain⟨c,r,⟨o,e,_,n,d⟩,_⟩:=I.tuple h;obtain⟨nF,f,⟨o',b,_,g,d'⟩,_⟩:=I.tuple h';rw[e]at b;cases b;rw[d]at d';injection d' with d1 _
 have:c=nF:=by simpa using fw Array.toList d1
 subst this;exact r.inj f
end
noncomputable abbrev Cx.ua(X:Cx)(E:f_->g_->Prop):Cx:={X with xe:=E}
abbrev Cx.lH(X:Cx):Cx:=X.ua λ_ _=>False
def Cx.Ok.ua{X:Cx}(ok:X.Ok)(E:f_->g_->Prop):(X.ua E).Ok:=
 ⟨ok.mod,ok.kind,ok.glob,ok.blt,ok.above,ok.inj,ok.has,ok.vO,ok.hd,ok.frames,ok.xt,ok.um,ok.bs,ok.mQ,ok.vD,ok.ue,ok.mz,ok.rW⟩
def Cx.Ok.wK{X:Cx}(ok:(X.ua E).Ok):X.Ok:=
 ⟨ok.mod,ok.kind,ok.glob,ok.blt,ok.above,ok.inj,ok.has,ok.vO,ok.hd,ok.frames,ok.xt,ok.um,ok.bs,ok.mQ,ok.vD,ok.ue,ok.mz,ok.rW⟩
section
variable{X:Cx}{p_:List (e_×cB)}{σ:St}{H:Hp}{s:g_}{E:f_->g_->Prop}
def dc.ua(I:dc X p_ σ H s)(E:f_->g_->Prop):dc (X.ua E) p_ σ H s:=⟨I.ok.ua E,I.os,I.bare,I.base,I.loc,I.cell,I.free,I.jP,I.pin,I.aM,I.len⟩
def dc.wK(I:dc (X.ua E) p_ σ H s):dc X p_ σ H s:=⟨I.ok.wK,I.os,I.bare,I.base,I.loc,I.cell,I.free,I.jP,I.pin,I.aM,I.len⟩
def SP.wK{f:Flow}(h:SP (X.ua E) p_ D f s'):SP X p_ D f s':=by
 cases f with
 | next=>obtain⟨a,H',I,q⟩:=h;exact⟨a,H',I.wK,q⟩
 | brk=>obtain⟨a,H',I,q⟩:=h;exact⟨a,H',I.wK,q⟩
 | cont=>obtain⟨a,H',I,q⟩:=h;exact⟨a,H',I.wK,q⟩
 | ret u=>obtain⟨v,a,H',I,r,q⟩:=h;exact⟨v,a,H',I.wK,r,q⟩
def dM.lH{st:List bM}(h:dM X.lH st t):dM X st t:=λp_ s σ H D I hw=>
 ik (h p_ s σ H D (I.ua _) hw) (λ_ _ q=>q.wK) λ_ _ z=>ip z
end
section
variable{X:Cx}{st:bM}{rest:List bM}{t u:TS}{e:bT}{te:TE}{pos:Pos}
abbrev aj3:TS:=λD σ H=>D.nx σ H
abbrev alM(t u:TS):TS:=λD σ H=>t {D with nx:=u D} σ H
def bQ:dM X [] aj3:=λ_ _ σ H _ I h=>Cr ⟨σ,H,I,h⟩
def aw(h1:PS X st t)(h2:dM X rest u):dM X (st::rest) (alM t u):=by
 intro p_ s σ H D I h;refine wpAny_execs_cons (aT (h1 p_ s σ H {D with nx:=u D} I h) λf s1 q=>?_);cases f with
 | next=>
  obtain⟨a,H',b,q⟩:=q;exact h2 p_ s1 a H' D b q
 | ret v=>exact q
 | brk=>exact q
 | cont=>exact q
def aB(h1:PS X st t):dM X [st] t:=by
 intro p_ s σ H D I h;refine wpAny_execs_cons (aT (h1 p_ s σ H D I h) λf s1 q=>?_);cases f with
 | next=>exact Cr q
 | ret v=>exact q
 | brk=>exact q
 | cont=>exact q
def dc.quiet(I:dc X p_ σ H s):interactive X.env=false:=by simp[interactive,I.ok.kind]
abbrev aj5(te:TE):TS:=λD σ H=>te σ H λ_ H1=>D.nx σ H1
def dY(a:PE X e te)(hs:autoParam (AA e b_ pos.line X.env=pure false) am):PS X (.Expr e pos) (aj5 te):=by
 intro p_ s σ H D I h;exact wpAny_Expr_any (aT (a p_ s σ H _ I h) λv s1⟨x,b,c,f,d⟩=>⟨σ,b,c,d⟩) I.quiet hs
abbrev alN(te:TE):TS:=λD σ H=>te σ H D.rt
def aU(a:PE X e te):PS X (.Return (a_ e) pos) (alN te):=by
 intro p_ s σ H D I h;exact wpAny_Return_some (aT (a p_ s σ H _ I h) λv s1⟨x,b,c,d,f⟩=>⟨x,σ,b,c,d,f⟩)
abbrev alR(c:TT)(t u:TS):TS:=λD σ H=>c σ H λb H1=>if b=c_ then t D σ H1 else u D σ H1
def br{a b:List bM}(j:PT X c tc)(ha:dM X a t)(k:dM X b u):PS X (.If c a b pos) (alR tc t u):=by
 intro p_ s σ H D I h;refine wpAny_If (aT (j p_ s σ H _ I h) λd s1⟨f,g,i⟩=>?_);cases d with
 | true=>exact ha p_ s1 σ f D g i
 | false=>exact k p_ s1 σ f D g i
def ah0:TS:=λ_ _ _=>False
def Mj{a:List bM}:dM X a ah0:=λ_ _ _ _ _ _ h=>h.elim
end
abbrev TG:=V->St->Hp->(St->Hp->Prop)->Prop
abbrev zm:=List V->St->Hp->(St->Hp->Prop)->Prop
def PG(X:Cx)(b:bT)(t:TG):Prop:=
 ∀(p_:List (e_×cB))(s:g_)(σ:St)(H:Hp)(v:V)(u:f_)(Q:St->Hp->Prop),dc X p_ σ H s->df v u->t v σ H Q->
  bz (bK X.prog X.w) X.A (assign b X.env u) (λ_ s'=>∃a H',dc X p_ a H' s'/\Q a H') X.xe s
def Jt(X:Cx)(ts:List bT)(t:zm):Prop:=
 ∀(p_:List (e_×cB))(s:g_)(σ:St)(H:Hp)(vs:List V)(us:List f_)(Q:St->Hp->Prop),dc X p_ σ H s->dn vs us->t vs σ H Q->
  bz (bK X.prog X.w) X.A (assignInOrder ((CD ts X.env).map (·.2)) us) (λ_ s'=>∃a H',dc X p_ a H' s'/\Q a H') X.xe s
abbrev Ek:=V->V->V->Hp->(Hp->Prop)->Prop
def Qn(X:Cx)(t:Ek):Prop:=
 ∀(p_:List (e_×cB))(s:g_)(σ:St)(H:Hp)(o i v:V)(ov a u:f_)(Q:Hp->Prop),dc X p_ σ H s->df o ov->df i a->df v u->t o i v H Q->
  bz (bK X.prog X.w) X.A (setItem ov a u) (λ_ s'=>∃H',dc X p_ σ H' s'/\Q H') X.xe s
abbrev BK:=V->V->Hp->VK->Prop
def Q3(X:Cx)(a:Operator)(t:BK):Prop:=
 ∀(p_:List (e_×cB))(s:g_)(σ:St)(H:Hp)(x y:V)(v u:f_)(Q:VK),dc X p_ σ H s->df x v->df y u->t x y H Q->
  bz (bK X.prog X.w) X.A (inplaceOp a v u) (EP X p_ σ Q) X.xe s
section
variable{X:Cx}{pos:Pos}
abbrev iO(i:Nat):TG:=λv σ H Q=>Q (σ.set i<|a_ v) H
def cW{i:Nat}(hN:X.N.Nodup)(hi:X.N[i]?=a_ x)(a:jp X.env.scope x)(b:X.fn x=c_\/X.env.scope.names.lookup x=a_ .local:=by first | exact .inl xz | exact .inr xz | assumption):PG X (.Name x pos) (iO i):=by
 intro p_ s σ H v u Q I r h;exact wpAny_assign_Name<|Gp I hN hi a r (λs' c=>⟨_,H,c,h⟩) b
def mM:zm:=λvs σ H Q=>vs=[]/\Q σ H
def PB(t:TG)(u:zm):zm:=λvs σ H Q=>∃v r,vs=v::r/\t v σ H λa H'=>u r a H' Q
def wG:Jt X [] mM:=by
 intro p_ s σ H vs us Q I r h;obtain⟨e,h⟩:=h;subst e;cases r;exact assignInOrder_nil ⟨σ,H,I,h⟩
def mq{es:List bT}{u:zm}(h1:PG X e t)(h2:Jt X es u)
  (hs:autoParam ((CD (e::es) X.env).map (·.2)=assign e X.env::(CD es X.env).map (·.2)) am):Jt X (e::es) (PB t u):=by
 intro p_ s σ H vs us Q I r h;obtain⟨v,vr,a,h⟩:=h;subst a;cases r with
 | cons r rr=>
  rw[hs];refine assignInOrder_cons (aT (h1 p_ s σ H _ _ _ I r h) λ_ s1⟨b,c,d,f⟩=>?_);exact h2 p_ s1 b c _ _ Q d rr f
def na(K:u_)(n:Nat)(t:zm):TG:=λv σ H Q=>∃a xs,v=.ref a/\az K H a xs/\xs.length=n/\t xs σ H Q
def wL{es:List bT}{k:Nat}{t:zm}{n:Nat}(d:X.calm=c_)(h:Jt X es t)
  (hn:autoParam ((CD es X.env).length=n) am) (f:autoParam ((CD es X.env).findIdx? (·.1)=none) am):PG X (.Tuple es k pos) (na X.K n t):=by
 intro p_ s σ H v u Q I r hw;obtain⟨a,xs,g,i,j,hw⟩:=hw;subst g;cases r;obtain⟨q,c,l,w⟩:=I.tuple i;refine assign_Tuple_tuple (I.ok.hd d) l (by simp[hn,<-j,c.length]) f λh' m=>?_;have p:dc X p_ σ H {s with heap:=h'}:=I.kept (t':=s.toks) λb o e=>m b o (fh<|bP e) e;exact h p_ _ σ H xs _ Q p (by simpa using c) hw
def amd(a b:TE)(t:Ek):TG:=λv σ H Q=>a σ H λo c=>b σ c λi d=>t o i v d λe=>Q σ e
def AQ{t:Ek}(b:PE X o to)(hi:PE X i ti)(hs:Qn X t)
  (ha:∀v,assign (.Subscript o i pos) X.env v=(do
   let ov <-holding [v] (eval o X.env)
   let a <-holding [v,ov] (eval i X.env)
   standAt pos
   holding [v,ov,a] (setItem ov a v)
   release [v,ov,a] []):=by intro _;rfl):PG X (.Subscript o i pos) (amd to ti t):=by
 intro p_ s σ H v u Q I r h;rw[ha];refine ak<|mj (aT (b p_ s σ H _ I h) λov s1⟨x,c,d,e,f⟩=>?_);refine ak<|mj (aT (hi p_ s1 σ c _ d f) λa s2⟨y,g,j,r2,k⟩=>?_);refine ak<|Ak<|ak<|mj (aT (hs p_ s2 σ g x y v ov a u _ j e r2 r k) λ_ p⟨l,m,n⟩=>?_);exact wpAny_release ⟨σ,l,m,n⟩
abbrev P9(te:TE)(g:TG):TS:=λD σ H=>te σ H λx H1=>g x σ H1 D.nx
def yv(a:PE X e te)(b:PG X tg g)(hs:autoParam (swapsWithSole [tg] e pos.line X.env=pure false) am)(hw:autoParam (swappedStores [tg] e X.env=pure none) am)
  (h1:autoParam ((CD [tg] X.env).map (·.2)=[assign tg X.env]) am):PS X (.Assign [tg] e pos) (P9 te g):=by
 intro p_ s σ H D I h;refine wpAny_Assign_stores (aT (a p_ s σ H _ I h) λv s1⟨x,c,d,f,i⟩=>?_) hs hw;rw[h1];exact aT (b p_ s1 σ c x v _ d f i) λ_ s2 q=>q
def bf{i:Nat}(hN:X.N.Nodup)(hi:X.N[i]?=a_ x)(a:jp X.env.scope x)(b:PE X e te)(hs:autoParam (AA e (a_<|.Name x pos') pos.line X.env=pure false) am)(c:X.fn x=c_\/X.env.scope.names.lookup x=a_ .local:=by first | exact .inl xz | exact .inr xz | assumption):
  PS X (.Assign [.Name x pos'] e pos) (P9 te<|iO i):=by
 intro p_ s σ H D I h;refine wpAny_Assign_Name (aT (b p_ s σ H _ I h) λv s1⟨y,d,f,g,j⟩=>?_) hs;exact Gp f hN hi a g (λs2 k=>⟨_,d,k,j⟩) c
def alT(i:Nat)(te:TE)(a:BK):TS:=λD σ H=>∃x,σ[i]?=a_ (a_ x)/\te σ H λy b=>a x y b λz c=>D.nx (σ.set i<|a_ z) c
def ail{i:Nat}{b:Operator}{f:BK}(hN:X.N.Nodup)(hi:X.N[i]?=a_ x)(d:jp X.env.scope x)(g:PE X e te)(j:Q3 X b f)(n:X.fn x=c_\/X.env.scope.names.lookup x=a_ .local:=by first | exact .inl xz | exact .inr xz | assumption):
  PS X (.AugAssign (.Name x pos') b e pos) (alT i te f):=by
 intro p_ s σ H D I h;obtain⟨v,o,h⟩:=h;obtain⟨m,hn,p⟩:=I.loc;have q:BJ X.env.scope x:=by obtain k|k:=d;exact .inl k;exact .inr (.inl k)
 obtain⟨u,r,l⟩:=p i x v hi o q;refine wpAny_AugAssign_Name ?_
 have go:bz (bK X.prog X.w) X.A (eval e X.env) (λw t=>bz (bK X.prog X.w) X.A (inplaceOp b u w) (λr B=>bz (bK X.prog X.w) X.A (storeName X.env x r) (λ_=>SP X p_ D .next) X.xe B) X.xe t) X.xe s:=by
  refine aT (g p_ s σ H _ I h) λw s1⟨y,C,E,F,G⟩=>?_;refine aT (j p_ s1 σ C v y u w _ E r F G) λz s2⟨Q,J,K,r2,L⟩=>?_;exact Gp K hN hi d r2 (λR M=>⟨_,J,M,L⟩) n
 obtain⟨a,hm⟩|⟨a,c,O,P⟩:=l
 .exact wpAny_loadName_local I.ok.kind a hn hm go
 .obtain a|a:=a
  .exact wpAny_loadName_cell I.ok.kind a O P go
  .obtain k|k:=d
   .have:X.env.scope.names.lookup x=a_ .free:=a;rw[k]at this;cases this
   .have:X.env.scope.names.lookup x=a_ .free:=a;rw[k]at this;cases this
def aj7(a b te:TE)(c:V->V->Hp->VK->Prop)(d:BK)(e:Ek):TS:=λD σ H=>a σ H λo f=>b σ f λi g=>c o i g λx h=>te σ h λy j=>d x y j λz k=>e o i z k λl=>D.nx σ l
def mo(X:Cx)(t:V->V->Hp->VK->Prop):Prop:=
 ∀(p_:List (e_×cB))(s:g_)(σ:St)(H:Hp)(o i:V)(ov a:f_)(Q:VK),dc X p_ σ H s->df o ov->df i a->t o i H Q->
  bz (bK X.prog X.w) X.A (getItem ov a) (EP X p_ σ Q) X.xe s
def agK{b:V->V->Hp->VK->Prop}{c:BK}{d:Ek}{f:Operator}(l:PE X o to)(hi:PE X i ti)(m:mo X b)(n:PE X e te)(p:Q3 X f c)(hs:Qn X d)
  (ha:∀ov a new,augStore i ov a new=(do holding [new,ov,a] (setItem ov a new);release [new,ov,a] [];pure .next):=by intros;rfl):PS X (.AugAssign (.Subscript o i IH) f e pos) (aj7 to ti te b c d):=by
 intro p_ s σ H D I h;refine wpAny_AugAssign_SubscriptAny (aT (l p_ s σ H _ I h) λov s1⟨g,q,r,j,t⟩=>?_) ha;refine aT (hi p_ s1 σ q _ r t) λa s2⟨k,u,w,r2,x⟩=>?_;refine aT (m p_ s2 σ u g k ov a _ w j r2 x) λy z⟨A,B,C,r3,E⟩=>?_;refine aT (n p_ z σ B _ C E) λv F⟨G,J,K,L,M⟩=>?_;refine aT (p p_ F σ J A G y v _ K r3 L M) λnew N⟨O,P,Q,R,S⟩=>?_;exact aT (hs p_ N σ P g k O ov a new _ Q j r2 R S) λ_ Y⟨T,U,W⟩=>⟨σ,T,U,W⟩
def ipI(f:Int->Int->Int):BK:=λx y H Q=>∃i j,x=.int i/\y=.int j/\Q (.int<|f i j) H
def YK:Q3 X .Add (ipI λi j=>i+j):=by
 intro p_ s σ H x y v u Q I a r2 h;obtain⟨i,j,b,c,q⟩:=h;subst b;subst c;obtain⟨t,rfl⟩:=a;obtain⟨t',rfl⟩:=r2;exact iadd_int ⟨.int _,H,I.tok _,⟨_,xz⟩,q⟩
end
section
variable{X:Cx}{pos:Pos}
def ahW(c:TT)(tb:TS):TS:=λD σ H=>∃W:Nat->St->Hp->Prop,(∃m,W m σ H)/\∀m σ H,W m σ H->
 c σ H λb a=>if b=c_ then ∃N:St->Hp->Prop,(∀d H',N d H'->∃e,e<m/\W e d H')/\tb {D with nx:=N,ct:=N,bk:=D.nx} σ a else D.nx σ a
def Wg{body:List bM}(m:lO (bK X.prog X.w) X.A X.env X.xe)(t:PT X c tc)(u:dM X body tb):PS X (.While c body [] pos) (ahW tc tb):=by
 intro p_ s σ H D I h;obtain⟨W,⟨x,w0⟩,turn⟩:=h;refine wpAny_While<|codeAny_whileLoop (λn s'=>∃o H',dc X p_ o H' s'/\W n o H') ?_ x ⟨σ,H,I,w0⟩;rintro n s1 ⟨e,p,y,w1⟩;refine Ah m (aT (t p_ s1 e p _ y<|turn n e p w1) λb s2⟨q,r,g⟩=>?_);cases b with
 | true=>
  obtain⟨N,hN,g⟩:=g;rw[ek rfl];refine Ah m (aT (u p_ s2 e q _ r g) λf z i=>?_);cases f with
  | next=>
   obtain⟨a,d,j,k⟩:=i;obtain⟨l,hm,w3⟩:=hN a d k;exact⟨l,hm,a,d,j,w3⟩
  | cont=>
   obtain⟨a,d,j,k⟩:=i;obtain⟨l,hm,w3⟩:=hN a d k;exact⟨l,hm,a,d,j,w3⟩
  | brk=>exact i
  | ret v=>exact i
 | false=>
  rw[ei dS];exact Cr ⟨e,q,r,g⟩
end
structure It where
 go:Nat->Hp->Prop
 xq:Nat->Hp->V->Hp->Prop
 stop:Nat->Hp->Prop
def dW(X:Cx)(p_:List (e_×cB))(H:Hp)(b:e_):Prop:=
 H b=b_/\b≠X.env.locals/\b∉X.fs/\(b∈X.ex\/X.s₀.heap.objs.size<=b)/\(∀x c,X.env.cells.lookup x=a_ c->c≠b)/\∀p∈X.pn++p_,p.1≠b
def dc.gz{X:Cx}(I:dc X p_ σ H s)(a:s.heap.objs.size<=b)(hn:H' b=b_):dW X p_ H' b:=by
 refine⟨hn,uX<|ff I.lt a,I.aal a,.inr<|cQ I.sz a,λx c e z=>?_,λp d z=>?_⟩
 .obtain⟨v,q⟩:=I.cell x c e;exact eo (ff q.lt<|by rw[z];exact a)<|je _
 .exact eo (ff (bP (I.pin p d).1)<|by rw[z];exact a) (je _)
structure Turn(P:l_)(w:k_)(K:u_)(tg:bT)(J:It)(fp:List e_)(it:e_)(tn:Nat->j_->Prop):Prop where
 mem:it∈fp
 obj:∀i h,tn i h->∀b∈fp,∃o,h.get? b=a_ o/\∀v,o.data≠.cell v
 keep:∀i h h',tn i h->(∀b∈fp,∀o,h.get? b=a_ o->h'.get? b=a_ o)->tn i h'
 item:∀(X:Cx),X.prog=P->X.w=w->X.K=K->X.calm=c_->∀(i:Nat)(p_:List (e_×cB))(s:g_)(σ:St)(H:Hp)(E:f_->g_->Prop),dc X p_ σ H s->(∀b∈fp,dW X p_ H b)->tn i s.heap->J.go i H->
  bz (bK P w) X.A (pyNext (.ref it)) (λr s1=>∃u,r=a_ u/\
   bz (bK P w) X.A (Lj tg (.ref it) u) (λ_ s2=>∃x H',dc X p_ σ H' s2/\df x u/\J.xq i H x H'/\tn (i+1) s2.heap/\∀b∈fp,H' b=b_) E s1) E s
 done:∀(X:Cx),X.prog=P->X.w=w->X.K=K->X.calm=c_->∀(i:Nat)(p_:List (e_×cB))(s:g_)(σ:St)(H:Hp)(E:f_->g_->Prop),dc X p_ σ H s->(∀b∈fp,dW X p_ H b)->tn i s.heap->J.stop i H->
  bz (bK P w) X.A (pyNext<|.ref it) (λr s1=>r=b_/\dc X p_ σ H s1) E s
 self:∀(A:h_)(i:Nat)(s:g_)(Q:f_->g_->Prop)(E:f_->g_->Prop),tn i s.heap->Q (.ref it) s->bz (bK P w) A (pyIter<|.ref it) Q E s
abbrev TI:=St->Hp->(It->Hp->Prop)->Prop
def pr(X:Cx)(p_:List (e_×cB))(σ:St)(tg:bT)(R:It->Hp->Prop)(a:f_)(s2:g_):Prop:=
 ∃(it:e_)(fp:List e_)(tn:Nat->j_->Prop)(J:It)(H':Hp),a=.ref it/\dc X p_ σ H' s2/\Turn X.prog X.w X.K tg J fp it tn/\tn 0 s2.heap/\(∀b∈fp,dW X p_ H' b)/\R J H'
def PI(X:Cx)(tg a:bT)(wi:TI):Prop:=
 ∀(p_:List (e_×cB))(s:g_)(σ:St)(H:Hp)(R:It->Hp->Prop),dc X p_ σ H s->wi σ H R->
  bz (bK X.prog X.w) X.A (eval a X.env) (λv s1=>bz (bK X.prog X.w) X.A (pyIter v) (pr X p_ σ tg R) X.xe s1) X.xe s
def Pz{M:d5}{n:String}{vs:Array f_}{Q:Unit->g_->Prop}(b:s.heap.get? it=a_ o)(c:o.cls=.type n)(hd:o.data=.fields vs)(hn:["enumerate","zip","dict_itemiterator","dict_reverseitemiterator","odict_iterator","itertools.zip_longest","itertools.pairwise"].contains n=d_)(a:Q () s):bz M A (Lj tg (.ref it) u) Q E s:=by
 unfold Lj
 cases tg <;> first
  | exact aO a
  | (cases u <;> first
    | exact aO a
    | (refine ak (wpAny_load b ?_);rw[c,hd];show bz M A (if (["enumerate","zip","dict_itemiterator","dict_reverseitemiterator","odict_iterator","itertools.zip_longest","itertools.pairwise"].contains n&&vs[0]? == a_ (cr _))=c_ then _ else _) Q E s;rw[ei (by intro h;rw[hn,qS]at h;cases h)];exact aO a))
noncomputable def Ez(K:u_)(a:e_):It:=
 ⟨λi H=>∃xs x,aq K H a xs/\xs[i]?=a_ x,λi H x H'=>H'=H/\∀xs,aq K H a xs->xs[i]?=a_ x,λi H=>∃xs,aq K H a xs/\xs.length<=i⟩
noncomputable def py(K:u_)(a:e_):It:=
 ⟨λi H=>∃xs x,az K H a xs/\xs[i]?=a_ x,λi H x H'=>H'=H/\∀xs,az K H a xs->xs[i]?=a_ x,λi H=>∃xs,az K H a xs/\xs.length<=i⟩
def zt(lo:Int)(n:Nat):It:=⟨λi _=>i<n,λi H x H'=>H'=H/\x=.int (lo+i),λi _=>n<=i⟩
def adO{P:l_}{w:k_}{K:u_}(a it:e_):Turn P w K tg (Ez K a) [it] it (λi h=>h.IsListIter it a i) where
 mem:=by simp
 obj:=λi h st b f=>by
  have e:b=it:=by simpa using f
  subst e;obtain⟨o,e,c,d⟩:=st;exact⟨o,e,λv z=>by rw[d]at z;cases z⟩
 keep:=λi h h' st k=>st.at λo e=>k it (by simp) o e
 item:=by
  intro X l hw m D i p_ s σ H E I g st n;subst l hw m;obtain⟨xs,x,j,q⟩:=n;obtain⟨G,r,p,J⟩:=I.list j;obtain⟨u,L,M⟩:=r.get q;obtain⟨t,y,N,A,B,C⟩:=g it (by simp);refine wpAny_pyNext_list_item st p.isList (x:=u) (by simpa using L) λh' F O=>?_;have Q:dc X p_ σ H {s with heap:=h'}:=I.turned (t':=s.toks) (λb o f e=>(O.2 b f).fC e) t y A B C;obtain⟨o,e,c,d⟩:=id F;exact⟨u,xz,Pz (s:={s with heap:=h'}) e c d qc ⟨x,H,Q,M,⟨xz,λys R=>by rw[I.Ww R j];exact q⟩,F,λb f=>(g b f).1⟩⟩
 done:=by
  intro X l hw m D i p_ s σ H E I g st n;subst l hw m;obtain⟨xs,j,q⟩:=n;obtain⟨G,r,p,J⟩:=I.list j;obtain⟨t,y,N,A,B,C⟩:=g it (by simp);have T:=r.length;exact wpAny_pyNext_list_end (I.ok.hd D) st p.isList (by simp;omega) λh' S=>⟨xz,I.turned (t':=s.toks) (λb o f e=>S b o f e) t y A B C⟩
 self:=λ_ _ _ _ _ st h=>wpAny_pyIter_listiter st h
def ac9{P:l_}{w:k_}{K:u_}(a it:e_):Turn P w K tg (py K a) [it] it (λi h=>h.IsTupleIter it a i) where
 mem:=by simp
 obj:=λi h st b f=>by
  have e:b=it:=by simpa using f
  subst e;obtain⟨o,e,c,d⟩:=st;exact⟨o,e,λv z=>by rw[d]at z;cases z⟩
 keep:=λi h h' st k=>st.at λo e=>k it (by simp) o e
 item:=by
  intro X l hw m F i p_ s σ H E I g st n;subst l hw m;obtain⟨xs,x,j,q⟩:=n;obtain⟨r,t,p,J⟩:=I.tuple j;obtain⟨u,L,M⟩:=t.get q;obtain⟨y,A,N,B,C,D⟩:=g it (by simp);refine wpAny_pyNext_tuple_item st (show s.heap.IsTuple a r.toArray from p) (x:=u) (by simpa using L) λh' G O=>?_;have Q:dc X p_ σ H {s with heap:=h'}:=I.turned (t':=s.toks) (λb o f e=>(O.2 b f).fC e) y A B C D;obtain⟨o,e,c,d⟩:=id G;exact⟨u,xz,Pz (s:={s with heap:=h'}) e c d qc ⟨x,H,Q,M,⟨xz,λys R=>by rw[I.Va R j];exact q⟩,G,λb f=>(g b f).1⟩⟩
 done:=by
  intro X l hw m F i p_ s σ H E I g st n;subst l hw m;obtain⟨xs,j,q⟩:=n;obtain⟨r,t,p,J⟩:=I.tuple j;obtain⟨y,A,N,B,C,D⟩:=g it (by simp);have T:=t.length;exact wpAny_pyNext_tuple_end (I.ok.hd F) st (show s.heap.IsTuple a r.toArray from p) (by simp;omega) λh' S=>⟨xz,I.turned (t':=s.toks) (λb o f e=>S b o f e) y A B C D⟩
 self:=λ_ _ _ _ _ st h=>wpAny_pyIter_tupleiter st h
def ac'{P:l_}{w:k_}{K:u_}(it:e_)(lo:Int)(n:Nat):Turn P w K tg (zt lo n) [it] it (λi h=>IsRangeIter h it (lo+(i:Nat)*1) ((n:Int)-(i:Nat)) 1) where
 mem:=by simp
 obj:=λi h st b a=>by
  have e:b=it:=by simpa using a
  subst e
  exact⟨_,st,λv z=>by
   have x:Data.fields _=Data.cell v:=z;cases x⟩
 keep:=λi h h' st k=>k it (by simp) _ st
 item:=by
  intro X d hw f g i p_ s σ H E I c st j;subst d hw f;obtain⟨l,m,y,p,q,r⟩:=c it (by simp);have W:=Walks.range (prog:=X.prog) (w:=X.w) (I.ok.hd g) it lo 1 n;refine W.item i s _ _ j st λv h' tk hv u A=>?_;obtain⟨t,rfl⟩:=hv;have B:dc X p_ σ H {s with heap:=h',toks:=tk}:=I.turned (λb o a e=>A b o (by simpa using a) e) l m p q r;refine⟨_,xz,Pz (s:={s with heap:=h',toks:=tk}) (n:="range_iterator") u xz xz qc ⟨.int<|lo+i,H,B,⟨t,?_⟩,⟨xz,xz⟩,u,λb a=>(c b a).1⟩⟩;rw[Int.mul_one]
 done:=by
  intro X d hw f g i p_ s σ H E I c st j;subst d hw f;obtain⟨l,m,y,p,q,r⟩:=c it (by simp);exact wpAny_pyNext_range_end (I.ok.hd g) st (by have:n<=i:=j;omega) λh' C=>⟨xz,I.turned (t':=s.toks) (λb o a e=>C b o a e) l m p q r⟩
 self:=λ_ _ _ _ _ st h=>wpAny_pyIter_rangeiter st h
section
variable{X:Cx}{tg:bT}
def akJ(K:u_)(tl:TE):TI:=λσ H R=>tl σ H λx b=>∃a,x=.ref a/\(∃xs,aq K b a xs)/\R (Ez K a) b
def ni(K:u_)(tl:TE):TI:=λσ H R=>tl σ H λx b=>∃a,x=.ref a/\(∃xs,az K b a xs)/\R (py K a) b
def qY(d:PE X l tl):PI X tg l (akJ X.K tl):=by
 intro p_ s σ H R I h;refine aT (d p_ s σ H _ I h) λv s1⟨x,f,c,g,i⟩=>?_;obtain⟨a,e,⟨xs,j⟩,q⟩:=i;subst e;cases g;obtain⟨m,n,p,r⟩:=c.list j;refine KU p.isList ?_;refine⟨s1.heap.objs.size,[s1.heap.objs.size],_,_,f,xz,c.kept (t':=s1.toks) λb o e=>bo _ e,adO a _,⟨_,iF _ xz,xz,xz⟩,λb k=>?_,q⟩;have e:b=s1.heap.objs.size:=by simpa using k
 subst e;exact c.gz (aD _)<|c.aM.fresh<|aD _
def vp(d:PE X l tl):PI X tg l (ni X.K tl):=by
 intro p_ s σ H R I h;refine aT (d p_ s σ H _ I h) λv s1⟨x,f,c,g,i⟩=>?_;obtain⟨a,e,⟨xs,j⟩,q⟩:=i;subst e;cases g;obtain⟨k,n,p,r⟩:=c.tuple j;refine wpAny_pyIter_tuple (show s1.heap.IsTuple a k.toArray from p) ?_;refine⟨s1.heap.objs.size,[s1.heap.objs.size],_,_,f,xz,c.kept (t':=s1.toks) λb o e=>bo _ e,ac9 a _,⟨_,iF _ xz,xz,xz⟩,λb m=>?_,q⟩;have e:b=s1.heap.objs.size:=by simpa using m
 subst e;exact c.gz (aD _)<|c.aM.fresh<|aD _
def ae2{R:It->Hp->Prop}{lo hi:Int}{t u v:Tok}{tk:Nat}(I:dc X p_ σ H s)(h1:-(2^62)<=lo)(h2:lo<2^62)(h3:-(2^62)<=hi)(h4:hi<2^62)(q:R (zt lo (hi-lo).toNat) H):bz (bK X.prog X.w) X.A (pyIter<|.ref s.heap.objs.size) (pr X p_ σ tg R) E {s with heap:=s.heap.push {cls:=.type "range",data:=.fields #[.int lo t,.int hi u,.int 1 v]},toks:=tk}:=by
 refine wpAny_pyIter_range (IsRange.new ..) (small_one h1 h2 h3 h4) ?_;have a:dc X p_ σ H {s with heap:=s.heap.push {cls:=.type "range",data:=.fields #[.int lo t,.int hi u,.int 1 v]},toks:=tk}:=I.kept λb o e=>bo _ e;refine⟨(s.heap.push {cls:=.type "range",data:=.fields #[.int lo t,.int hi u,.int 1 v]}).objs.size,[(s.heap.push {cls:=.type "range",data:=.fields #[.int lo t,.int hi u,.int 1 v]}).objs.size],_,_,H,xz,a.kept (t':=tk) λb o e=>bo _ e,ac' _ lo (hi-lo).toNat,?_,λb c=>?_,q⟩
 .have d:lo+((0:Nat):Int)*1=lo:=by simp
  have f:(((hi-lo).toNat:Nat):Int)-((0:Nat):Int)=Builtin.Range.rangeSize lo hi 1:=by rw[rangeSize_one];split <;> omega
  show IsRangeIter _ _ (lo+((0:Nat):Int)*1) ((((hi-lo).toNat:Nat):Int)-((0:Nat):Int)) 1;rw[d,f];exact iF _ xz
 .have e:b=(s.heap.push {cls:=.type "range",data:=.fields #[.int lo t,.int hi u,.int 1 v]}).objs.size:=by simpa using c
  subst e;exact a.gz (aD _)<|a.aM.fresh<|aD _
def akI(a:TA):TI:=λσ H R=>a σ H λvs b=>∃j:Int,vs=[.int j]/\-(2^62)<=j/\j<2^62/\R (zt 0 j.toNat) b
def oM(c:Gl X "range")(hm:X.mg "range"=b_)(ha:PA X [a] ta)(hs:autoParam (cg [a] X.env=[(d_,eval a X.env)]) am):PI X tg (.Call (.Name "range" p) [a] [] pos) (akI ta):=by
 intro p_ s σ H R I h;refine Call_<|yx I c hm boot_range<|Ky (aT (ha pos p_ s σ H _ I h) λus s1⟨vs,k,d,f,b⟩=>?_) hs xz;obtain⟨j,e,b,g,q⟩:=b;subst e;cases f with
 | cons r i=>
  cases i;obtain⟨t,rfl⟩:=r;exact call_range_1<|ae2 d om om b g (by simpa using q)
def alS(wi:TI)(g:TG)(tb:TS):TS:=λD σ H=>wi σ H λJ c=>∃W:Nat->Nat->St->Hp->Prop,(∃m,W 0 m σ c)/\∀i m σ H,W i m σ H->
 (J.stop i H/\D.nx σ H)\/(J.go i H/\∃N:St->Hp->Prop,(∀a H',N a H'->∃b,b<m/\W (i+1) b a H')/\∀x H',J.xq i H x H'->g x σ H' λd e=>tb {D with nx:=N,ct:=N,bk:=D.nx} d e)
def Di(fp:List e_)(h:j_):List (e_×cB):=fp.filterMap λb=>(h.get? b).map λo=>(b,o)
def Ax{fp:List e_}(a:b∈fp)(e:h.get? b=a_ o):(b,o)∈Di fp h:=KR.mpr ⟨b,a,by rw[e];rfl⟩
def Vo{fp:List e_}{p:e_×cB}(a:p∈Di fp h):p.1∈fp/\h.get? p.1=a_ p.2:=by
 obtain⟨b,c,e⟩:=KR.mp a;cases q:h.get? b with
 | none=>rw[q]at e;cases e
 | some o=>
  rw[q]at e;have d:(b,o)=p:=eG e;subst d;exact⟨c,q⟩
def dc.pinned{fp:List e_}(I:dc X p_ σ H s)(f:∀b∈fp,dW X p_ H b)(g:∀b∈fp,∃o,s.heap.get? b=a_ o/\∀v,o.data≠.cell v):dc X (p_++Di fp s.heap) σ H s:=
 I.wF λp h=>(i6.mp h).elim (λz=>I.pin p<|ig _ z) λz=>by
  obtain⟨a,e⟩:=Vo z;obtain⟨i,j,k,_⟩:=f p.1 a;obtain⟨o,c,d⟩:=g p.1 a;rw[e]at c;cases c;exact⟨e,i,j,k,d⟩
def dc.Gn(I:dc X (p_++pl) σ H s):dc X p_ σ H s:=I.wF λp a=>I.pin p<|ig _<|pU _ a
def tM{body:List bM}{wi:TI}(p:lO (bK X.prog X.w) X.A X.env X.xe)(G:X.calm=c_)(hi:PI X tg iter wi)(U:PG X tg g)(a:dM X body tb)
  (hs:∀x,KW iter X.env x=pure x:=by intro _;rfl):PS X (.For tg iter body [] pos) (alS wi g tb):=by
 intro p_ s σ H D I h;refine wpAny_For (aT (hi p_ s σ H _ I h) λv s1 h1=>aT h1 λEK s2 h2=>?_) hs;obtain⟨it,fp,tn,J,V,e,Y,T,Z,K,W,⟨m0,w0⟩,turn⟩:=h2;subst e;have B:∀{H':Hp},(∀b∈fp,H' b=b_)->∀b∈fp,dW X p_ H' b:=λhn b a=>⟨hn b a,(K b a).2⟩;refine codeAny_forLoop_any (λn s'=>∃i q H',dc X p_ q H' s'/\tn i s'.heap/\(∀b∈fp,H' b=b_)/\W i n q H') ?_ m0 ⟨0,σ,V,Y,Z,λb a=>(K b a).1,w0⟩;rintro n L ⟨i,t,z,M,O,P,w3⟩;obtain⟨stop,qn⟩|⟨go,N,hN,step⟩:=turn i n t z w3
 .refine Ah p (aT (T.done X xz xz xz G i p_ L t z X.xe M (B P) O stop) λr s4⟨C,I4⟩=>?_);subst C;exact Cr ⟨t,z,I4,qn⟩
 .refine Ah p (aT (T.item X xz xz xz G i p_ L t z X.xe M (B P) O go) λr s4⟨u,C,h4⟩=>?_);subst C;refine Ah p (aT h4 λ_ Q⟨x,R,I5,r5,y5,E,SD⟩=>?_);have SM:=I5.pinned (B SD)<|T.obj _ _ E;refine Ah p (aT (U _ Q t R x u _ SM r5<|step x R y5) λ_ s6⟨σ6,H6,I6,q6⟩=>?_);refine Ah p (aT (a _ s6 σ6 H6 _ I6 q6) λf F l=>?_)
  have S:∀{c:St}{j:Hp},dc X (p_++Di fp Q.heap) c j F->N c j->∃m,m<n/\∃i q H',dc X p_ q H' F/\tn i F.heap/\(∀b∈fp,H' b=b_)/\W i m q H':=λ{c j}k y=>by
   obtain⟨m',hm,w7⟩:=hN c j y;refine⟨m',hm,i+1,c,j,k.Gn,T.keep _ _ _ E λb a o e=>(k.pin (b,o)<|ig _<|ig _<|Ax a e).1,λb a=>?_,w7⟩;obtain⟨o,e,d⟩:=T.obj _ _ E b a;exact(k.pin (b,o)<|ig _<|ig _<|Ax a e).2.1
  cases f with
  | next=>obtain⟨c,j,k,y⟩:=l;exact S k y
  | cont=>obtain⟨c,j,k,y⟩:=l;exact S k y
  | brk=>obtain⟨c,j,k,l⟩:=l;exact⟨c,j,k.Gn,l⟩
  | ret v=>obtain⟨x7,c,j,k,r7,l⟩:=l;exact⟨x7,c,j,k.Gn,r7,l⟩
end
def Gy{K:u_}{a:e_}{xs:List V}{g:TG}{tb:TS}{D:Ends}{σ:St}{H:Hp}(b:Nat->St->Hp->Prop)(k:b 0 σ H)(l:∀i σ H,i<=xs.length->b i σ H->aq K H a xs)(hs:∀i x σ H,xs[i]?=a_ x->b i σ H->g x σ H λc d=>tb {D with nx:=b<|i+1,ct:=b<|i+1,bk:=D.nx} c d)(hd:∀σ H,b xs.length σ H->D.nx σ H):∃W:Nat->Nat->St->Hp->Prop,(∃m,W 0 m σ H)/\∀i m σ H,W i m σ H->((Ez K a).stop i H/\D.nx σ H)\/((Ez K a).go i H/\∃N:St->Hp->Prop,(∀f H',N f H'->∃h,h<m/\W (i+1) h f H')/\∀x H',(Ez K a).xq i H x H'->g x σ H' λc d=>tb {D with nx:=N,ct:=N,bk:=D.nx} c d):=by
 refine⟨λi m σ H=>m=xs.length-i/\i<=xs.length/\b i σ H,⟨xs.length,by simp,bJ _,k⟩,?_⟩;rintro i m σ H ⟨rfl,hi,p⟩;have q:=l i σ H hi p
 by_cases j:i<xs.length
 .refine .inr ⟨⟨xs,xs[i],q,by simp[j]⟩,b<|i+1,λf H' n=>⟨xs.length-(i+1),om,xz,j,n⟩,λx H' y=>?_⟩;obtain⟨e,y⟩:=y;subst e;exact hs i x σ _ (y xs q) p
 .have e:i=xs.length:=om;subst e;exact .inl ⟨⟨xs,q,aD _⟩,hd σ H p⟩
def Mr{lo:Int}{n:Nat}{g:TG}{tb:TS}{D:Ends}{σ:St}{H:Hp}(a:Nat->St->Hp->Prop)(j:a 0 σ H)(hs:∀i σ H,i<n->a i σ H->g (.int<|lo+i) σ H λb c=>tb {D with nx:=a<|i+1,ct:=a<|i+1,bk:=D.nx} b c)(hd:∀σ H,a n σ H->D.nx σ H):∃W:Nat->Nat->St->Hp->Prop,(∃m,W 0 m σ H)/\∀i m σ H,W i m σ H->((zt lo n).stop i H/\D.nx σ H)\/((zt lo n).go i H/\∃N:St->Hp->Prop,(∀d H',N d H'->∃h,h<m/\W (i+1) h d H')/\∀x H',(zt lo n).xq i H x H'->g x σ H' λb c=>tb {D with nx:=N,ct:=N,bk:=D.nx} b c):=by
 refine⟨λi m σ H=>m=n-i/\i<=n/\a i σ H,⟨n,by simp,bJ _,j⟩,?_⟩;rintro i m σ H ⟨rfl,hi,p⟩
 by_cases f:i<n
 .refine .inr ⟨f,a<|i+1,λd H' k=>⟨n-(i+1),om,xz,f,k⟩,λx H' y=>?_⟩;obtain⟨e,y⟩:=y;subst e y;exact hs i σ _ f p
 .have e:i=n:=om;subst e;exact .inl ⟨aD _,hd σ H p⟩
abbrev R2:=V->V->Hp->VK->Prop
def fG(X:Cx)(f:f_->f_->Sem f_)(r:R2):Prop:=
 ∀(p_:List (e_×cB))(s:g_)(σ:St)(H:Hp)(x y:V)(v u:f_)(Q:VK),dc X p_ σ H s->df x v->df y u->r x y H Q->
  bz (bK X.prog X.w) X.A (f v u) (EP X p_ σ Q) X.xe s
def Q2(X:Cx)(f:f_->Sem f_)(r:V->Hp->VK->Prop):Prop:=
 ∀(p_:List (e_×cB))(s:g_)(σ:St)(H:Hp)(x:V)(v:f_)(Q:VK),dc X p_ σ H s->df x v->r x H Q->
  bz (bK X.prog X.w) X.A (f v) (EP X p_ σ Q) X.xe s
def my(X:Cx)(f:f_)(r:List V->Hp->VK->Prop):Prop:=
 ∀(p_:List (e_×cB))(s:g_)(σ:St)(H:Hp)(xs:List V)(us:List f_)(Q:VK),dc X p_ σ H s->dn xs us->r xs H Q->
  bz (bK X.prog X.w) X.A (call f us) (EP X p_ σ Q) X.xe s
abbrev By(r:R2)(ta tb:TE):TE:=λσ H Q=>ta σ H λx H1=>tb σ H1 λy H2=>r x y H2 Q
abbrev tUn(r:V->Hp->VK->Prop)(ta:TE):TE:=λσ H Q=>ta σ H λx H1=>r x H1 Q
def rI(C:Int->Int->Prop)(g:Int->Int->V):R2:=λx y H Q=>∃i j,x=.int i/\y=.int j/\C i j/\Q (g i j) H
def yW(g:Int->Int->V):R2:=λx y H Q=>∃i j,x=.int i/\y=.int j/\Q (g i j) H
def rU(g:Int->V):V->Hp->VK->Prop:=λx H Q=>∃i,x=.int i/\Q (g i) H
section
variable{X:Cx}{a b c:bT}{ta tb tc:TE}{pos:Pos}
def Qm(ha:PE X a ta)(g:PE X b tb){R:V->V->Hp->Prop}(I:dc X p_ σ H s)(h:ta σ H λx e=>tb σ e λy d=>R x y d){f:f_->f_->Sem f_}(i:∀v u s2 x y d,dc X p_ σ d s2->df x v->df y u->R x y d->bz (bK X.prog X.w) X.A (f v u) Q X.xe s2):bz (bK X.prog X.w) X.A (eval a X.env) (λv j=>bz (bK X.prog X.w) X.A (eval b X.env) (λu k=>bz (bK X.prog X.w) X.A (f v u) Q X.xe k) X.xe j) X.xe s:=by
 refine aT (ha p_ s σ H _ I h) λv s1⟨x,e,l,m,n⟩=>?_;refine aT (g p_ s1 σ e _ l n) λu s2⟨y,d,o,r2,p⟩=>?_;exact i v u s2 x y d o m r2 p
def aG{d:Operator}{r:R2}(e:fG X (oO d) r)(ha:PE X a ta)(f:PE X b tb):PE X (.BinOp a d b pos) (By r ta tb):=by
 intro p_ s σ H Q I h;exact wpAny_BinOp (Qm ha f I h λv u s2 x y g i j k q=>e p_ s2 σ g x y v u Q i j k q)
def Zr{d:UnaryOp}{r:V->Hp->VK->Prop}(e:Q2 X (unaryOp d) r)(ha:PE X a ta):PE X (.UnaryOp d a pos) (tUn r ta):=by
 intro p_ s σ H Q I h;exact UnaryOp_ (aT (ha p_ s σ H _ I h) λv s1⟨x,f,g,i,j⟩=>e p_ s1 σ f x v Q g i j)
def Et{f:f_->f_->Sem f_}{C:Int->Int->Prop}{g:Int->Int->Int}(d:∀(i j:Int)(t u:Tok)(s:g_)(Q:f_->g_->Prop)(E:f_->g_->Prop),C i j->Q (.int (g i j) s.toks) {s with toks:=s.toks+1}->bz (bK X.prog X.w) X.A (f (.int i t)<|.int j u) Q E s):fG X f (rI C λi j=>.int<|g i j):=by
 intro p_ s σ H x y v u Q I e k h;obtain⟨i,j,rfl,rfl,l,q⟩:=h;obtain⟨t,rfl⟩:=e;obtain⟨t',rfl⟩:=k;exact d i j t t' s _ _ l ⟨.int<|g i j,H,I.tok _,⟨_,xz⟩,q⟩
def nP{f:f_->f_->Sem f_}{g:Int->Int->Int}(d:∀(i j:Int)(t u:Tok)(s:g_)(Q:f_->g_->Prop)(E:f_->g_->Prop),Q (.int (g i j) s.toks) {s with toks:=s.toks+1}->bz (bK X.prog X.w) X.A (f (.int i t)<|.int j u) Q E s):fG X f (yW λi j=>.int<|g i j):=by
 intro p_ s σ H x y v u Q I e k h;obtain⟨i,j,rfl,rfl,q⟩:=h;obtain⟨t,rfl⟩:=e;obtain⟨t',rfl⟩:=k;exact d i j t t' s _ _ ⟨.int<|g i j,H,I.tok _,⟨_,xz⟩,q⟩
def Qi{f:f_->f_->Sem f_}{g:Int->Int->Bool}(d:∀(i j:Int)(t u:Tok)(s:g_)(Q:f_->g_->Prop)(E:f_->g_->Prop),Q (.bool<|g i j) s->bz (bK X.prog X.w) X.A (f (.int i t)<|.int j u) Q E s):fG X f (yW λi j=>.bl<|g i j):=by
 intro p_ s σ H x y v u Q I e k h;obtain⟨i,j,rfl,rfl,q⟩:=h;obtain⟨t,rfl⟩:=e;obtain⟨t',rfl⟩:=k;exact d i j t t' s _ _ ⟨.bl<|g i j,H,I,xz,q⟩
def amj(i j:Int):Prop:=0<j/\j<1073741824
def ami(i j:Int):Prop:=0<=j/\j<=1000000/\i.natAbs<2^64
def Qp(i j:Int):Prop:=(-(2^64)<i/\i<2^64)\/(-(2^64)<j/\j<2^64)
def Qp.ok{i j:Int}(h:Qp i j):IntMulOk i j:=by
 obtain⟨h1,h2⟩|⟨h1,h2⟩:=h
 .exact .of_left (intBits_le_64 h1 h2)
 .exact .of_right (intBits_le_64 h1 h2)
def fQ:fG X (oO .Add) (yW λi j=>.int<|i+j):=nP λ_ _ _ _ _ _ _ q=>add_int q
def Dk:fG X (oO .Sub) (yW λi j=>.int<|i-j):=nP λ_ _ _ _ _ _ _ q=>sub_int q
def vq:fG X (oO .Mult) (rI Qp λi j=>.int<|i*j):=Et λ_ _ _ _ _ _ _ d q=>mul_int q d.ok
def fE:fG X (oO .FloorDiv) (rI amj λi j=>.int<|i/j):=Et λi j _ _ _ _ _ d q=>by
 have h1:(0:Int)<j:=d.1;have h2:j<1073741824:=d.2;exact floordiv_int om (by rw[Int.fdiv_eq_ediv_of_nonneg i om];exact q)<|.inl<|PyProof.noPylong_small om
def cV:fG X (oO .Mod) (rI (λ_ j=>0<j) λi j=>.int<|i%j):=Et λi j _ _ _ _ _ d q=>by
 have h1:(0:Int)<j:=d;exact mod_int' om (by rw[Int.fmod_eq_emod_of_nonneg i om];exact q)
def Dl:fG X (oO .Pow) (rI ami λi j=>.int<|i^j.toNat):=Et λ_ _ _ _ _ _ _ d q=>pow_int_small d.1 d.2.1 d.2.2 q
def unI{f:f_->Sem f_}{g:Int->Int}(d:∀(i:Int)(t:Tok)(s:g_)(Q:f_->g_->Prop)(E:f_->g_->Prop),Q (.int (g i) s.toks) {s with toks:=s.toks+1}->bz (bK X.prog X.w) X.A (f<|.int i t) Q E s):Q2 X f (rU λi=>.int<|g i):=by
 intro p_ s σ H x v Q I e h;obtain⟨i,rfl,q⟩:=h;obtain⟨t,rfl⟩:=e;exact d i t s _ _ ⟨.int<|g i,H,I.tok _,⟨_,xz⟩,q⟩
def X6:Q2 X (unaryOp .USub) (rU λi=>.int<|-i):=unI λ_ _ _ _ _ q=>neg_int q
end
noncomputable def oI:V->V->Bool
 | .aH,.aH=>c_ | .aH,.int _=>c_ | .int _,.aH=>c_ | .aH,.bl _=>c_ | .bl _,.aH=>c_ | .aH,.str _=>c_ | .str _,.aH=>c_
 | .int _,.int _=>c_ | .bl _,.bl _=>c_ | .str _,.str _=>c_ | .pD _,.pD _=>c_
 | .int _,.str _=>c_ | .str _,.int _=>c_ | .bl _,.str _=>c_ | .str _,.bl _=>c_
 | _,_=>d_
def rEq:R2:=λx y H Q=>oI x y=c_/\Q (.bl<|decide<|x=y) H
def rNe:R2:=λx y H Q=>oI x y=c_/\Q (.bl<|!decide (x=y)) H
def Ho{i j:Int}:decide (V.int i=V.int j)=(i==j):=by
 rw[Ln];simp
def Y0{i j:Bool}:decide (V.bl i=V.bl j)=(i==j):=by
 rw[Ln];simp
def XO:decide (V.str i=V.str j)=(i==j):=by
 rw[Ln];simp
def XQ{i j:Array UInt8}:decide (V.pD i=V.pD j)=(i.toList==j.toList):=by
 rw[Ln];cases i;cases j;simp
section
variable{X:Cx}{a b c:bT}{ta tb tc:TE}{pos:Pos}
def fR{k k':Bool}(I:dc X p_ σ H s)(q:Q (.bl k) H)(e:k=k'):EP X p_ σ Q (.bool k') s:=by
 subst e;exact⟨.bl k,H,I,xz,q⟩
def dm:fG X (jL .Eq) rEq:=by
 intro p_ s σ H x y v u Q I e d h;obtain⟨hs,q⟩:=h;cases x with
 | aH=>
  cases e;cases y with
  | aH=>cases d;exact PySem.EqNone.eq_none_none<|fR I q (by simp)
  | bl j=>cases d;exact PySem.EqNone.eq_none_bool<|fR I q (by simp)
  | int j=>obtain⟨t',rfl⟩:=d;exact PySem.EqNone.eq_none_int<|fR I q (by simp)
  | str j=>obtain⟨t',rfl⟩:=d;exact PySem.EqNone.eq_none_str<|fR I q (by simp)
  | _=>exact eo (show d_=c_ from hs) dS
 | bl i=>
  cases e;cases y with
  | aH=>cases d;exact PySem.EqNone.eq_bool_none<|fR I q (by simp)
  | bl j=>cases d;exact eq_bool<|fR I q Y0
  | str j=>obtain⟨t',rfl⟩:=d;exact PySem.EqMixed.eq_bool_str<|fR I q (by simp)
  | _=>exact eo (show d_=c_ from hs) dS
 | int i=>
  obtain⟨t,rfl⟩:=e;cases y with
  | aH=>cases d;exact PySem.EqNone.eq_int_none<|fR I q (by simp)
  | int j=>obtain⟨t',rfl⟩:=d;exact eq_int<|fR I q Ho
  | str j=>obtain⟨t',rfl⟩:=d;exact PySem.EqMixed.eq_int_str<|fR I q (by simp)
  | _=>exact eo (show d_=c_ from hs) dS
 | str i=>
  obtain⟨t,rfl⟩:=e;cases y with
  | aH=>cases d;exact PySem.EqNone.eq_str_none<|fR I q (by simp)
  | bl j=>cases d;exact PySem.EqMixed.eq_str_bool<|fR I q (by simp)
  | int j=>obtain⟨t',rfl⟩:=d;exact PySem.EqMixed.eq_str_int<|fR I q (by simp)
  | str j=>obtain⟨t',rfl⟩:=d;exact eq_str<|fR I q XO
  | _=>exact eo (show d_=c_ from hs) dS
 | pD i=>
  obtain⟨t,rfl⟩:=e;cases y with
  | pD j=>obtain⟨t',rfl⟩:=d;exact W.eq_bytes<|fR I q XQ
  | _=>exact eo (show d_=c_ from hs) dS
 | _=>cases y <;> exact eo (show d_=c_ from hs) dS
def akj:fG X (jL .NotEq) rNe:=by
 intro p_ s σ H x y v u Q I e d h;obtain⟨hs,q⟩:=h;cases x with
 | aH=>
  cases e;cases y with
  | aH=>cases d;exact PySem.EqNone.ne_none_none<|fR I q (by simp)
  | bl j=>cases d;exact PySem.EqNone.ne_none_bool<|fR I q (by simp)
  | int j=>obtain⟨t',rfl⟩:=d;exact PySem.EqNone.ne_none_int<|fR I q (by simp)
  | str j=>obtain⟨t',rfl⟩:=d;exact PySem.EqNone.ne_none_str<|fR I q (by simp)
  | _=>exact eo (show d_=c_ from hs) dS
 | bl i=>
  cases e;cases y with
  | aH=>cases d;exact PySem.EqNone.ne_bool_none<|fR I q (by simp)
  | bl j=>cases d;exact ne_bool<|fR I q<|fw not Y0
  | str j=>obtain⟨t',rfl⟩:=d;exact PySem.EqMixed.ne_bool_str<|fR I q (by simp)
  | _=>exact eo (show d_=c_ from hs) dS
 | int i=>
  obtain⟨t,rfl⟩:=e;cases y with
  | aH=>cases d;exact PySem.EqNone.ne_int_none<|fR I q (by simp)
  | int j=>obtain⟨t',rfl⟩:=d;exact ne_int<|fR I q<|fw not Ho
  | str j=>obtain⟨t',rfl⟩:=d;exact PySem.EqMixed.ne_int_str<|fR I q (by simp)
  | _=>exact eo (show d_=c_ from hs) dS
 | str i=>
  obtain⟨t,rfl⟩:=e;cases y with
  | aH=>cases d;exact PySem.EqNone.ne_str_none<|fR I q (by simp)
  | bl j=>cases d;exact PySem.EqMixed.ne_str_bool<|fR I q (by simp)
  | int j=>obtain⟨t',rfl⟩:=d;exact PySem.EqMixed.ne_str_int<|fR I q (by simp)
  | str j=>obtain⟨t',rfl⟩:=d;exact ne_str<|fR I q<|fw not XO
  | _=>exact eo (show d_=c_ from hs) dS
 | pD i=>
  obtain⟨t,rfl⟩:=e;cases y with
  | pD j=>obtain⟨t',rfl⟩:=d;exact W.ne_bytes<|fR I q<|fw not XQ
  | _=>exact eo (show d_=c_ from hs) dS
 | _=>cases y <;> exact eo (show d_=c_ from hs) dS
def wN:fG X (jL .Lt) (yW λi j=>.bl<|decide<|i<j):=Qi λ_ _ _ _ _ _ _ q=>lt_int q
def HW:fG X (jL .LtE) (yW λi j=>.bl<|decide<|i<=j):=Qi λ_ _ _ _ _ _ _ q=>le_int q
def HX:fG X (jL .Gt) (yW λi j=>.bl<|decide<|j<i):=Qi λ_ _ _ _ _ _ _ q=>gt_int q
def Yu:fG X (jL .Is) (λx y H Q=>y=.aH/\Q (.bl<|decide<|x=.aH) H):=by
 intro p_ s σ H x y v u Q I d e h;obtain⟨rfl,q⟩:=h;cases e;refine is_none_gen<|fR I q ?_
 cases x <;> first
  | (cases d;rfl)
  | (obtain⟨t,rfl⟩:=d;rfl)
def bG(b:bT){d:CmpOp}(h:autoParam (d≠.In) ap)(h2:autoParam (d≠.NotIn) ap):yc d b=false:=by
 have e:(d==CmpOp.In)=false:=by cases d <;> first | rfl | exact eo xz h
 have f:(d==CmpOp.NotIn)=false:=by cases d <;> first | rfl | exact eo xz h2
 cases b <;> simp[yc,e,f]
def wH{d:CmpOp}{r:R2}(e:fG X (jL d) r)(ha:PE X a ta)(f:PE X b tb)(hm:yc d b=d_):PE X (.Compare a [d] [b] pos) (By r ta tb):=by
 intro p_ s σ H Q I h;exact wpAny_Compare1 (Qm ha f I h λv u s2 x y g i j k q=>e p_ s2 σ g x y v u Q i j k q) hm
abbrev Zf(t:TE):TT:=λσ H Q=>t σ H λx H'=>∃k,x=.bl k/\Q k H'
def bR{d:CmpOp}{r:R2}(f:fG X (jL d) r)(ha:PE X a ta)(g:PE X b tb)(hm:yc d b=d_):PT X (.Compare a [d] [b] pos) (Zf<|By r ta tb):=by
 intro p_ s σ H Q I h
 refine abx (aT (ha p_ s σ H _ I h) λv s1⟨x,i,j,l,m⟩=>aT (g p_ s1 σ i _ j m) λu s2⟨y,n,o,r2,p⟩=>
  aT (f p_ s2 σ n x y v u _ o l r2 p) λc A⟨z,q,t,r3,k,e,w⟩=>?_) hm
 subst e;cases r3;exact qO ⟨q,t,w⟩
def X'(r e:R2)(ta tb tc:TE):TE:=λσ H Q=>ta σ H λx f=>tb σ f λy g=>r x y g λz d=>∃k,z=.bl k/\
 (if k=c_ then tc σ d λh i=>e y h i Q else Q (.bl d_) d)
def afc{f g:CmpOp}{r i:R2}(n:fG X (jL f) r)(o:fG X (jL g) i)(ha:PE X a ta)(p:PE X b tb)(q:PE X c tc)
  (hm:autoParam (lastMarks [f,g] [b,c]=false) b7):PE X (.Compare a [f,g] [b,c] pos) (X' r i ta tb tc):=by
 intro p_ s σ H Q I h
 refine Compare_chain (aT (ha p_ s σ H _ I h) λv s1⟨x,t,w,A,B⟩=>chain_link (aT (p p_ s1 σ t _ w B) λu s2⟨y,C,D,r2,E⟩=>
  aT (n p_ s2 σ C x y v u _ D A r2 E) λd F⟨z,j,l,r3,k,e,m⟩=>?_)) hm
 subst e;cases r3;refine qO ?_;cases k with
 | false=>exact ite_ff ⟨.bl d_,j,l,xz,m⟩
 | true=>exact ite_tt<|chain_last (aT (q p_ F σ j _ l m) λG J⟨K,L,M,N,O⟩=>o p_ J σ L y K u G Q M r2 N O)
def ae5{f g:CmpOp}{r i:R2}(n:fG X (jL f) r)(o:fG X (jL g) i)(ha:PE X a ta)(p:PE X b tb)(q:PE X c tc)
  (hm:autoParam (lastMarks [f,g] [b,c]=false) b7):PT X (.Compare a [f,g] [b,c] pos) (Zf<|X' r i ta tb tc):=by
 intro p_ s σ H Q I h
 refine isTrue_chain (aT (ha p_ s σ H _ I h) λv s1⟨x,t,w,A,B⟩=>test_link (aT (p p_ s1 σ t _ w B) λu s2⟨y,C,D,r2,E⟩=>
  aT (n p_ s2 σ C x y v u _ D A r2 E) λd F⟨z,j,l,r3,k,e,m⟩=>?_)) hm
 subst e;cases r3;refine qO ?_;cases k with
 | false=>
  obtain⟨k',G,J⟩:=m;cases G;exact ite_ff ⟨j,l,J⟩
 | true=>
  refine ite_tt<|test_last (aT (q p_ F σ j _ l m) λK L⟨M,N,O,P,R⟩=>aT (o p_ L σ N y M u K _ O r2 P R) λd' Y⟨Z,S,T,U,k2,V,W⟩=>?_);subst V;cases U;exact qO ⟨S,T,W⟩
def Dt:(aX:Nat)<2^63:=by rw[ij];decide
def vals1(r:dn [x] us):∃u,us=[u]/\df x u:=by
 cases r with
 | cons r1 r2=>cases r2;exact⟨_,xz,r1⟩
def vals2(r:dn [x,y] us):∃u d,us=[u,d]/\df x u/\df y d:=by
 cases r with
 | cons r1 r2=>
  cases r2 with
  | cons r3 e=>cases e;exact⟨_,_,xz,r1,r3⟩
def aeA(e:X.calm=c_):my X (.builtin "max") (λxs H Q=>∃i j,xs=[.int i,.int j]/\Q (.int (if j > i then j else i)) H):=by
 intro p_ s σ H xs us Q I r h;obtain⟨i,j,rfl,q⟩:=h;obtain⟨u,f,rfl,⟨t,rfl⟩,⟨t',rfl⟩⟩:=vals2 r;refine max_two_ints (I.ok.hd e) λh' tk k=>⟨_,H,I.kept k,?_,q⟩
 by_cases d:j > i
 .rw[ek d,ek d];exact⟨_,xz⟩
 .rw[ei d,ei d];exact⟨_,xz⟩
end
structure yP(h:j_)(x dx C:e_)(mA:cw->Option f_):Prop where
 obj:h.get? x=a_ (W.instObj C dx)
 ns:h.Ns1 dx mA
 ne:dx≠x
def Mp{h:j_}{dx:e_}{mA:cw->Option f_}(n:h.Ns1 dx mA):∃od,h.get? dx=a_ od/\∀name,W.lookIn name od=a_ (mA name):=by
 obtain⟨o,es,i,b,hd,c,_,hm⟩:=n;refine⟨o,b,λname=>?_⟩;have e:=hm name;unfold nsFind findBy at e;rw[<-Array.find?_toList]at e;unfold W.lookIn;rw[hd];dsimp only
 split
 .rename_i y q
  rw[q]at e;exact fw a_ e
 .rename_i q
  rw[q]at e
  have a:es.toList.any (·.refKey)=false:=by
   rw[ab1];intro y d;obtain⟨z,t,f⟩:=c y<|Array.mem_toList_iff.mp d;simp[DictEntry.refKey,f]
  have g:¬es.toList.any (·.refKey)=true:=by rw[a];exact dS
  rw[ei g];exact fw a_ e
def yP.look{mA:cw->Option f_}(I:yP h x dx C mA):∃od,D_ h x (W.instObj C dx) C (a_ od)/\∀name,W.lookIn name od=a_ (mA name):=
 let ⟨od,ho,hl⟩:=Mp I.ns
 ⟨od,⟨I.obj,xz,xz,ho⟩,hl⟩
section
variable{prog:l_}{w:k_}{A:h_}{E:f_->g_->Prop}{s:g_}{K:u_}{x dx C f:e_}{mA:cw->Option f_}{name:cw}{v:f_}
def get_map{expr:Bool}(X:K.In s.heap)(I:yP s.heap x dx C mA)(a:W.plainGet K C name=c_)(b:F_ K C=c_)(ha:w_ K (.ref C) name=a_ b_)(hv:mA name=a_ v)(c:W.handedIn v=c_)(h:Q v {s with toks:=s.toks+1}):bz (bK prog w) A (getAttr (.ref x) name expr) Q E s:=by
 obtain⟨od,J,d⟩:=I.look;exact W.get_value X J (W.plainGet_of a).1 (W.findObj_own b ha xz<|by rw[d,hv]) c h
def afP{pl:Sem Bool}{Q:f_×List f_->g_->Prop}(X:K.In s.heap)(I:yP s.heap x dx C mA)(a:W.plainGet K C name=c_)(b:w_ K (.ref C) name=a_ (a_<|.ref f))(c:W.isFn K (.ref f)=c_)(hv:mA name=b_)(h:Q (.ref f,[.ref x]) s):bz (bK prog w) A (yp (.ref x) name pl) Q E s:=by
 obtain⟨od,J,d⟩:=I.look;exact W.method_fn X J (W.plainGet_of a).1 (W.plainGet_of a).2 b (fv.mp c) (by show (W.lookIn name od).map (·.isSome)=a_ d_;rw[d,hv];rfl) h
def agm{Q:Unit->g_->Prop}(X:K.In s.heap)(I:yP s.heap x dx C mA)(hs:w_ K (.ref C) "__setattr__"=a_ (a_<|.builtin "object.__setattr__"))(e:W.plainOver K C=c_)(g:W.takerIn K C name=a_ b_)(i:F_ K C=c_)(hw:PySem.Within mA ns)(hsz:ns.length<=aX)(h:∀h',yP h' x dx C (λy=>if y=name then a_ v else mA y)->sX dx s.heap h'->Q () {s with heap:=h',toks:=s.toks+2}):bz (bK prog w) A (setAttr (.ref x) name v) Q E s:=by
 obtain⟨od,J,p⟩:=I.look;refine W.set_plain X J hs (W.osa_open (s:={s with toks:=s.toks+1}) (r:=b_) X J e g λb=>?_);obtain⟨cd,j,k⟩:=W.any_some i;have l:s.heap.get? x=a_ ⟨.ref C,a_ dx,.plain,#[]⟩:=I.obj;refine ak<|aO<|ak<|ak<|Lp l<|ak<|W.Looks.here (s:={s with toks:=s.toks+1}) (W.looks_clsIn X j) ?_;rw[k];refine aO (a:=a_ dx)<|ak<|aO<|ak ?_;refine Uj (s:={s with toks:=s.toks+1}) I.ns λh' c d=>?_;obtain⟨q,t,u,m,n,o⟩:=c.count<|PySem.Within.cons name v hw;refine ak<|TC m (by rw[n];exact TH<|cQ o<|by rw[gE];omega) ?_;exact aO<|h _ ⟨(d.2 _<|eJ I.ne).fC I.obj,c,I.ne⟩ d
def Wv{R:Result->g_->Prop}{a:List (cw×f_)}(X:K.In s.heap)(hm:W.makesIn K C=c_)(hi:w_ K (.ref C) "__init__"=a_ (a_<|.ref f))(b:W.typeIn K (.ref f)=a_ (.type "function"))(h:codeAny (bK prog w) (A.under<|.builtin "type.__call__" ⟨.ref C::vs,a⟩) (.call (.ref f) ⟨.ref (s.heap.objs.size+1)::vs,a⟩) (W.InitBack (s.heap.objs.size+1) R) {s with heap:=(s.heap.push W.emptyDict).push (W.instObj C s.heap.objs.size)}):codeAny (bK prog w) A (.call (.ref C) ⟨vs,a⟩) R s:=by
 obtain⟨c,g,d,t,os⟩:=s;exact W.make_core (W.makes_of X hm) (W.looks_findIn X hi) (λself=>W.bind_fn X self b) (.inl xz) h
end
noncomputable def aN(f:cw)(v:V):List (cw×V)->List (cw×V)
 | []=>[(f,v)]
 | (g,x)::r=>if g=f then (g,v)::r else (g,x)::aN f v r
theorem fJ(f g:cw)(v:V):∀fs:List (cw×V),(aN f v fs).lookup g=if g=f then a_ v else fs.lookup g
 | []=>by
  show yl g [(f,v)]=_
  by_cases h:g=f
  .have a:(g==f)=true:=fv.mpr h;simp only[yl,a,ek h]
  .have a:(g==f)=false:=fi.mpr h;simp only[yl,a,ei h]
 | (k,x)::r=>by
  have ih:=fJ f g v r;rw[show aN f v ((k,x)::r)=(if k=f then (k,v)::r else (k,x)::aN f v r) from rfl]
  by_cases b:k=f
  .rw[ek b]
   by_cases h:g=k
   .have a:(g==k)=true:=fv.mpr h;simp only[yl,a,ek<|h.fC b]
   .have a:(g==k)=false:=fi.mpr h;simp only[yl,a,ei λe:g=f=>h<|e.fC b.fF]
  .rw[ei b]
   by_cases h:g=k
   .have a:(g==k)=true:=fv.mpr h;simp only[yl,a,ei λe:g=f=>b<|h.fF.fC e]
   .have a:(g==k)=false:=fi.mpr h;simp only[yl,a];exact ih
theorem CH(f:cw)(v:V):∀fs:List (cw×V),f∈(aN f v fs).map (·.1)/\∀g,g∈fs.map (·.1)->g∈(aN f v fs).map (·.1)
 | []=>⟨by simp[aN],λg h=>by simp at h⟩
 | (k,x)::r=>by
  obtain⟨b,c⟩:=CH f v r;rw[show aN f v ((k,x)::r)=(if k=f then (k,v)::r else (k,x)::aN f v r) from rfl]
  by_cases a:k=f
  .rw[ek a];subst a;exact⟨by simp,λg h=>by simpa using h⟩
  .rw[ei a];refine⟨?_,λg h=>?_⟩
   .rw[fu];exact cu _ b
   .rw[fu]at h ⊢;obtain e|e:=a9.mp h
    .exact a9.mpr (.inl e)
    .exact cu _ (c g e)
theorem qW(f:cw)(v:V):∀fs:List (cw×V),(aN f v fs).length<=fs.length+1
 | []=>by simp[aN]
 | (k,x)::r=>by
  have ih:=qW f v r;rw[show aN f v ((k,x)::r)=(if k=f then (k,v)::r else (k,x)::aN f v r) from rfl]
  by_cases a:k=f
  .rw[ek a,gE,gE];omega
  .rw[ei a,gE,gE];omega
def mG.some_of{o:Option f_}(r:mG (a_ v) o):∃u,o=a_ u/\df v u:=by
 cases o with
 | none=>exact(show False from r).elim
 | some u=>exact⟨u,xz,r⟩
def mG.none_of{o:Option f_}(r:mG b_ o):o=none:=by
 cases o with
 | none=>rfl
 | some u=>exact(show False from r).elim
def Vw(r:df v u):W.handedIn u=true:=by
 cases v with
 | aH=>cases (show u=gq from r);rfl
 | bl b=>cases (show u=oJ b from r);rfl
 | int i=>obtain⟨t,e⟩:=(show ∃t,u=nj i t from r);cases e;rfl
 | str x=>obtain⟨t,e⟩:=(show ∃t,u=Gj x t from r);cases e;rfl
 | pD b=>obtain⟨t,e⟩:=(show ∃t,u=Value.bytes b t from r);cases e;rfl
 | uk b=>obtain⟨t,e⟩:=(show ∃t,u=Uz b t from r);cases e;rfl
 | ref a=>cases (show u=bN a from r);rfl
 | ty n=>cases (show u=nX n from r);rfl
section
variable{P:l_}{w:k_}{H H':Hp}{h h':j_}{a C dx:e_}{fs nR:List (cw×V)}
def Hh(aM:fV P w H h)(e:H a=a_ (.ins C dx fs)):∃mA,yP h a dx C mA/\(∀f,mG (fs.lookup f)<|mA f)/\PySem.Within mA (fs.map (·.1))/\fs.length<=1000/\H dx=a_ (.own a):=by
 obtain⟨d,z,ne,b,mA,n,r,q⟩:=(show hZ P w H h a (.ins C dx fs) from aM a _ e);exact⟨mA,⟨b,n,ne⟩,r,q,z,d⟩
end
structure eO(K:u_)(C:e_):Prop where
 pg:W.plainGet K C Str.empty=c_
 hd:F_ K C=c_
 po:W.plainOver K C=c_
 sa:w_ K (.ref C) "__setattr__"=a_ (a_<|.builtin "object.__setattr__")
def eO.get{K:u_}(c:eO K C)(f:cw):W.plainGet K C f=true:=c.pg
def bp(K:u_)(C:e_)(f:cw):Prop:=w_ K (.ref C) f=a_ b_
def bp.ajZ{K:u_}(n:bp K C f):W.takerIn K C f=a_ none:=by
 unfold W.takerIn;rw[show w_ K (.ref C) f=a_ b_ from n];rfl
structure Meth(K:u_)(C:e_)(m:cw)(f:e_):Prop where
 at_:w_ K (.ref C) m=a_ (a_<|.ref f)
 fn:W.isFn K (.ref f)=c_
 kp:x_ K (.ref f)=c_
section
variable{X:Cx}{p_:List (e_×cB)}{σ:St}{H:Hp}{s:g_}{a C dx:e_}{fs:List (cw×V)}{f:cw}{v:V}{A:h_}{E:f_->g_->Prop}
def UQ{b:Bool}(I:dc X p_ σ H s)(e:H a=a_ (.ins C dx fs))(c:eO X.K C)(n:bp X.K C f)(l:fs.lookup f=a_ v)(h:∀u s',dc X p_ σ H s'->df v u->Q u s'):bz (bK X.prog X.w) A (getAttr (.ref a) f b) Q E s:=by
 obtain⟨mA,O,r,_,_,_⟩:=Hh I.aM e;obtain⟨u,g,d⟩:=mG.some_of (v:=v) (o:=mA f) (by rw[<-l];exact r f);exact get_map I.cZ O (c.get f) c.hd n g (Vw d)<|h u _ (I.tok _) d
def LZ{pl:Sem Bool}{Q:f_×List f_->g_->Prop}(I:dc X p_ σ H s)(e:H a=a_ (.ins C dx fs))(c:eO X.K C)(k:Meth X.K C m g)(l:fs.lookup m=b_)(h:Q (.ref g,[.ref a]) s):bz (bK X.prog X.w) A (yp (.ref a) m pl) Q E s:=by
 obtain⟨mA,O,r,_,_,_⟩:=Hh I.aM e;have hn:mA m=none:=mG.none_of (by rw[<-l];exact r m);exact afP I.cZ O (c.get m) k.at_ k.fn hn h
def UH{Q:Unit->g_->Prop}(I:dc X p_ σ H s)(e:H a=a_ (.ins C dx fs))(c:eO X.K C)(n:bp X.K C f)(t:fs.length<1000)(j:df y u)(h:∀s',dc X p_ σ (db H a<|.ins C dx<|aN f y fs) s'->Q () s'):bz (bK X.prog X.w) A (setAttr (.ref a) f u) Q E s:=by
 obtain⟨mA,O,r,wi,_,i⟩:=Hh I.aM e;have k:(fs.map (·.1)).length<=aX:=by rw[aS,ij];omega
 refine agm I.cZ O c.sa c.po n.ajZ c.hd wi k λh' d l=>h _ ?_;have hd:∃o,h'.get? dx=a_ o:=let ⟨o,_,_,e',_⟩:=d.ns;⟨o,e'⟩
 refine I.write (x:=a) (e:=dx) (by rw[e];exact nY) (.inr i) (λb q m z=>(l.2 b m).fC z) hd ?_;refine⟨by rw[ah O.ne];exact i,?_,O.ne,d.obj,_,d.ns,λg=>?_,λg p=>?_⟩
 .have:=qW f y fs;omega
 .show mG ((aN f y fs).lookup g) (if g=f then a_ u else mA g);rw[fJ]
  by_cases q:g=f
  .rw[ek q,ek q];exact j
  .rw[ei q,ei q];exact r g
 .by_cases q:g=f
  .rw[q];exact(CH f y fs).1
  .refine(CH f y fs).2 g (wi g λz=>p ?_);show (if g=f then a_ u else mA g)=b_;rw[ei q];exact z
def dc.made(I:dc X p_ σ H s):dc X p_ σ (db (db H s.heap.objs.size<|.own<|s.heap.objs.size+1) (s.heap.objs.size+1)<|.ins C s.heap.objs.size []) {s with heap:=(s.heap.push W.emptyDict).push (W.instObj C s.heap.objs.size)}:=by
 have c:(s.heap.push W.emptyDict).get? s.heap.objs.size=a_ W.emptyDict:=iF s.heap xz
 have d:((s.heap.push W.emptyDict).push<|W.instObj C s.heap.objs.size).get? (s.heap.objs.size+1)=a_ (W.instObj C s.heap.objs.size):=by
  have:=iF (s.heap.push W.emptyDict) (o:=W.instObj C s.heap.objs.size) rfl;rwa[nW]at this
 have g:(s.heap.push W.emptyDict).Ns s.heap.objs.size (λ_=>b_):=⟨W.emptyDict,#[],_,c,xz,(λe h=>eo h<|by simp),λ_=>rfl⟩;have i:=I.laid (a:=s.heap.objs.size) (o:=.own<|s.heap.objs.size+1) (h':=s.heap.push W.emptyDict) (t':=s.toks) (λb u q=>bo _ q) (aD _) ⟨_,c⟩;refine i.laid (a:=s.heap.objs.size+1) (o:=.ins C s.heap.objs.size []) (t':=s.toks) (λb u q=>bo _ q) (m8<|nW _ _) ?_;have ne:s.heap.objs.size≠s.heap.objs.size+1:=fh<|sO _;refine⟨by rw[ah ne,ai],bJ _,ne,d,λ_=>b_,(Heap.Ns1.of_empty g).at λo q=>bo _ q,λ_=>nY,λy j=>eo xz j⟩
def XX{w:k_}{env:Env}(b:Cu e f env (eval e env)=eval e env)(h:bz (bK prog w) A (eval e env) (λo c=>bz (bK prog w) A (getAttr o f c_) Q E c) E s):bz (bK prog w) A (eval (.Attribute e f pos) env) Q E s:=
 Attribute_any_ h (by rw[arm_eval_Attribute,b])
end
def Ip(K:u_)(c:TE)(f:cw):TE:=λσ H Q=>c σ H λx b=>∃a C dx fs v,x=.ref a/\b a=a_ (.ins C dx fs)/\eO K C/\bp K C f/\fs.lookup f=a_ v/\Q v b
def Qh(K:u_)(c tv:TE)(f:cw):TS:=λD σ H=>tv σ H λy d=>c σ d λx b=>∃a C dx fs,x=.ref a/\b a=a_ (.ins C dx fs)/\eO K C/\bp K C f/\fs.length<1000/\
 D.nx σ (db b a<|.ins C dx<|aN f y fs)
def md(X:Cx)(a:Operator)(rd:V->V->Hp->VK->Prop):Prop:=
 ∀(p_:List (e_×cB))(s:g_)(σ:St)(H:Hp)(x y:V)(u v:f_)(Q:VK),dc X p_ σ H s->df x u->df y v->rd x y H Q->bz (bK X.prog X.w) X.A (inplaceOp a u v) (EP X p_ σ Q) X.xe s
def agA(K:u_)(g tv:TE)(rd:V->V->Hp->VK->Prop)(f:cw):TS:=λD σ H=>g σ H λx c=>∃a C dx fs v,x=.ref a/\c a=a_ (.ins C dx fs)/\eO K C/\bp K C f/\fs.lookup f=a_ v/\
 tv σ c λy h=>rd v y h λz d=>∃e b,d a=a_ (.ins C e b)/\b.length<1000/\D.nx σ (db d a<|.ins C e<|aN f z b)
section
variable{X:Cx}{o e value:bT}{f:cw}{pos pos' IH:Pos}{ta tv:TE}
def ba(b:PE X e ta)(d:Cu e f X.env (eval e X.env)=eval e X.env):PE X (.Attribute e f pos) (Ip X.K ta f):=by
 intro p_ s σ H Q I h;refine XX d (aT (b p_ s σ H _ I h) λu s1⟨x,g,i,j,a,C,dx,fs,v,ex,ea,c,n,l,q⟩=>?_);subst ex;obtain rfl:u=bN a:=j;exact UQ i ea c n l λp s2 k m=>⟨v,g,k,m,q⟩
def dU(ha:PE X o ta)(hv:PE X value tv)(hs:AA value (a_<|.Attribute o f pos') pos.line X.env=pure d_):PS X (.Assign [.Attribute o f pos'] value pos) (Qh X.K ta tv f):=by
 intro p_ s σ H D I h;refine SR (aT (hv p_ s σ H _ I h) λu s1⟨y,b,d,g,q⟩=>aT (ha p_ s1 σ b _ d q) λov s2⟨x,p,i,j,a,C,dx,fs,ex,ea,c,n,l,k⟩=>?_) hs;subst ex;obtain rfl:ov=bN a:=j;exact UH i ea c n l g λr m=>⟨σ,_,m,k⟩
def ad1{b:Operator}{rd:V->V->Hp->VK->Prop}(ha:PE X o ta)(hv:PE X value tv)(d:md X b rd):PS X (.AugAssign (.Attribute o f IH) b value pos) (agA X.K ta tv rd f):=by
 intro p_ s σ H D I h;refine wpAny_AugAssign_AttributeAny (aT (ha p_ s σ H _ I h) λov s1⟨x,g,i,j,a,C,dx,fs,v,ex,ea,c,n,l,q⟩=>?_);subst ex;obtain rfl:ov=bN a:=j;refine UQ i ea c n l λu s2 k m=>aT (hv p_ s2 σ g _ k q) λw3 p⟨y,r,t,w,A⟩=>aT (d p_ p σ r v y u w3 _ t m w A) λw4 M⟨z,N,B,E,O,P,F,G,J⟩=>?_;exact UH B F c n G E λQ L=>⟨σ,_,L,J⟩
def al2:V->V->Hp->VK->Prop:=λx y H Q=>∃i j,x=.int i/\y=.int j/\Q (.int<|i+j) H
def aiU:md X .Add al2:=by
 rintro p_ s σ H x y u v Q I a b ⟨i,j,rfl,rfl,q⟩;obtain⟨t,rfl⟩:=(show ∃t,u=nj i t from a);obtain⟨t',rfl⟩:=(show ∃t',v=nj j t' from b);exact PyProof.Rows.iadd_int ⟨.int<|i+j,H,I.tok _,⟨_,xz⟩,q⟩
end
section
variable{X:Cx}{p_:List (e_×cB)}{σ:St}{H:Hp}{s:g_}{A:h_}{E:f_->g_->Prop}{Q:f_->g_->Prop}{c:f_}{b:Bool}
inductive i3 (K:u_) (H:Hp):V->f_->Prop where
 | aH:i3 K H .aH (.type "NoneType")
 | bl (x:Bool):i3 K H (.bl x) (.type "bool")
 | int (i:Int):i3 K H (.int i) (.type "int")
 | str (x:cw):i3 K H (.str x) (.type "str")
 | uk (x:UInt64):i3 K H (.uk x) (.type "float")
 | lst {a:e_} {xs:List V} (e:H a=a_ (.lst xs)):i3 K H (.ref a) (.type "list")
 | lY {a:e_} {o:cB} {xs:List V} (e:H a=a_ (.lY o (.lst xs))):i3 K H (.ref a) (.type "list")
 | tup {a:e_} {xs:List V} (e:H a=a_ (.tup xs)):i3 K H (.ref a) (.type "tuple")
 | dK {a:e_} {iC:List (ed×V)} (e:H a=a_ (.dK iC)):i3 K H (.ref a) (.type "dict")
 | dT {a:e_} {iC:List (ci×e_)} (e:H a=a_ (.dT iC)):i3 K H (.ref a) (.type "dict")
 | ins {a C dx:e_} {fs:List (cw×V)} (e:H a=a_ (.ins C dx fs)) (cl:eO K C) (ha:w_ K (.ref C) "__class__"=a_ (a_ (.builtin "object.__class__")))
   (hn:W.specialIn K (.builtin "object.__class__") "__get__"=a_ (a_<|.builtin "getset_descriptor.__get__")) (JW:W.takesIn K (.builtin "object.__class__")=a_ c_)
   (hm:A_ K C (.type "object")=a_ c_):i3 K H (.ref a) (.ref C)
def ael(I:dc X p_ σ H s)(d:df x u)(ty:i3 X.K H x t)(e:v_ X.K t c=a_ b)(h:∀tk,Q (.bool b) {s with toks:=tk}):bz (bK X.prog X.w) A (call (.builtin "isinstance") [u,c]) Q E s:=by
 cases ty with
 | aH=>cases (show u=gq from d);exact E_ W.kitx_none I.cZ nY e (λz=>nomatch z) h
 | bl y=>cases (show u=oJ y from d);exact E_ W.kitx_bool I.cZ nY e (λz=>nomatch z) h
 | int i=>obtain⟨t,q⟩:=(show ∃t,u=nj i t from d);cases q;exact E_ W.kitx_int I.cZ nY e (λz=>nomatch z) h
 | str y=>obtain⟨t,q⟩:=(show ∃t,u=Gj y t from d);cases q;exact E_ W.kitx_str I.cZ nY e (λz=>nomatch z) h
 | uk y=>obtain⟨t,q⟩:=(show ∃t,u=Uz y t from d);cases q;exact E_ W.kitx_float I.cZ nY e (λz=>nomatch z) h
 | @lst a xs ea=>
  cases (show u=bN a from d);obtain⟨_,_,n,_,h1⟩:=(show hZ X.prog X.w H s.heap a (.lst xs) from I.aM a _ ea);exact E_ W.kitx_list I.cZ ⟨_,h1,xz⟩ e (λz=>nomatch z) h
 | @lY a ob xs ea=>
  cases (show u=bN a from d);obtain⟨_,_,_,n,_,h1⟩:=(show hZ X.prog X.w H s.heap a (.lY ob<|.lst xs) from I.aM a _ ea);exact E_ W.kitx_list I.cZ ⟨_,h1,xz⟩ e (λz=>nomatch z) h
 | @tup a xs ea=>
  cases (show u=bN a from d);obtain⟨_,_,_,p⟩:=(show hZ X.prog X.w H s.heap a (.tup xs) from I.aM a _ ea);obtain⟨o,h1,h2,_⟩:=p;exact E_ W.kitx_tuple I.cZ ⟨o,h1,h2⟩ e (λz=>nomatch z) h
 | @dK a iC ea=>
  cases (show u=bN a from d);obtain⟨_,_,vs,_,p⟩:=(show hZ X.prog X.w H s.heap a (.dK iC) from I.aM a _ ea);obtain⟨o,es,f,h1,h2,_⟩:=p;exact E_ W.kitx_dict I.cZ ⟨o,h1,h2.1⟩ e (λz=>nomatch z) h
 | @dT a iC ea=>
  cases (show u=bN a from d);obtain⟨_,_,o,es,f,h1,h2,_⟩:=(show hZ X.prog X.w H s.heap a (.dT iC) from I.aM a _ ea);exact E_ W.kitx_dict I.cZ ⟨o,h1,h2.1⟩ e (λz=>nomatch z) h
 | @ins a C dx fs ea cl ha hn JW hm=>
  cases (show u=bN a from d);obtain⟨mA,O,_⟩:=Hh I.aM ea;obtain⟨od,J,_⟩:=O.look;exact E_ (W.kitx_own (cl.get _) cl.hd ha hn JW hm) I.cZ J e (λz=>nomatch z) h
end
structure eM(k:Nat)(A:h_):Prop where
 hd:A.handled=b_
 dp:A.depth+3*k+5<FJ
 un:A.units+16*k+200<cLine
def eM.mono{j k:Nat}(r:eM k A)(h:j<=k):eM j A:=⟨r.hd,by have:=r.dp;omega,by have:=r.un;omega⟩
def eM.deeper{k:Nat}(r:eM (k+1) A)(env:Env):eM k (A.deeper env):=
 ⟨r.hd,by have:=r.dp;show A.depth+1+3*k+5<_;omega,by have:=r.un;show A.units+3+16*k+200<_;omega⟩
def adC{A:h_}{C:e_}{us:List f_}{a:List (cw×f_)}:(A.under<|.builtin "type.__call__" ⟨.ref C::us,a⟩).depth=A.depth+1:=by
 first | rfl | simp[Uq,Code.weight,Code.isCreation,Code.isGuard,Code.isCaller,Code.frames,Code.isFrame,guardIds]
def adB{A:h_}{C:e_}{us:List f_}{a:List (cw×f_)}:(A.under<|.builtin "type.__call__" ⟨.ref C::us,a⟩).units=A.units+1:=by
 first | rfl | simp[Uq,Code.cUnits,Code.frames,Code.isFrame]
def eM.make{k:Nat}(r:eM (k+1) A)(C:e_)(us:List f_)(a:List (cw×f_)):eM k (A.under<|.builtin "type.__call__" ⟨.ref C::us,a⟩):=
 ⟨r.hd,by have:=r.dp;rw[adC];omega,by have:=r.un;rw[adB];omega⟩
def eM.depth{k:Nat}(r:eM k A):A.depth<FJ:=by have:=r.dp;omega
abbrev oZ:TA:=λ_ H Q=>Q [] H
abbrev g9(ta:TE)(tr:TA):TA:=λσ H Q=>ta σ H λx H1=>tr σ H1 λxs H2=>Q (x::xs) H2
section
variable{X:Cx}{e:bT}{es:List bT}{te:TE}{t:TA}{pos:Pos}
def ag:PA X [] oZ:=λ_ _ _ _ H Q I h=>Calls.spliced_nil ⟨[],H,I,.nil,h⟩
def aa(ha:PE X e te)(a:PA X es t)(hs:autoParam (cg (e::es) X.env=(d_,eval e X.env)::cg es X.env) am):PA X (e::es) (g9 te t):=by
 intro pos p_ s σ H Q I h;rw[hs];show bz _ _ (spliced ((d_,eval e X.env)::cc pos (cg es X.env))) _ _ s;refine Calls.spliced_cons (aT (ha p_ s σ H _ I h) λu s1⟨x,b,c,d,f⟩=>?_);exact aT (a pos p_ s1 σ b _ c f) λus s2⟨xs,g,i,r2,j⟩=>⟨x::xs,g,i,.cons d r2,j⟩
def wZ(t:TA):TE:=λσ H Q=>t σ H λxs a=>xs.length<=aX/\∀p,a p=b_->Q (.ref p) (db a p<|.tup xs)
def P7(t:TA):TE:=λσ H Q=>t σ H λxs a=>xs.length<=aX/\∀p,a p=b_->Q (.ref p) (db a p<|.lst xs)
def cp{x1}(h:PA X es t):PE X (.Tuple es x1 pos) (wZ t):=by
 intro p_ s σ H Q I d;refine wpAny_Tuple_spliced (aT (h pos p_ s σ H _ I d) λus s1⟨xs,a,c,r,z,q⟩=>⟨by rw[<-r.length];exact z,?_⟩);have f:a s1.heap.objs.size=none:=c.aM.fresh<|aD _;refine⟨.ref s1.heap.objs.size,db a s1.heap.objs.size<|.tup xs,c.laid (t':=s1.toks) (λb u e=>bo _ e) (aD _) ?_,xz,q _ f⟩;exact⟨z,us,r,⟨_,iF _ xz,xz,_,xz⟩⟩
def dh(h:PA X es t):PE X (.List es pos) (P7 t):=by
 intro p_ s σ H Q I d;refine wpAny_List_spliced (aT (h pos p_ s σ H _ I d) λus s1⟨xs,a,c,r,z,q⟩=>⟨by rw[<-r.length];exact z,?_⟩);have f:a s1.heap.objs.size=none:=c.aM.fresh<|aD _;refine⟨.ref s1.heap.objs.size,db a s1.heap.objs.size<|.lst xs,c.laid (t':=s1.toks) (λb u e=>bo _ e) (aD _) ?_,xz,q _ f⟩;exact⟨z,us,0,r,iF _ xz⟩
end
abbrev Sp:=List V->Hp->VK->XK->Prop
abbrev qE:=List Env->Hp->g_->XK->f_->g_->Prop
structure yR(P:l_)(w:k_)(K:u_)(mg:cw->Option f_)(base:j_)(A:h_)(outer:List Env)(s:g_)(H:Hp):Prop where
 frames:A.frames=a_ outer
 mod:Mod K mg base
 bs:∀b o,base.get? b=a_ o->s.heap.get? b=a_ o/\H b=b_
 mQ:base.objs.size<=s.heap.objs.size
 mz:s.heap.FunFrames base outer
 rW:∀b∈iA outer,H b=b_
 aM:fV P w H s.heap
 bare:AllBare s.gens
def CE(outer:List Env)(P:l_)(w:k_)(H:Hp)(s:g_)(Q:VK)(u:f_)(s':g_):Prop:=
 ∃v H',s'.os=s.os/\AllBare s'.gens/\Un (iA outer) [] H H' s.heap s'.heap/\fV P w H' s'.heap/\df v u/\Q v H'
def CR(CX:qE)(outer:List Env)(P:l_)(w:k_)(H:Hp)(s:g_)(Q:VK)(E:XK)(r:Result)(s':g_):Prop:=
 match r with
 | .ok (.ret u)=>CE outer P w H s Q u s'
 | .ok _=>False
 | .error e=>CX outer H s E e s'
structure aE(P:l_)(w:k_)(K:u_)(mg:cw->Option f_)(base:j_)(CX:qE)(k:Nat)(f:e_)(fd:ir)(ps:List cw)(sp:Sp):Prop where
 len:∀vs H Q E,sp vs H Q E->vs.length=ps.length
 run:∀(A:h_)(outer:List Env)(s:g_)(H:Hp)(args:Args)(us:List f_)(vs:List V)(Q:VK)(E:XK),eM k A->yR P w K mg base A outer s H->BindsTo s fd args (ps.zip us)->dn vs us->sp vs H Q E->
  codeAny (bK P w) A (.call (.ref f) args) (CR CX outer P w H s Q E) s
def aE.imp{P:l_}{w:k_}{K:u_}{mg:cw->Option f_}{fK:j_}{CX:qE}{k:Nat}{sp a:Sp}(F:aE P w K mg fK CX k f fd ps sp)(h:∀vs H Q E,a vs H Q E->sp vs H Q E):aE P w K mg fK CX k f fd ps a:=
 ⟨λvs H Q E q=>F.len vs H Q E<|h _ _ _ _ q,λA outer s H args us vs Q E b c d hv hs=>F.run A outer s H args us vs Q E b c d hv<|h _ _ _ _ hs⟩
def yR.make{P:l_}{w:k_}{K:u_}{mg:cw->Option f_}{fK:j_}{outer:List Env}(e:yR P w K mg fK A outer s H)(C:e_)(us:List f_)(a:List (cw×f_)):yR P w K mg fK (A.under<|.builtin "type.__call__" ⟨.ref C::us,a⟩) outer s H:=⟨by first | exact e.frames | (simpa[Uq,Code.envs,Code.isFrame,pushEnvs]using e.frames),e.mod,e.bs,e.mQ,e.mz,e.rW,e.aM,e.bare⟩
section
variable{X:Cx}{p_:List (e_×cB)}{σ:St}{H:Hp}{s s':g_}
def dc.Eg(I:dc X p_ σ H s):yR X.prog X.w X.K X.mg X.base X.A X.stack s H:=
 ⟨I.ok.frames,I.ok.mod,I.bs,cQ I.ok.mQ I.sz,I.stack,I.G6,I.aM,I.bare⟩
def dc.after(I:dc X p_ σ H s)(h:CE X.stack X.prog X.w H s Q u s'):EP X p_ σ Q u s':=by
 obtain⟨v,H',os,bare,un,aM,r,q⟩:=h;obtain⟨a,g,d,t,c⟩:=s';obtain rfl:c=s.os:=os;exact⟨v,H',I.call (h':=a) (g':=g) (d':=d) (t':=t) (ch:=[]) un aM bare λb z=>eo z (by simp),r,q⟩
end
abbrev Pa(sp:Sp)(dvs:List V)(E:XK)(t:TA):TE:=λσ H Q=>t σ H λvs H1=>sp (vs++dvs) H1 Q E
def DD(C:e_)(m:cw)(sp:Sp)(dvs:List V)(E:XK)(c:TE)(t:TA):TE:=λσ H Q=>c σ H λx b=>∃a dx fs,x=.ref a/\b a=a_ (.ins C dx fs)/\fs.lookup m=b_/\
 t σ b λvs d=>sp (x::(vs++dvs)) d Q E
def aj4(C:e_)(sp:Sp)(dvs:List V)(E:XK)(t:TA):TE:=λσ H Q=>t σ H λvs a=>∀x dx,a x=b_->a dx=b_->dx≠x->
 sp (.ref x::(vs++dvs)) (db (db a dx<|.own x) x<|.ins C dx []) (λv b=>v=.aH/\Q (.ref x) b) E
def dt(K:u_)(fd:ir)(ps:List cw)(ds:List f_):Prop:=
 ∀(s:g_)(us:List f_),K.In s.heap->(us++ds).length=ps.length->BindsTo s fd ⟨us,[]⟩ (ps.zip<|us++ds)
def dt.all{K:u_}(h:∀us:List f_,us.length=ps.length->vf fd ⟨us,[]⟩=pure (ps.zip us)):dt K fd ps []:=λs us _ a=>by
 rw[pZ]at a ⊢;exact .of_eq<|h us a
def Passes(CX:qE)(X:Cx)(E:XK):Prop:=∀(p_:List (e_×cB))(σ:St)(H:Hp)(s:g_)(e:f_)(s':g_),dc X p_ σ H s->CX X.stack H s E e s'->X.xe e s'
section
variable{X:Cx}{CX:qE}{k:Nat}{f C:e_}{fd:ir}{ps:List cw}{sp:Sp}{dvs:List V}{ds:List f_}{E:XK}{x m:cw}{p pos apos:Pos}{e o:bT}{es:List bT}{ta:TE}{t:TA}
def Dh(F:aE X.prog X.w X.K X.mg X.base CX k f fd ps sp)(b:eM k X.A)(c:dt X.K fd ps ds)(hd:dn dvs ds)(d:Passes CX X E)(I:dc X p_ σ H s)(r:dn vs us)(h:sp (vs++dvs) H Q E):bz (bK X.prog X.w) X.A (call (.ref f) us) (EP X p_ σ Q) X.xe s:=by
 have r2:dn (vs++dvs) (us++ds):=r.append hd;have g:(us++ds).length=ps.length:=by rw[<-r2.length];exact F.len _ _ _ _ h
 refine tj (yf (F.run X.A X.stack s H ⟨us,[]⟩ (us++ds) (vs++dvs) Q E b I.Eg (c s us I.cZ g) r2 h) λr s' a=>?_);cases r with
 | error e=>exact d p_ σ H s e s' I a
 | ok fl=>
  cases fl with
  | ret u=>exact I.after a
  | next=>exact ip a
  | brk=>exact ip a
  | cont=>exact ip a
def oa(F:aE X.prog X.w X.K X.mg X.base CX k f fd ps sp)(b:eM k X.A)(c:Gl X x)(hm:X.mg x=a_ (.ref f))(d:x_ X.K (.ref f)=c_)(g:dt X.K fd ps ds)(hd:dn dvs ds)(i:Passes CX X E)
  (ha:PA X (e::es) t) (j:autoParam ((x==("__debug__":cw))=false) ap) (l:autoParam (cg (e::es) X.env=(d_,eval e X.env)::cg es X.env) am) (n:autoParam ((cc pos<|cg es X.env).any (·.1)=false) am) :
  PE X (.Call (.Name x p) (e::es) [] pos) (Pa sp dvs E t):=by
 intro p_ s σ H Q I h;refine wc<|tI I c hm ?_ j;refine G_ (h₀:=X.base) I.ok.mod.pk d (aT (ha pos p_ s σ H _ I h) λus s1⟨vs,u,a,r,q⟩=>⟨a.cZ,?_⟩) l n;exact Dh F b g hd i a r q
def He{pl:Sem Bool}(g:PE X o ta)(c:eO X.K C)(hm:Meth X.K C m f)(F:aE X.prog X.w X.K X.mg X.base CX k f fd ps sp)(i:eM k X.A)(j:dt X.K fd ps ds)(hd:dn dvs ds)(n:Passes CX X E)(ha:PA X (e::es) t)
  (v:autoParam (cg (e::es) X.env=(d_,eval e X.env)::cg es X.env) am) (y:autoParam ((cc pos<|cg es X.env).any (·.1)=false) am)
  (z:autoParam (eval (.Call (.Attribute o m apos) (e::es) [] pos) X.env=(do
   let ov <-eval o X.env
   standAt apos.atName
   let (f,first) <-holding [ov] (yp ov m pl)
   CV pos f first (cc pos<|cg (e::es) X.env) (AG pos<|Au [] X.env))) am) :
  PE X (.Call (.Attribute o m apos) (e::es) [] pos) (DD C m sp dvs E ta t):=by
 intro p_ s σ H Q I h;refine W.methodCall_KW (pl:=pl) (aT (g p_ s σ H _ I h) λu s1⟨x,B,b,D,a,dx,fs,ex,ea,l,q⟩=>?_) z;subst ex;obtain rfl:u=bN a:=D;refine LZ b ea c hm l ?_;refine G_ (first:=[.ref a]) (h₀:=X.base) I.ok.mod.pk hm.kp (aT (ha pos p_ s1 σ B _ b q) λus s2⟨vs,J,d,r,G⟩=>⟨d.cZ,?_⟩) v y;exact Dh (us:=.ref a::us) (vs:=.ref a::vs) F i j hd n d (.cons xz r) G
def Gu{pl:Sem Bool}(d:PE X o ta)(c:eO X.K C)(hm:Meth X.K C m f)(F:aE X.prog X.w X.K X.mg X.base CX k f fd ps sp)(g:eM k X.A)(i:dt X.K fd ps ds)(hd:dn dvs ds)(j:Passes CX X E)
  (n:autoParam (eval (.Call (.Attribute o m apos) [] [] pos) X.env=(do
   let ov <-eval o X.env
   standAt apos.atName
   let (f,first) <-holding [ov] (yp ov m pl)
   CV pos f first (cc pos<|cg [] X.env) (AG pos<|Au [] X.env))) am) :
  PE X (.Call (.Attribute o m apos) [] [] pos) (DD C m sp dvs E ta oZ):=by
 intro p_ s σ H Q I h;refine W.methodCall_KW (pl:=pl) (aT (d p_ s σ H _ I h) λu s1⟨x,v,b,r,a,dx,fs,ex,ea,l,q⟩=>?_) n;subst ex;obtain rfl:u=bN a:=r;refine LZ b ea c hm l ?_;exact W.callWith_K0 (first:=[.ref a]) b.cZ hm.kp<|Dh (us:=[.ref a]) (vs:=[.ref a]) F g i hd j b (.cons xz .nil) q
structure Mk(K:u_)(C f:e_):Prop where
 makes:W.makesIn K C=c_
 init:w_ K (.ref C) "__init__"=a_ (a_<|.ref f)
 fn:W.isFn K (.ref f)=c_
 kp:x_ K (.ref C)=c_
def ae1(M:Mk X.K C f)(F:aE X.prog X.w X.K X.mg X.base CX k f fd ps sp)(d:eM (k+1) X.A)(g:dt X.K fd ps ds)(hd:dn dvs ds)(i:Passes CX X E)(I:dc X p_ σ H s)(r:dn vs us)(h:∀x dx,H x=b_->H dx=b_->dx≠x->sp (.ref x::(vs++dvs)) (db (db H dx<|.own x) x<|.ins C dx []) (λv j=>v=.aH/\Q (.ref x) j) E):bz (bK X.prog X.w) X.A (call (.ref C) us) (EP X p_ σ Q) X.xe s:=by
 have c:=h (s.heap.objs.size+1) s.heap.objs.size (I.aM.fresh<|jf _) (I.aM.fresh<|aD _)<|fh<|sO _;have b:=dc.made (C:=C) I;have r2:dn (V.ref (s.heap.objs.size+1)::(vs++dvs)) (bN (s.heap.objs.size+1)::(us++ds)):=.cons xz<|r.append hd
 have l:(bN (s.heap.objs.size+1)::us++ds).length=ps.length:=by
  have e:=r2.length;rw[F.len _ _ _ _ c]at e;exact e.fF
 refine tj<|Wv (f:=f) I.cZ M.makes M.init (fv.mp M.fn) (yf (F.run _ X.stack _ _ ⟨bN (s.heap.objs.size+1)::us,[]⟩ (bN (s.heap.objs.size+1)::(us++ds)) _ _ E (d.make C us []) (b.Eg.make C us []) (g _ (bN (s.heap.objs.size+1)::us) b.cZ l) r2 c) λr s' a=>?_);cases r with
 | error e=>exact i p_ σ _ _ e s' b a
 | ok fl=>
  cases fl with
  | ret u=>
   obtain⟨v,H',n,q,y,z⟩:=b.after a;subst y;exact⟨q,⟨V.ref<|s.heap.objs.size+1,H',n,xz,z⟩⟩
  | next=>exact ip a
  | brk=>exact ip a
  | cont=>exact ip a
def jY(M:Mk X.K C f)(F:aE X.prog X.w X.K X.mg X.base CX k f fd ps sp)(b:eM (k+1) X.A)(c:Gl X x)(hm:X.mg x=a_ (.ref C))(d:dt X.K fd ps ds)(hd:dn dvs ds)(g:Passes CX X E)
  (ha:PA X (e::es) t) (i:autoParam ((x==("__debug__":cw))=false) ap) (j:autoParam (cg (e::es) X.env=(d_,eval e X.env)::cg es X.env) am) (l:autoParam ((cc pos<|cg es X.env).any (·.1)=false) am) :
  PE X (.Call (.Name x p) (e::es) [] pos) (aj4 C sp dvs E t):=by
 intro p_ s σ H Q I h;refine wc<|tI I c hm ?_ i;refine G_ (h₀:=X.base) I.ok.mod.pk M.kp (aT (ha pos p_ s σ H _ I h) λus s1⟨vs,n,a,r,q⟩=>⟨a.cZ,?_⟩) j l;exact ae1 M F b d hd g a r q
end
structure bc(N P:List cw)(sc:i_):Prop where
 kind:sc.kind=.function
 co:sc.isCoroutine=d_
 gen:sc.isGenerator=d_
 nd:N.Nodup
 pre:N.take P.length=P
 par:∀x∈P,sc.names.lookup x=a_ .local\/sc.names.lookup x=a_ .cell
 aiF:∀y∈sc.names,y.2≠.free
def bx{N P:List cw}{sc:i_}(a:autoParam (sc.kind=.function) am)(b:autoParam (sc.isCoroutine=false) am)(c:autoParam (sc.isGenerator=false) am)(d:N.Nodup:=by decide +kernel)(e:autoParam (N.take P.length=P) am)(f:∀x∈P,sc.names.lookup x=a_ .local\/ sc.names.lookup x=a_ .cell:=by decide +kernel)(g:∀y∈sc.names,y.2≠.free:=by decide +kernel):bc N P sc:=⟨a,b,c,d,e,f,g⟩
theorem VO{kindOf:cw->Option iq}:∀{binds:List (cw×f_)}{m:cw->Option f_},(∀v,(x,v)∉binds)->bindL kindOf binds m x=m x
 | [],_,_=>rfl
 | (n,v)::r,m,h=>by
  unfold bindL;rw[VO λw hw=>h w<|cu _ hw]
  split
  .have:x≠n:=by rintro rfl;exact h v cb
   simp[this]
  .rfl
theorem VQ{kindOf:cw->Option iq}:∀{binds:List (cw×f_)}{m:cw->Option f_},(∀v,(x,v)∉binds)->bindC kindOf binds m x=m x
 | [],_,_=>rfl
 | (n,v)::r,m,h=>by
  unfold bindC;rw[VQ λw hw=>h w<|cu _ hw]
  split
  .rfl
  .have:x≠n:=by rintro rfl;exact h v cb
   simp[this]
theorem VP{kindOf:cw->Option iq}:∀{P:List cw}{vs:List f_}{i:Nat}{m:cw->Option f_},P.Nodup->P[i]?=a_ x->vs[i]?=a_ v->kindOf x=a_ .local->bindL kindOf (P.zip vs) m x=a_ v
 | [],_,_,_,_,h,_,_=>by simp at h
 | _::_,[],_,_,_,_,h,_=>by simp at h
 | p::P,w::vs,0,m,nd,h1,h2,hk=>by
  simp at h1 h2;subst h1;subst h2;show bindL kindOf ((p,w)::P.zip vs) m p=_;unfold bindL;rw[VO λv hv=>(Cs.mp nd).1 (FG hv).1,ek hk];simp
 | p::P,w::vs,i+1,m,nd,h1,h2,hk=>by
  show bindL kindOf ((p,w)::P.zip vs) m x=_;unfold bindL;exact VP (i:=i) (Cs.mp nd).2 (by simpa using h1) (by simpa using h2) hk
theorem VR{kindOf:cw->Option iq}:∀{P:List cw}{vs:List f_}{i:Nat}{m:cw->Option f_},P.Nodup->P[i]?=a_ x->vs[i]?=a_ v->kindOf x≠a_ .local->bindC kindOf (P.zip vs) m x=a_ v
 | [],_,_,_,_,h,_,_=>by simp at h
 | _::_,[],_,_,_,_,h,_=>by simp at h
 | p::P,w::vs,0,m,nd,h1,h2,hk=>by
  simp at h1 h2;subst h1;subst h2;show bindC kindOf ((p,w)::P.zip vs) m p=_;unfold bindC;rw[VQ λv hv=>(Cs.mp nd).1 (FG hv).1,ei hk];simp
 | p::P,w::vs,i+1,m,nd,h1,h2,hk=>by
  show bindC kindOf ((p,w)::P.zip vs) m x=_;unfold bindC;exact VR (i:=i) (Cs.mp nd).2 (by simpa using h1) (by simpa using h2) hk
noncomputable def start(N:List cw)(vs:List V):St:=vs.map a_++dB (N.length-vs.length) b_
noncomputable def gK(CX:qE)(P:l_)(w:k_)(K:u_)(mg:cw->Option f_)(base:j_)(N:List cw)(qual:cw)(scope:i_)(f:e_)(cd:f_)(A:h_)(outer:List Env)(s:g_)(H:Hp)(E:XK):Cx where
 prog:=P
 w:=w
 K:=K
 mg:=mg
 base:=base
 A:=A.deeper<|d8 qual scope s.heap.objs.size f cd
 N:=N
 s₀:=s
 H₀:=H
 env:=d8 qual scope s.heap.objs.size f cd
 outer:=outer
 stack:=d8 qual scope s.heap.objs.size f cd::outer
 ex:=[]
 calm:=c_
 fn:=λ_=>c_
 pn:=[]
 xe:=λe s'=>bz (bK P w) (A.deeper<|d8 qual scope s.heap.objs.size f cd) (leaving (d8 qual scope s.heap.objs.size f cd) e) (λ_ a=>CX outer H s E e a) (λb a=>CX outer H s E b a) s'
def WN{sc:i_}{n:Nat}(h:sc.names.lookup x=a_ .cell):∃c,(cellsFrom n sc.names []).lookup x=a_ c:=by
 have q:=W.cellsFrom_some sc.names n [] (.inl h);exact Tb.mp q
def aem{CX:qE}{P:l_}{w:k_}{K:u_}{mg:cw->Option f_}{fK:j_}{scope:i_}{outer:List Env}(S:bc N ps scope)(hd:A.handled=b_)(d:yR P w K mg fK A outer s H)(C:vs.length=ps.length)(r:dn vs us)(x:InCallC s s.heap.objs.size (bindL (d8 qual scope s.heap.objs.size f cd).kindOf (ps.zip us) λ_=>b_) (cellsFrom (s.heap.objs.size+1) scope.names []) (bindC (d8 qual scope s.heap.objs.size f cd).kindOf (ps.zip us) λ_=>b_) s1):dc (gK CX P w K mg fK N qual scope f cd A outer s H E) [] (start N vs) H s1:=by
 have D:ps.length<=N.length:=by have:=fw FR S.pre;rw[gX]at this;omega
 obtain⟨h1,tk,rfl,m⟩:=x.done;have l:∀b:e_,b∉(gK CX P w K mg fK N qual scope f cd A outer s H E).ex:=λb z=>eo (show b∈([]:List e_) from z) (by simp);refine⟨⟨d.mod,S.kind,xz,xz,aD _,λy z c h1 h2=>?_,λy g=>?_,λy c _ h=>?_,λ_=>hd,abE d.frames,.inr ⟨xz,xz⟩,λb z=>eo z<|l b,d.bs,d.mQ,λb _ _=>l b,λb z=>eo z<|l b,d.mz,d.rW⟩,xz,d.bare,Un.kept m,⟨_,x.toInCall.ns,λi y v h1 h2 h3=>?_⟩,λy c h=>⟨_,x.cell y c h⟩,d.aM.fresh<|aD _,λy c h=>?_,λp j=>eo (show p∈([]:List (e_×cB)) from j) (by simp),d.aM.kept m,?_⟩
 .exact name_of_addr x.apart (t_ h1) (t_ h2)
 .have g:scope.names.lookup y=a_ .cell\/scope.names.lookup y=a_ .free:=g;obtain g|g:=g
  .exact WN g
  .exact eo xz (S.aiF _<|t_ g)
 .exact cI (x.above y c<|t_ h)
 .have hi:i<vs.length:=by
   unfold start at h2
   by_cases hi:i<vs.length
   .exact hi
   .rw[Cf (by simpa using hi)]at h2;rw[abt]at h2
    split at h2 <;> cases h2
  have ha:vs[i]?=a_ v:=by
   unfold start at h2;rw[Cj (by simpa using hi),eX]at h2;cases e:vs[i]? with
   | none=>rw[e]at h2;cases h2
   | some a=>rw[e]at h2;cases h2;rfl
  obtain⟨u,o,B⟩:=r.get ha
  have j:ps[i]?=a_ y:=by
   rw[<-S.pre,List.getElem?_take_of_lt om];exact h1
  have t:ps.Nodup:=by rw[<-S.pre];exact S.nd.sublist<|abX _ _
  refine⟨u,B,?_⟩;rcases S.par y (cH j)with k | k
  .exact .inl ⟨k,VP t j o k⟩
  .obtain⟨c,e⟩:=WN (n:=s.heap.objs.size+1) k;refine .inr ⟨.inl k,c,e,?_⟩;have q:=x.cell y c e;rw[VR t j o (by show scope.names.lookup y≠_;rw[k];decide)]at q;exact q
 .exact d.aM.fresh (cI<|x.above y c<|t_ h)
 .unfold start;show _=N.length;rw[dg,aS,abA];omega
def vy{CX:qE}{P:l_}{w:k_}{K:u_}{mg:cw->Option f_}{fK:j_}{k:Nat}{h:Arguments}{body:List bM}{scope:i_}{an od:Option e_}{jb:Array (Option f_)}{sp:Sp}(m:K.lookup f=a_ ⟨oc,od,.func<|B_ name qual h body scope dV kV doc pm an aI ct,jb⟩)(p:W.codeIn K aI qual=c_)(S:bc N ps scope)(len:∀vs H Q E,sp vs H Q E->vs.length=ps.length)(z:∀(A:h_)(outer:List Env)(s:g_)(H:Hp)(vs:List V)(Q:VK)(E:XK),eM k (A.deeper<|d8 qual scope s.heap.objs.size f aI)->sp vs H Q E->∃t,dM (gK CX P w K mg fK N qual scope f aI A outer s H E) body t/\t {nx:=λ_ H'=>Q .aH H',rt:=Q} (start N vs) H):aE P w K mg fK CX (k+1) f (B_ name qual h body scope dV kV doc pm an aI ct) ps sp:=by
 refine⟨len,λA outer s H args us vs Q E d a B r i=>?_⟩;have C:=len _ _ _ _ i;have j:K.In s.heap:=a.mod.pk.keeps λb o e=>(a.bs b o e).1;have D:s.heap.NoLimit:=a.mod.nolimit.keeps λb o e=>(a.bs b o e).1
 have F:∀y∈ps.zip us,scope.names.lookup y.1=a_ .local\/(scope.names.lookup y.1=a_ .cell/\((cellsFrom (s.heap.objs.size+1) scope.names []).lookup y.1).isSome=c_):=λ⟨n,v⟩G=>by
  obtain q|q:=S.par n (FG G).1
  .exact .inl q
  .exact .inr ⟨q,W.cellsFrom_some _ _ _<|.inl q⟩
 refine codeAny_call_function d.depth (j _ _ m) xz S.co S.gen xz (W.codeRec_of j p)<|B _ _ _ _ ?_;refine wpAny_newFunctionEnv_cells S.kind F λenv L s1 x=>?_;subst L;refine⟨D.keeps x.toInCall.keep,codeAny_func ?_⟩;obtain⟨t,M,O⟩:=z A outer s H vs Q E (d.deeper _) i;have I:dc (gK CX P w K mg fK N qual scope f aI A outer s H E) [] (start N vs) H s1:=aem S d.hd a C r x;refine ik (M [] s1 (start N vs) H _ I O) (λfl s' hs=>?_) λe s' hs=>hs
 have l:∀{c:St}{H':Hp}{v:V}{u:f_},dc (gK CX P w K mg fK N qual scope f aI A outer s H E) [] c H' s'->df v u->Q v H'->CE outer P w H s Q u s':=
  λ{c H' v u}J g q=>⟨v,H',J.os,J.bare,J.base,J.aM,g,q⟩
 cases fl with
 | ret u=>
  obtain⟨v,c,H',J,g,q⟩:=hs;exact l J g q
 | next=>
  obtain⟨c,H',J,q⟩:=hs;exact l (v:=V.aH) (u:=gq) J xz q
 | brk=>
  obtain⟨_,_,_,q⟩:=hs;exact ip q
 | cont=>
  obtain⟨_,_,_,q⟩:=hs;exact ip q
section
variable{X:Cx}{x:cw}{p pos:Pos}{e:bT}{es:List bT}{t:TA}{id T:String}{r:List V->Hp->VK->Prop}
def QS(r:List V->Hp->VK->Prop)(t:TA):TE:=λσ H Q=>t σ H λvs a=>r vs a Q
def b9(a:my X (.builtin id) r)(b:Gl X x)(hm:X.mg x=b_)(hv:Ao x=a_ (.builtin id))(ha:PA X (e::es) t)(hn:autoParam (x ≠ "__name__") ap)(c:autoParam ((x==("__debug__":cw))=false) ap)
  (d:autoParam (cg (e::es) X.env=(d_,eval e X.env)::cg es X.env) am) (f:autoParam ((cc pos<|cg es X.env).any (·.1)=false) am):PE X (.Call (.Name x p) (e::es) [] pos) (QS r t):=by
 intro p_ s σ H Q I h;refine wc<|yx I b hm hv ?_ hn c;exact PyProof.Rows.callWith_builtin1 (aT (ha pos p_ s σ H _ I h) λus s1⟨vs,g,i,j,k⟩=>a p_ s1 σ g vs us Q i j k) d f
def gu(a:my X (.type T) r)(b:Gl X x)(hm:X.mg x=b_)(hv:Ao x=a_ (.type T))(ha:PA X (e::es) t)(hn:autoParam (x ≠ "__name__") ap)(c:autoParam ((x==("__debug__":cw))=false) ap)
  (d:autoParam (cg (e::es) X.env=(d_,eval e X.env)::cg es X.env) am) (f:autoParam ((cc pos<|cg es X.env).any (·.1)=false) am):PE X (.Call (.Name x p) (e::es) [] pos) (QS r t):=by
 intro p_ s σ H Q I h;refine wc<|yx I b hm hv ?_ hn c;exact Ky (aT (ha pos p_ s σ H _ I h) λus s1⟨vs,g,i,j,k⟩=>a p_ s1 σ g vs us Q i j k) d f
end
end L2
namespace HT
section
variable{prog:l_}{w:k_}{A:h_}{E:f_->g_->Prop}{s:g_}
def ahJ{vs ws:List f_}(k:IsTup s.heap t vs.toArray)(l:IsTup s.heap b ws.toArray)(hv:vs≠[])(h1:ws=[]->Q (.ref t) s)(h2:ws≠[]->Q (.ref s.heap.objs.size) {s with heap:=s.heap.push {cls:=.type "tuple",data:=.seq (vs++ws).toArray}})(hsz:vs.length+ws.length<=aX):bz (bK prog w) A (oO .Add (.ref t)<|.ref b) Q E s:=by
 obtain⟨⟨m,dd,data,sl⟩,a,d,n,hd⟩:=id k;obtain⟨⟨o,f,p,g⟩,c,h,i,j⟩:=id l;simp only at d hd h j;subst d hd h j;have e:vs.toArray++ws.toArray=(vs++ws).toArray:=by simp
 by_cases hw:ws=[]
 .exact Ul ⟨_,a,xz⟩ ⟨_,c,xz⟩ TJ T9 PySem.F.slot_tuple_add PySem.F.entry_tuple_add (PySem.F.args_tuple_add_2 _ _)
   (tuple_addW1 t b vs.toArray ws.toArray n i dd f sl g (by simpa using hv)<|by simp[hw]) ⟨a,c,h1 hw⟩
 .refine Ul ⟨_,a,xz⟩ ⟨_,c,xz⟩ TJ T9 PySem.F.slot_tuple_add PySem.F.entry_tuple_add (PySem.F.args_tuple_add_2 _ _)
   (tuple_addW2 t b vs.toArray ws.toArray n i dd f sl g (by simpa using hv) (by simpa using hw)<|by rw[eW,eW];exact hsz) ⟨a,c,?_⟩
  rw[e];exact h2 hw
noncomputable def bZ(n d:Nat):Option Int->Nat
 | none=>d
 | some v=>if v<0 then (v+(n:Int)).toNat else min v.toNat n
def We(n d:Nat):bZ n d b_=d:=rfl
def Xb(n d k:Nat):bZ n d (a_ (k:Int))=min k n:=by
 show (if (k:Int)<0 then ((k:Int)+(n:Int)).toNat else min (k:Int).toNat n)=min k n;rw[ei om,mh]
def aid(n d:Nat)(hd:d<=n)(o:Option Int):bZ n d o<=n:=by
 cases o with
 | none=>exact hd
 | some v=>
  show (if v<0 then (v+(n:Int)).toNat else min v.toNat n)<=n
  by_cases hv:v<0
  .rw[ek hv];omega
  .rw[ei hv];exact Nat.min_le_right _ _
def XR(v:Int)(n d:Nat):(if v<0 then max (v+(n:Int)) 0 else min v (n:Int))=((bZ n d (a_ v):Nat):Int):=by
 show (if v<0 then max (v+(n:Int)) 0 else min v (n:Int))=(((if v<0 then (v+(n:Int)).toNat else min v.toNat n):Nat):Int)
 by_cases hv:v<0
 .simp only[ek hv];omega
 .simp only[ei hv];omega
def adI(lo hi:Option Int)(n:Nat):SX lo hi 1 (n:Int)=(((bZ n 0 lo:Nat):Int),((bZ n n hi:Nat):Int)):=by
 have h1:¬((1:Int)<0):=om;unfold SX;simp only[h1,if_false];refine Prod.ext ?_ ?_
 .cases lo with
  | none=>rfl
  | some v=>exact XR v n 0
 .cases hi with
  | none=>rfl
  | some v=>exact XR v n n
def adk(i j:Nat):KC (i:Int) (j:Int) 1=j-i:=by
 unfold KC;have h1:(1:Int) > 0:=om;simp only[h1,if_true,Int.ediv_one]
 split <;> omega
def UG{o:Option Int}{Q:Option Int->g_->Prop}(p:IsPart v o)(h:Q o s):bz (bK prog w) A (Builtin.Slice.slicePartIndex v) Q E s:=by
 cases p with
 | none=>exact slicePart_none h
 | int i t=>exact slicePart_int h
def Tw{sl:e_}{lo hi:Option Int}{n:Nat}{Q:Int×Int×Nat->g_->Prop}(hs:s.heap.IsSliceOf sl vl vu .none)(pl:IsPart vl lo)(c:IsPart vu hi)(h:Q (((bZ n 0 lo:Nat):Int),1,bZ n n hi-bZ n 0 lo) s):bz (bK prog w) A (abk (.ref sl)<|pure (n:Int)) Q E s:=by
 obtain⟨os,a,d,b⟩:=id hs;unfold abk Builtin.Slice.sliceFields;refine ak<|ak<|i7 a b (x:=vl) xz<|ak<|i7 a b (x:=vu) xz<|ak<|i7 a b (x:=.none) xz<|aO ?_;refine ak<|slicePart_none ?_;show bz _ _ (if ((1:Int)==0)=c_ then _ else _) _ _ s;rw[ei qc];refine ak<|UG pl<|ak<|UG c<|ak<|aO ?_;show bz _ _ (match SX lo hi 1 (n:Int)with | (lo,hi)=>pure (lo,(1:Int),KC lo hi 1)) _ _ s;rw[adI lo hi n];show bz _ _ (pure (((bZ n 0 lo:Nat):Int),(1:Int),KC ((bZ n 0 lo:Nat):Int) ((bZ n n hi:Nat):Int) 1)) _ _ s;rw[adk];exact aO h
def ae9(xs:Array f_)(i k:Nat):((List.range k).filterMap λ(m:Nat)=>xs[((i:Int)+(m:Int)*1).toNat]?).toArray=((xs.toList.drop i).take k).toArray:=by
 have e:(λ(m:Nat)=>xs[((i:Int)+(m:Int)*1).toNat]?)=λm=>xs[i+m]?:=by
  funext m
  have:((i:Int)+(m:Int)*1).toNat=i+m:=om;rw[this]
 rw[e];have:=pick_run xs i k;rw[List.filterMap_map]at this;have a:((λx=>xs[x]?) ∘ λx=>i+x)=λm=>xs[i+m]?:=rfl;rw[a]at this;rw[this]
def abN{t sl:e_}{items:Array f_}{lo hi:Option Int}(a:IsTup s.heap t items)(hs:s.heap.IsSliceOf sl vl vu .none)(pl:IsPart vl lo)(c:IsPart vu hi)(hw:¬(bZ items.size 0 lo=0/\bZ items.size items.size hi=items.size))(h:Q (.ref s.heap.objs.size) {s with heap:=s.heap.push {cls:=.type "tuple",data:=.seq ((items.toList.drop<|bZ items.size 0 lo).take<|bZ items.size items.size hi-bZ items.size 0 lo).toArray}})(hsz:items.size<=aX):bz (bK prog w) A (getItem (.ref t)<|.ref sl) Q E s:=by
 have b:sizeOk (.seq ((items.toList.drop<|bZ items.size 0 lo).take<|bZ items.size items.size hi-bZ items.size 0 lo).toArray):=by
  show ((items.toList.drop<|bZ items.size 0 lo).take<|bZ items.size items.size hi-bZ items.size 0 lo).toArray.size<=aX;rw[eW,gX,FC,v8];omega
 have i:bZ items.size items.size hi<=items.size:=aid _ _ (aD _) hi;obtain⟨os,d,e,j⟩:=id hs;have f:s.TypeIs (.ref sl) "slice":=⟨os,d,e⟩;unfold getItem
 try with_reducible refine mj ?_
 first | refine ak (aO ?_) | skip
 refine ak<|wpAny_sequenceKey a.typeIs qc ?_;refine ak<|z6 (name:=eQ "__getitem__") a.typeIs Ce<|wx Ce a.typeIs entry_tuple_getitem ?_<|args_tuple_getitem _ _;show bz _ _ (abj (.ref t) >>= _) _ _ s;refine ak<|tupleItemsOf_ a ?_;refine ak<|LH f ?_;rw[ek qc];refine ak<|Tw hs pl c ?_
 have g:¬((((bZ items.size 0 lo:Nat):Int)==0&&(1:Int)==1&&(bZ items.size items.size hi-bZ items.size 0 lo)==items.size)=c_):=by
  intro q;rw[fY,fY]at q;have k:((bZ items.size 0 lo:Nat):Int)=0:=CL q.1.1;have l:bZ items.size items.size hi-bZ items.size 0 lo=items.size:=CL q.2;exact hw ⟨om,om⟩
 show bz _ _ (if (((bZ items.size 0 lo:Nat):Int)==0&&(1:Int)==1&&(bZ items.size items.size hi-bZ items.size 0 lo)==items.size)=c_ then _ else _) _ _ s;rw[ei g,ae9]
 first
  | exact ak (m:=Fp _) (we (aO ⟨_,rfl,aO h⟩) b)
  | exact ak (m:=Fp _) (we (ak (aO (aO ⟨_,rfl,aO h⟩))) b)
  | exact ak (ak (m:=Fp _) (we (aO (aO ⟨_,rfl,aO h⟩)) b))
  | exact ak (ak (m:=Fp _) (we (aO ⟨_,rfl,aO h⟩) b))
end
end HT
namespace L2
abbrev TO:=St->Hp->(Option Int->Hp->Prop)->Prop
def PO(X:Cx)(e:Option bT)(t:TO):Prop:=
 ∀(p_:List (e_×cB))(s:g_)(σ:St)(H:Hp)(Q:Option Int->Hp->Prop),dc X p_ σ H s->t σ H Q->
  bz (bK X.prog X.w) X.A (evalPart e X.env) (λu s'=>∃o H',dc X p_ σ H' s'/\IsPart u o/\Q o H') X.xe s
def WW:TO:=λ_ H Q=>Q b_ H
def aj1(t:TE):TO:=λσ H Q=>t σ H λx a=>∃i,x=.int i/\Q (a_ i) a
section
variable{X:Cx}{e:bT}{te:TE}{lo hi:Option bT}{tl th:TO}{pos p2:Pos}
def C4:PO X b_ WW:=by
 intro p_ s σ H Q I h;rw[evalPart_none];exact aO ⟨b_,H,I,.none,h⟩
def C3(h:PE X e te):PO X (a_ e) (aj1 te):=by
 intro p_ s σ H Q I hw;rw[evalPart_some];refine aT (h p_ s σ H _ I hw) λu s1⟨x,a,b,c,d⟩=>?_;obtain⟨i,rfl,q⟩:=d;obtain⟨t,rfl⟩:=c;exact⟨a_ i,a,b,.int i t,q⟩
def Js(X:Cx)(r:V->Option Int->Option Int->Hp->VK->Prop):Prop:=
 ∀(p_:List (e_×cB))(s:g_)(σ:St)(H:Hp)(x:V)(v a b:f_)(lo hi:Option Int)(sl:e_)(Q:VK),dc X p_ σ H s->df x v->s.heap.IsSliceOf sl a b .none->IsPart a lo->IsPart b hi->r x lo hi H Q->
  ∃T id,FY (.type T) "__getitem__"=pure (a_<|.builtin id)/\s.TypeIs v T/\bz (bK X.prog X.w) X.A (getItem v<|.ref sl) (EP X p_ σ Q) X.xe s
def tSl(r:V->Option Int->Option Int->Hp->VK->Prop)(te:TE)(tl th:TO):TE:=λσ H Q=>te σ H λx a=>tl σ a λl b=>th σ b λu c=>r x l u c Q
def CO{r:V->Option Int->Option Int->Hp->VK->Prop}(g:Js X r)(i:PE X e te)(j:PO X lo tl)(k:PO X hi th):PE X (.Subscript e (.Slice lo hi b_ p2) pos) (tSl r te tl th):=by
 intro p_ s σ H Q I h;refine Subscript_ (aT (i p_ s σ H _ I h) λv s1⟨x,m,n,o,p⟩=>?_);refine wpAny_Slice (aT (j p_ s1 σ m _ n p) λc s2⟨l,t,y,pl,z⟩=>aT (k p_ s2 σ t _ y z) λd a⟨u,f,B,C,D⟩=>?_);rw[evalPart_none];refine aO ?_;have E:dc X p_ σ f {a with heap:=a.heap.push {cls:=.type "slice",data:=.fields #[c,d,.none]}}:=B.kept (t':=a.toks) λb K q=>bo _ q;obtain⟨T,id,F,G,J⟩:=g p_ {a with heap:=a.heap.push {cls:=.type "slice",data:=.fields #[c,d,.none]}} σ f x v c d l u a.heap.objs.size Q E o (Heap.IsSliceOf.new ..) pl C D;show bz (bK X.prog X.w) X.A (subscriptTail e (.Slice lo hi b_ p2) v<|.ref a.heap.objs.size) (EP X p_ σ Q) X.xe {a with heap:=a.heap.push {cls:=.type "slice",data:=.fields #[c,d,.none]}};exact tail_any (ops:=[.ref a.heap.objs.size,v]) G F J (by with_unfolding_all rfl)
def nE(xs:List V)(lo hi:Option Int):List V:=(xs.drop<|HT.bZ xs.length 0 lo).take<|HT.bZ xs.length xs.length hi-HT.bZ xs.length 0 lo
def ac5(xs:List V)(lo hi:Option Int):(nE xs lo hi).length<=xs.length:=by
 unfold nE;rw[gX,FC];omega
def ol(K:u_):V->Option Int->Option Int->Hp->VK->Prop:=λx lo hi H Q=>∃a xs,x=.ref a/\az K H a xs/\
 ¬(HT.bZ xs.length 0 lo=0/\HT.bZ xs.length xs.length hi=xs.length)/\∀p,H p=b_->Q (.ref p) (db H p<|.tup<|nE xs lo hi)
def Hw:Js X (ol X.K):=by
 intro p_ s σ H x v l m lo hi sl Q I g hs pl i h;obtain⟨a,xs,rfl,j,hw,q⟩:=h;cases g;obtain⟨k,r,d,f⟩:=I.tuple j;have c:k.toArray.size=xs.length:=by rw[eW];exact r.length.fF
 refine⟨"tuple",_,Ce.lookup,d.typeIs,?_⟩;refine HT.abN d hs pl i (by rw[c];exact hw) ?_ (by rw[c];exact f);rw[c];refine⟨.ref s.heap.objs.size,_,I.laid (t':=s.toks) (o:=.tup<|nE xs lo hi) (λb n q=>bo _ q) (aD _) ?_,xz,q _<|I.aM.fresh<|aD _⟩;exact⟨cQ (ac5 xs lo hi) f,_,(r.drop<|HT.bZ xs.length 0 lo).take<|HT.bZ xs.length xs.length hi-HT.bZ xs.length 0 lo,Gk _ _⟩
def akd(K:u_):R2:=λx y H Q=>∃a b xs ys,x=.ref a/\y=.ref b/\az K H a xs/\az K H b ys/\xs≠[]/\xs.length+ys.length<=aX/\
 (ys=[]->Q (.ref a) H)/\(ys≠[]->∀p,H p=b_->Q (.ref p) (db H p<|.tup<|xs++ys))
def dn.Hf(r:dn xs us):us=[]↔xs=[]:=by
 cases r with
 | nil=>simp
 | cons _ _=>simp
def agU:fG X (oO .Add) (akd X.K):=by
 intro p_ s σ H x y v u Q I f g h;obtain⟨a,b,xs,ys,rfl,rfl,ha,i,j,d,k,l⟩:=h;cases f;cases g;obtain⟨n,c,m,_⟩:=I.tuple ha;obtain⟨p,r2,p2,_⟩:=I.tuple i;refine HT.ahJ m p2 (λz=>j<|c.Hf.mp z) (λz=>⟨.ref a,H,I,xz,k<|r2.Hf.mp z⟩) (λz=>?_) (by rw[<-c.length,<-r2.length];exact d);refine⟨.ref s.heap.objs.size,_,I.laid (t':=s.toks) (o:=.tup<|xs++ys) (λb r q=>bo _ q) (aD _) ?_,xz,l (λw=>z<|r2.Hf.mpr w) _<|I.aM.fresh<|aD _⟩;exact⟨by rw[dg];exact d,_,c.append r2,Gk _ _⟩
end
noncomputable def rV(n:Nat)(i:Int):Option Nat:=if 0<=i then (if i<n then a_ i.toNat else b_) else if -(n:Int)<=i then a_ (i+n).toNat else b_
def jS{a:Type}(xs:List a)(i:Int):Option a:=(rV xs.length i).bind λj=>xs[j]?
def Xy{n:Nat}{i:Int}{j:Nat}(h:rV n i=a_ j):ME i n=a_ j/\j<n/\-(n:Int)<=i/\i<n:=by
 unfold rV at h
 by_cases a:0<=i
 .rw[ek a]at h
  by_cases h1:i<n
  .rw[ek h1]at h;have e:i.toNat=j:=eG h;exact⟨by rw[seqIndex_of a h1,e],om,om,h1⟩
  .rw[ei h1]at h;cases h
 .rw[ei a]at h
  by_cases h1:-(n:Int)<=i
  .rw[ek h1]at h;have e:(i+n).toNat=j:=eG h;exact⟨by rw[Uk om h1,e],om,h1,om⟩
  .rw[ei h1]at h;cases h
def XY{a:Type}{xs:List a}{i:Int}{v:a}(h:jS xs i=a_ v):∃j,ME i xs.length=a_ j/\xs[j]?=a_ v/\j<xs.length/\-(xs.length:Int)<=i/\i<xs.length:=by
 unfold jS at h;cases e:rV xs.length i with
 | none=>rw[e]at h;cases h
 | some j=>
  rw[e]at h;obtain⟨h1,h2,h3,h4⟩:=Xy e;exact⟨j,h1,h,h2,h3,h4⟩
def eI{a:Type}{xs:List a}{j:Nat}{v:a}(h:xs[j]?=a_ v):jS xs (j:Int)=a_ v:=by
 have b:j<xs.length:=(dX.mp h).1
 have e:rV xs.length (j:Int)=a_ j:=by
  unfold rV;rw[ek om,ek om];simp
 unfold jS;rw[e];exact h
def WO{a:Type}(xs:List a)(v:a):jS (xs++[v]) (-1)=a_ v:=by
 have b:(xs++[v]).length=xs.length+1:=by simp
 have e:rV (xs++[v]).length (-1)=a_ xs.length:=by
  unfold rV;rw[b,ei qc,ek om]
  congr 1
  omega
 unfold jS;rw[e];show (xs++[v])[xs.length]?=a_ v;simp
def ahP(b:bT):Prop:=∀o i,subscripted b d_ o i=operate [o,i] (getItem o i)
def Ey(X:Cx)(r:R2):Prop:=
 ∀(value a:bT)(p_:List (e_×cB))(s:g_)(σ:St)(H:Hp)(x y:V)(v u:f_)(Q:VK),dc X p_ σ H s->df x v->df y u->r x y H Q->
  subscripted a d_ v u=operate [v,u] (getItem v u)->bz (bK X.prog X.w) X.A (subscriptTail value a v u) (EP X p_ σ Q) X.xe s
def MtR(X:Cx)(id:String)(r:V->List V->Hp->VK->Prop):Prop:=
 ∀(p_:List (e_×cB))(s:g_)(σ:St)(H:Hp)(x:V)(xs:List V)(v:f_)(us:List f_)(Q:VK),dc X p_ σ H s->df x v->dn xs us->r x xs H Q->
  bz (bK X.prog X.w) X.A (call (.builtin id) (v::us)) (EP X p_ σ Q) X.xe s
section
variable{X:Cx}{a b:bT}{ta tb:TE}{pos:Pos}
def aV{r:R2}(c:Ey X r)(ha:PE X a ta)(d:PE X b tb)(hs:ahP b:=by intro _ _;rfl):PE X (.Subscript a b pos) (By r ta tb):=by
 intro p_ s σ H Q I h;exact Subscript_ (Qm ha d I h λv u s2 x y e f g i q=>c a b p_ s2 σ e x y v u Q f g i q<|hs _ _)
def Ea(K:u_):R2:=λx y H Q=>∃p xs i v,x=.ref p/\y=.int i/\aq K H p xs/\jS xs i=a_ v/\Q v H
def D'(K:u_):R2:=λx y H Q=>∃p xs i v,x=.ref p/\y=.int i/\az K H p xs/\jS xs i=a_ v/\Q v H
def cJ:Ey X (Ea X.K):=by
 intro value B p_ s σ H x y v u Q I g k h hs;obtain⟨p,xs,i,z,rfl,rfl,l,m,q⟩:=h;cases g;obtain⟨t,rfl⟩:=k;obtain⟨n,r,pl,C⟩:=I.list l;obtain⟨j,h1,h2,h3,h4,h5⟩:=XY m;obtain⟨w,d,o⟩:=r.get h2;have A:=r.length;have hn:=Dt;have e:EP X p_ σ Q w s:=⟨z,H,I,o,q⟩
 by_cases f:0<=i
 .have c:i.toNat=j:=by
   rw[seqIndex_of f h5]at h1;exact eG h1
  exact item_listR pl.isList f om (by rw[c];simpa using d) e hs
 .have c:(i+(n.toArray.size:Int)).toNat=j:=by
   rw[Uk om h4]at h1;rw[eW,<-A];exact eG h1
  exact abv (x:=w) pl.isList.typeIs slot_list_getitem.lookup
   (wpAny_getItem_list_neg (Q:=λr s'=>r=w/\EP X p_ σ Q r s') pl.isList om (by rw[eW] <;> omega) om (by rw[c];simpa using d) ⟨xz,e⟩) hs
def dO:Ey X (D' X.K):=by
 intro value n p_ s σ H x y v u Q I c d h hs;obtain⟨p,xs,i,z,rfl,rfl,e,f,q⟩:=h;cases c;obtain⟨t,rfl⟩:=d;obtain⟨o,r,pl,A⟩:=I.tuple e;obtain⟨j,h1,h2,h3,h4,h5⟩:=XY f;obtain⟨w,g,k⟩:=r.get h2;have l:=r.length;have hn:=Dt;have m:EP X p_ σ Q w s:=⟨z,H,I,k,q⟩
 exact abv (x:=w) pl.typeIs slot_tuple_getitem.lookup
  (getItem_tuple (j:=j) (Q:=λr s'=>r=w/\EP X p_ σ Q r s') pl om om (by rw[eW,<-l];exact h1) (by simpa using g) ⟨xz,m⟩) hs
def adA(c:List f_)(n j:Nat)(u:f_):qf (·.setIfInBounds j u) {cls:=.type "list",data:=.seq c.toArray n}={cls:=.type "list",data:=.seq (c.set j u).toArray n}:=by
 simp[qf]
def dc.lst(I:dc X p_ σ H s)(h:H p=a_ (.lst xs)):∃(c:List f_)(n:Nat),dn xs c/\s.heap.get? p=a_ {cls:=.type "list",data:=.seq c.toArray n}/\xs.length<=aX:=by
 obtain⟨z,c,n,r,e⟩:=I.aM p _ h;exact⟨c,n,r,e,z⟩
def dc.aiM{p_:List (e_×cB)}{σ:St}{H:Hp}{s:g_}{p:e_}{xs ys:List V}{d nF:List f_}{n c:Nat}{f:cB->cB}(I:dc X p_ σ H s)(h:H p=a_ (.lst xs))(i:s.heap.get? p=a_ {cls:=.type "list",data:=.seq d.toArray n})(g:f {cls:=.type "list",data:=.seq d.toArray n}={cls:=.type "list",data:=.seq nF.toArray c})(r:dn ys nF)(j:ys.length<=aX)(t:Nat):dc X p_ σ (db H p<|.lst ys) {s with heap:=s.heap.update p f,toks:=t}:=by
 have e:(s.heap.update p f).get? p=a_ {cls:=.type "list",data:=.seq nF.toArray c}:=by
  rw[Ab f i (by rw[g] <;> rfl),g]
 refine I.write (x:=p) (e:=p) (by rw[h];trivial) (.inl xz) (λb u k q=>(sM _ _<|eJ k).fC q) ⟨_,e⟩ ?_;exact⟨j,nF,c,r,e⟩
def akb:V->V->V->Hp->(Hp->Prop)->Prop:=λo i v H Q=>∃p xs k j,o=.ref p/\i=.int k/\H p=a_ (.lst xs)/\rV xs.length k=a_ j/\Q (db H p<|.lst<|xs.set j v)
def set_list:Qn X akb:=by
 intro p_ s σ H o i v ov B u Q I w x y h;obtain⟨p,xs,k,j,rfl,rfl,f,z,q⟩:=h;cases w;obtain⟨t,rfl⟩:=x;obtain⟨g,n,r,c,A⟩:=I.lst f;obtain⟨h1,h2,h3,h4⟩:=Xy z;have d:=r.length;have hn:=Dt
 have l:dc X p_ σ (db H p<|.lst<|xs.set j v) {s with heap:=s.heap.update p (qf (·.setIfInBounds j u))}:=
  I.aiM f c (adA g n j u) (r.set y j) (by rw[oG];exact A) s.toks
 by_cases m:0<=k
 .have e:k.toNat=j:=by
   rw[seqIndex_of m h4]at h1;exact eG h1
  exact W.ki_setAt c m om (by rw[eW,<-d];exact h4) (by rw[e];exact⟨_,l,q⟩)
 .have e:(k+(g.toArray.size:Int)).toNat=j:=by
   rw[Uk om h3]at h1;rw[eW,<-d];exact eG h1
  exact W.ki_setBack c om (by rw[eW,<-d];exact h3) om (by rw[e];exact⟨_,l,q⟩)
noncomputable def vz:V->Bool
 | .aH=>c_
 | .bl _=>c_
 | .int _=>c_
 | .str _=>c_
 | _=>d_
noncomputable def pq:V->V->Bool
 | .aH,.aH=>c_
 | .bl a,.bl b=>a==b
 | .bl a,.int b=>(if a then 1 else 0)==b
 | .int a,.bl b=>a==(if b then 1 else 0)
 | .int a,.int b=>a==b
 | .str a,.str b=>a==b
 | _,_=>d_
def ai5(d:df y u)(c:df x v)(f:vz y=c_)(e:vz x=c_):jX A s u v (pq y x):=by
 cases y with
 | aH=>
  cases d;cases x with
  | aH=>cases c;exact jX.same _
  | bl b=>cases c;exact jX.none_bool b
  | int b=>obtain⟨t,rfl⟩:=c;exact abG b t
  | str b=>obtain⟨t,rfl⟩:=c;exact jX.none_str b t
  | _=>exact eo (show d_=c_ from e) dS
 | bl a=>
  cases d;cases x with
  | aH=>cases c;exact jX.bool_none a
  | bl b=>cases c;exact jX.bool_bool a b
  | int b=>obtain⟨t,rfl⟩:=c;exact jX.bool_int a b t
  | str b=>obtain⟨t,rfl⟩:=c;exact jX.bool_str a b t
  | _=>exact eo (show d_=c_ from e) dS
 | int a=>
  obtain⟨t',rfl⟩:=d;cases x with
  | aH=>cases c;exact abH a t'
  | bl b=>cases c;exact jX.int_bool a t' b
  | int b=>obtain⟨t,rfl⟩:=c;exact jX.int_int a t' b t
  | str b=>obtain⟨t,rfl⟩:=c;exact jX.int_str a t' b t
  | _=>exact eo (show d_=c_ from e) dS
 | str a=>
  obtain⟨t',rfl⟩:=d;cases x with
  | aH=>cases c;exact jX.str_none a t'
  | bl b=>cases c;exact jX.str_bool a t' b
  | int b=>obtain⟨t,rfl⟩:=c;exact jX.str_int a t' b t
  | str b=>obtain⟨t,rfl⟩:=c;exact jX.str_str a t' b t
  | _=>exact eo (show d_=c_ from e) dS
 | _=>exact eo (show d_=c_ from f) dS
def vL(x:V)(u:f_):Bool:=match u with
 | .none=>pq .aH x
 | .bool b=>pq (.bl b) x
 | .int i _=>pq (.int i) x
 | .str z _=>pq (.str z) x
 | _=>d_
def YX(r:df y u)(f:vz y=c_):vL x u=pq y x:=by
 cases y with
 | aH=>cases r;rfl
 | bl b=>cases r;rfl
 | int i=>obtain⟨t,rfl⟩:=r;rfl
 | str z=>obtain⟨t,rfl⟩:=r;rfl
 | _=>exact eo (show d_=c_ from f) dS
theorem NM:∀{xs:List V}{us:List f_},dn xs us->xs.all vz=c_->us.any (vL x)=xs.any λy=>pq y x
 | _,_,.nil,_=>rfl
 | y::xs,u::us,.cons r t,f=>by
  rw[yd,fY]at f;rw[Am,Am,YX r f.1,NM t f.2]
theorem MZ(d:df x v)(e:vz x=c_):∀{xs:List V}{us:List f_},dn xs us->xs.all vz=c_->∀u∈us,jX A s u v<|vL x u
 | _,_,.nil,_=>λu c=>by cases c
 | y::xs,u::us,.cons r t,f=>λg c=>by
  rw[yd,fY]at f;obtain rfl|c:=a9.mp c
  .rw[YX r f.1];exact ai5 r d f.1 e
  .exact MZ d e t f.2 g c
def BB(x:V)(xs:List V):Bool:=xs.any λy=>pq y x
def rIn(K:u_)(c:Bool):R2:=λx y H Q=>∃p xs,y=.ref p/\(aq K H p xs\/az K H p xs)/\vz x=c_/\xs.all vz=c_/\Q (.bl (if c then !BB x xs else BB x xs)) H
def Ue:fG X (jL .NotIn) (rIn X.K c_):=by
 intro p_ s σ H x y v u Q I e g h;obtain⟨p,xs,rfl,c,f,fs,q⟩:=h;cases g;obtain c|c:=c
 .obtain⟨d,r,pl,i⟩:=I.list c;refine SeqAt.notIn_listAt (vL x) pl.isList (λw hw=>MZ e f r fs w<|by simpa using hw) ⟨.bl _,H,I,xz,?_⟩;rw[show d.toArray.any (vL x)=d.any (vL x) by simp,NM r fs];exact q
 .obtain⟨d,r,pl,i⟩:=I.tuple c;refine SeqAt.notIn_tupleAt (vL x) pl (λw hw=>MZ e f r fs w<|by simpa using hw) ⟨.bl _,H,I,xz,?_⟩;rw[show d.toArray.any (vL x)=d.any (vL x) by simp,NM r fs];exact q
def gm:my X (.builtin "len") (λxs H Q=>∃p ys,xs=[.ref p]/\(aq X.K H p ys\/az X.K H p ys)/\Q (.int ys.length) H):=by
 intro p_ s σ H xs us Q I r h;obtain⟨p,ys,rfl,c,q⟩:=h;obtain⟨u,rfl,f⟩:=vals1 r;cases f;have hn:=Dt;obtain c|c:=c
 .obtain⟨g,d,pl,i⟩:=I.list c;have e:=d.length;exact Calls.call_len_list pl.isList (by simp only[eW] <;> omega) ⟨.int ys.length,H,I.tok _,⟨s.toks+1,by rw[eW,e]⟩,q⟩
 .obtain⟨g,d,pl,i⟩:=I.tuple c;have e:=d.length;exact len_tuple pl (by simp only[eW] <;> omega) ⟨.int ys.length,H,I.tok _,⟨s.toks+1,by rw[eW,e]⟩,q⟩
def ye:my X (.type "list") (λxs H Q=>∃p ys,xs=[.ref p]/\(aq X.K H p ys\/az X.K H p ys)/\∀l,H l=b_->Q (.ref l) (db H l<|.lst ys)):=by
 intro p_ s σ H xs us Q I r h;obtain⟨p,ys,rfl,g,q⟩:=h;obtain⟨u,rfl,t⟩:=vals1 r;cases t
 have m:∀(c:List f_),dn ys c->ys.length<=aX->∀(h':j_)(d:Nat),(∀b o',s.heap.get? b=a_ o'->h'.get? b=a_ o')->
   h'.get? s.heap.objs.size=a_ {cls:=.type "list",dict:=b_,data:=.seq c.toArray d,slots:=#[]}->EP X p_ σ Q (.ref s.heap.objs.size) {s with heap:=h'}:=λc f i h' d kp e=>
  ⟨.ref s.heap.objs.size,_,I.laid (t':=s.toks) kp (aD _) (show hZ X.prog X.w _ h' _ (.lst ys) from ⟨i,c,d,f,e⟩),xz,q _<|I.aM.fresh<|aD _⟩
 obtain g|g:=g
 .obtain⟨c,f,pl,i⟩:=I.list g;have v:=f.length;obtain⟨o,j,k,n,hd⟩:=pl.isList;exact call_list_seq p (.inl xz) j k hd (λh' d kp e=>m c f i h' d kp e) (by simp only[eW] <;> omega)
 .obtain⟨c,f,pl,i⟩:=I.tuple g;have v:=f.length;obtain⟨o,j,k,n,hd⟩:=pl;exact call_list_seq p (.inr xz) j k hd (λh' d kp e=>m c f i h' d kp e) (by simp only[eW] <;> omega)
def kR:my X (.type "tuple") (λxs H Q=>∃p ys,xs=[.ref p]/\((aq X.K H p ys/\∀l,H l=b_->Q (.ref l) (db H l<|.tup ys))\/(az X.K H p ys/\Q (.ref p) H))):=by
 intro p_ s σ H xs us Q I r h;obtain⟨p,ys,rfl,h⟩:=h;obtain⟨u,rfl,j⟩:=vals1 r;cases j;obtain⟨c,q⟩|⟨c,q⟩:=h
 .obtain⟨d,f,pl,g⟩:=I.list c;have m:=f.length;refine call_tuple_list pl.isList (λh' kp=>?_) (by simp only[eW] <;> omega);have i:dc X p_ σ H {s with heap:=h'}:=I.kept (t':=s.toks) kp
  have k:dc X p_ σ (db H h'.objs.size<|.tup ys) {s with heap:=h'.push {cls:=.type "tuple",data:=.seq d.toArray}}:=
   i.laid (t':=s.toks) (λb o e=>bo _ e) (aD _) (show hZ X.prog X.w _ _ _ (.tup ys) from ⟨g,d,f,Gk _ _⟩)
  exact⟨.ref h'.objs.size,_,k,xz,q _<|i.aM.fresh<|aD _⟩
 .obtain⟨d,f,pl,g⟩:=I.tuple c;exact call_tuple_same pl ⟨.ref p,H,I,xz,q⟩
def kL(K:u_)(T:String)(x:V)(H:Hp):Prop:=match x with
 | .str _=>T="str"
 | .int _=>T="int"
 | .ref p=>(T="list"/\∃xs,aq K H p xs)\/(T="tuple"/\∃o,K.lookup p=a_ o/\o.cls=.type "tuple"/\o.dict=b_)\/
   (T="dict"/\((∃iC,H p=a_ (.dK iC))\/∃iC,H p=a_ (.dT iC)))\/(T="set"/\∃S n,H p=a_ (.set S n))
 | _=>False
def ahU{T:String}(I:dc X p_ σ H s)(r:df x v)(ty:kL X.K T x H):s.TypeIs v T/\∀a,v=.ref a->∃g,s.heap.get? a=a_ g/\g.dict=none:=by
 cases x with
 | str z=>
  obtain⟨t,rfl⟩:=r;cases (show T="str" from ty);exact⟨typeIs_str s z t,λ_ e=>nomatch e⟩
 | int i=>
  obtain⟨t,rfl⟩:=r;cases (show T="int" from ty);exact⟨FZ s i t,λ_ e=>nomatch e⟩
 | ref p=>
  cases r;obtain⟨rfl,xs,h⟩|⟨rfl,o,d,j,hd⟩|⟨rfl,d⟩|⟨rfl,S,n,d⟩:=ty
  .obtain⟨k,_,pl,_⟩:=I.list h;refine⟨pl.isList.typeIs,λa e=>?_⟩;cases e;obtain⟨o,n,e,c,hd,_⟩:=pl;exact⟨o,e,hd⟩
  .refine⟨⟨o,I.cZ p o d,j⟩,λa e=>?_⟩;cases e;exact⟨o,I.cZ _ o d,hd⟩
  .have z:∃o,s.heap.get? p=a_ o/\o.ExactDict:=by
    obtain⟨iC,d⟩|⟨iC,d⟩:=d
    .obtain⟨_,_,_,_,o,_,_,e,ex,_⟩:=I.aM p _ d;exact⟨o,e,ex⟩
    .obtain⟨_,_,o,_,_,e,ex,_⟩:=I.aM p _ d;exact⟨o,e,ex⟩
   obtain⟨o,e,ex⟩:=z;refine⟨⟨o,e,ex.1⟩,λa f=>?_⟩;cases f;exact⟨o,e,ex.2.1⟩
  .obtain⟨o,_,_,_,e,ex,_⟩:=I.aM p _ d;refine⟨⟨o,e,ex.1⟩,λa f=>?_⟩;cases f;exact⟨o,e,ex.2.1⟩
 | _=>exact ip ty
abbrev tBM(K:u_)(T:String)(r:V->List V->Hp->VK->Prop)(to:TE)(t:TA):TE:=λσ H Q=>to σ H λx H1=>kL K T x H1/\t σ H1 λxs H2=>r x xs H2 Q
variable{o e:bT}{es:List bT}{to:TE}{t:TA}{name:cw}{apos nG:Pos}{T id:String}{r:V->List V->Hp->VK->Prop}
def lh(g:PlainAttrs T)(slot:Slot T name id)(i:typeOf (.builtin id)=pure (.type "method_descriptor"))(hm:MtR X id r)(j:PE X o to)(ha:PA X (e::es) t)
  (k:autoParam (Cu o name X.env (eval o X.env)=eval o X.env) am)
  (l:autoParam (((cc nG<|cg (e::es) X.env).all (λx=>!x.1)&&(AG nG<|Au [] X.env).all (λx=>x.1.isSome)
   && decide ((e::es).length+([]:List Keyword).length+(if ([]:List Keyword).isEmpty then 0 else 1)<30))=true) am)
  (m:autoParam ((apos.endLine==nG.line)=true) am) (hs:autoParam (cg (e::es) X.env=(d_,eval e X.env)::cg es X.env) am) (n:autoParam ((cc nG<|cg es X.env).any (·.1)=false) am) :
  PE X (.Call (.Attribute o name apos) (e::es) [] nG) (tBM X.K T r to t):=by
 intro p_ s σ H Q I h;refine wpAny_Call_method_late k l m xz (aT (j p_ s σ H _ I h) λv s1⟨x,p,c,d,ty,q⟩=>?_);obtain⟨h1,h2⟩:=ahU c d ty;refine⟨T,id,g,slot,i,h1,h2,?_⟩;have f:=ha nG p_ s1 σ p _ c q;rw[hs]at f ⊢;refine Calls.callWith_builtin (by show (d_||(cc nG<|cg es X.env).any (·.1))=d_;rw[n] <;> rfl)<|Calls.evalArgs_plain ?_;exact aT f λus s2⟨vs,u,w,r2,y⟩=>hm p_ s2 σ u x vs v us Q w d r2 y
end
def Q4(X:Cx)(id:String)(r:V->List V->Hp->VK->Prop):Prop:=
 ∀(p_:List (e_×cB))(s:g_)(σ:St)(H:Hp)(x:V)(xs:List V)(v:f_)(us:List f_)(Q:VK),dc X p_ σ H s->df x v->dn xs us->r x xs H Q->
  bz (bK X.prog X.w) X.A (call (.builtin id) (v::us)) (EP X p_ σ Q) X.xe s
def dn.one:∀{x:V}{us:List f_},dn [x] us->∃u,us=[u]/\df x u
 | _,_,.cons r .nil=>⟨_,xz,r⟩
theorem dn.eraseIdx:∀{xs:List V}{us:List f_}(i:Nat),dn xs us->dn (xs.eraseIdx i) (us.eraseIdx i)
 | _,_,_,.nil=>.nil
 | _,_,0,.cons _ t=>t
 | _,_,i+1,.cons r t=>.cons r<|dn.eraseIdx i t
theorem dn.rep(h:dn xs us):∀k:Nat,dn (dB k xs).flatten (dB k us).flatten
 | 0=>.nil
 | k+1=>by
  rw[Fu,Fu,Lb,Lb];exact dn.append h<|dn.rep h k
theorem Vu{a:Type}:∀(l:List a)(i:Nat),(l.eraseIdx i).length<=l.length
 | [],_=>aD _
 | _::_,0=>jf _
 | _::r,i+1=>FA<|Vu r i
theorem foldl_rep(a:List f_):∀(k:Nat)(b:List f_),Ma (λc d=>c++d) b.toArray (dB k a.toArray)=(b++(dB k a).flatten).toArray
 | 0,b=>by simp
 | k+1,b=>by
  have e:b.toArray++a.toArray=(b++a).toArray:=by simp
  have f:(b++a)++(dB k a).flatten=b++(dB (k+1) a).flatten:=by
   rw[Fu,Lb,ab0]
  rw[<-f,<-foldl_rep a k<|b++a,<-e,Fu,List.foldl_cons]
section
variable{X:Cx}{p_:List (e_×cB)}{σ:St}{H:Hp}{s:g_}{l b:e_}{xs ys zs:List V}
def dc.Qj{a nF:List f_}{n:Nat}{f:Array f_->Array f_}{t':Nat}(I:dc X p_ σ H s)(c:H l=a_ (.lst xs))(e:s.heap.get? l=a_ {cls:=.type "list",data:=.seq a.toArray n})(d:f a.toArray=nF.toArray)(hv:dn ys nF)(g:ys.length<=aX):dc X p_ σ (db H l<|.lst ys) {s with heap:=s.heap.update l<|qf f,toks:=t'}:=by
 have q:=PySem.IsL.update e f;rw[d]at q;refine I.write (x:=l) (e:=l) (by rw[c];exact trivial) (.inl xz) (λj u h i=>(sM s.heap (qf f)<|eJ h).fC i) ⟨_,q⟩ ?_;exact⟨g,nF,_,hv,q⟩
def dc.aan{t':Nat}(I:dc X p_ σ H s)(hv:dn ys ar)(a:ys.length<=aX):dc X p_ σ (db H s.heap.objs.size<|.lst ys) {s with heap:=s.heap.push {cls:=.type "list",data:=.seq ar.toArray},toks:=t'}:=
 I.laid (λ_ _ q=>bo _ q) (aD _) ⟨a,ar,0,hv,iF _ xz⟩
def dc.fresh(I:dc X p_ σ H s):H s.heap.objs.size=none:=I.aM.fresh<|aD _
def dc.yH(I:dc X p_ σ H s)(c:H l=a_ (.lst xs)):xs.length<=aX/\∃(a:List f_)(n:Nat),dn xs a/\xs.length=a.length/\s.heap.get? l=a_ {cls:=.type "list",data:=.seq a.toArray n}:=by
 obtain⟨z,a,n,r,e⟩:=I.aM l _ c;exact⟨z,a,n,r,r.length,e⟩
def Wq{n:Nat}(h:n<=aX):KG n=false:=by
 unfold KG;exact eT om
end
section
variable{X:Cx}
def agF:V->List V->Hp->VK->Prop:=λx vs H Q=>∃l xs y,x=.ref l/\vs=[y]/\H l=a_ (.lst xs)/\xs.length<aX/\Q .aH (db H l<|.lst<|xs++[y])
def nh:Q4 X "list.append" agF:=by
 intro p_ s σ H x vs v us Q I c d h;obtain⟨l,xs,y,rfl,rfl,a,g,q⟩:=h;cases c;obtain⟨u,rfl,f⟩:=d.one;obtain⟨z,b,n,r,i,e⟩:=I.yH a;refine yn F.slot_list_append ⟨_,e,xz⟩ F.entry_list_append (F.args_list_append_2 _ _) (PySem.list_append l b.toArray n u<|by rw[eW];omega) ⟨e,?_⟩;refine⟨.aH,_,I.Qj (nF:=b++[u]) a e (by simp) (r.append<|.cons f .nil) ?_,xz,q⟩;rw[dg,KI];omega
def agE:V->List V->Hp->VK->Prop:=λx vs H Q=>∃l b xs a,x=.ref l/\vs=[.ref b]/\H l=a_ (.lst xs)/\H b=a_ (.lst a)/\xs.length+a.length<=aX/\Q .aH (db H l<|.lst<|xs++a)
def Vq:Q4 X "list.extend" agE:=by
 intro p_ s σ H x vs v us Q I f g h;obtain⟨l,b,xs,p,rfl,rfl,d,i,t,q⟩:=h;cases f;obtain⟨u,rfl,j⟩:=g.one;cases j;obtain⟨z,a,n,r,w,e⟩:=I.yH d;obtain⟨y,c,k,r2,A,m⟩:=I.yH i;have hsz:a.toArray.size+c.toArray.size<=aX:=by rw[eW,eW];omega
 have o:¬(!a.toArray.isEmpty&&KG (a.toArray.size+c.toArray.size))=true:=by
  rw[Wq hsz,Lr];exact dS
 refine yn F.slot_list_extend ⟨_,e,xz⟩ F.entry_list_extend (F.args_list_extend_2 _ _)
  (AutoSeq1.list_extend_list_list_0 l a.toArray n b c.toArray k o (by rw[eW];omega) om) ⟨e,m,?_⟩
 refine⟨.aH,_,I.Qj (nF:=a++c) d e (by simp) (r.append r2) ?_,xz,q⟩;rw[dg];omega
def aik:V->List V->Hp->VK->Prop:=λx vs H Q=>∃l xs i k y,x=.ref l/\vs=[.int i]/\H l=a_ (.lst xs)/\-(2^63)<=i/\i<2^63/\ME i xs.length=a_ k/\xs[k]?=a_ y/\Q y (db H l<|.lst<|xs.eraseIdx k)
def afz:Q4 X "list.pop" aik:=by
 intro p_ s σ H x vs v us Q I c d h;obtain⟨l,xs,i,k,y,rfl,rfl,b,h1,h2,f,g,q⟩:=h;cases c;obtain⟨u,rfl,j⟩:=d.one;obtain⟨t,rfl⟩:=j;obtain⟨z,a,n,r,m,e⟩:=I.yH b;obtain⟨w,hw,o⟩:=r.get g
 refine yn F.slot_list_pop ⟨_,e,xz⟩ F.entry_list_pop (F.args_list_pop_2 _ _)
  (MeetsSeq.list_pop_at l a.toArray n i t k w (fitsIndex_both h1 h2) (by rw[eW,<-m];exact f) (by rw[<-Tf];exact hw)<|by rw[eW];omega) ⟨e,?_⟩
 refine⟨y,_,I.Qj (nF:=a.eraseIdx k) b e ?_ (r.eraseIdx k) ?_,o,q⟩
 .show a.toArray.eraseIdxIfInBounds k=(a.eraseIdx k).toArray;rw[List.eraseIdxIfInBounds_toArray]
 .have:=Vu xs k;omega
def alZ:R2:=λx y H Q=>∃l b xs a,x=.ref l/\y=.ref b/\H l=a_ (.lst xs)/\H b=a_ (.lst a)/\xs.length+a.length<=aX/\∀p,H p=b_->Q (.ref p) (db H p<|.lst<|xs++a)
def Om:fG X (oO .Add) alZ:=by
 intro p_ s σ H x y v u Q I d f h;obtain⟨l,b,xs,k,rfl,rfl,g,i,m,q⟩:=h;cases d;cases f;obtain⟨z,a,n,r,o,e⟩:=I.yH g;obtain⟨p,c,t,r2,w,j⟩:=I.yH i;refine PySem.P.add_list e j ?_ (by rw[eW,eW];omega);have ea:a.toArray++c.toArray=(a++c).toArray:=by simp
 rw[ea];exact⟨.ref _,_,I.aan (t':=s.toks) (r.append r2) (by rw[dg];omega),xz,q _ I.fresh⟩
def alX:R2:=λx y H Q=>∃l k xs,x=.ref l/\y=.int k/\H l=a_ (.lst xs)/\-(2^63)<=k/\k<2^63/\xs.length*k.toNat<=aX/\
 ∀p,H p=b_->Q (.ref p) (db H p<|.lst (dB k.toNat xs).flatten)
def len_rep{a:Type}(xs:List a)(k:Nat):(dB k xs).flatten.length=k*xs.length:=by
 induction k with
 | zero=>simp
 | succ k ih=>rw[Fu,Lb,dg,ih,Nat.succ_mul,Nat.add_comm]
def Yt:fG X (oO .Mult) alX:=by
 intro p_ s σ H x y v u Q I g i h;obtain⟨l,k,xs,rfl,rfl,j,h1,h2,f,q⟩:=h;cases g;obtain⟨t,rfl⟩:=i;obtain⟨z,b,n,r,o,e⟩:=I.yH j;have p:b.toArray.size*k.toNat<=aX:=by rw[eW,<-o];exact f
 have w:¬b.toArray.size*k.toNat > (2^63-1)/8:=by
  have:(aX:Nat)<=(2^63-1)/8:=qc;omega
 have A:¬(!Builtin.List.listFitsIndex k)=true:=by
  rw[fitsIndex_both h1 h2];exact dS
 have B:¬KG (b.toArray.size*k.toNat)=true:=by
  rw[Wq p];exact dS
 have C:Ma (λc d=>c++d) #[] (dB (if b.toArray.isEmpty=c_ then 0 else k.toNat) b.toArray)=(dB k.toNat b).flatten.toArray:=by
  have D:∀m:Nat,Ma (λc d=>c++d) #[] (dB m b.toArray)=(dB m b).flatten.toArray:=λm=>by
   have:=foldl_rep b m [];rw[Ct]at this;exact this
  rw[D];cases b with
  | nil=>simp
  | cons a r'=>rw[ei (by simp)]
 refine abm (T:="list") (U:="int") qc ⟨_,e,xz⟩ (λs'=>FZ s' k t) noFill_list_mul F.fills_int_mul Lm repeat_list F.slot_int_index.lookup
  (yn Lm (FZ s k t) F.entry_int_rmul (F.args_int_rmul_2 _ _) (int___rmul___int_list k t l b.toArray n) ⟨e,xz,⟨_,e,xz⟩,yn F.slot_list_mul ⟨_,e,xz⟩ F.entry_list_mul (F.args_list_mul_2 _ _) (AutoListH.list___mul___list_int_3 l b.toArray n k t A w B) ⟨e,?_⟩⟩)
 rw[C];exact⟨.ref _,_,I.aan (t':=s.toks) (r.rep k.toNat) (by rw[len_rep,Up];exact f),xz,q _ I.fresh⟩
end
section
variable{prog:l_}{w:k_}{A:h_}{E:f_->g_->Prop}{s:g_}
end
end L2
namespace Att
open PySem.W PySem.Calls
def acd{P:Params}:∀(ns:List Int)(vs:List f_),WellAll P h vs (ns.map Gi)->IntsAre vs ns:=by
 intro ns
 induction ns with
 | nil=>
  intro vs w;rw[List.map_nil]at w;cases w;exact .nil
 | cons n ns ih=>
  intro vs w;rw[fu]at w;cases w with
  | cons a b=>
   cases a;exact .cons _ _<|ih _ b
def adW{l:OpenLaw}{n:Nat}(hn:l.most=a_ n){P:Params}{args:List WData}(b:l.row.toRowW.claim.pre args=c_)(e:WellAll P h vals args):∃a vs ns,vals=[bN a]/\args=[WData.list (ns.map Gi)]/\h.get? a=a_ {cls:=.type "list",data:=.seq vs.toArray}/\IntsAre vs ns/\ns.length<=n:=by
 have f:WShape.hasAll [] args [.list .int]=true:=(pre_splitW b).1;have c:l.pre.holds [] {args:=args}=true:=(pre_splitW b).2;obtain⟨d,r,rfl,h1,h2⟩:=hasAllW_cons f;obtain rfl:=hasAllW_nil h2;obtain⟨xs,rfl,h3⟩:=hasW_list h1;obtain⟨ns,rfl⟩:=items_int h3
 have g:ns.length<=n:=by
  unfold OpenLaw.pre at c
  have h4:(WTm.not<|.lt (.lit<|.int (n:Int))<|.len<|.arg 0).holds [] {args:=[.list (ns.map .int)]}=true:=by
   have h4:=(holds_andW c).1;rw[hn]at h4;exact h4
  have h5:=condW_of h4<|w_not<|w_lt w_lit<|w_len_list<|w_arg xz;rw[aS]at h5;refine Nat.le_of_not_lt λq=>?_;have i:(n:Int)<((ns.length:Nat):Int):=om
  first
   | (rw[eu i]at h5;exact eo h5 qc)
   | (simp at h5;omega)
 cases e with
 | cons w1 w2=>
  cases w2;cases w1 with
  | list ho uh=>exact⟨_,_,ns,xz,xz,ho,acd ns _ uh,g⟩
def ad2(l:OpenLaw)(args:List WData):l.row.toRowW.claim.post args (.bool c_) args=true:=
 postW_of (r:=l.row.toRowW) (X:=(c_==c_))
  (show WShape.has [] (.bool c_) .bool=c_ by first | rfl | decide | simp[WShape.has,WShape.arms,WShape.armsAll])
  (show (WTm.eq .res<|.lit<|.bool c_).value [] {args:=args,res:=a_<|.bool c_,after:=args}=a_ (.bool<|c_==c_) from w_eq_bool (w_res xz) w_lit) xz
end Att
namespace L2
theorem U9:∀{vs:List f_}{ns:List Int},IntsAre vs ns->dn (ns.map V.int) vs
 | _,_,.nil=>.nil
 | _,_,.cons n t h=>.cons ⟨t,xz⟩<|U9 h
abbrev aL:qE:=λ_ _ _ _ _ _=>False
abbrev E0:XK:=λ_ _ _=>False
def cX{X:Cx}:Passes aL X E0:=λ_ _ _ _ _ _ _ h=>h.elim
structure aW(K:u_)(x qual:cw)(st:bM)(f:e_)(fd:ir):Prop where
 ex:∃(oc:f_)(od:Option e_)(kV doc pm:f_)(an:Option e_)(aI ct:f_)(jb:Array (Option f_)),fd=B_ x qual (mw st) (fj st) (aR st) .none kV doc pm an aI ct/\K.lookup f=a_ ⟨oc,od,.func fd,jb⟩/\W.codeIn K aI qual=c_
 kp:x_ K (.ref f)=c_
section
variable{P:l_}{w:k_}{K:u_}{mg:cw->Option f_}{fK:j_}
def aW.ok{st:bM}{k:Nat}{sp:Sp}(F:aW K x qual st f fd)(S:bc N ps (aR st))
  (a:∀(aI:f_)(A:h_)(outer:List Env)(s:g_)(H:Hp)(vs:List V)(Q:VK)(E:XK),eM k (A.deeper<|d8 qual (aR st) s.heap.objs.size f aI)->sp vs H Q E->
   ∃t,dM (gK aL P w K mg fK N qual (aR st) f aI A outer s H E).lH (fj st) t/\t {nx:=λ_ H'=>Q .aH H',rt:=Q} (start N vs) H) (len:∀vs H Q E,sp vs H Q E->vs.length=ps.length:=by intro _ _ _ _ h;(repeat obtain⟨_,h⟩:=h);subst_vars;rfl):aE P w K mg fK aL (k+1) f fd ps sp:=by
 obtain⟨oc,od,kV,doc,pm,an,aI,ct,jb,rfl,b,c⟩:=F.ex;refine vy b c S len λA outer s H vs Q E d e=>?_;obtain⟨t,h,q⟩:=a aI A outer s H vs Q E d e;exact⟨t,h.lH,q⟩
def aW.binds{st:bM}(F:aW K x qual st f fd)(h:∀(kV doc pm:f_)(an:Option e_)(aI ct:f_)(us:List f_),us.length=ps.length->vf (B_ x qual (mw st) (fj st) (aR st) .none kV doc pm an aI ct) ⟨us,[]⟩=pure (ps.zip us)):dt K fd ps []:=by
 obtain⟨oc,od,kV,doc,pm,an,aI,ct,jb,rfl,a,b⟩:=F.ex;exact .all<|h kV doc pm an aI ct
def YL{st:bM}{od an:Option e_}{jb:Array (Option f_)}(l:K.lookup f=a_ ⟨oc,od,.func<|B_ x qual (mw st) (fj st) (aR st) .none kV doc pm an aI ct,jb⟩)(c:W.codeIn K aI qual=c_)(k:x_ K (.ref f)=c_):aW K x qual st f (B_ x qual (mw st) (fj st) (aR st) .none kV doc pm an aI ct):=⟨⟨oc,od,kV,doc,pm,an,aI,ct,jb,xz,l,c⟩,k⟩
end
def cU{n:Nat}(h:n<=1000):n<aX:=m7 h qc
section
variable{X:Cx}
def pv(i:Nat)(hN:autoParam (X.N[i]?=a_ x) am)(hv:BJ X.env.scope x:=by first | exact aP xz | exact yA (aP xz) | exact yA (yA xz))(hd:autoParam ((x==("__debug__":cw))=false) ap)
  (a:autoParam ((x==("__classdict__":cw))=false) ap):PE X (.Name x pos) (nD i):=ain hN hv hd a
end
def fq{A B:Prop}(h:B):if d_=c_ then A else B:=by
 rw[ei dS];exact h
def iQ{A B:Prop}(h:A):if c_=c_ then A else B:=by
 rw[ek rfl];exact h
def af(H H':Hp):Prop:=∀b o,H b=a_ o->H' b=a_ o
def af.refl(H:Hp):af H H:=λ_ _ h=>h
def af.fC(a:af H H1)(b:af H1 H2):af H H2:=λc o h=>b c o<|a c o h
def af.free(e:af H H')(h:H' l=Option.none):H l=Option.none:=by
 cases q:H l with
 | none=>rfl
 | some o=>
  rw[e l o q]at h;cases h
section
variable{K:u_}{σ:St}{H:Hp}{Q:VK}{p C dx:e_}{xs:List V}{v:V}{i:Nat}{j:Int}{fs:List (cw×V)}{f:cw}
def vr(h:σ[i]?=a_ (a_ v))(q:Q v H):nD i σ H Q:=⟨v,h,q⟩
def rT(s:az K H p xs)(a:jS xs j=a_ v)(q:Q v H):D' K (.ref p) (.int j) H Q:=⟨_,_,_,_,xz,xz,s,a,q⟩
def rL(s:aq K H p xs)(a:jS xs j=a_ v)(q:Q v H):Ea K (.ref p) (.int j) H Q:=⟨_,_,_,_,xz,xz,s,a,q⟩
def cL(s:aq K H p xs)(a:jS xs j=a_ v)(q:Q v H):tC (.int j) σ H λy b=>Ea K (.ref p) y b Q:=⟨_,_,_,_,xz,xz,s,a,q⟩
def vT(h:σ[i]?=a_ (a_<|.ref p))(s:az K H p xs)(a:jS xs j=a_ v)(q:Q v H):By (D' K) (nD i) (tC<|.int j) σ H Q:=⟨_,h,_,_,_,_,xz,xz,s,a,q⟩
def vF(h:σ[i]?=a_ (a_<|.ref p))(e:H p=a_ (.ins C dx fs))(c:eO K C)(n:bp K C f)(l:fs.lookup f=a_ v)(q:Q v H):Ip K (nD i) f σ H Q:=⟨_,h,_,_,_,_,_,xz,e,c,n,l,q⟩
def vM(h:σ[i]?=a_ (a_<|.ref p))(e:H p=a_ (.ins C dx fs))(l:fs.lookup m=b_)(q:t σ H λvs a=>sp (.ref p::(vs++dvs)) a Q E):DD C m sp dvs E (nD i) t σ H Q:=⟨_,h,_,_,_,xz,e,l,q⟩
end
section
variable{K:u_}{σ:St}{H:Hp}{Q:VK}{p C dx:e_}{v:V}{fs:List (cw×V)}{f:cw}
def rM{R:Prop}(e:H p=a_ (.ins C dx fs))(l:fs.lookup m=b_)(q:R):∃a dx fs,V.ref p=.ref a/\H a=a_ (.ins C dx fs)/\fs.lookup m=b_/\R:=⟨_,_,_,xz,e,l,q⟩
def tk{R:Bool->Prop}{k:Bool}(q:R k):∃k',V.bl k=.bl k'/\R k':=⟨k,xz,q⟩
end
def rQ(h:dM X ss t)(q:t D σ H):∃t,dM X ss t/\t D σ H:=⟨t,h,q⟩
section
variable{K:u_}{σ:St}{H:Hp}{Q:VK}{p:e_}{xs:List V}{v:V}{i j:Nat}
def lF(h:σ[i]?=a_ (a_<|.ref p))(e:H p=a_ (.tup xs))(a:xs[j]?=a_ v)(q:Q v H):By (D' K) (nD i) (tC<|.int (j:Int)) σ H Q:=vT h (az.of e) (eI a) q
def cl1(e:H p=a_ (.lst xs))(a:xs[j]?=a_ v)(q:Q v H):tC (.int (j:Int)) σ H λy b=>Ea K (.ref p) y b Q:=cL (σ:=σ) (aq.of e) (eI a) q
end
end L2
namespace L3
noncomputable def tests(a:List bT)(env:Env):Sem Bool:=
 forIn a c_ λc r=>if r=c_ then (do let ok <-isTrue c env (eval c env);pure (Lk ok)) else pure (Lk r)
section
variable{prog:l_}{w:k_}{A:h_}{R:Result->g_->Prop}{s:g_}
def aez(J:Nat->g_->Prop)(k:∀e s',EE e s'->notedBy (bK prog w) A env (λe s'=>R (.error e) s') e s')(turn:∀n s,J n s->bz (bK prog w) A (pyNext it) (λr a=>(r=b_->R (.ok .next) a)/\∀v,r=a_ v->bz (bK prog w) A (Lj tg it v) (λ_ c=>bz (bK prog w) A (assign tg env v) (λ_ d=>bz (bK prog w) A (tests ifs env) (λok b=> (ok=c_->bz (bK prog w) A (eval elt env) (λx f=>bz (bK prog w) A (call (.builtin "list.append") [acc,x]) (λ_ g=>∃m,m<n/\J m g) EE f) EE b)/\ (ok=d_->∃m,m<n/\J m b)) EE d) EE c) EE a) EE s)(n:Nat)(h:J n s):codeAny (bK prog w) A (.compLoop (.ListComp elt [⟨tg,iter,ifs,0⟩] sc pos) 0 it acc env) R s:=by
 refine codeAny_loop xz J (λn s l=>?_) n h;show bz _ A ((compTurn (.ListComp elt [⟨tg,iter,ifs,0⟩] sc pos) 0 it acc env).onRaise _) _ _ s;refine wpAny_noted (ik (E:=EE) ?_ (λ_ _ q=>q) λe s' q=>k e s' q);rw[compTurn_list];refine ak<|Ak<|ak (ik (turn n s l) (λr a i=>?_) λ_ _ q=>q);cases r with
 | none=>exact aO<|i.1 xz
 | some v=>
  refine ak (ik (i.2 v xz) (λ_ c o=>?_) λ_ _ q=>q);refine ak (ik o (λ_ d p=>?_) λ_ _ q=>q);refine ak (ik p (λok b j=>?_) λ_ _ q=>q);cases ok with
  | false=>exact aO ⟨xz,j.2 xz⟩
  | true=>
   refine ak<|ak (ik (j.1 xz) (λx f t=>?_) λ_ _ q=>q);exact ak (ik t (λ_ g u=>aO<|aO ⟨xz,u⟩) λ_ _ q=>q)
def adT(h:Q c_ s):bz (bK prog w) A (tests [] env) Q E s:=aO h
def adS(h:bz (bK prog w) A (isTrue c env<|eval c env) Q E s):bz (bK prog w) A (tests [c] env) Q E s:=by
 unfold tests;rw[Ai];exact ak<|ak (ik h (λok s' q=>aO<|aO q) λ_ _ q=>q)
noncomputable def gA(cells:List (cw×e_)):List (cw×iq)->List (cw×e_)->List (cw×e_)
 | [],acc=>acc
 | (n,k)::r,acc=>if k==.free then gA cells r (match cells.lookup n with | some c=>(n,c)::acc | none=>acc) else gA cells r acc
theorem U0:∀(names:List (cw×iq))(a:List (cw×e_)),(∀p∈names,p.2=.free->∃c,env.cells.lookup p.1=a_ c)->
  (forIn names a λ(x:cw×iq)(cs:List (cw×e_))=>match x with
   | (name,kind)=>if (kind==sW)=c_ then (do let c <-cellOf env name;pure (Lk ((name,c)::cs))) else (pure (Lk cs):Sem (ForInStep<|List<|cw×e_)))=pure (gA env.cells names a)
 | [],a,_=>rfl
 | (n,k)::r,a,h=>by
  have ih:=λa=>U0 r a λp f=>h p<|cu _ f;rw[Ai]
  by_cases b:(k==sW)=c_
  .obtain⟨c,d⟩:=h (n,k) cb (by simpa using b);have e:cellOf env n=pure c:=by unfold cellOf;rw[d]
   dsimp only;rw[ek b,e];unfold gA;rw[ek b,d];exact ih _
  .dsimp only;rw[ei b];unfold gA;rw[ei b];exact ih _
def FX(h:∀p∈sc.names,p.2=.free->∃c,env.cells.lookup p.1=a_ c):closureFor sc env=pure (gA env.cells sc.names []):=by
 unfold closureFor;have e:=U0 (env:=env) sc.names [] h;simp only[e];rfl
theorem GJ:∀(names:List (cw×iq))(a:List (cw×e_)),(∀x c,a.lookup x=a_ c->cells.lookup x=a_ c)->∀x c,(gA cells names a).lookup x=a_ c->cells.lookup x=a_ c
 | [],a,h,x,c,e=>h x c e
 | (n,k)::r,a,h,x,c,e=>by
  unfold gA at e
  split at e
  .refine GJ r _ (λy d q=>?_) x c e
   split at q
   .rename_i i f
    by_cases b:y=n
    .subst b;rw[Aa]at q;cases q;exact f
    .have g:=fi.mpr b;rw[qR,g]at q;exact h y d q
   .exact h y d q
  .exact GJ r a h x c e
theorem MB:∀(names:List (cw×iq))(a:List (cw×e_))(x:cw),(∃c,a.lookup x=a_ c)->∃c,(gA cells names a).lookup x=a_ c
 | [],a,x,h=>h
 | (n,k)::r,a,x,h=>by
  unfold gA
  split
  .refine MB r _ x ?_
   split
   .rename_i d f
    by_cases b:x=n
    .subst b;exact⟨d,Aa⟩
    .have e:=fi.mpr b;rw[qR,e];exact h
   .exact h
  .exact MB r a x h
theorem GN:∀(names:List (cw×iq))(b:List (cw×e_))(x:cw),(x,sW)∈names->(∃c,cells.lookup x=a_ c)->∃c,(gA cells names b).lookup x=a_ c
 | [],b,x,h,_=>by cases h
 | (n,k)::r,b,x,h,a=>by
  unfold gA;obtain e|e:=a9.mp h
  .cases e;obtain⟨c,a⟩:=a;rw[ek<|beq_self_eq_true _,a];exact MB r _ n ⟨c,Aa⟩
  .split
   .exact GN r _ x e a
   .exact GN r b x e a
end
end L3
namespace L2
open L3
def kg(X:Cx)(sc:i_)(N:List cw)(s:g_)(H:Hp)(ex:List e_)(C:e_)(EE:f_->g_->Prop):Cx:=
 {X with N:=N,s₀:=s,H₀:=H,env:=GQ sc (gA X.env.cells sc.names []) C X.env,outer:=X.stack,ex:=ex,fn:=λ_=>d_,pn:=[],xe:=EE}
def zh(X:Cx)(sc:i_)(N:List cw)(s:g_)(H:Hp)(ex:List e_)(C:e_):Cx:=kg X sc N s H ex C λ_ _=>False
structure dJ(X:Cx)(sc:i_)(N:List cw)(idx:List Nat):Prop where
 kind:sc.kind=.function
 HE:∀y∈sc.names,y.2≠.cell
 locs:∀y∈sc.names,y.2=.local->sc.names.lookup y.1=a_ .local
 frees:∀y∈sc.names,y.2=.free->X.env.scope.names.lookup y.1=a_ .cell
 le:idx.length<=N.length
 cap:∀(k i:Nat)(x:cw),idx[k]?=a_ i->N[k]?=a_ x->X.N[i]?=a_ x/\sc.names.lookup x=a_ .free
noncomputable def lU(idx:List Nat)(n:Nat)(σ:St):St:=idx.map (λi=>(σ[i]?).join)++dB (n-idx.length) b_
def Ng(h:idx.length<=n):(lU idx n σ).length=n:=by
 unfold lU;rw[dg,aS,abA];lia
def Nh{idx:List Nat}{n k:Nat}(h:(lU idx n σ)[k]?=a_ (a_ v)):∃i,idx[k]?=a_ i/\σ[i]?=a_ (a_ v):=by
 unfold lU at h
 by_cases a:k<idx.length
 .rw[Cj (by simpa using a),eX]at h;cases e:idx[k]? with
  | none=>rw[e]at h;cases h
  | some i=>
   rw[e]at h;have h':(σ[i]?).join=a_ v:=eG h;refine au i xz ?_;cases b:σ[i]? with
   | none=>rw[b]at h';cases h'
   | some o=>rw[b]at h';rw[show o=a_ v from h']
 .rw[Cf (by simpa using a),abt]at h
  split at h
  .cases h
  .cases h
noncomputable def rl(env:Env)(p:cw×iq):cw×iq:=if (p.2==sW&&env.scope.kind==.function&&env.kindOf p.1==a_ .cell)=c_ then (p.1,iq.cell) else p
def Og(h:(k==sW&&env.scope.kind==.function&&env.kindOf n==a_ .cell)=c_):rl env (n,k)=(n,.cell):=ek h
def Xc(h:¬(k==sW&&env.scope.kind==.function&&env.kindOf n==a_ .cell)=c_):rl env (n,k)=(n,k):=ei h
theorem Uc(b:env.scope.kind=.function):∀{names:List (cw×iq)}{x:cw},names.lookup x=a_ .free->env.kindOf x=a_ .cell->(names.map<|rl env).lookup x=a_ .cell
 | [],_,h,_=>by simp at h
 | (n,k)::r,x,h,hc=>by
  have ih:=@Uc env b r x;rw[fu]
  by_cases c:x=n
  .subst c;rw[Aa]at h;cases h;rw[Og (by rw[b,hc];decide),Aa]
  .have a:=fi.mpr c;rw[qR,a]at h;have e:=ih h hc
   by_cases q:(k==sW&&env.scope.kind==.function&&env.kindOf n==a_ .cell)=c_
   .rw[Og q,qR,a];exact e
   .rw[Xc q,qR,a];exact e
theorem LB:∀{names:List (cw×iq)}{x:cw}{kd:iq},(names.map<|rl env).lookup x=a_ kd->(x,kd)∈names\/(x,sW)∈names
 | [],_,_,h=>by simp at h
 | (n,k)::r,x,kd,h=>by
  have ih:=@LB env r x kd;rw[fu]at h
  by_cases q:(k==sW&&env.scope.kind==.function&&env.kindOf n==a_ .cell)=c_
  .rw[Og q]at h
   by_cases a:x=n
   .subst a
    have c:k=.free:=by
     rw[fY,fY]at q;exact CL q.1.1
    subst c;exact .inr cb
   .have b:=fi.mpr a;rw[qR,b]at h;exact(ih h).elim (λe=>.inl<|cu _ e) λe=>.inr<|cu _ e
  .rw[Xc q]at h
   by_cases a:x=n
   .subst a;rw[Aa]at h;cases h;exact .inl cb
   .have b:=fi.mpr a;rw[qR,b]at h;exact(ih h).elim (λe=>.inl<|cu _ e) λe=>.inr<|cu _ e
def dc.adopt(I:dc X p_ σ H s)(hn:H a=b_)(g:X.s₀.heap.objs.size<=a)(h:a≠X.env.locals)(i:∀x c,X.env.cells.lookup x=a_ c->c≠a)(j:∀p∈X.pn++p_,p.1≠a)(new:hZ X.prog X.w (db H a o) s.heap a o):dc X p_ σ (db H a o) s:=by
 have ne:∀b u,H b=a_ u->b≠a:=λb u e=>aQ e hn;refine⟨I.ok,I.os,I.bare,⟨I.base.keep,I.base.slot,λb u q n k=>?_,I.base.there,λb xs q=>?_,λb u xs q=>?_,λb ps q=>?_⟩,I.loc,I.cell,?_,λx c e=>?_,λp d=>?_,λb u q=>?_,I.len⟩
 .rw[ah<|fh<|ff (bP q) g];exact I.base.free b u q n k
 .have e:=I.base.oY b xs q;rw[ah<|ne b _ e];exact e
 .have e:=I.base.oq b u xs q;rw[ah<|ne b _ e];exact e
 .exact oE (I.base.oo b ps q) λm e=>⟨m,by rw[ah<|ne b _ e];exact e⟩
 .rw[ah<|eJ h];exact I.free
 .rw[ah<|i x c e];exact I.jP x c e
 .exact jm (I.pin p d) λl r t=>gQ l (by rw[ah<|j p d];exact r) t
 .by_cases f:b=a
  .subst f;rw[ai]at q;cases q;exact new
  .rw[ah f]at q;exact(I.aM b u q).qw (λ_ _ _ z=>z) (λc z=>by rw[ah<|ne c _ z];exact z) λc xs z=>by rw[ah<|ne c _ z];exact z
section
variable{X:Cx}{p_:List (e_×cB)}{σ:St}{H:Hp}{s:g_}{sc:i_}{N:List cw}{idx:List Nat}{fp:List e_}
noncomputable abbrev cy:cB:={cls:=.type "list",data:=.seq ([]:List f_).toArray}
abbrev lQ(s:g_):Shared:={s with heap:=s.heap.push cy}
def aeI(I:dc X p_ σ H s)(h:dW X p_ H b):X.base.get? b=none:=by
 cases e:X.base.get? b with
 | none=>rfl
 | some o=>
  obtain z|z:=h.2.2.2.1
  .exact eo z (I.ok.vD b o e)
  .exact eo (ff (bP e)<|cQ I.ok.mQ z) (je _)
def af'(I:dc X p_ σ H s)(S:dJ X sc N idx)(g:∀b∈fp,dW X p_ H b)(J:∀b∈fp,∃o,s.heap.get? b=a_ o){m:cw->Option f_}{t:Nat}(K:h'.Ns (s.heap.push cy).objs.size m)(j:∀b o,(s.heap.push cy).get? b=a_ o->h'.get? b=a_ o):dc (kg X sc N (lQ s) H (s.heap.objs.size::fp) (s.heap.push cy).objs.size EE) [] (lU idx N.length σ) H {lQ s with heap:=h',toks:=t}:=by
 have f:dc X p_ σ H (lQ s):=I.kept (t':=s.toks) λb o e=>bo _ e;have B:(s.heap.push cy).objs.size=s.heap.objs.size+1:=nW _ _;have d:∀x c,(gA X.env.cells sc.names []).lookup x=a_ c->X.env.cells.lookup x=a_ c:=GJ sc.names [] (λx c e=>by cases e)
 have L:∀x c,(gA X.env.cells sc.names []).lookup x=a_ c->c<s.heap.objs.size:=λx c e=>by
  exact oE (I.cell x c<|d x c e) λv z=>z.lt
 have uk:∀b∈fp,b<s.heap.objs.size:=λb a=>by
  exact oE (J b a) λo e=>bP e
 have M:∀x,((relabel sc X.env).names.lookup x=a_ .cell\/(relabel sc X.env).names.lookup x=a_ .free)->(x,sW)∈sc.names:=λx h=>by
  obtain h|h:=h
  .rcases LB (env:=X.env) (names:=sc.names) (show (sc.names.map<|rl X.env).lookup x=_ from h)with e | e
   .exact eo xz (S.HE _ e)
   .exact e
  .rcases LB (env:=X.env) (names:=sc.names) (show (sc.names.map<|rl X.env).lookup x=_ from h)with e | e
   .exact e
   .exact e
 have has:∀x,(x,sW)∈sc.names->∃c,(gA X.env.cells sc.names []).lookup x=a_ c:=λx e=>
  GN sc.names [] x e (I.ok.has x<|.inl<|S.frees _ e xz)
 refine⟨⟨I.ok.mod,S.kind,I.ok.glob,I.ok.blt,aD _,λx y c n w=>I.ok.inj x y c (d x c n)<|d y c w,λx h=>has x<|M x h,λx c h=>(by cases h),I.ok.hd,I.ok.frames,.inl xz,λb a=>?_,f.bs,cQ I.ok.mQ f.sz,λb o e a=>?_,λb a=>?_,f.stack,f.G6⟩,I.os ▸ xz,I.bare,Un.kept j,⟨m,K,λk x v n w T=>?_⟩,λx c e=>?_,f.aM.fresh<|aD _,λx c e=>I.jP x c<|d x c e,λp O=>eo (show p∈([]:List (e_×cB)) from O) (by simp),f.aM.kept j,Ng S.le⟩
 .obtain e|a:=a9.mp a
  .subst e;exact⟨by rw[B];exact fh<|sO _,λx c e=>fh<|L x c e⟩
  .refine⟨by rw[B];exact fh<|K'<|uk b a,λx c e=>(g b a).2.2.2.2.1 x c<|d x c e⟩
 .obtain z|a:=a9.mp a
  .subst z;exact eo (bP<|I.bk _ _ e)<|je _
  .have C:X.base.get? b=a_ o:=e;rw[aeI I<|g b a]at C;cases C
 .intro hs;have D:=I.Dd b hs;obtain z|a:=a9.mp a
  .subst z;obtain e|e:=a9.mp D
   .exact eo I.lt (by rw[<-e];exact je _)
   .exact I.aal (aD _) e
  .obtain e|e:=a9.mp D
   .exact(g b a).2.1 e
   .exact(g b a).2.2.1 e
 .refine aJ (Nh w) λi h1 h2=>oA (S.cap k i x h1 n) λh3 h4=>?_;have E:=t_ h4;have A:X.env.scope.names.lookup x=a_ .cell:=S.frees _ E rfl;refine aJ I.loc λU V P=>aJ (P i x v h3 h2<|.inr<|.inl A) λu r l=>au u r<|.inr ⟨.inl<|Uc I.ok.kind h4 A,?_⟩;obtain⟨q,_⟩|⟨_,c,Q,z⟩:=l
  .have F:X.env.scope.names.lookup x=a_ .local:=q;rw[A]at F;cases F
  .refine oE (has x E) λR G=>?_;have:=d x R G;rw[Q]at this;cases this;exact au c G (z.keeps λb o e=>j b o<|bo _ e)
 .exact oE (I.cell x c<|d x c e) λv z=>⟨v,z.keeps λb o e=>j b o<|bo _ e⟩
def WL(I:dc X p_ σ H s)(d:∀b∈fp,dW X p_ H b)(a:dc (kg X sc N (lQ s) H (s.heap.objs.size::fp) (s.heap.push cy).objs.size EE) pl σ' H' s'):dc X p_ σ H' s':=by
 have f:dc X p_ σ H (lQ s):=I.kept (t':=s.toks) λb o e=>bo _ e;have g:=I.gz (aD _)<|I.aM.fresh<|aD _;refine f.PF (ch:=s.heap.objs.size::fp) (a.os.fC xz) a.base a.aM a.bare λb c=>?_
 have q:dW X p_ H b:=by
  obtain e|c:=a9.mp c
  .subst e;exact g
  .exact d b c
 exact⟨q.2.2.2.1,q.2.1,q.2.2.2.2.1,q.2.2.2.2.2⟩
end
abbrev zl:=St->Hp->(Bool->Hp->Prop)->Prop
def jz:zl:=λ_ H Q=>Q c_ H
def BL(X:Cx)(a:List bT)(t:zl):Prop:=
 ∀(p_:List (e_×cB))(s:g_)(σ:St)(H:Hp)(Q:Bool->Hp->Prop),dc X p_ σ H s->t σ H Q->bz (bK X.prog X.w) X.A (tests a X.env) (TP X p_ σ Q) X.xe s
def gY:BL X [] jz:=λ_ _ _ H _ I h=>adT ⟨H,I,h⟩
def Xg(h:PT X c t):BL X [c] t:=λp_ s σ H Q I q=>adS<|h p_ s σ H Q I q
def D2(n:Nat)(σ a:St):Prop:=a.length=σ.length/\∀i,i<n->a[i]?=σ[i]?
def D4(J:It)(g:TG)(f:zl)(te:TE)(h:St)(j:Hp)(K:List V->Hp->Prop):Prop:=
 ∃W:Nat->Nat->List V->Hp->Prop,(∃m,W 0 m [] j)/\∀i m ys H,W i m ys H->
  (J.stop i H/\K ys H)\/
  (J.go i H/\ys.length<aX/\∃N:List V->Hp->Prop,(∀a H',N a H'->∃c,c<m/\W (i+1) c a H')/\
   ∀x H',J.xq i H x H'->g x h H' λd k=>f d k λb e=>if b=c_ then te d e (λy l=>N (ys++[y]) l) else N ys e)
def OZ(wi:TI)(g:TG)(b:zl)(te:TE)(idx:List Nat)(n:Nat):TE:=λσ H Q=>wi σ H λJ c=>
 D4 J g b te (lU idx n σ) c λys a=>ys.length<=aX/\∀p,a p=b_->Q (.ref p) (db a p<|.lst ys)
def A5(n:Nat)(g:TG):Prop:=∀x σ H Q,g x σ H Q->g x σ H λa b=>Q a b/\D2 n σ a
def M0(h:n<=k):D2 n σ (σ.set k v):=⟨oG,λi hi=>Cp li⟩
def iG(h:n<=k):A5 n (iO k):=λx σ H Q q=>⟨q,M0 h⟩
def FU{K:u_}(h:n<=k)(h':n<=l):A5 n (na K 2<|PB (iO k)<|PB (iO l) mM):=λx σ H Q q=>by
 refine Oo q λa xs e f g b=>dC b λv r j b=>gf b λc m o p q=>⟨a,⟨xs,e,f,g,v,r,j,c,m,o,p,q,?_⟩⟩;have k1:D2 n σ (σ.set k<|a_ v):=M0 h;have d:D2 n (σ.set k<|a_ v) ((σ.set k<|a_ v).set l<|a_ c):=M0 h';exact⟨d.1.fC k1.1,λi hi=>(d.2 i hi).fC<|k1.2 i hi⟩
def VV{X:Cx}{idx:List Nat}{n:Nat}(I:dc X p_ σ2 H s)(k:D2 idx.length (lU idx n σ) σ2):dc X p_ (lU idx n σ) H s:=
 I.weak k.1.fF λi v e=>by
  refine aJ (Nh e) λj h1 _=>?_;rw[k.2 i (dX.mp h1).1];exact e
def iH{K:List V->Hp->Prop}(P:Nat->List V->Hp->Prop)(hn:n<=aX)(f:P 0 [] H1)(h:∀i ys H,P i ys H->ys.length<=i)(j:∀i ys H,i<n->P i ys H->J.go i H)(k:∀ys H,P n ys H->J.stop n H)(hs:∀i ys H,i<n->P i ys H->∀x H',J.xq i H x H'->g x σ0 H' λc l=>tc c l λb d=>if b=c_ then te c d (λy o=>P (i+1) (ys++[y]) o) else P (i+1) ys d)(hd:∀ys H,P n ys H->K ys H):D4 J g tc te σ0 H1 K:=by
 refine⟨λi m ys H=>m=n-i/\i<=n/\P i ys H,⟨n,by simp,bJ _,f⟩,?_⟩;rintro i m ys H ⟨rfl,hi,p⟩
 by_cases a:i<n
 .refine .inr (gQ (j i ys H a p) (by have:=h i ys H p;lia) ⟨P<|i+1,λr H' q=>⟨n-(i+1),om,xz,a,q⟩,hs i ys H a p⟩)
 .have e:i=n:=li;subst e;exact .inl ⟨k ys H p,hd ys H p⟩
section
variable{X:Cx}{tg elt iter:bT}{ifs:List bT}{wi:TI}{g:TG}{tc:zl}{te:TE}{sc:i_}{N:List cw}{idx:List Nat}{pos:Pos}
def Nb{K:List V->Hp->Prop}{RR:e_->f_->Result->g_->Prop}(hc:X.calm=c_)(S:dJ X sc N idx)(gk:A5 idx.length g){fp:List e_}{tn:Nat->j_->Prop}{J:It}(hg:PG (kg X sc N (lQ s) H (s.heap.objs.size::fp) (s.heap.push cy).objs.size EE) tg g)(ht:BL (kg X sc N (lQ s) H (s.heap.objs.size::fp) (s.heap.push cy).objs.size EE) ifs tc)(he:PE (kg X sc N (lQ s) H (s.heap.objs.size::fp) (s.heap.push cy).objs.size EE) elt te)(I:dc X p_ σ H s)(T:Turn X.prog X.w X.K tg J fp it tn)(st:tn 0 s.heap)(R:∀b∈fp,dW X p_ H b)(hW:D4 J g tc te (lU idx N.length σ) H K)(Sy:∀e s',EE e s'->notedBy (bK X.prog X.w) X.A (GQ sc (gA X.env.cells sc.names []) (s.heap.push cy).objs.size X.env) (λe s'=>RR (s.heap.push cy).objs.size (.ref s.heap.objs.size) (.error e) s') e s')(hR:∀(s':g_)(ys:List V)(H':Hp)(m:cw->Option f_)(c:List f_)(n:Nat),K ys H'->dc X p_ σ H' s'->s'.heap.Ns (s.heap.push cy).objs.size m->H' (s.heap.push cy).objs.size=b_->H' s.heap.objs.size=b_->dn ys c->s'.heap.get? s.heap.objs.size=a_ {cls:=.type "list",data:=.seq c.toArray n}->RR (s.heap.push cy).objs.size (.ref s.heap.objs.size) (.ok .next) s'):bz (bK X.prog X.w) X.A (newList []) (λacc s₃=>bz (bK X.prog X.w) X.A (newFunctionEnv sc X.env.globals (gA X.env.cells sc.names []) [] X.env.qual b_ .none (a_ X.env)) (λEr s₄=>codeAny (bK X.prog X.w) X.A (.compStart (.ListComp elt [⟨tg,iter,ifs,0⟩] sc pos) 0 (.ref it) acc {Er with scope:=relabel sc X.env}) (RR Er.locals acc) s₄) E s₃) E s:=by
 refine aJ hW λW ae turn=>oE ae λm0 w0=>we<|wpAny_newFunctionEnv S.HE (by intro y hy;cases hy) (λh' ma JY=>?_) S.kind;have hC:(s.heap.push cy).objs.size=s.heap.objs.size+1:=nW _ _;have F:∀b o,(s.heap.push cy).get? b=a_ o->h'.get? b=a_ o:=λb o e=>(JY.2 b<|fh<|bP e).fC<|bo _ e;have ho:∀b∈fp,∃o,s.heap.get? b=a_ o:=λb a=>let ⟨o,e,_⟩:=T.obj _ _ st b a;⟨o,e⟩
 have j:=af' (EE:=EE) (t:=s.toks+([]:List (cw×f_)).length) I S R ho ma F
 have fn:∀b∈fp,b≠s.heap.objs.size:=λb a=>by
  exact oE (ho b a) λo e=>fh<|bP e
 have accN:=I.aM.fresh<|aD _
 have U:∀{H':Hp}{pl:List (e_×cB)},(∀b∈fp,H' b=b_)->(∀p∈pl,p.1=s.heap.objs.size)->∀b∈fp,dW (kg X sc N (lQ s) H (s.heap.objs.size::fp) (s.heap.push cy).objs.size EE) pl H' b:=λ{H' pl}hn d b a=>by
  refine⟨(hn b a),((j.ok.um b<|cu _ a).1),(j.ok.ue b<|cu _ a),(.inl<|cu _ a),((j.ok.um b<|cu _ a).2),(λp Y=>?_)⟩;have kA:p∈pl:=by simpa[kg]using Y
  rw[d p kA];exact eJ<|fn b a
 have loop:codeAny (bK X.prog X.w) X.A (.compLoop (.ListComp elt [⟨tg,iter,ifs,0⟩] sc pos) 0 (.ref it) (.ref s.heap.objs.size)<|GQ sc (gA X.env.cells sc.names []) (s.heap.push cy).objs.size X.env)
   (RR (s.heap.push cy).objs.size<|.ref s.heap.objs.size) {lQ s with heap:=h',toks:=s.toks+([]:List (cw×f_)).length}:=by
  refine aez (EE:=EE) (λn s'=>∃i ys H' c k,dc (kg X sc N (lQ s) H (s.heap.objs.size::fp) (s.heap.push cy).objs.size EE) [] (lU idx N.length σ) H' s'/\tn i s'.heap/\(∀b∈fp,H' b=b_)/\H' s.heap.objs.size=b_/\
   dn ys c/\s'.heap.get? s.heap.objs.size=a_ {cls:=.type "list",data:=.seq c.toArray k}/\W i n ys H') Sy ?_ m0 ?_
  .rintro n Z ⟨i,ys,l,c,f,I3,EB,Fi,G,L,ac3,w3⟩
   have M:∀{H':Hp},H' s.heap.objs.size=b_->dW (kg X sc N (lQ s) H (s.heap.objs.size::fp) (s.heap.push cy).objs.size EE) [] H' s.heap.objs.size:=λ{H'}hn=>
    ⟨hn,(j.ok.um _ cb).1,j.ok.ue _ cb,.inl cb,(j.ok.um _ cb).2,λp Y=>eo (show p∈([]:List (e_×cB)) from Y)<|by simp⟩
   have P3:dc (kg X sc N (lQ s) H (s.heap.objs.size::fp) (s.heap.push cy).objs.size EE) [(s.heap.objs.size,{cls:=.type "list",data:=.seq c.toArray f})] (lU idx N.length σ) l Z:=I3.wF λp d=>by
    have e:p=(s.heap.objs.size,{cls:=.type "list",data:=.seq c.toArray f}):=by simpa using d
    subst e;exact⟨ac3,G,((M G).2.1),((M G).2.2.1),(λv z=>by cases z)⟩
   have one:∀p∈[((s.heap.objs.size,{cls:=.type "list",data:=.seq c.toArray f}):e_×cB)],p.1=s.heap.objs.size:=λp d=>by
    have e:p=(s.heap.objs.size,{cls:=.type "list",data:=.seq c.toArray f}):=by simpa using d
    rw[e]
   obtain⟨stop,kq⟩|⟨go,hz,NN,hNN,step⟩:=turn i n ys l w3
   .refine aT (T.done (kg X sc N (lQ s) H (s.heap.objs.size::fp) (s.heap.push cy).objs.size EE) xz xz xz hc i _ Z _ l _ P3 (U Fi one) EB stop) λr s4⟨O,P⟩=>⟨λ_=>?_,λv e=>(by rw[O]at e;cases e)⟩;exact aJ P.loc λB uD _=>hR s4 ys l B c f kq (WL I R P) uD P.free G L (P.pin _<|ig _ cb).1
   .refine aT (T.item (kg X sc N (lQ s) H (s.heap.objs.size::fp) (s.heap.push cy).objs.size EE) xz xz xz hc i _ Z _ l _ P3 (U Fi one) EB go) λr s4⟨u,O,h4⟩=>⟨λe=>(by rw[O]at e;cases e),λv e=>?_⟩;rw[O]at e;cases e;refine aT h4 λ_ s5⟨x,H5,I5,r5,y5,C,SD⟩=>?_;have SM:=I5.pinned (U SD one)<|T.obj _ _ C;refine aT (hg _ s5 _ H5 x u _ SM r5<|gk _ _ _ _<|step x H5 y5) λ_ s6 zq=>gf zq λσ6 H6 I6 q6 k6=>thT (ht _ s6 σ6 H6 _ I6 q6) λok s7 H7 D Q=>⟨λe=>?_,λe=>?_⟩
    .subst e;rw[ek rfl]at Q;refine Jf (he _ s7 σ6 H7 _ D Q) λv s8 y H8 I8 r8 n8=>aJ (hNN _ _ n8) λB hm w8=>?_;have h:=I8.pin (s.heap.objs.size,{cls:=.type "list",data:=.seq c.toArray f})<|ig _<|pU _ cb;have hlen:=L.length;refine wpAny_list_append_plain (items:=c.toArray) ⟨f,h.1⟩ (λh9 pl9 sb9=>?_) (by rw[eW];lia);have SJ:=I8.wF λp d=>I8.pin p (ig _<|ig _ d)
     have I9:=SJ.turned (h':=h9) (t':=s8.toks) (it:=s.heap.objs.size) (λb o a e=>(sb9.2 b a).fC e) h.2.1 (M h.2.1).2.1 (.inl cb) (M h.2.1).2.2.2.2.1 (λp d=>by
      have uB:p∈Di fp s5.heap:=by simpa[kg]using d
      exact fn p.1 (Vo uB).1)
     refine oE pl9 λk9 e9=>⟨B,⟨hm,i+1,ys++[y],H8,c++[v],k9,VV (I9.wF λp d=>eo d<|by simp) k6,T.keep _ _ _ C λb a o e=>?_,λb a=>?_,h.2.1,L.append<|.cons r8 .nil,?_,w8⟩⟩
     .have q:=(SJ.pin (b,o)<|ig _<|Ax a e).1;exact(sb9.2 b<|fn b a).fC q
     .exact aJ (T.obj _ _ C b a) λo e _=>(SJ.pin (b,o)<|ig _<|Ax a e).2.1
     .rw[e9];simp
    .subst e;rw[ei dS]at Q;refine aJ (hNN _ _ Q) λB hm w7=>?_;have h:=D.pin (s.heap.objs.size,{cls:=.type "list",data:=.seq c.toArray f})<|ig _<|pU _ cb;exact⟨B,⟨hm,i+1,ys,H7,c,f,VV (D.wF λp d=>eo d<|by simp) k6,T.keep _ _ _ C λb a o e=>(D.pin (b,o)<|ig _<|ig _<|Ax a e).1,λb a=>aJ (T.obj _ _ C b a) λo e _=>(D.pin (b,o)<|ig _<|ig _<|Ax a e).2.1,h.2.1,L,h.1,w7⟩⟩
  .exact⟨0,([]),H,([]),0,j,(T.keep _ _ _ st λb a o e=>F b o<|bo _ e),(λb a=>(R b a).1),accN,.nil,(F _ _<|iF _ xz),w0⟩
 exact codeAny_compStart_list loop<|T.self _ 0 _ _ _ (T.keep _ _ _ st λb a o e=>F b o<|bo _ e) loop
def iu(l:X.calm=c_)(S:dJ X sc N idx)(q:A5 idx.length g)(hi:PI X tg iter wi)
  (r:∀s H ex C,PG (zh X sc N s H ex C) tg g) (t:∀s H ex C,BL (zh X sc N s H ex C) ifs tc) (u:∀s H ex C,PE (zh X sc N s H ex C) elt te)
  (hs:∀x,KW iter X.env x=pure x:=by intro _;rfl):PE X (.ListComp elt [⟨tg,iter,ifs,0⟩] sc pos) (OZ wi g tc te idx N.length):=by
 intro p_ s σ H Q I h;rw[eval_ListComp];have y:=FX λp B e=>I.ok.has p.1<|.inl<|S.frees p B e;refine Ta (use:=b_) xz hs y S.kind S.locs (aT (hi p_ s σ H _ I h) λv s1 h1=>aT h1 λY s2 h2=>Ux h2 λit fp tn J D e a T E F G=>?_);subst e;refine Nb (EE:=λ_ _=>False) (RR:=λC K=>compPost (bK X.prog X.w) X.A X.xe b_ (EP X p_ σ Q) K C) l S q (r _ _ _ _) (t _ _ _ _) (u _ _ _ _) a T E F G (λ_ _ z=>z.elim) λs' ys H' m L n i M O P j R ea=>?_;have c:(s2.heap.push cy).objs.size=s2.heap.objs.size+1:=nW _ _;have d:=a.gz (aD _)<|a.aM.fresh<|aD _;have f:dW X p_ D (s2.heap.push cy).objs.size:=a.gz (by rw[c];exact jf _)<|a.aM.fresh (by rw[c];exact jf _);have k:=a.sz;have U:=dc.adopt (o:=.lst ys) M j k d.2.1 d.2.2.2.2.1 d.2.2.2.2.2 ⟨i.1,L,n,R,ea⟩;refine au m O λh' V=>(dG (.ref s2.heap.objs.size) _ (U.turned (h':=h') (t':=s'.toks) (it:=(s2.heap.push cy).objs.size) (λb o W e=>(V.2 b W).fC e) ?_ f.2.1 (.inr<|by rw[c];exact uQ k) f.2.2.2.2.1 f.2.2.2.2.2) xz<|i.2 _ j);rw[ah (by rw[c];exact Fz _)];exact P
def UK(hN:X.N.Nodup)(u:X.N[i]?=a_ x)(k:X.env.scope.names.lookup x=a_ .local)(y:X.calm=c_)(S:dJ X sc N idx)(B:A5 idx.length g)(hi:PI X tg iter wi)
  (E:∀s H ex C,PG (zh X sc N s H ex C) tg g) (F:∀s H ex C,BL (zh X sc N s H ex C) ifs tc) (G:∀s H ex C,PE (zh X sc N s H ex C) elt te)
  (K:autoParam (AA (.ListComp elt [⟨tg,iter,ifs,0⟩] sc pos) (a_<|.Name x pos') aml.line X.env=pure true) am)
  (hs:∀x,KW iter X.env x=pure x:=by intro _;rfl):PS X (.Assign [.Name x pos'] (.ListComp elt [⟨tg,iter,ifs,0⟩] sc pos) aml) (P9 (OZ wi g tc te idx N.length)<|iO i):=by
 intro p_ s σ H D I h;rw[exec_Assign_Name_used _ _ _ _ K];refine ak<|Ak<|ak ?_;have L:=FX λp M e=>I.ok.has p.1<|.inl<|S.frees p M e;show bz _ X.A (do let _ <-comprehension (.ListComp elt [⟨tg,iter,ifs,0⟩] sc pos) sc X.env _ (newList []) d_ (eval iter X.env) (a_<|assign (.Name x pos') X.env)) _ _ s;refine ak (ik (Ta (use:=a_<|assign (.Name x pos') X.env) (Q:=λ_ s'=>SP X p_ D .next s') xz hs L S.kind S.locs<|aT (hi p_ s σ H _ I h) λv s1 h1=>aT h1 λEK s2 h2=>?_) (λ_ s' q=>aO<|aO q) λ_ _ q=>q);obtain⟨it,fp,tn,J,O,e,c,T,P,R,U⟩:=h2;subst e;refine Nb (EE:=λ_ _=>False) (RR:=λC V=>compPost (bK X.prog X.w) X.A X.xe (a_<|assign (.Name x pos') X.env) (λ_ s'=>SP X p_ D .next s') V C) y S B (E _ _ _ _) (F _ _ _ _) (G _ _ _ _) c T P R U (λ_ _ z=>z.elim) λs' ys H' m W n l Y Z Fe r rv ea=>?_;have f:(s2.heap.push cy).objs.size=s2.heap.objs.size+1:=nW _ _;have j:=c.gz (aD _)<|c.aM.fresh<|aD _;have d:dW X p_ O (s2.heap.push cy).objs.size:=c.gz (by rw[f];exact jf _)<|c.aM.fresh (by rw[f];exact jf _);have t:=c.sz;have I1:=dc.adopt (o:=.lst ys) Y r t j.2.1 j.2.2.2.2.1 j.2.2.2.2.2 ⟨l.1,W,n,rv,ea⟩
 have ans:db H' s2.heap.objs.size (.lst ys) (s2.heap.push cy).objs.size=none:=by
  rw[ah (by rw[f];exact Fz _)];exact Fe
 show bz (bK X.prog X.w) X.A (assign (.Name x pos') X.env<|.ref s2.heap.objs.size) _ X.xe s';refine wpAny_assign_Name<|Vb (v:=.ref s2.heap.objs.size) I1 hN u (.inl k) xz (λs3 I3⟨a,sb,ha⟩=>?_)<|.inr k
 have aC:(s2.heap.push cy).objs.size≠a:=by
  obtain e|e:=ha
  .rw[e];exact d.2.1
  .exact eJ (d.2.2.2.2.1 x a e)
 refine au m (Z.sameBut sb aC) λh' sb'=>(gw _ _ (I3.turned (h':=h') (t':=s3.toks) (it:=(s2.heap.push cy).objs.size) (λb o hb e=>(sb'.2 b hb).fC e) ans d.2.1 (.inr<|by rw[f];exact uQ t) d.2.2.2.2.1 d.2.2.2.2.2)<|l.2 _ r)
end
end L2
namespace L2
open PySem.W
section
variable{cmp:Nat->Nat->(Bool->g_->Prop)->g_->Prop}{r:Nat->Int}{n:Nat}{p:Array Nat}{s:g_}
noncomputable def rk(r:Nat->Int)(p:Array Nat)(k:Nat):Int:=r<|p.getD k 0
def jj(n:Nat)(p:Array Nat):Prop:=p.Perm (List.range n).toArray
def vv(r:Nat->Int)(p:Array Nat)(m:Nat):Prop:=∀i j,i<j->j<m->rk r p i<rk r p j
def jj.size(g:jj n p):p.size=n:=by
 have:=g.size_eq;simpa using this
def jj.lt(g:jj n p)(a:k<n):p.getD k 0<n:=by
 have hs:=g.size;have hm:p[k]'(by exact wg)∈p:=Array.getElem_mem _;have:=(g.mem_iff).mp hm;simp only[Mb,show k<p.size by exact wg,dif_pos];simpa using this
def jj.ne(g:jj n p)(hi:i<n)(b:j<n)(h:i≠j):p.getD i 0≠p.getD j 0:=by
 have hs:=g.size;have nd:=(SS.mp g).nodup_iff.mpr (by simpa using List.nodup_range);intro e;simp only[Mb,show i<p.size by exact wg,show j<p.size by exact wg,dif_pos]at e;have a:p.toList[i]'(by simpa using (by exact wg:i<p.size))=p.toList[j]'(by simpa using (by exact wg:j<p.size)):=by simpa using e
 obtain q|q:=To h
 .exact mZ.mp nd i j _ _ q a
 .exact mZ.mp nd j i _ _ q a.fF
variable(hr:∀i j,i<n->j<n->r i=r j->i=j)(hc:∀i j(C:Bool->g_->Prop),i<n->j<n->i≠j->C (decide (r i<r j)) s->cmp i j C s)
include hr hc
theorem Pk(g:jj n p)(hi:i<n)(a:j<n)(h:i≠j):rk r p i≠rk r p j:=λe=>g.ne hi a h<|hr _ _ (g.lt hi) (g.lt a) e
theorem ON(g:jj n p):∀f m,1<=m->m+f<=n->vv r p m->(∀l,m<=l->l<=m+f->vv r p l->(l<m+f->rk r p l<rk r p (l-1))->Q l s)->(kas_asc p f m).kasWp cmp Q s
 | 0,m,h1,h2,ri,k=>k m (aD _) (aD _) ri λh=>eo h<|je _
 | f+1,m,h1,h2,ri,k=>by
  refine hc _ _ _ (g.lt li) (g.lt li) (g.ne om om li) ?_
  by_cases o:r (p.getD m 0)<r (p.getD (m-1) 0)
  .simp only[o,decide_true,if_true];exact k m (aD _) li ri λ_=>o
  .simp only[o,decide_false,yb,if_false];refine ON g f (m+1) li li (λi j q u=>?_) λl a b c d=>k l li li c λh=>d li
   by_cases e:j=m
   .subst e
    have h3:rk r p (j-1)<rk r p j:=by
     have:=Pk hr hc g (i:=j-1) (j:=j) li li li;unfold rk at this ⊢;omega
    by_cases t:i=j-1
    .subst t;exact h3
    .have:=ri i (j-1) li om;lia
   .exact ri i j q li
theorem XM(g:jj n p):∀f m,1<=m->m+f<=n->(∀i j,i<j->j<m->rk r p j<rk r p i)->(∀d,m<=d->d<=m+f->(∀i j,i<j->j<d->rk r p j<rk r p i)->Q (p,d,0) s)->(kas_desc f p m 0).kasWp cmp Q s
 | 0,m,h1,h2,ri,k=>k m (aD _) (aD _) ri
 | f+1,m,h1,h2,ri,k=>by
  refine hc _ _ _ (g.lt om) (g.lt om) (g.ne om om om) ?_
  by_cases h:r (p.getD m 0)<r (p.getD (m-1) 0)
  .simp only[h,decide_true,if_true];rw[ei li];refine XM g f (m+1) om om (λi j l q=>?_) λd a b c=>k d om om c
   by_cases e:j=m
   .subst e;have h3:rk r p j<rk r p (j-1):=h
    by_cases o:i=j-1
    .subst o;exact h3
    .have:=ri i (j-1) om om;lia
   .exact ri i j l om
  .simp only[h,decide_false,yb,if_false];refine hc _ _ _ (g.lt li) (g.lt li) (g.ne om om li) ?_
   have h3:r (p.getD (m-1) 0)<r (p.getD m 0):=by
    have:=Pk hr hc g (i:=m-1) (j:=m) om om om;unfold rk at this;omega
   simp only[h3,decide_true,if_true];exact k m (aD _) om ri
theorem Yq(g:jj n p)(hm:m<=n)(a:k<m):rk r (kas_rev p 0 m) k=rk r p (m-1-k):=by
 have hs:=g.size;unfold rk kas_rev;rw[Kz,getElem?_mirror_all li,ek ⟨bJ _,a⟩,Kz]
 congr 3
 lia
def _root_.Array.Perm.fC:=@Array.Perm.trans
theorem aeO(g:jj n p)(h1:1<=m)(hm:m<=n)(f:∀i j,i<j->j<m->rk r p j<rk r p i)(k:∀d e,1<=d->d<=n->jj n e->vv r e d->Q (d,e) s):(kas_tail3 m n p).kasWp cmp Q s:=by
 unfold kas_tail3;rw[FH];have g':jj n (kas_rev p 0 m):=(mirror_perm _ _ _ _).fC g;refine ON hr hc g' _ _ h1 li (λi j l h=>?_) λd a b c _=>k d _ (by exact wj) li g' c;rw[Yq hr hc g hm li,Yq hr hc g hm h];exact f _ _ om om
theorem af9(g:jj n p)(h1:1<=n)(k:∀c d,1<=c->c<=n->jj n d->vv r d c->Q (c,d) s):(kas_count n p).kasWp cmp Q s:=by
 unfold kas_count;rw[FH];refine ON hr hc g _ _ (aD _) om (λi j h l=>eo h li) λm a b f o=>?_
 by_cases e:m=n
 .rw[ek (by simpa using e)];exact k m p (by exact w0) li g f
 .rw[ei (by simpa using e)]
  by_cases h2:m > 1
  .rw[ek h2];refine hc _ _ _ (g.lt li) (g.lt li) (g.ne om om li) ?_;have h3:=f 0 (m-1) om om;unfold rk at h3;simp only[h3,decide_true,if_true];exact k m p (by exact w0) li g f
  .rw[ei h2];have hm:m=1:=li;subst hm;have h3:=o li;unfold kas_descPart;rw[FH];refine XM hr hc g _ _ (by exact xd) li (λi j h l=>?_) λc a b q=>?_
   .have:i=0/\j=1:=li;rw[this.1,this.2];exact h3
   .simp only[je,gt_iff_lt,if_false];exact aeO hr hc g li li q k
theorem MV(g:jj n p)(c:k<n)(d:vv r p k):∀f l u,l<=u->u<=k->u-l<=f->(∀i,i<l->rk r p i<rk r p k)->(∀i,u<=i->i<k->rk r p k<rk r p i)->(∀l,l<=k->(∀i,i<l->rk r p i<rk r p k)->(∀i,l<=i->i<k->rk r p k<rk r p i)->Q l s)->(kas_place p k f l u).kasWp cmp Q s
 | 0,l,u,h1,h2,h3,a,b,q=>q l (by exact wj) a λi hi c=>b i li c
 | f+1,l,u,h1,h2,h3,a,b,q=>by
  unfold kas_place
  by_cases e:l ≥ u
  .rw[ek e];exact q l (by exact wj) a λi hi c=>b i (by exact wj) c
  .rw[ei e];refine hc _ _ _ (g.lt c) (g.lt li) (g.ne c om li) ?_;have hm:(l+u)/2<u:=li;have t:l<=(l+u)/2:=li
   by_cases h:r (p.getD k 0)<r (p.getD ((l+u)/2) 0)
   .simp only[h,decide_true,if_true];refine MV g c d f l ((l+u)/2) t li om a (λi hi v=>?_) q
    by_cases m:i=(l+u)/2
    .subst m;exact h
    .have:=d ((l+u)/2) i li v;have o:rk r p k<rk r p ((l+u)/2):=h;lia
   .simp only[h,decide_false,yb,if_false]
    have o:rk r p ((l+u)/2)<rk r p k:=by
     have:=Pk hr hc g (i:=(l+u)/2) (j:=k) li c li;unfold rk at this ⊢;omega
    refine MV g c d f ((l+u)/2+1) u (by exact xf) h2 om (λi hi=>?_) b q
    by_cases m:i=(l+u)/2
    .subst m;exact o
    .have:=d i ((l+u)/2) li (by exact wh);lia
theorem Y2(g:jj n p)(a:k<n)(b:l<=k)(j:Nat):rk r (bubble p k<|k-l) j=if j=l then rk r p k else if l<j/\j<=k then rk r p (j-1) else rk r p j:=by
 have hs:=g.size;unfold rk;rw[Kz,getElem?_bubble (by exact wg) _ li,show k-(k-l)=l by lia];simp only[Kz]
 repeat' split
 all_goals first | rfl | (exfalso;omega)
theorem Y3(q:∀c,jj n c->vv r c n->Q c s):∀f k(p:Array Nat),jj n p->k+f=n->vv r p k->(kas_bin f p k).kasWp cmp Q s
 | 0,k,p,g,h,ri=>q p g (by have:k=n:=om;rwa[this]at ri)
 | f+1,k,p,g,h,ri=>by
  unfold kas_bin;rw[FH];refine MV hr hc g li ri k 0 k (bJ _) (aD _) (by exact w1) (λi hi=>eo hi li) (λi hi o=>eo o li) λl d a b=>Y3 q f (k+1) _ ((bubble_perm _ _ _).fC g) li λi j t u=>?_;rw[Y2 hr hc g li d,Y2 hr hc g om d]
  by_cases e:i=l
  .rw[ek e,ei li,ek li];exact b _ li li
  .rw[ei e]
   by_cases m:j=l
   .rw[ek m,ei li];exact a i (by exact wf)
   .rw[ei m]
    by_cases h3:l<i/\i<=k
    .rw[ek h3,ek li];exact ri _ _ om li
    .rw[ei h3]
     by_cases h4:l<j/\j<=k
     .rw[ek h4]
      by_cases v:i=j-1
      .lia
      .exact ri _ _ li om
     .rw[ei h4];exact ri _ _ t li
theorem agl(h1:1<=n)(q:∀c,jj n c->vv r c n->Q c s):(kas_sort n).kasWp cmp Q s:=by
 unfold kas_sort;rw[FH];refine af9 hr hc (aco _) h1 λm c a b g d=>?_;dsimp only
 by_cases h:m<n
 .rw[ek h];exact Y3 hr hc q _ _ _ g li (by rw[show max m 1=m by lia];exact d)
 .rw[ei h];have:m=n:=li;rw[this]at d;exact q c g d
end
end L2
namespace L2
open PySem.W
def aha{h:j_}{a:e_}{m b:cw->Option f_}(x:h.Ns a m)(y:h.Ns a b):m=b:=by
 obtain⟨o,es,i,e,d,_,f⟩:=x;obtain⟨o',j,k,c,d',_,g⟩:=y;rw[e]at c;cases c;rw[d]at d';cases d'
 funext n
 exact(f n).fF.fC (g n)
section
variable{X:Cx}{p_:List (e_×cB)}{σ:St}{H:Hp}{s:g_}
def dc.regrown{h':j_}{m:cw->Option f_}{t':Nat}{d':Drawn}(I:dc X p_ σ H s)(h1:s.heap.Ns X.env.locals m)(h2:h'.Ns X.env.locals m)(k:∀b o,b≠X.env.locals->s.heap.get? b=a_ o->h'.get? b=a_ o):dc X p_ σ H {s with heap:=h',drawn:=d',toks:=t'}:=by
 refine I.step (g':=s.gens) (d':=d') (ch:=[]) (λ_ z=>nomatch z) (λb o a _ _ e _=>k b o a e) (λb o a _ _ e _=>⟨o.slots,k b o a e⟩) (λ_ _ _ _ n=>n) (λb o _ e=>?_) (λ_ _ e=>e) (λ_ _ _ e=>e)
  (λb ps e=>⟨#[],by rw[e];simp⟩) (λc hm=>by rw[aha hm h1];exact h2) (λb u e=>?_) I.bare
 .by_cases z:b=X.env.locals
  .obtain⟨o',_,_,q,_⟩:=h2;exact⟨o',by rw[z];exact q⟩
  .exact⟨o,k b o z e⟩
 .refine(I.aM b u e).qw (λd v hd q=>k d v (λz=>?_) q) (λ_ q=>q) λ_ _ q=>q;have fr:=I.free;rw[<-z]at fr;obtain y|y:=hd
  .rw[y,e]at fr;cases fr
  .rw[y]at fr;cases fr
structure Srt(P:l_)(w:k_)(A:h_)(L:e_)(h:j_)(vs:List f_)(r:Nat->Int):Prop where
 small:vs.length<64
 inj:∀i j,i<vs.length->j<vs.length->r i=r j->i=j
 ask:2<=vs.length->∃κ,∀(s':g_),(∀b o,b≠L->h.get? b=a_ o->s'.heap.get? b=a_ o)->
  (∀Q:SortKind->g_->Prop,Q κ s'->bz (bK P w) A (keyKind' vs.toArray) Q (λ_ _=>False) s')/\
  ∀i j(C:Bool->g_->Prop),i<vs.length->j<vs.length->i≠j->C (decide<|r i<r j) s'->kas_ask P w A κ vs i j C s'
def OO(ys:List V)(r:Nat->Int)(a:List V):Prop:=∃p:Array Nat,jj ys.length p/\vv r p ys.length/\a=p.toList.map λi=>ys.getD i .aH
def ade{P:l_}{w:k_}{A:h_}{E:f_->g_->Prop}{a:e_}{vs:List f_}{n:Nat}{R:PySem.Fin->g_->Prop}(c:s.heap.get? a=a_ (d6 "list" vs.toArray n))(h1:vs.length<2)(k:∀h' e,(∀b o,b≠a->s.heap.get? b=a_ o->h'.get? b=a_ o)->h'.get? a=a_ (d6 "list" vs.toArray e)->R (.done<|.ret .none) {s with heap:=h'}):bz (bK P w) A (Builtin.«list.sort» ⟨[.ref a],[]⟩) R E s:=by
 have l:=bP c;have hn:vs.toArray.size<2:=by rw[eW];exact h1
 have d:∀m:Nat,m<2->m<=aX:=λm hm=>by rw[ij];exact w5
 obtain⟨g,h⟩:∃g,(s.heap.update a<|qf λ_=>(#[]:Array f_)).get? a=a_ (d6 "list" #[] g):=⟨_,TV c λ_=>#[]⟩;rw[list_sort_plain];refine ak<|listItems_at c xz<|ak<|listUpdate_at c xz (ak<|seqEpoch_at h xz<|ak<|wpAny_newTuple (ak<|T8 (mj ?_)<|bJ _)<|d _<|by simpa using h1) (d _<|by simpa using h1)<|bJ _;have f:=bo (d6 "list" #[] 0)<|bo (d6 "tuple" vs.toArray 0) h;dsimp only;rw[ek hn,ek hn];refine ak<|aO ?_;rw[StateT.run_pure];refine ak<|aO ?_;dsimp only
 have j:(arrOf<|SortSt.mk' general' (vs.toArray.zip vs.toArray) #[] 7 b_).map (·.2)=vs.toArray:=by
  show (vs.toArray.zip vs.toArray).map (·.2)=vs.toArray;apply Array.toList_inj.mp;rw[Array.toList_map,Array.toList_zip];show (vs.zip vs).map Prod.snd=vs;rw[List.map_snd_zip<|aD _]
 rw[j];refine ak<|seqEpoch_at f xz<|ak<|listUpdate_at f xz ?_ (bJ _)<|cQ (d _<|by simpa using h1)<|jf _;rw[ei (by simp)];refine aO<|k _ _ (λb o i e=>?_) (TV f λ_=>vs.toArray);rw[KP _ _ _ _ i];exact bo _<|bo _ (by rw[KP _ _ _ _ i];exact e)
theorem U8(a:dn ys vs):∀l:List Nat,dn (l.map λi=>ys.getD i .aH) (l.map λi=>vs.getD i gq)
 | []=>.nil
 | i::l=>by
  refine .cons ?_<|U8 a l;dsimp only;rw[nS,nS];cases e:ys[i]? with
  | none=>rw[a.none_of e];rfl
  | some y=>obtain⟨u,b,q⟩:=a.get e;rw[b];exact q
def adl(ys:List V):(List.range ys.length).map (λi=>ys.getD i .aH)=ys:=by
 apply TN
 .simp
 .intro i h1 h2;simp[h2]
def Mo(g:jj n p):p.toList.length=n:=by rw[v8,g.size]
def Ve(U:bz (bK X.prog X.w) X.A.in1 (collect x) (λvs s1=>∃ys r,dc X p_ σ H s1/\dn ys vs/\Srt X.prog X.w X.A.in1.in1 X.env.locals s1.heap vs r/\∀l k,H l=b_->OO ys r k->Q (.ref l) (db H l<|.lst k)) X.xe s):bz (bK X.prog X.w) X.A (call (.builtin "sorted") [x]) (EP X p_ σ Q) X.xe s:=by
 refine Calls.call_function_entry kind_sorted plain_sorted entry_sorted (args_sorted1 _) ?_;unfold Builtin.«sorted»;refine ak<|aO (a:=())<|ak (ik U (λvs s1 W=>?_) λ_ _ z=>z);obtain⟨ys,r,I,u,S,q⟩:=W;have D:=u.length;have E:vs.length<=aX:=by have:=S.small;rw[ij];exact w5
 refine ak<|T8 ?_ E;obtain⟨h,g,d,tk,os⟩:=s1;dsimp only at I S ⊢;have v:(h.push<|d6 "list" vs.toArray 0).get? h.objs.size=a_ (d6 "list" vs.toArray 0):=iF _ rfl;obtain⟨m,y⟩:=I.fr;have Y:X.env.locals<h.objs.size:=I.lt;have B:X.base.objs.size<=h.objs.size:=cQ I.ok.mQ I.sz
 have F:∀(h2:j_)(c:Nat)(k:List V)(t:List f_),h2.Ns X.env.locals m->(∀b o,b≠X.env.locals->h.get? b=a_ o->h2.get? b=a_ o)->h2.get? h.objs.size=a_ (d6 "list" t.toArray c)->
   dn k t->k.length<=aX->OO ys r k->EP X p_ σ Q (.ref h.objs.size) ⟨h2,g,d,tk,os⟩:=λh2 c k t Z k2 e2 v2 l2 so=>by
  have hn:H h.objs.size=none:=I.aM.fresh<|aD _;have f:=I.gz (b:=h.objs.size) (aD _) hn;have J:=dc.regrown (s:=⟨h,g,d,tk,os⟩) (t':=tk) (d':=d) I y.ns Z k2;exact⟨.ref h.objs.size,_,dc.adopt (o:=.lst k) J hn I.sz f.2.1 f.2.2.2.2.1 f.2.2.2.2.2 ⟨l2,t,c,v2,e2⟩,xz,q _ _ hn so⟩
 refine ak<|mj<|wx slot_list_sort ⟨_,v,xz⟩ entry_list_sort ?_<|args_list_sort _;have kp:∀b o,h.get? b=a_ o->(h.push<|d6 "list" vs.toArray 0).get? b=a_ o:=λb o e=>bo _ e
 by_cases h2:vs.length<2
 .refine ade (s:=⟨h.push<|d6 "list" vs.toArray 0,g,d,tk,os⟩) v h2 λh' e k' e'=>⟨_,xz,aO ⟨_,xz,?_⟩⟩;have ne:∀b o,h.get? b=a_ o->b≠h.objs.size:=λb o z=>fh<|bP z;refine F h' e ys vs ?_ (λb o _ z=>k' b o (ne b o z)<|kp b o z) e' u w7 ⟨(List.range ys.length).toArray,aco _,λi j mf G=>eo mf li,(adl ys).fF⟩;obtain⟨o,es,ep,z,rr⟩:=y.ns;exact⟨o,es,ep,k' _ _ (ne _ _ z)<|kp _ _ z,rr⟩
 .have h3:2<=vs.length:=li
  refine kat_list_sort (s:=⟨h.push<|d6 "list" vs.toArray 0,g,d,tk,os⟩) (h₀:=X.base) (L:=X.env.locals) (m:=m) (news:=rest X.base (h.push<|d6 "list" vs.toArray 0) X.env.locals h.objs.size) (y.push _)
   (λp n=>aft p (pY.mp n).1) v (uX Y) (abC B) Xd h3 S.small λe1 h' K M=>?_
  have keep:∀h3:j_,Fr X.base X.env.locals h3 m->News X.base X.env.locals h3 (rest X.base (h.push<|d6 "list" vs.toArray 0) X.env.locals h.objs.size)->∀b o,b≠X.env.locals->h.get? b=a_ o->h3.get? b=a_ o:=λh3 F3 N3 b o B z=>
   acM (λb o z=>kp b o<|I.bk b o z) F3 N3 b o B (fh<|bP z) (kp b o z)
  obtain⟨κ,hκ⟩:=S.ask h3;have N:=hκ ⟨h',g,d,tk,os⟩ (keep h' K λp n=>M p<|.tail _ n);refine N.1 _ (agl (r:=r) S.inj (λi j C hi G ne c=>N.2 i j C hi G ne c) li λO P ri=>KasFin.intro K M (.head Xd) λh4 c R T=>⟨_,rfl,aO ⟨_,rfl,F h4 c (O.toList.map λi=>ys.getD i .aH) _ R.ns (keep h4 R λp n=>T p<|.tail _ n) (T _<|.head _).1 (U8 u _) ?_ ⟨O,by rw[D];exact P,by rw[D];exact ri,rfl⟩⟩⟩);rw[aS,Mo P];exact E
end
end L2
namespace L2
open PySem.W L3
abbrev Oz(X:Cx)(sc:i_)(qual:cw)(f:e_)(cd:f_)(L:e_):Env:=envX qual sc L f cd<|gA X.env.cells sc.names []
def Jn(X:Cx)(A:h_)(sc:i_)(N:List cw)(qual:cw)(f:e_)(cd:f_)(s:g_)(H:Hp):Cx:=
 {X with A:=A.deeper<|Oz X sc qual f cd s.heap.objs.size,N:=N,s₀:=s,H₀:=H,env:=Oz X sc qual f cd s.heap.objs.size,outer:=X.stack,stack:=Oz X sc qual f cd s.heap.objs.size::X.stack,ex:=[],fn:=λ_=>d_,calm:=c_,pn:=[],xe:=λ_ _=>False}
section
variable{X:Cx}{p_:List (e_×cB)}{σ:St}{H:Hp}{s:g_}{sc:i_}{N:List cw}{idx:List Nat}{A:h_}{f:e_}{cd:f_}{qual px:cw}{k:Nat}{v:V}{u:f_}
def ahm(I:dc X p_ σ H s)(S:dJ X sc N idx)(K:A.frames=a_ X.stack)(L:A.handled=b_)(C:N[k]?=a_ px)(M:sc.names.lookup px=a_ .local)(hi:idx.length<=k)(r:df v u)(O:h'.Ns s.heap.objs.size m)(hm:m px=a_ u)(kp:∀b o,s.heap.get? b=a_ o->h'.get? b=a_ o):dc (Jn X A sc N qual f cd s H) [] ((lU idx N.length σ).set k<|a_ v) H {s with heap:=h',toks:=t}:=by
 have d:∀x c,(gA X.env.cells sc.names []).lookup x=a_ c->X.env.cells.lookup x=a_ c:=GJ sc.names [] (λx c e=>by cases e);have has:=λx e=>GN sc.names [] x e (I.ok.has x<|.inl<|S.frees _ e xz);have g:∀b:e_,b∉(Jn X A sc N qual f cd s H).ex:=λb z=>eo (show b∈([]:List e_) from z) (by simp);refine⟨⟨I.ok.mod,S.kind,xz,xz,aD _,λx y c n a=>I.ok.inj x y c (d x c n)<|d y c a,λx h=>?_,λx c h=>(by cases h),λ_=>L,abE K,.inr ⟨xz,xz⟩,λb z=>eo z<|g b,I.bs,cQ I.ok.mQ I.sz,λb _ _=>g b,λb z=>eo z<|g b,I.stack,I.G6⟩,xz,I.bare,Un.kept kp,⟨m,O,λj x w n a Z=>?_⟩,λx c e=>?_,I.aM.fresh<|aD _,λx c e=>I.jP x c<|d x c e,λp P=>eo (show p∈([]:List (e_×cB)) from P) (by simp),I.aM.kept kp,by rw[oG];exact Ng S.le⟩
 .have h2:sc.names.lookup x=a_ .cell\/sc.names.lookup x=a_ .free:=h;obtain z|z:=h2
  .exact eo xz (S.HE _<|t_ z)
  .exact has x (t_ z)
 .have B:N[j]?=a_ x:=n
  by_cases D:j=k
  .subst D;rw[C]at B;cases B;have Q:j<(lU idx N.length σ).length:=by rw[Ng S.le];exact(dX.mp C).1
   rw[nU Q]at a;cases a;exact⟨u,r,.inl ⟨M,hm⟩⟩
  .rw[Cp<|eJ D]at a;obtain⟨i,h1,h2⟩:=Nh a;obtain⟨h3,h4⟩:=S.cap j i x h1 B;have E:=t_ h4;have F:X.env.scope.names.lookup x=a_ .cell:=S.frees _ E rfl;obtain⟨m',uD,R⟩:=I.loc;obtain⟨T,U,l⟩:=R i x w h3 h2<|.inr<|.inl F;refine⟨T,U,.inr ⟨.inr h4,?_⟩⟩;obtain⟨q,_⟩|⟨_,c,V,z⟩:=l
   .have G:X.env.scope.names.lookup x=a_ .local:=q;rw[F]at G;cases G
   .obtain⟨W,J⟩:=has x E;have:=d x W J;rw[V]at this;cases this;exact⟨c,J,z.keeps λb o e=>kp b o e⟩
 .obtain⟨Y,z⟩:=I.cell x c<|d x c e;exact⟨Y,z.keeps λb o e=>kp b o e⟩
def afF{body:bT}(I:dc X p_ σ H s)(S:dJ X sc N idx)(g:A.frames=a_ X.stack)(h:A.handled=b_)(i:A.depth<FJ)(j:N[k]?=a_ px)(c:sc.names.lookup px=a_ .local)(hi:idx.length<=k)(r:df v u)(l:s.heap.get? f=a_ (kla_obj "<lambda>" qual params body sc (gA X.env.cells sc.names []) pm c' qN))(m:s.heap.CodeRec (.ref c') qual)(n:vf (kla_fn "<lambda>" qual params body sc (gA X.env.cells sc.names []) pm (.ref c') qN) ⟨[u],[]⟩=pure [(px,u)])(p:sc.isCoroutine=d_)(x:sc.isGenerator=d_)(B:PE (Jn X A sc N qual f (.ref c') s H) body te)(q:te ((lU idx N.length σ).set k<|a_ v) H Q):bz (bK X.prog X.w) A (call (.ref f) [u]) (EP X p_ σ Q) E s:=by
 refine tj<|kla_callFunE i l xz p x xz m ?_;rw[n];refine aO<|wpAny_newFunctionEnv S.HE (λy C=>?_) (λh1 D d=>⟨I.nolimit.fresh _ d,?_⟩) S.kind
 .have e:y=(px,u):=by simpa using C
  rw[e];exact c
 .have kp:∀b o,s.heap.get? b=a_ o->h1.get? b=a_ o:=λb o e=>d.extBut b o (fh<|bP e)<|bo _ e;have J:=ahm (A:=A) (f:=f) (cd:=.ref c') (qual:=qual) (t:=s.toks+[(px,u)].length) I S g h j c hi r D (by simp[qR]) kp;refine kla_codeExpr (ik (B [] _ _ H _ J q) (λw s2 hw=>?_) λ_ _ z=>ip z);obtain⟨F,G,a,r2,K⟩:=hw;exact⟨F,G,I.PF (ch:=[]) (a.os.fC xz) a.base a.aM a.bare λb z=>eo z (by simp),r2,K⟩
end
noncomputable def BI(c:e_)(qual:cw):HO:=.ext λh=>h.CodeRec (.ref c) qual
def ajc{P:l_}{w:k_}(x:h.CodeRec (.ref c) qual):hZ P w H h c (BI c qual):=by
 obtain⟨c0,o,vs,t,e,q,r⟩:=id x;cases e;refine⟨x,⟨o,q⟩,λh1 h2 y k=>?_⟩;obtain⟨c1,o1,a,b,d,f,g⟩:=y;cases d;exact⟨c,o1,a,b,xz,k _ f,g⟩
def cx(P:e_)(a:Pos)(qual:cw)(H:Hp):Prop:=∃ps,H P=a_ (.gg ps)/\(ps=#[]\/∃c,ps=#[cr a.line,cr a.col,.ref c]/\H c=a_ (BI c qual))
def wY(P:e_)(H H':Hp):Prop:=∀b o,b≠P->H b=a_ o->H' b=a_ o
def wY.refl{P:e_}(H:Hp):wY P H H:=λ_ _ _ e=>e
def vH(mg:cw->Option f_)(fK:j_):Prop:=∃a b,mg "__builtins__"=a_ (.ref a)/\a≠tm/\a≠fZ/\fK.get? a=a_ b/\b.cls=.type "module"/\b.dict=a_ tm/\b.data=.plain
section
variable{X:Cx}{p_:List (e_×cB)}{σ:St}{H:Hp}{s:g_}
def dc.grow{P:e_}(I:dc X p_ σ H s)(a:H P=a_ (.gg ps))(k:∀b o,b≠P->s.heap.get? b=a_ o->h'.get? b=a_ o)(e:h'.get? P=a_ (tabObj<|ps++more)):dc X p_ σ (db H P<|.gg<|ps++more) {s with heap:=h',toks:=t'}:=by
 have ne:∀b,H b=b_->b≠P:=λb n z=>by rw[z,a]at n;cases n
 refine I.step (g':=s.gens) (d':=s.drawn) (ch:=[]) (λ_ z=>nomatch z) (λb o _ _ _ q n=>k b o (ne b n) q) (λb o _ _ _ q n=>⟨o.slots,k b o (ne b n) q⟩) (λb o _ q n=>by rw[ah<|ne b n];exact n) (λb o _ q=>?_) (λb xs q=>?_) (λb o u q=>?_) (λb qs q=>?_)
  (λm hm=>?_) (λb u q=>?_) I.bare
 .by_cases z:b=P
  .exact⟨_,by rw[z];exact e⟩
  .exact⟨o,k b o z q⟩
 .rw[ah<|hV q a (by intro z;cases z)];exact q
 .rw[ah<|hV q a (by intro z;cases z)];exact q
 .by_cases z:b=P
  .subst z;rw[a]at q;cases q;exact⟨more,ai⟩
  .exact⟨#[],by rw[ah z,q];simp⟩
 .obtain⟨o,es,g,q,r⟩:=hm;exact⟨o,es,g,k _ o (ne _ I.free) q,r⟩
 .by_cases z:b=P
  .subst z;rw[ai]at q;cases q;exact e
  .rw[ah z]at q;refine(I.aM b u q).qw (λd v hd y=>k d v (λw=>?_) y) (λc y=>?_) λc xs y=>?_
   .obtain f|f:=hd
    .exact z (f.fF.fC w)
    .rw[w,a]at f;cases f
   .rw[ah<|hV y a (by intro z;cases z)];exact y
   .rw[ah<|hV y a (by intro z;cases z)];exact y
def dc.Iu(I:dc X p_ σ H s)(g:dW X p_ H f)(e:s.heap.get? f=a_ o)(n:∀v,o.data≠.cell v):dc X (p_++[(f,o)]) σ H s:=
 I.wF λp a=>by
  obtain z|z:=i6.mp a
  .exact I.pin p (ig _ z)
  .have b:p=(f,o):=by simpa using z
   rw[b];exact⟨e,g.1,g.2.1,g.2.2.1,n⟩
def afE{body:bT}{c P:e_}(I:dc X p_ σ H s)(S:dJ X sc N idx)(t:X.env.code=.ref c)(C:CodeHd X.base c P)(B:vH X.mg X.base)(L:defaultsOf params X.env=([],[]))(h:cx P pos (X.env.qual++"<lambda>") H)(k:∀f a H' pm g s',dc X (p_++[(f,kla_obj "<lambda>" (X.env.qual++"<lambda>") params body sc (gA X.env.cells sc.names []) pm a g)]) σ H' s'->wY P H H'->cx P pos (X.env.qual++"<lambda>") H'->H' a=a_ (BI a<|X.env.qual++"<lambda>")->R (.ref f) s'):bz (bK X.prog X.w) X.A (eval (.Lambda params body sc pos) X.env) R E s:=by
 have u:=FX λp M e=>I.ok.has p.1<|.inl<|S.frees p M e;obtain⟨ps,i,O⟩:=h;have oP:s.heap.get? P=a_ (tabObj ps):=I.aM P _ i;obtain⟨Q,T,b1,b2,U,x,V,W,Y⟩:=B
 have y:∀b o,X.base.get? b=a_ o->b≠P:=λb o e z=>by
  have:=(I.bs b o e).2;rw[z,i]at this;cases this
 have D:=I.mod.glob.keeps I.bk
 have Z:fZ≠P:=by
  obtain⟨o,es,ep,e,_⟩:=I.mod.glob;exact y _ _ e
 have F:s.heap.BuiltinsAt X.mg P:=⟨Q,T,b1,b2,U,y _ _ x,I.bk _ _ x,V,W,Y⟩;have G:=C.keeps I.bk;refine kla_eval L ?_;obtain rfl|⟨c0,rfl,j⟩:=O
 .refine kla_makeFunction (mg:=X.mg) u I.ok.glob D t G oP nY xz Z F λa g h' tk hx d J amY htb=>?_
  have l:dc X p_ σ (db H P<|.gg<|#[] ++ #[cr pos.line,cr pos.col,.ref a]) {s with heap:=h'.push<|kla_obj "<lambda>" (X.env.qual++"<lambda>") params body sc (gA X.env.cells sc.names []) ((X.mg "__name__").getD .none) a g,toks:=tk}:=
   I.grow i (λb o n e=>bo _<|hx b o n e) (bo _ htb)
  have K:=bP oP;have m:=I.aM.fresh d;have cP:=uX<|ff K d;have nc1:db H P (.gg<|#[] ++ #[cr pos.line,cr pos.col,.ref a]) a=none:=by rw[ah cP];exact m
  have fc:=I.gz (b:=a) d m;have I2:=dc.adopt (o:=BI a<|X.env.qual++"<lambda>") l nc1 (cQ I.sz d) fc.2.1 fc.2.2.2.2.1 fc.2.2.2.2.2<|ajc<|amY.push _;have q:=cQ d<|cI J;have fP:=uX<|ff K q
  have nf:db (db H P<|.gg<|#[] ++ #[cr pos.line,cr pos.col,.ref a]) a (BI a<|X.env.qual++"<lambda>") h'.objs.size=none:=by
   rw[ah<|uX J,ah fP];exact I.aM.fresh q
  have r:=I2.Iu (I.gz (b:=h'.objs.size) q nf) (iF _ xz) (λv z=>by cases z);refine k _ a _ _ g _ r (λb o n e=>?_) ⟨_,by rw[ah<|eJ cP,ai],.inr ⟨a,by simp,ai⟩⟩ ai;rw[ah<|aQ e m,ah n];exact e
 .have hcr:s.heap.CodeRec (.ref c0) (X.env.qual++"<lambda>"):=(I.aM c0 _ j).1;have hf:codeAmong pos (#[cr pos.line,cr pos.col,bN c0]:Array f_).toList=a_ (.ref c0):=by simp[codeAmong,cr]
  refine kla_makeFunctionHit (mg:=X.mg) u I.ok.glob D t G oP (show TriplesOk [cr pos.line,cr pos.col,bN c0] from nY) hf F λg h' tk kk d=>?_;have l:dc X p_ σ H {s with heap:=h'.push<|kla_obj "<lambda>" (X.env.qual++"<lambda>") params body sc (gA X.env.cells sc.names []) ((X.mg "__name__").getD .none) c0 g,toks:=tk}:=I.kept λb o e=>bo _<|kk b o e;have r:=l.Iu (I.gz (b:=h'.objs.size) d<|I.aM.fresh d) (iF _ xz) (λv z=>by cases z);exact k _ c0 _ _ g _ r (wY.refl H) ⟨_,i,.inr ⟨c0,xz,j⟩⟩ j
end
end L2
namespace L2
open PySem.W
def ZW(ts:List e_)(H:Hp):Prop:=(∀b,H b=b_\/(∃o xs,H b=a_ (.lY o<|.lst xs))\/(b∈ts/\H b=a_ (.gg #[])))/\∀b∈ts,H b=a_ (.gg #[])
def aeh{P:l_}{w:k_}{K:u_}{mg mb:cw->Option f_}(D:K.In s₁.heap)(E:s₁.heap.Ns fZ mg)(c:s₁.heap.Ns tm mb)(U:∀x:cw,x ≠ "__name__"->mb x=Ao x)(W:s₁.heap.NoLimit)(X:s₁.gens=#[])(Y:vH mg s₁.heap)(g:∀b∈ts,s₁.heap.get? b=a_ (tabObj #[]))(Z:∀b∈ts,isCodeTable s₁.heap b)(JW:∀b∈ts,K.lookup b=b_)(ha:s₁.heap.get? a=a_ {cls:=.type "list",data:=.seq vs.toArray})(hi:IntsAre vs ns)(G:ns.length<=aX)(hr:eM k callerA)(F:∀fK:j_,K.In fK->fK.Ns fZ mg->vH mg fK->aE P w K mg fK CX k fa fd [x] sp)(D7:∀(s:g_)(u:f_),BindsTo s fd ⟨[u],[]⟩ [(x,u)])(oB:∀H:Hp,ZW ts H->aq K H a (ns.map V.int)->sp [.ref a] H (λv _=>v=.bl c_) λ_ _ _=>False)(hCX:∀H e s',CX [] H s₁ (λ_ _ _=>False) e s'->False):codeAny (bK P w) callerA (.call (.ref fa) ⟨[.ref a],[]⟩) (λr s'=>r=.ok (.ret<|.bool c_)/\OldK s₁.heap s'.heap/\s'.os=s₁.os/\AllBare s'.gens) s₁:=by
 have I:=U9 hi;have ams:=hi.length
 have J:a∉ts:=λz=>by
  have e:=g a z;rw[ha]at e;cases e
 have L:∀H:Hp,ZW ts H->aq K H a (ns.map V.int)->fV P w H s₁.heap->(∀b,H b≠b_->b=a\/b∈ts)->(H a≠b_->K.lookup a=b_)->
   codeAny (bK P w) callerA (.call (.ref fa) ⟨[.ref a],[]⟩) (λr s'=>r=.ok (.ret<|.bool c_)/\OldK s₁.heap s'.heap/\s'.os=s₁.os/\AllBare s'.gens) s₁:=by
  intro H M hS aM N hK;have p:∀{b:e_}{o:cB},s₁.heap.get? b=a_ o->H b=b_->(uc s₁.heap H).get? b=a_ o:=λe n=>afL e n
  have O:∀{b:e_}{o:cB},s₁.heap.get? b=a_ o->(∀xs n,o.data≠.seq xs n)->(∀xs,o.data≠.fields xs)->H b=none:=λ{b o}e d1 d2=>by
   cases q:H b with
   | none=>rfl
   | some u=>
    rcases N b (by rw[q];simp)with z | z
    .subst z;rw[ha]at e;cases e;exact eo xz<|d1 _ _
    .rw[g b z]at e;cases e;exact eo xz<|d2 _
  have l:∀{b:e_}{m:cw->Option f_},s₁.heap.Ns b m->(uc s₁.heap H).Ns b m:=λ{b m}⟨o,es,ep,e,d,r⟩=>⟨o,es,ep,p e (O e (λ_ _ z=>by rw[d]at z;cases z) λ_ z=>by rw[d]at z;cases z),d,r⟩
  have Q:K.In (uc s₁.heap H):=λb o e=>p (D b o e) (by
   cases q:H b with
   | none=>rfl
   | some u=>
    rcases N b (by rw[q];simp)with z | z
    .subst z;rw[hK (by rw[q];simp)]at e;cases e
    .rw[JW b z]at e;cases e)
  have hB:vH mg (uc s₁.heap H):=by
   obtain⟨bm,t,b1,b2,b3,R,b5,b6,y⟩:=Y;exact⟨bm,t,b1,b2,b3,p R (O R (λ_ _ z=>by rw[y]at z;cases z) λ_ z=>by rw[y]at z;cases z),b5,b6,y⟩
  have hM:Mod K mg (uc s₁.heap H):=⟨Q,l E,⟨mb,l c,U⟩,let ⟨mc,h1,h2⟩:=W;⟨mc,l h1,h2⟩⟩;have e0:yR P w K mg (uc s₁.heap H) callerA [] s₁ H:=⟨xz,hM,λb o e=>ag' e,m8<|aen _ _,trivial,λb c=>eo (show b∈([]:List e_) from c) (by simp),aM,.of_eq X⟩;refine yf ((F _ Q (l E) hB).run callerA [] s₁ H ⟨[.ref a],[]⟩ [.ref a] [.ref a] _ _ hr e0 (D7 s₁<|.ref a) (.cons xz .nil) (oB H M hS)) λr s' h=>?_;cases r with
  | error e=>exact(hCX H e s' h).elim
  | ok fl=>
   cases fl with
   | next=>exact ip h
   | brk=>exact ip h
   | cont=>exact ip h
   | ret u=>
    obtain⟨v,H',os,bare,un,S,r',q⟩:=h;have q':=q;subst q';obtain rfl:u=oJ true:=r'
    have T:∀b o,s₁.heap.get? b=a_ o->asItWas s₁.heap s'.heap b o/\∃o',s'.heap.get? b=a_ o':=λb o e=>by
     cases q:H b with
     | none=>
      have:=un.keep b o e q (by intro z;exact eo (show b∈([]:List e_) from z)<|by simp) (by simp);exact⟨.inl this,_,this⟩
     | some u=>
      obtain z|⟨t,xs,z⟩|⟨hm,z⟩:=M.1 b
      .rw[q]at z;cases z
      .have A:=un.oq b t _ z;obtain⟨i,_⟩:=aM b _ z;obtain⟨j,_⟩:=S b _ A;rw[e]at i;cases i;exact⟨.inl j,_,j⟩
      .obtain⟨more,A⟩:=un.oo b _ z;have j:s'.heap.get? b=a_ (tabObj<|#[]++more):=S b _ A;have i:=g b hm;rw[e]at i;cases i;exact⟨.inr<|.inl ⟨Z b hm,xz,#[],more,xz,j⟩,_,j⟩
    exact⟨xz,⟨λb o e=>(T b o e).1,λb o e=>(T b o e).2⟩,os,bare⟩
 have tok:∀b,b∈ts->hZ P w (λb=>if b=a then b_ else if b∈ts then a_ (.gg #[]) else b_) s₁.heap b (.gg #[]):=λb c=>g b c;cases B:K.lookup a with
 | some o=>
  have e:=D a o B;rw[ha]at e;cases e;have hta:∀b∈ts,(λb=>if b∈ts then a_ (HO.gg #[]) else b_) b=a_ (.gg #[]):=λb c=>ek c;refine L (λb=>if b∈ts then a_ (.gg #[]) else b_) ⟨λb=>?_,hta⟩ (.inr ⟨_,vs.toArray,_,B,xz,xz,xz,by rw[eW,ams];exact G,by simpa using I⟩) (λb u z=>?_) (λb z=>?_) λz=>eo (ei J) z
  .by_cases c:b∈ts
   .exact .inr (.inr ⟨c,ek c⟩)
   .exact .inl (ei c)
  .by_cases c:b∈ts
   .have C:=(ek c).fF.fC z;cases C;exact g b c
   .have C:=(ei c).fF.fC z;cases C
  .by_cases c:b∈ts
   .exact .inr c
   .exact eo (ei c) z
 | none=>
  have ne:∀b∈ts,b≠a:=λb c z=>J<|z ▸ c;refine L (λb=>if b=a then a_ (.lY {cls:=.type "list",data:=.seq vs.toArray} (.lst<|ns.map V.int)) else if b∈ts then a_ (.gg #[]) else b_) ⟨λb=>?_,λb c=>?_⟩ (.inl<|.inr ⟨{cls:=.type "list",data:=.seq vs.toArray},ek xz⟩) (λb u z=>?_) (λb z=>?_) λ_=>B
  .by_cases c:b=a
   .exact .inr (.inl ⟨_,_,ek c⟩)
   .by_cases f:b∈ts
    .exact .inr (.inr ⟨f,by dsimp only;rw[ei c,ek f]⟩)
    .exact .inl (by dsimp only;rw[ei c,ei f])
  .dsimp only;rw[ei<|ne b c,ek c]
  .dsimp only at z
   by_cases c:b=a
   .rw[ek c]at z;cases z;subst c;exact⟨ha,by rw[aS];exact G,vs,_,I,ha⟩
   .rw[ei c]at z
    by_cases f:b∈ts
    .rw[ek f]at z;cases z;exact g b f
    .rw[ei f]at z;cases z
  .by_cases c:b=a
   .exact .inl c
   .by_cases f:b∈ts
    .exact .inr f
    .exact eo (show (if b=a then _ else if b∈ts then _ else b_)=b_ by rw[ei c,ei f]) z
end L2
namespace HT
open PySem.W L2
theorem Ub:∀{us:List f_}{xs:List cw},tD us xs=c_->dn (xs.map V.str) us/\us.length=xs.length
 | [],[],_=>⟨.nil,xz⟩
 | .str y t::us,x::xs,h=>by
  have h:(decide (y=x)&&tD us xs)=true:=h;rw[fY]at h;obtain⟨a,b⟩:=Ub h.2;have e:=er h.1;subst e;exact⟨.cons ⟨t,xz⟩ a,by rw[gE,gE,b]⟩
 | [],_::_,h=>by simp[tD]at h
 | u::us,[],h=>by cases u <;> simp[tD]at h
 | .none::_,_::_,h=>by simp[tD]at h
 | .ref _::_,_::_,h=>by simp[tD]at h
 | .int _ _::_,_::_,h=>by simp[tD]at h
 | .bool _::_,_::_,h=>by simp[tD]at h
def agg{K:Frag}(h:tupS K a xs=c_)(b:xs.length<=aX)(H:Hp):az K H a (xs.map V.str):=by
 unfold tupS at h
 split at h
 .rename_i d c n sl e
  obtain⟨r,l⟩:=Ub h;exact .inr ⟨_,c,n,e,xz,xz,by rw[<-v8,l];exact b,r⟩
 .cases h
end HT
namespace L3
def iw(b:Bool)(h:j_)(it l:e_)(i:Nat):Prop:=if b=c_ then h.IsListIter it l i else h.IsTupleIter it l i
def ix(b:Bool)(h:j_)(l:e_)(xs:Array f_):Prop:=if b=c_ then h.IsList l xs else h.IsTuple l xs
def iw.ext(x:iw b h it l i)(e:LS c h h')(n:it≠c):iw b h' it l i:=by
 cases b with
 | true=>exact(show h.IsListIter it l i from x).extBut e n
 | false=>exact(show h.IsTupleIter it l i from x).extBut e n
def ix.ext(x:ix b h l xs)(e:LS c h h')(n:l≠c):ix b h' l xs:=by
 cases b with
 | true=>exact(show h.IsList l xs from x).extBut e n
 | false=>exact(show h.IsTuple l xs from x).extBut e n
def iw.at(x:iw b h it l i)(e:∀o,h.get? it=a_ o->h'.get? it=a_ o):iw b h' it l i:=by
 cases b with
 | true=>exact(show h.IsListIter it l i from x).at e
 | false=>obtain⟨o,a,r⟩:=(show h.IsTupleIter it l i from x);exact⟨o,e o a,r⟩
def ix.at(x:ix b h l xs)(e:∀o,h.get? l=a_ o->h'.get? l=a_ o):ix b h' l xs:=by
 cases b with
 | true=>exact(show h.IsList l xs from x).at e
 | false=>obtain⟨o,a,r⟩:=(show h.IsTuple l xs from x);exact⟨o,e o a,r⟩
def iw.obj(x:iw b h it l i):∃o vs,h.get? it=a_ o/\o.data=.fields vs:=by
 cases b with
 | true=>obtain⟨o,e,_,d⟩:=(show h.IsListIter it l i from x);exact⟨o,_,e,d⟩
 | false=>obtain⟨o,e,_,d⟩:=(show h.IsTupleIter it l i from x);exact⟨o,_,e,d⟩
section
variable{prog:l_}{w:k_}{A:h_}{E:f_->g_->Prop}{s:g_}
def acz(a:s.heap.IsTupleIter it t i)(b:s.heap.IsTuple t ar)(f:ar[i]?=a_ x)(k:∀h',h'.IsTupleIter it t (i+1)->sX it s.heap h'->Q x {s with heap:=h'}):bz (bK prog w) A (uO<|.ref it) Q E s:=by
 obtain⟨o,e,c,d⟩:=id a;obtain⟨j,g,_,l,h⟩:=b;unfold uO;refine ak<|z6 (name:=eQ "__next__") a.typeIs KA<|wx KA a.typeIs abf ?_<|abe _;show bz _ _ (field (.ref it) 0 >>= _) _ _ s;refine ak<|i7 e d (x:=.ref t) xz ?_;show bz _ _ (if (bN t==gq)=c_ then _ else _) _ _ s;rw[ei (by exact dS)];show bz _ _ (field (.ref it) 1 >>= _) _ _ s;refine ak<|i7 e d (x:=.int i 0) xz ?_;show bz _ _ (MD (.ref t) >>= _) _ _ s;refine ak<|sU g h ?_;simp only[mh,f];refine ak<|Aj e d (by simp)<|aO ⟨x,xz,aO<|k _ ⟨_,Ab _ e<|KH<|Ad d _,(abV ..).fC c,?_⟩<|KQ ..⟩;rw[Ad d];simp[cr]
def acL(f:A.handled=b_)(b:s.heap.IsTupleIter it t i)(g:s.heap.IsTuple t ar)(h:ar[i]?=b_)(k:∀h' x,LS it s.heap h'->(∃o,h'.get? x=a_ o/\o.cls=.type "StopIteration")->E (.ref x) {s with heap:=h'}):bz (bK prog w) A (uO<|.ref it) Q E s:=by
 obtain⟨o,e,c,d⟩:=id b;obtain⟨n,j,_,p,l⟩:=g;unfold uO;refine ak<|z6 (name:=eQ "__next__") b.typeIs KA<|wx KA b.typeIs abf ?_<|abe _;show bz _ _ (field (.ref it) 0 >>= _) _ _ s;refine ak<|i7 e d (x:=.ref t) xz ?_;show bz _ _ (if (bN t==gq)=c_ then _ else _) _ _ s;rw[ei (by exact dS)];show bz _ _ (field (.ref it) 1 >>= _) _ _ s;refine ak<|i7 e d (x:=.int i 0) xz ?_;show bz _ _ (MD (.ref t) >>= _) _ _ s;refine ak<|sU j l ?_;simp only[mh,h];refine ak<|Ay<|ak<|Aj e d (by simp) ?_;show bz _ _ (newExc (.type "StopIteration") [] >>= _) _ _ _;refine ak ?_;unfold newExc newTuple;refine ak<|we ?_ (by size_fits);refine ak (m:=firstArgMember _ _)<|wpAny_of_eq (a:=gq) (by first | rfl | (simp only[firstArgMember];rfl))<|we ?_ (by size_fits);unfold raiseNew;refine ak<|wpAny_handled ?_
 first | rw[show A.in1.handled=b_ from f] | rw[f]
 exact ak<|aO<|wpAny_throw<|k _ _ (((KQ ..).extBut.push _).push _) ⟨_,iF _ xz,xz⟩
def next_item(a:iw b s.heap it l i)(c:ix b s.heap l xs)(d:xs[i]?=a_ x)(k:∀h',iw b h' it l (i+1)->sX it s.heap h'->Q x {s with heap:=h'}):bz (bK prog w) A (uO<|.ref it) Q E s:=by
 cases b with
 | true=>exact wpAny_nextOf_list_item a c d k
 | false=>exact acz a c d k
def next_end(a:A.handled=b_)(c:iw b s.heap it l i)(d:ix b s.heap l xs)(e:xs[i]?=b_)(k:∀h' x,LS it s.heap h'->(∃o,h'.get? x=a_ o/\o.cls=.type "StopIteration")->E (.ref x) {s with heap:=h'}):bz (bK prog w) A (uO<|.ref it) Q E s:=by
 cases b with
 | true=>exact wpAny_nextOf_list_end a c d e k
 | false=>exact acL a c d e k
def aeG{z TI TO f g l1 l2:e_}(D:ZipApart z TI TO f g l1 l2)(h:IsZip s.heap z TI TO .none)(J:IsPair s.heap TI (.ref f) (.ref g))(K:IsPair s.heap TO a b)(n1:iw b1 s.heap f l1 k1)(L:iw b2 s.heap g l2 k2)(M:ix b1 s.heap l1 xs)(N:ix b2 s.heap l2 ys)(O:xs[k1]?=a_ x)(P:ys[k2]?=a_ y)(R:∀h',IsZip h' z TI TO (cr s.heap.objs.size)->IsPair h' TO x y->iw b1 h' f l1 (k1+1)->iw b2 h' g l2 (k2+1)->IsPair h' s.heap.objs.size x y-> (∀c o,c≠z->c≠TO->c≠f->c≠g->s.heap.get? c=a_ o->h'.get? c=a_ o)->Q (a_<|.ref s.heap.objs.size) {s with heap:=h'}):bz (bK prog w) A (pyNext<|.ref z) Q E s:=by
 have t:s.TypeIs (.ref z) "zip":=⟨_,h,xz⟩;unfold pyNext;refine ak<|FK<|z6 (name:=eQ "__next__") t Ll<|wx Ll t F.entry_zip_next ?_<|F.args_zip_next_1 _;show bz _ _ (field (.ref z) 2 >>= _) _ _ s;refine ak<|i7 h xz (x:=.bool d_) xz ?_;show bz _ _ (field (.ref z) 3 >>= _) _ _ s;refine ak<|i7 h xz (x:=.ref TI) xz<|ak<|sU J xz ?_;show bz _ _ (Kx (.ref z) >>= _) _ _ s;unfold Kx;refine ak<|ak<|i7 h xz (x:=.none) xz<|aO ?_;simp only[if_true];refine ak<|Ay<|ak<|i7 h xz (x:=.ref TO) xz<|ak (Cq h (by simp) λS p s1=>?_);have p:IsZip S z TI TO .ellipsis:=p;simp only[List.zipIdx_cons,List.zipIdx_nil,Ai,List.forIn_nil];refine ak<|ak<|ak<|Lx ?_;show bz _ _ (uO (.ref f) >>= _) _ _ _;refine ak (next_item (n1.ext s1.extBut D.i1z) (M.ext s1.extBut D.l1z) O λT U s2=>aO ?_);have u:IsPair T TO a b:=s2.extBut _ _ D.TOi1<|s1.extBut _ _ D.TOz K;refine ak<|sU u xz<|ak (Tg u λV q i=>ak<|As<|aO ?_);have q:IsPair V TO x b:=q;refine ak<|ak<|Lx ?_;show bz _ _ (uO (.ref g) >>= _) _ _ _;refine ak (next_item (((L.ext s1.extBut D.i2z).ext s2.extBut D.i12.fF).ext i.extBut D.TOi2.fF) (((N.ext s1.extBut D.l2z).ext s2.extBut D.l2i1).ext i.extBut D.l2TO) P λW X j=>aO ?_);have v:IsPair W TO x b:=j.extBut _ _ D.TOi2 q;refine ak<|sU v xz<|ak (Tg v λd l k=>ak<|As<|aO<|aO ?_);have l:IsPair d TO x y:=l;refine ak<|sU l xz<|ak<|wpAny_newTuple ?_;have hsz:d.objs.size=s.heap.objs.size:=by rw[k.1,j.1,i.1,s2.1,s1.1]
 have B:IsZip d z TI TO .ellipsis:=k.extBut _ _ D.TOz.fF<|j.extBut _ _ D.i2z.fF<|i.extBut _ _ D.TOz.fF<|s2.extBut _ _ D.i1z.fF p
 have Y:∀c o,c≠z->c≠TO->c≠f->c≠g->s.heap.get? c=a_ o->d.get? c=a_ o:=λc o c1 c2 c3 c4 e=>
  k.extBut _ _ c2 (j.extBut _ _ c4<|i.extBut _ _ c2<|s2.extBut _ _ c3<|s1.extBut _ _ c1 e)
 have Z:=((U.ext i.extBut D.TOi1.fF).ext j.extBut D.i12).ext k.extBut D.TOi1.fF;have n25:=X.ext k.extBut D.TOi2.fF;have C:=bP B;show bz _ _ (aba (.ref z) (.ref d.objs.size) >>= _) _ _ _;unfold aba;have hz6:IsZip (d.push {cls:=.type "tuple",data:=.seq #[x,y]}) z TI TO .ellipsis:=bo _ B;refine ak<|ak (Cq hz6 (by simp) λg7 r G=>?_);have r:IsZip g7 z TI TO (cr d.objs.size):=r;refine Cq r (by simp) λm n H=>?_;have n:IsZip m z TI TO (cr d.objs.size):=n;have up:∀c o,c≠z->d.get? c=a_ o->m.get? c=a_ o:=λc o c1 e=>H.extBut _ _ c1<|G.extBut _ _ c1<|bo _ e;have I:IsPair m d.objs.size x y:=H.extBut _ _ (uX C)<|G.extBut _ _ (uX C)<|iF _ xz;rw[hsz]at n I;refine aO ⟨_,xz,?_⟩;show bz _ _ (pure (a_<|bN d.objs.size):Sem (Option f_)) _ _ _;rw[hsz];exact aO (R m n (up _ _ D.TOz l) (Z.at λo e=>up _ o D.i1z e) (n25.at λo e=>up _ o D.i2z e) I λc o c1 c2 c3 c4 e=>up c o c1<|Y c o c1 c2 c3 c4 e)
def age{z TI TO g h l1 l2:e_}(t:A.handled=b_)(D:ZipApart z TI TO g h l1 l2)(i:IsZip s.heap z TI TO .none)(K:IsPair s.heap TI (.ref g) (.ref h))(L:IsPair s.heap TO a b)(n1:iw b1 s.heap g l1 k1)(M:iw b2 s.heap h l2 k2)(u:ix b1 s.heap l1 xs)(N:ix b2 s.heap l2 ys)(O:xs[k1]?=b_\/ys[k2]?=b_)(P:∀h',(∀c o,c≠z->c≠TO->c≠g->c≠h->s.heap.get? c=a_ o->h'.get? c=a_ o)->Q b_ {s with heap:=h'}):bz (bK prog w) A (pyNext<|.ref z) Q E s:=by
 have v:s.TypeIs (.ref z) "zip":=⟨_,i,xz⟩
 have y:∀(h':j_)(e:e_),(∀c o,c≠z->c≠TO->c≠g->c≠h->s.heap.get? c=a_ o->h'.get? c=a_ o)->(∃o,h'.get? e=a_ o/\o.cls=.type "StopIteration")->
   bz (bK prog w) A (do if <-CB (.ref e) (.type "StopIteration") then pure b_ else throw (.ref e)) Q E {s with heap:=h'}:=λh' e R⟨o,S,U⟩=>
  ak (Ld (T:="StopIteration") (b:=c_) ⟨o,S,U⟩ isSubtype_stop<|aO<|P _ R)
 unfold pyNext;refine ak<|FK<|z6 (name:=eQ "__next__") v Ll<|wx Ll v F.entry_zip_next ?_<|F.args_zip_next_1 _;show bz _ _ (field (.ref z) 2 >>= _) _ _ s;refine ak<|i7 i xz (x:=.bool d_) xz ?_;show bz _ _ (field (.ref z) 3 >>= _) _ _ s;refine ak<|i7 i xz (x:=.ref TI) xz<|ak<|sU K xz ?_;show bz _ _ (Kx (.ref z) >>= _) _ _ s;unfold Kx;refine ak<|ak<|i7 i xz (x:=.none) xz<|aO ?_;simp only[if_true];refine ak<|Ay<|ak<|i7 i xz (x:=.ref TO) xz<|ak (Cq i (by simp) λV k s1=>?_);have k:IsZip V z TI TO .ellipsis:=k;simp only[List.zipIdx_cons,List.zipIdx_nil,Ai,List.forIn_nil];refine ak<|ak<|ak<|Lx ?_;show bz _ _ (uO (.ref g) >>= _) _ _ _;cases l:xs[k1]? with
 | none=>
  refine ak (next_end t (n1.ext s1.extBut D.i1z) (u.ext s1.extBut D.l1z) l λm e s2 n=>?_);obtain⟨p,d,j⟩:=n;have B:IsZip m z TI TO .ellipsis:=s2 _ _ D.i1z.fF k;have r:e≠z:=λq=>by subst q;rw[B]at d;cases d;simp at j
  exact Cq B (by simp) λC _ f=>y C e (λc o c1 _ c3 _ q=>f.extBut _ _ c1<|s2 _ _ c3<|s1.extBut _ _ c1 q) ⟨p,f.extBut _ _ r d,j⟩
 | some x=>
  have W:ys[k2]?=none:=by
   obtain q|q:=O
   .rw[l]at q;cases q
   .exact q
  refine ak (next_item (n1.ext s1.extBut D.i1z) (u.ext s1.extBut D.l1z) l λm Z s2=>aO ?_);have G:IsPair m TO a b:=s2.extBut _ _ D.TOi1<|s1.extBut _ _ D.TOz L;refine ak<|sU G xz<|ak (Tg G λC t3 f=>ak<|As<|aO<|ak<|ak<|Lx ?_);show bz _ _ (uO (.ref h) >>= _) _ _ _;refine ak (next_end t (((M.ext s1.extBut D.i2z).ext s2.extBut D.i12.fF).ext f.extBut D.TOi2.fF) (((N.ext s1.extBut D.l2z).ext s2.extBut D.l2i1).ext f.extBut D.l2TO) W λX e H n=>?_);obtain⟨p,d,j⟩:=n;have I:IsZip X z TI TO .ellipsis:=H _ _ D.i2z.fF<|f.extBut _ _ D.TOz.fF<|s2.extBut _ _ D.i1z.fF k;have r:e≠z:=λq=>by subst q;rw[I]at d;cases d;simp at j
  exact Cq I (by simp) λY _ J=>y Y e (λc o c1 c2 c3 c4 q=>J.extBut _ _ c1<|H _ _ c4<|f.extBut _ _ c2<|s2.extBut _ _ c3<|s1.extBut _ _ c1 q) ⟨p,J.extBut _ _ r d,j⟩
noncomputable abbrev tX(b:Bool)(l:e_):cB:={cls:=.type (if b=c_ then "list_iterator" else "tuple_iterator"),data:=.fields #[.ref l,.int 0 0]}
def Gw(m:ix b s.heap l xs)(k:Q (.ref s.heap.objs.size) {s with heap:=s.heap.push (tX b l)}):bz (bK prog w) A (pyIter<|.ref l) Q E s:=by
 cases b with
 | true=>exact KU m k
 | false=>exact wpAny_pyIter_tuple m k
def WA(e:h.get? a=a_ (tX b l)):iw b h a l 0:=by
 cases b with
 | true=>exact⟨_,e,xz,xz⟩
 | false=>exact⟨_,e,xz,xz⟩
end
abbrev Jc(b1:Bool)(h:j_)(l1:e_):Heap:=h.push<|tX b1 l1
abbrev Jb(b1 b2:Bool)(h:j_)(l1 l2:e_):Heap:=(Jc b1 h l1).push<|tX b2 l2
abbrev Ja(b1 b2:Bool)(h:j_)(l1 l2:e_):Heap:=(Jb b1 b2 h l1 l2).push {cls:=.type "tuple",data:=.seq #[.ref h.objs.size,.ref (Jc b1 h l1).objs.size]}
abbrev IZ(b1 b2:Bool)(h:j_)(l1 l2:e_):Heap:=(Ja b1 b2 h l1 l2).push {cls:=.type "tuple",data:=.seq #[.none,.none]}
abbrev Bv(b1 b2:Bool)(h:j_)(l1 l2:e_):Heap:=(IZ b1 b2 h l1 l2).push {cls:=.type "zip",data:=.fields #[.none,.bool d_,.bool d_,.ref (Jb b1 b2 h l1 l2).objs.size,.ref (Ja b1 b2 h l1 l2).objs.size]}
def ix.push(x:ix b h l xs)(o:cB):ix b (h.push o) l xs:=x.at λ_ e=>bo _ e
def agd(b1 b2:Bool)(l1 l2:e_)(xs ys:Array f_):Meets (Builtin.«zip.__new__» ⟨[.type "zip",.ref l1,.ref l2],[]⟩) (λ_ R s=>ix b1 s.heap l1 xs/\ix b2 s.heap l2 ys/\R (.ok<|.ret<|.ref (IZ b1 b2 s.heap l1 l2).objs.size) {s with heap:=Bv b1 b2 s.heap l1 l2}):=
 .of_wp λprog w A R s h=>by
  obtain⟨a,g,d,tk,os⟩:=s;obtain⟨b,c,h⟩:=h;have i:=sub_zip;have e:=b;have f:ix b2 (Shared.heap ⟨a.push<|tX b1 l1,g,d,tk,os⟩) l2 ys:=ix.push c _
  wp_walk using Gw e,Gw f
  exact⟨_,xz,h⟩
section
variable{prog:l_}{w:k_}{A:h_}{E:f_->g_->Prop}{s:g_}
def aeH{l1 l2:e_}(j:ix b1 s.heap l1 xs)(l:ix b2 s.heap l2 ys)(k:∀h',IsZip h' (s.heap.objs.size+4) (s.heap.objs.size+2) (s.heap.objs.size+3) .none->IsPair h' (s.heap.objs.size+2) (.ref s.heap.objs.size) (.ref<|s.heap.objs.size+1)->IsPair h' (s.heap.objs.size+3) .none .none->iw b1 h' s.heap.objs.size l1 0->iw b2 h' (s.heap.objs.size+1) l2 0->(∀c o,s.heap.get? c=a_ o->h'.get? c=a_ o)->Q (.ref<|s.heap.objs.size+4) {s with heap:=h'}):bz (bK prog w) A (call (.type "zip") [.ref l1,.ref l2]) Q E s:=by
 refine callType_new F.called_zip qc (F.typeCall_zip_2 _ _) (F.newCall_zip_2 _ _) (λobj=>F.args_object_init_3 obj _ _) F.entry_zip_new (agd b1 b2 l1 l2 xs ys) ⟨j,l,?_⟩;have a:(Jc b1 s.heap l1).objs.size=s.heap.objs.size+1:=nW ..;have b:(Jb b1 b2 s.heap l1 l2).objs.size=s.heap.objs.size+2:=by rw[nW,a]
 have d:(Ja b1 b2 s.heap l1 l2).objs.size=s.heap.objs.size+3:=by rw[nW,b]
 have f:(IZ b1 b2 s.heap l1 l2).objs.size=s.heap.objs.size+4:=by rw[nW,d]
 have e:(Bv b1 b2 s.heap l1 l2).get? (IZ b1 b2 s.heap l1 l2).objs.size=a_ _:=iF _ rfl;have g:(Bv b1 b2 s.heap l1 l2).get? (Ja b1 b2 s.heap l1 l2).objs.size=a_ _:=bo _<|iF _ xz;have h:(Bv b1 b2 s.heap l1 l2).get? (Jb b1 b2 s.heap l1 l2).objs.size=a_ _:=bo _<|bo _<|iF _ xz;have i:(Bv b1 b2 s.heap l1 l2).get? (Jc b1 s.heap l1).objs.size=a_ _:=bo _<|bo _<|bo _<|iF _ xz;have m:(Bv b1 b2 s.heap l1 l2).get? s.heap.objs.size=a_ _:=bo _<|bo _<|bo _<|bo _<|iF _ xz;show _/\_;rw[b,d,f]at e;rw[a,b]at h;rw[d]at g;rw[a]at i;rw[f];exact⟨⟨_,e,xz⟩,k _ e h g (WA m) (WA i) λc o x=>bo _<|bo _<|bo _<|bo _<|bo _ x⟩
end
end L3
namespace L3
open AutoSeq1 (wpAny_loadPart')
def aet(l:e_)(a:Array f_)(n:Nat)(uo:Option e_)(sl:Array (Option f_)):Meets (Builtin.«enumerate.__new__» ⟨[.type "enumerate",.ref l],[]⟩) (λ_ R s=>s.heap.get? l=a_ {cls:=.type "tuple",dict:=uo,data:=.seq a n,slots:=sl}/\R (.ok<|.ret<|.ref (s.heap.push<|tX d_ l).objs.size) {s with heap:=(s.heap.push<|tX d_ l).push {cls:=.type "enumerate",data:=.fields #[.none,.bool d_,.ref s.heap.objs.size,cr 0,.none,.none]}}):=
 .of_wp λprog w A R s h=>by
  obtain⟨b,g,d,tk,os⟩:=s;obtain⟨q,h⟩:=h;have e:=sub_enumerate;have M:ix d_ (Shared.heap ⟨b,g,d,tk,os⟩) l a:=⟨_,q,xz,n,xz⟩
  wp_walk using TU q
  refine wpAny_stack_any λst=>aO ?_
  split
  .rename_i c _ _ _ _ _
   cases (c==nX "enumerate") <;> (wp_walk using TU q,Gw M;exact⟨_,xz,h⟩)
  .wp_walk using TU q,Gw M
   exact⟨_,xz,h⟩
section
variable{prog:l_}{w:k_}{A:h_}{E:f_->g_->Prop}{s:g_}
def aeu(m:ix b s.heap l xs)(k:∀h',IsEnum h' (s.heap.objs.size+1) s.heap.objs.size 0 .none->iw b h' s.heap.objs.size l 0->(∀c o,s.heap.get? c=a_ o->h'.get? c=a_ o)->Q (.ref<|s.heap.objs.size+1) {s with heap:=h'}):bz (bK prog w) A (call (.type "enumerate") [.ref l]) Q E s:=by
 cases b with
 | true=>exact call_enumerate_list (show s.heap.IsList l xs from m) λh' f g _ h=>k h' f g h
 | false=>
  obtain⟨⟨c,uo,i,sl⟩,j,a,n,hd⟩:=(show s.heap.IsTuple l xs from m);have a:c=.type "tuple":=a;have hd:i=.seq xs n:=hd;subst a hd;refine callType_new F.called_enumerate qc (F.typeCall_enumerate_1 _) (F.newCall_enumerate_1 _) (λobj=>F.args_object_init_2 obj _) F.entry_enumerate_new (aet l xs n uo sl) ⟨j,?_⟩;have d:(s.heap.push<|tX d_ l).objs.size=s.heap.objs.size+1:=nW ..
  have e:IsEnum ((s.heap.push<|tX d_ l).push {cls:=.type "enumerate",data:=.fields #[.none,.bool d_,.ref s.heap.objs.size,cr 0,.none,.none]}) (s.heap.objs.size+1) s.heap.objs.size 0 .none:=by
   have q:=iF (s.heap.push<|tX d_ l) (o:={cls:=.type "enumerate",data:=.fields #[.none,.bool d_,.ref s.heap.objs.size,cr 0,.none,.none]}) rfl;rw[d]at q;exact q
  show _/\_;rw[d];exact⟨⟨_,e,xz⟩,k _ e ⟨_,bo _<|iF _ xz,xz,xz⟩ λc o x=>bo _<|bo _ x⟩
def aew(d:A.handled=b_)(it l:e_)(f:l≠it)(xs:Array f_):Draws prog w A it [it,l] xs.size (λi v=>xs[i]?=a_ v) (λi h=>iw b h it l i/\ix b h l xs) where
 live:=λ_ _ st=>let ⟨o,_,e,_⟩:=st.1.obj;⟨o,e⟩
 frame:=λ_ _ _ st a=>⟨st.1.at λo e=>a it (by simp) o e,st.2.at λo e=>a l (by simp) o e⟩
 item:=λi s Q E hi st g=>next_item st.1 st.2 (x:=xs[i]) (by simp[hi]) λh' j c=>g _ h' s.toks (by simp[hi]) ⟨j,st.2.ext c.extBut f⟩ c
 done:=λs Q E st k=>next_end d st.1 st.2 (by simp) k
end
end L3
namespace L2
open L3
def dc.Nj{X:Cx}{p_:List (e_×cB)}{σ:St}{H:Hp}{s:g_}{h':j_}{t':Nat}{ch:List e_}(I:dc X p_ σ H s)(k:∀b o,b∉ch->s.heap.get? b=a_ o->h'.get? b=a_ o)(a:∀b∈ch,dW X p_ H b):dc X p_ σ H {s with heap:=h',toks:=t'}:=by
 have f:∀b u,H b=a_ u->b∉ch:=λb u e z=>by rw[(a b z).1]at e;cases e
 refine I.step (g':=s.gens) (d':=s.drawn) (ch:=ch) (λb d=>⟨(a b d).2.2.2.1,(a b d).2.1,(a b d).2.2.2.2.1,(a b d).2.2.2.2.2⟩) (λb o _ _ z e _=>k b o z e) (λb o _ _ z e _=>⟨o.slots,k b o z e⟩) (λ_ _ _ _ n=>n)
  (λb o z e=>⟨o,k b o z e⟩) (λ_ _ e=>e) (λ_ _ _ e=>e) (λb ps e=>⟨#[],by rw[e];simp⟩) (λm hm=>?_) (λb u e=>?_) I.bare
 .exact rE hm λo es g h r=>⟨o,es,g,(k _ o (λz=>(a _ z).2.1 xz) h),r⟩
 .refine(I.aM b u e).qw (λc v i q=>k c v ?_ q) (λ_ q=>q) λ_ _ q=>q;obtain z|z:=i
  .rw[z];exact f b u e
  .exact f c _ z
def Sq(b:Bool)(K:u_)(H:Hp)(a:e_)(xs:List V):Prop:=if b=c_ then aq K H a xs else az K H a xs
def tS(I:dc X p_ σ H s)(h:Sq b X.K H a xs):∃c:List f_,dn xs c/\ix b s.heap a c.toArray/\xs.length<=aX:=by
 cases b with
 | true=>
  exact aZ (I.list h) λc r p z=>dD c r p.isList z
 | false=>
  exact aZ (I.tuple h) λc r p z=>dD c r p z
def NT(I:dc X p_ σ H s)(h:Sq b X.K H a xs)(h':Sq b X.K H a ys):xs=ys:=by
 cases b with
 | true=>exact I.Ww h h'
 | false=>exact I.Va h h'
def Pb(I:dc X p_ σ H s)(h:Sq b X.K H a xs):a<s.heap.objs.size:=by
 refine aZ (tS I h) λc r p z=>?_;cases b with
 | true=>obtain⟨o,e,_⟩:=(show s.heap.IsList a c.toArray from p);exact bP e
 | false=>obtain⟨o,e,_⟩:=(show s.heap.IsTuple a c.toArray from p);exact bP e
def pu(b1 b2:Bool)(K:u_)(l1 l2:e_):It:=
 ⟨λi H=>∃xs ys x y,Sq b1 K H l1 xs/\Sq b2 K H l2 ys/\xs[i]?=a_ x/\ys[i]?=a_ y,λi H v H'=>∃p x y,H p=b_/\v=.ref p/\H'=db H p (.tup [x,y])/\∀xs ys,Sq b1 K H l1 xs->Sq b2 K H l2 ys->xs[i]?=a_ x/\ys[i]?=a_ y,λi H=>∃xs ys,Sq b1 K H l1 xs/\Sq b2 K H l2 ys/\(xs.length<=i\/ys.length<=i)⟩
def Av(x:iw b h it l i):∃o,h.get? it=a_ o/\∀v,o.data≠.cell v:=by
 exact dC x.obj λo vs e d=>au o e (λv z=>by rw[d]at z;cases z)
def aeK{P:l_}{w:k_}{K:u_}{es:List bT}{T:Nat}{U:Pos}{b1 b2:Bool}{z TI TO f g l1 l2:e_}(D:ZipApart z TI TO f g l1 l2):Turn P w K (.Tuple es T U) (pu b1 b2 K l1 l2) [z,TI,TO,f,g] z (λi h=>IsZip h z TI TO .none/\IsPair h TI (.ref f) (.ref g)/\(∃a b,IsPair h TO a b)/\iw b1 h f l1 i/\iw b2 h g l2 i) where
 mem:=by simp
 obj:=λi h⟨l,j,⟨a,b,m⟩,n,p⟩c d=>by
  simp only[a9,sP,or_false]at d;obtain rfl|rfl|rfl|rfl|rfl:=d
  .exact au _ l (λv z=>by cases z)
  .exact au _ j (λv z=>by cases z)
  .exact au _ m (λv z=>by cases z)
  .exact Av n
  .exact Av p
 keep:=λi h h'⟨l,j,⟨a,b,m⟩,n,p⟩k=>⟨k z (by simp) _ l,k TI (by simp) _ j,⟨a,b,k TO (by simp) _ m⟩,n.at λo e=>k f (by simp) o e,p.at λo e=>k g (by simp) o e⟩
 item:=by
  intro X F hw G d i p_ s σ H E I t ⟨l,j,⟨a,b,m⟩,n,p⟩ hg;subst F hw G;refine Dn hg λxs ys x y A V=>jm V λB R S=>aZ (tS I A) λW J L _=>aZ (tS I B) λY r2 M _=>aJ (J.get R) λu Z ru=>aJ (r2.get S) λv hv rv=>aeG D l j m n p L M (x:=u) (y:=v) (by simpa using Z) (by simpa using hv) λh' c1 c2 c3 c4 c5 C=>?_;have N:=I.aM.fresh<|aD _
  have lts:∀c∈[z,TI,TO,f,g],c<s.heap.objs.size:=λc d=>by
   simp only[a9,sP,or_false]at d;obtain rfl|rfl|rfl|rfl|rfl:=d
   .exact bP l
   .exact bP j
   .exact bP m
   .obtain⟨o,e,_⟩:=Av n;exact bP e
   .obtain⟨o,e,_⟩:=Av p;exact bP e
  refine au _ xz (wpAny_letOwnedTupleGo_zip c1 λO d1 r=>?_);have sz:∀c∈[z,TI,TO,f,g],c≠s.heap.objs.size:=λc d=>fh<|lts c d
  have k2:∀c o,c∉[z,TO,f,g]->s.heap.get? c=a_ o->O.get? c=a_ o:=λc o d e=>by
   simp only[a9,sP,or_false,not_or]at d;exact(r.2 c d.1).fC (C c o d.1 d.2.1 d.2.2.1 d.2.2.2 e)
  have fz:∀c∈[z,TO,f,g],dW X p_ H c:=λc d=>t c (by
   simp only[a9,sP,or_false]at d ⊢;rcases d with rfl | rfl | rfl | rfl <;> simp)
  have I1:=dc.Nj (t':=s.toks) I k2 fz;have pT:IsPair O s.heap.objs.size u v:=(r.2 _<|eJ<|sz z<|by simp).fC c5;have Q:=I.gz (aD _) N;have I2:dc X p_ σ (db H s.heap.objs.size<|.tup [x,y]) {s with heap:=O}:=dc.adopt I1 N I.sz Q.2.1 Q.2.2.2.2.1 Q.2.2.2.2.2 ⟨by show 2<=aX;decide,[u,v],.cons ru<|.cons rv .nil,⟨_,pT,xz,_,xz⟩⟩;refine⟨.ref s.heap.objs.size,_,I2,xz,⟨_,x,y,N,xz,xz,λxs' ys' p1 p2=>⟨by rw[NT I p1 A];exact R,by rw[NT I p2 B];exact S⟩⟩,⟨d1,(r.2 _ D.TIz).fC<|C _ _ D.TIz D.TITO D.TIi1 D.TIi2 j,⟨u,v,(r.2 _ D.TOz).fC c2⟩,c3.at λo e=>(r.2 _ D.i1z).fC e,c4.at λo e=>(r.2 _ D.i2z).fC e⟩,λc d=>?_⟩;rw[ah<|sz c d];exact(t c d).1
 done:=by
  intro X F hw G d i p_ s σ H E I t ⟨l,j,⟨a,b,m⟩,n,p⟩ hg;subst F hw G;refine gf hg λxs ys A B IU=>aZ (tS I A) λW J L _=>aZ (tS I B) λY r2 M _=>?_;have l1':=J.length;have l2':=r2.length;refine age (I.ok.hd d) D l j m n p L M (by obtain q|q:=IU;exact .inl (by simp;lia);exact .inr (by simp;lia)) λh' C=>⟨xz,?_⟩
  refine dc.Nj (t':=s.toks) (ch:=[z,TO,f,g]) I (λc o d e=>?_) λc d=>t c (by
   simp only[a9,sP,or_false]at d ⊢;rcases d with rfl | rfl | rfl | rfl <;> simp)
  simp only[a9,sP,or_false,not_or]at d;exact C c o d.1 d.2.1 d.2.2.1 d.2.2.2 e
 self:=λ_ _ _ _ _ st h=>wpAny_pyIter_zip st.1 h
section
variable{X:Cx}{pos:Pos}
def amc(b1 b2:Bool)(K:u_)(b:TA):TI:=λσ H R=>b σ H λvs a=>∃l1 l2 xs ys,vs=[.ref l1,.ref l2]/\Sq b1 K a l1 xs/\Sq b2 K a l2 ys/\R (pu b1 b2 K l1 l2) a
def aim(m:Gl X "zip")(hm:X.mg "zip"=b_)(ha:PA X [a,b] ta)
  (hs:autoParam (cg [a,b] X.env=[(d_,eval a X.env),(d_,eval b X.env)]) am) (i:autoParam (cg [b] X.env=[(d_,eval b X.env)]) am):PI X (.Tuple es x1 IH) (.Call (.Name "zip" p) [a,b] [] pos) (amc b1 b2 X.K ta):=by
 intro p_ s σ H R I h;refine Call_<|yx I m hm boot_zip<|Ky (Bx (ha pos p_ s σ H _ I h) λus s1 vs n d o f=>?_) (by rw[hs,i]) (by rw[i];rfl);obtain⟨l1,l2,xs,ys,e,f,j,q⟩:=f;subst e;cases o with
 | cons r g=>
  cases g with
  | cons t g=>
   cases g;cases r;cases t;obtain⟨y,_,u,_⟩:=tS d f;obtain⟨z,_,v,_⟩:=tS d j;have n1:=Pb d f;have w:=Pb d j;refine aeH u v λh' c1 c2 c3 c4 c5 x=>wpAny_pyIter_zip c1<|qe _ _ _ _ n xz (d.kept (t':=s1.toks) x) (aeK (D:=zipApart_new n1 w)) ⟨c1,c2,⟨_,_,c3⟩,c4,c5⟩ (λc k=>?_) q
   have l:s1.heap.objs.size<=c:=by
    simp only[a9,sP,or_false]at k;rcases k with rfl | rfl | rfl | rfl | rfl <;> lia
   exact d.gz l<|d.aM.fresh l
def pJ(b:Bool)(K:u_)(l:e_):It:=
 ⟨λi H=>∃xs x,Sq b K H l xs/\xs[i]?=a_ x,λi H v H'=>∃p x,H p=b_/\v=.ref p/\H'=db H p (.tup [.int i,x])/\∀xs,Sq b K H l xs->xs[i]?=a_ x,λi H=>∃xs,Sq b K H l xs/\xs.length<=i⟩
end
def adP{P:l_}{w:k_}{K:u_}{es:List bT}{Q:Nat}{R:Pos}{b:Bool}{e it l:e_}(n1:e≠it)(S:l≠it)(U:e≠l):Turn P w K (.Tuple es Q R) (pJ b K l) [e,it] e (λi h=>(∃j,IsEnum h e it i j)/\iw b h it l i) where
 mem:=by simp
 obj:=λi h⟨⟨j,d⟩,g⟩c a=>by
  simp only[a9,sP,or_false]at a;obtain rfl|rfl:=a
  .exact au _ d (λv z=>by cases z)
  .exact Av g
 keep:=λi h h'⟨⟨j,d⟩,g⟩k=>⟨⟨j,k e (by simp) _ d⟩,g.at λo q=>k it (by simp) o q⟩
 item:=by
  intro X p hw r a i p_ s σ H E I f ⟨⟨j,d⟩,g⟩ hg;subst p hw r;refine dC hg λxs x m L=>aZ (tS I m) λvs t B _=>aJ (t.get L) λu M V=>?_
  have W:i<vs.toArray.size:=by
   have:=(dX.mp M).1;simpa using this
  have Y:X.A.in1.handled=none:=I.ok.hd a;refine wpAny_pyNext_enum_itemD (n:=vs.toArray.size) (aew (b:=b) Y it l S vs.toArray) d ⟨g,B⟩ W n1 (by simp;exact⟨n1,U⟩) λy h' tk Z c1 c2 c3 c4 kk=>?_
  have ey:y=u:=by
   have:vs[i]?=a_ y:=by simpa using Z
   rw[M]at this;exact(eG this).fF
  subst ey;have C:=I.aM.fresh<|aD _;have N:e≠s.heap.objs.size:=fh<|bP d
  have iS:it≠s.heap.objs.size:=by
   exact aJ (Av g) λo q _=>fh<|bP q
  refine au _ xz (wpAny_letOwnedTupleGo_enum c1 λD d1 G=>?_)
  have k2:∀c o,c∉[e,it]->s.heap.get? c=a_ o->D.get? c=a_ o:=λc o a q=>by
   simp only[a9,sP,or_false,not_or]at a;exact(G.2 c a.1).fC (kk c o a.1 a.2 q)
  have I1:dc X p_ σ H {s with heap:=D,toks:=tk+1}:=dc.Nj I k2 f;have pT:=(G.2 _<|eJ N).fC c3;have J:=I.gz (aD _) C
  have I2:dc X p_ σ (db H s.heap.objs.size<|.tup [.int i,x]) {s with heap:=D,toks:=tk+1}:=dc.adopt I1 C I.sz J.2.1 J.2.2.2.2.1 J.2.2.2.2.2
   ⟨by show 2<=aX;decide,[.int i tk,y],.cons ⟨_,xz⟩<|.cons V .nil,⟨_,pT,xz,_,xz⟩⟩
  refine⟨(.ref s.heap.objs.size),_,I2,xz,⟨_,x,C,xz,xz,λxs' p1=>by rw[NT I p1 m];exact L⟩,⟨⟨_,by simpa using d1⟩,c2.1.at λo q=>(G.2 _<|eJ n1).fC q⟩,(λc a=>?_)⟩;simp only[a9,sP,or_false]at a;obtain rfl|rfl:=a
  .rw[ah N];exact(f _<|by simp).1
  .rw[ah iS];exact(f _<|by simp).1
 done:=by
  intro X p hw r a i p_ s σ H E I f ⟨⟨j,d⟩,g⟩ hg;subst p hw r;refine aJ hg λxs m IU=>aZ (tS I m) λvs t B _=>?_;have hl:=t.length;have O:s.TypeIs (.ref e) "enumerate":=⟨_,d,xz⟩;unfold pyNext;refine ak<|FK<|z6 (name:=eQ "__next__") O abB<|wx abB O F.entry_enumerate_next ?_<|F.args_enumerate_next_1 _;show bz _ _ (field (.ref e) 2 >>= _) _ _ s;refine ak<|i7 d xz (x:=.ref it) xz<|ak (next_end (show X.A.in1.handled=b_ from I.ok.hd a) g B (by simp;lia) λh' y hk⟨o,ho,zO⟩=>ak<|Ld (T:="StopIteration") (b:=c_) ⟨o,ho,zO⟩ isSubtype_stop<|aO ⟨xz,I.turned (t':=s.toks) (it:=it) (λc q a z=>hk c q a z) (f it<|by simp).1 (f it<|by simp).2.1 (f it<|by simp).2.2.2.1 (f it<|by simp).2.2.2.2.1 (f it<|by simp).2.2.2.2.2⟩)
 self:=λ_ _ _ _ _ st h=>let ⟨_,d⟩:=st.1;wpAny_pyIter_enum d h
section
variable{X:Cx}{pos:Pos}
def akK(b:Bool)(K:u_)(c:TA):TI:=λσ H R=>c σ H λvs a=>∃l xs,vs=[.ref l]/\Sq b K a l xs/\R (pJ b K l) a
def C5(j:Gl X "enumerate")(hm:X.mg "enumerate"=b_)(ha:PA X [a] ta)
  (hs:autoParam (cg [a] X.env=[(d_,eval a X.env)]) am):PI X (.Tuple es x1 IH) (.Call (.Name "enumerate" p) [a] [] pos) (akK b X.K ta):=by
 intro p_ s σ H R I h;refine Call_<|yx I j hm boot_enumerate<|Ky (Bx (ha pos p_ s σ H _ I h) λus s1 vs k d m f=>?_) hs xz;obtain⟨l,xs,e,f,q⟩:=f;subst e;cases m with
 | cons r n=>
  cases n;cases r;obtain⟨u,_,o,_⟩:=tS d f;have n1:=Pb d f;refine aeu o λh' c1 c2 t=>wpAny_pyIter_enum c1<|qe _ _ _ _ k xz (d.kept (t':=s1.toks) t) (adP (Fz _) (fh n1)<|eJ<|fh<|K' n1) ⟨⟨_,c1⟩,c2⟩ (λc g=>?_) q
  have i:s1.heap.objs.size<=c:=by
   simp only[a9,sP,or_false]at g;rcases g with rfl | rfl <;> lia
  exact d.gz i<|d.aM.fresh i
end
end L2
namespace L2
open PySem.SeqAt L3
noncomputable def Ql:V->Option f_
 | .ty n=>a_<|.type n
 | .ref a=>a_<|.ref a
 | _=>b_
def WM(h:Ql c=a_ cv)(r:df c u):u=cv:=by
 cases c with
 | ty n=>cases h;exact r
 | ref a=>cases h;exact r
 | _=>cases h
def nT(K:u_):List V->Hp->VK->Prop:=λxs H Q=>∃x c t a b,xs=[x,c]/\i3 K H x t/\Ql c=a_ a/\v_ K t a=a_ b/\Q (.bl b) H
section
variable{X:Cx}
def kY:my X (.builtin "isinstance") (nT X.K):=by
 intro p_ s σ H xs us Q I r h;refine jw h λx c t g b a=>AX a λe ty d f q=>?_;subst e;cases r with
 | cons r1 r2=>
  cases r2 with
  | cons r2 r3=>
   cases r3;cases WM d r2;exact ael I r1 ty f λtk=>(dG (.bl b) H (I.tok tk) xz q)
def range_all(bs:List Bool):(List.range bs.length).all (λi=>bs.getD i d_)=bs.all id:=by
 induction bs with
 | nil=>rfl
 | cons b r ih=>
  rw[gE,List.range_succ_eq_map,yd,yh,yd];simp only[List.getD_cons_zero,id]
  congr 1
theorem VN:∀{bs:List Bool}{us:List f_},dn (bs.map V.bl) us->us=bs.map oJ
 | [],_,r=>by cases r;rfl
 | b::bs,_,r=>by
  cases r with
  | cons a r2=>
   cases a;rw[fu,VN r2]
def acU(bs:List Bool):TruthOf X.prog X.w A (λi v=>(bs.map oJ).toArray[i]?=a_ v) (λi=>bs.getD i d_):=by
 intro i v s Q E h q;have h':(bs.map oJ)[i]?=a_ v:=by simpa using h
 rw[eX]at h';cases e:bs[i]? with
 | none=>rw[e]at h';cases h'
 | some b=>
  rw[e]at h';have hv:=(eG h').fF;subst hv;have c:bs.getD i d_=b:=by rw[nS,e];rfl
  have a:Q (bs.getD i d_) s:=q;rw[c]at a;exact qO a
def al1(K:u_):List V->Hp->VK->Prop:=λxs H Q=>∃(p:e_)(bs:List Bool),xs=[.ref p]/\aq K H p (bs.map V.bl)/\Q (.bl<|bs.all id) H
def CS(a:X.calm=c_):my X (.builtin "all") (al1 X.K):=by
 intro p_ s σ H xs us Q I r h;refine gf h λp bs e c q=>?_;subst e;refine aJ (vals1 r) λu d f=>?_;subst d;cases f;refine aZ (I.list c) λt g pl v=>?_;have j:=VN g;subst j
 have k:p≠s.heap.objs.size:=by
  exact aJ pl.isList λo e _=>fh<|bP e
 refine call_all_walk<|KU pl.isList<|⟨_,_,_,_,_,_,(i9 _ xz (U5 (show X.A.in1.handled=b_ from I.ok.hd a) _ p k (bs.map oJ).toArray) ⟨⟨_,iF _ xz,xz,xz⟩,pl.isList.push _⟩ (acU bs) λh' tk l=>?_)⟩
 have m:(List.range (bs.map oJ).toArray.size).all (λi=>bs.getD i d_)=bs.all id:=by
  rw[eW,aS];exact range_all bs
 rw[m];refine dG (.bl _) H (I.kept λb o e=>l b o (λz=>?_)<|bo _ e) xz q;have n:b=s.heap.objs.size:=by simpa using z
 rw[n]at e;exact eo (bP e)<|je _
mutual
inductive c8 (K:u_) (H:Hp):V->ci->Prop
 | aH:c8 K H .aH .none
 | bl (b:Bool):c8 K H (.bl b) (.bool b)
 | int (i:Int):c8 K H (.int i) (.int i)
 | str (x:cw):c8 K H (.str x) (.str x)
 | lst {a:e_} {xs:List V} {ds:List ci}:aq K H a xs->eU K H xs ds->c8 K H (.ref a) (.list ds)
 | tup {a:e_} {xs:List V} {ds:List ci}:az K H a xs->eU K H xs ds->c8 K H (.ref a) (.tuple ds)
inductive eU (K:u_) (H:Hp):List V->List ci->Prop
 | nil:eU K H [] []
 | cons {x:V} {d:ci} {xs:List V} {ds:List ci}:c8 K H x d->eU K H xs ds->eU K H (x::xs) (d::ds)
end
variable{p_:List (e_×cB)}{σ:St}{H:Hp}{s:g_}
mutual
theorem c8.reads(I:dc X p_ σ H s):∀{v:V}{d:ci}{u:f_},c8 X.K H v d->df v u->∃a,Reads s.heap u d a
 | _,_,_,.aH,r=>by cases r;exact⟨_,.none⟩
 | _,_,_,.bl b,r=>by cases r;exact⟨_,.bool b⟩
 | _,_,_,.int i,r=>by obtain⟨t,e⟩:=r;subst e;exact⟨_,.int i t⟩
 | _,_,_,.str x,r=>by obtain⟨t,e⟩:=r;subst e;exact⟨_,.str x t⟩
 | _,_,_,.lst hq hs,r=>by
  cases r;exact aZ (I.list hq) λk c pl l=>oE (eU.reads I hs c) λa h=>aZ pl.isList λo f g j=>oE j λn hd=>⟨_,.list f g hd<|by simpa using h⟩
 | _,_,_,.tup hq hs,r=>by
  cases r;exact aZ (I.tuple hq) λk c pl l=>oE (eU.reads I hs c) λa h=>aZ pl λo f g j=>oE j λn hd=>⟨_,.tuple f g hd<|by simpa using h⟩
theorem eU.reads(I:dc X p_ σ H s):∀{vs:List V}{ds:List ci}{us:List f_},eU X.K H vs ds->dn vs us->∃a,CW s.heap us ds a
 | _,_,_,.nil,r=>by cases r;exact⟨_,.nil⟩
 | _,_,_,.cons h t,r=>by
  cases r with
  | cons r1 r2=>
   exact oE (c8.reads I h r1) λa b=>oE (eU.reads I t r2) λbs c=>⟨_,.cons b c⟩
end
def Ir(K:u_)(a:Bool):R2:=λx y H Q=>∃d e,c8 K H x d/\c8 K H y e/\shaped d=c_/\shaped e=c_/\noMix d e=c_/\Q (.bl (if a=c_ then !same d e else same d e)) H
def Dm(a:X.A.units+64<cLine):fG X (jL .Eq) (Ir X.K d_):=by
 intro p_ s σ H x y v u Q I b c h;exact eY h λd e h1 h2 h3 h4 h5 q=>oE (h1.reads I b) λi f=>oE (h2.reads I c) λbs g=>eq_dataH_same f g h3 h4 a h5<|dG (.bl _) H I xz q
def Ol(a:X.A.units+64<cLine):fG X (jL .NotEq) (Ir X.K c_):=by
 intro p_ s σ H x y v u Q I b c h;exact eY h λd e h1 h2 h3 h4 h5 q=>oE (h1.reads I b) λi f=>oE (h2.reads I c) λbs g=>ne_dataH_same f g h3 h4 a h5<|dG (.bl _) H I xz q
end
structure PN(K:u_)(C:e_)(m:cw)(f:e_):Prop where
 sp:W.specialIn K (.ref C) "__getattribute__"=a_ (a_<|.builtin "type.__getattribute__")
 rd:W.readsIn K C (.type "type")=c_
 fc:W.findCls K (.ref C) (.type "type") m=a_ (.val<|.ref f)
 kp:x_ K (.ref f)=c_
section
variable{X:Cx}{CX:qE}{k:Nat}{f C:e_}{fd:ir}{ps:List cw}{sp:Sp}{dvs:List V}{ds:List f_}{E:XK}{x m:cw}{p pos apos:Pos}{e o:bT}{es:List bT}{ta:TE}{t:TA}
def Aw(c:PN X.K C m f)(F:aE X.prog X.w X.K X.mg X.base CX k f fd ps sp)(b:eM k X.A)(d:Gl X x)(hm:X.mg x=a_ (.ref C))(g:dt X.K fd ps ds)(hd:dn dvs ds)(i:Passes CX X E)(ha:PA X (e::es) t)
  (j:autoParam ((x==("__debug__":cw))=false) ap) (l:autoParam (cg (e::es) X.env=(d_,eval e X.env)::cg es X.env) am) (n:autoParam ((cc pos<|cg es X.env).any (·.1)=false) am)
  (q:autoParam (eval (.Call (.Attribute (.Name x p) m apos) (e::es) [] pos) X.env=(do
   let ov <-eval (.Name x p) X.env
   standAt apos.atName
   let (f,first) <-holding [ov] (yp ov m pl)
   CV pos f first (cc pos<|cg (e::es) X.env) (AG pos<|Au [] X.env))) am) :
  PE X (.Call (.Attribute (.Name x p) m apos) (e::es) [] pos) (Pa sp dvs E t):=by
 intro p_ s σ H Q I h;refine W.methodCall_KW (pl:=pl) (tI I d hm ?_ j) q;refine W.method_cls I.cZ c.sp<|W.cls_value I.cZ c.rd c.fc xz ?_;have u:=I.tok<|s.toks+1;refine G_ (first:=[]) (h₀:=X.base) I.ok.mod.pk c.kp (Bx (ha pos p_ _ σ H _ u h) λus s2 vs y a r v=>⟨a.cZ,?_⟩) l n;exact Dh F b g hd i a r v
def ah2(P:l_)(w:k_)(K:u_)(mg:cw->Option f_)(fK:j_)(CX:qE)(k:Nat)(m:cw)(E:XK)(ta:TE):TE:=λσ H Q=>ta σ H λx b=>∃a C dx fs f fd ps sp,x=.ref a/\b a=a_ (.ins C dx fs)/\fs.lookup m=b_/\eO K C/\Meth K C m f/\
 aE P w K mg fK CX k f fd ps sp/\dt K fd ps []/\sp [.ref a] b Q E
def ae'{P:l_}{w:k_}{K:u_}{mg:cw->Option f_}{fK:j_}(g:PE X o ta)(i:eM k X.A)(j:Passes CX X E)(n:autoParam (X.prog=P) am)(hw:autoParam (X.w=w) am)(r:autoParam (X.K=K) am)(v:autoParam (X.mg=mg) am)(y:autoParam (X.base=fK) am)
  (z:autoParam (eval (.Call (.Attribute o m apos) [] [] pos) X.env=(do
   let ov <-eval o X.env
   standAt apos.atName
   let (f,first) <-holding [ov] (yp ov m pl)
   CV pos f first (cc pos<|cg [] X.env) (AG pos<|Au [] X.env))) am) :
  PE X (.Call (.Attribute o m apos) [] [] pos) (ah2 P w K mg fK CX k m E ta):=by
 subst n hw r v y;intro p_ s σ H Q I h;refine W.methodCall_KW (pl:=pl) (aT (g p_ s σ H _ I h) λu s1 B=>?_) z;refine gf B λx J d D b=>jw b λa C dx fs f b=>jx b λfd ps sp ex ea b=>rj b λl c hm F G q=>?_;subst ex;obtain rfl:u=bN a:=D;exact LZ d ea c hm l<|W.callWith_K0 (first:=[.ref a]) d.cZ hm.kp<|Dh (us:=[.ref a]) (vs:=[.ref a]) (dvs:=[]) (ds:=[]) F i G .nil j d (.cons xz .nil) q
end
def bq{c A B:Prop}[Decidable c](h1:c->A)(h2:¬c->B):if decide c=c_ then A else B:=by
 by_cases h:c
 .rw[eu h];exact iQ<|h1 h
 .rw[eT h];exact fq<|h2 h
def wU{c A B:Prop}[Decidable c](h1:¬c->A)(h2:c->B):if (!decide c)=c_ then A else B:=by
 by_cases h:c
 .rw[eu h];exact fq<|h2 h
 .rw[eT h];exact iQ<|h1 h
def Ee{A B:Prop}(h1:b=c_->A)(h2:b=d_->B):if b=c_ then A else B:=by
 cases b with
 | true=>exact iQ<|h1 xz
 | false=>exact fq<|h2 xz
def DV{A B:Prop}(h1:b=d_->A)(h2:b=c_->B):if (!b)=c_ then A else B:=by
 cases b with
 | true=>exact fq<|h2 xz
 | false=>exact iQ<|h1 xz
noncomputable def oD(sc a:i_)(b N:List cw)(idx:List Nat):Bool:=
 decide (sc.kind=.function)&&(sc.names.all (λy=>decide<|y.2≠.cell)&&(sc.names.all (λy=>decide (y.2≠.local)||decide (sc.names.lookup y.1=a_ .local))&&(sc.names.all (λy=>decide (y.2≠.free)||decide (a.names.lookup y.1=a_ .cell))&&(decide (idx.length<=N.length)&&(idx.zip N).all λp=>decide (b[p.1]?=a_ p.2)&&decide (sc.names.lookup p.2=a_ .free)))))
def dJ.of(h:oD sc X.env.scope X.N N idx=c_):dJ X sc N idx:=by
 unfold oD at h;simp only[fY,decide_eq_true_eq,kQ,Bool.or_eq_true]at h;refine rj h λh1 h2 h3 h4 h5 d=>⟨h1,h2,λy c e=>?_,λy c e=>?_,h5,λk i x a b=>?_⟩
 .obtain z|z:=h3 y c
  .exact eo e z
  .exact z
 .obtain z|z:=h4 y c
  .exact eo e z
  .exact z
 .have hm:(i,x)∈idx.zip N:=by
   have:(idx.zip N)[k]?=a_ (i,x):=by rw[abp];exact⟨a,b⟩
   exact cH this
  exact d (i,x) hm
end L2
namespace TL
open L2 L3
def kinds:List String:=["NoneType","bool","int","str","list",Z_]
def HK:List String:=["int","bool","str",Z_,"list"]
noncomputable def rK(T U:String):Bool:=T==U||(T=="bool"&&U=="int")
def aiR(K:u_)(T U:String):v_ K (.type T) (.type U) =(if (nX T==nX U)=c_ then a_ c_ else if W.kitMeta U=c_ then (fastBuiltinMro T).map (·.contains (.type U)) else b_):=rfl
def ahn:∀T∈kinds,∀U∈HK,(if (nX T==nX U)=c_ then a_ c_ else if W.kitMeta U=c_ then (fastBuiltinMro T).map (·.contains (.type U)) else b_)=a_ (rK T U):=dk
noncomputable def ec(H:Hp):V->Option String
 | .aH=>a_ "NoneType"
 | .bl _=>a_ "bool"
 | .int _=>a_ "int"
 | .str _=>a_ "str"
 | .ref a=>match H a with
  | some (.lst _)=>a_ "list"
  | some (.tup _)=>a_ "tuple"
  | _=>b_
 | _=>b_
def U'{K:u_}(h:ec H v=a_ T):i3 K H v (.type T)/\T∈kinds:=by
 cases v with
 | aH=>cases h;exact⟨.aH,qc⟩
 | bl b=>cases h;exact⟨.bl b,qc⟩
 | int i=>cases h;exact⟨.int i,qc⟩
 | str x=>cases h;exact⟨.str x,qc⟩
 | ref a=>
  unfold ec at h;cases e:H a with
  | none=>simp only[e]at h;cases h
  | some o=>
   cases o with
   | lst xs=>simp only[e]at h;cases h;exact⟨.lst e,qc⟩
   | tup xs=>simp only[e]at h;cases h;exact⟨.tup e,qc⟩
   | _=>simp only[e]at h;cases h
 | _=>cases h
def pe{K:u_}(h:ec H v=a_ T)(a:U∈HK):v_ K (.type T) (.type U)=a_ (rK T U):=by
 rw[aiR];exact ahn T (U' (K:=K) h).2 U a
def ph{K:u_}(h:ec H v=a_ T):i3 K H v (.type T):=(U' h).1
def sY(s:af H H')(h:ec H v=a_ T):ec H' v=a_ T:=by
 cases v with
 | ref a=>
  unfold ec at h ⊢;cases e:H a with
  | none=>simp only[e]at h;cases h
  | some o=>simp only[s a o e];simp only[e]at h;exact h
 | _=>exact h
noncomputable def vK:V->Bool
 | .int _=>c_
 | _=>d_
def YI(h:ec H v=a_ T):(rK T "int"&&!rK T "bool")=vK v:=by
 cases v with
 | aH=>cases h;rfl
 | bl b=>cases h;rfl
 | int i=>cases h;rfl
 | str x=>cases h;rfl
 | ref a=>
  unfold ec at h;cases e:H a with
  | none=>simp only[e]at h;cases h
  | some o=>
   cases o with
   | lst xs=>simp only[e]at h;cases h;rfl
   | tup xs=>simp only[e]at h;cases h;rfl
   | _=>simp only[e]at h;cases h
 | _=>cases h
def cF(w:cw):Option (List Int):=
 if w = S_ then a_ [4,dH] else if w = Q_ then a_ [4,4] else if w = U_ then a_ [12,4] else if w = L_ then a_ [4,12] else if w = I_ then a_ [4,12]
 else if w = N_ then a_ [] else if w = J_ then a_ [4,121] else b_
noncomputable def mI:V->Int->Bool
 | .int i,b=>decide (0<=i)&&decide (i<b)
 | _,_=>d_
def stepOk:List V->Bool
 | .str w::ps=>match cF w with
  | none=>d_
  | some bs=>decide (ps.length=bs.length)&&(ps.zip bs).all λp=>mI p.1 p.2
 | _=>d_
noncomputable def cA(H:Hp):V->Option (List V)
 | .ref a=>match H a with
  | some (.tup xs)=>a_ xs
  | _=>b_
 | _=>b_
def nz(H:Hp)(v:V):Bool:=match cA H v with
 | some xs=>stepOk xs
 | none=>d_
def Az(h:cA H v=a_ xs):∃a,v=.ref a/\H a=a_ (.tup xs):=by
 cases v with
 | ref a=>
  refine au a xz ?_;unfold cA at h;cases e:H a with
  | none=>simp only[e]at h;cases h
  | some o=>
   cases o with
   | tup ys=>simp only[e]at h;cases h;rfl
   | _=>simp only[e]at h;cases h
 | _=>cases h
def i0(h:H a=a_ (.tup xs)):cA H (.ref a)=a_ xs:=by
 unfold cA;simp only[h]
def va(h:H a=a_ (.tup xs)):ec H (.ref a)=a_ Z_:=by
 unfold ec;simp only[h]
def Dq(h:ec H v=a_ T):rK T Z_ = (cA H v).isSome:=by
 cases v with
 | aH=>cases h;rfl
 | bl b=>cases h;rfl
 | int i=>cases h;rfl
 | str x=>cases h;rfl
 | ref a=>
  unfold ec at h;unfold cA;cases e:H a with
  | none=>simp only[e]at h;cases h
  | some o=>
   cases o with
   | lst xs=>simp only[e]at h ⊢;cases h;rfl
   | tup xs=>simp only[e]at h ⊢;cases h;rfl
   | _=>simp only[e]at h;cases h
 | _=>cases h
def HL(h:ec H v=a_ T):rK T "str"=c_↔∃x,v=.str x:=by
 cases v with
 | str x=>cases h;exact⟨λ_=>⟨x,xz⟩,λ_=>rfl⟩
 | aH=>cases h;exact⟨λz=>(by cases z),λ⟨_,z⟩=>(by cases z)⟩
 | bl b=>cases h;exact⟨λz=>(by cases z),λ⟨_,z⟩=>(by cases z)⟩
 | int i=>cases h;exact⟨λz=>(by cases z),λ⟨_,z⟩=>(by cases z)⟩
 | ref a=>
  refine⟨λz=>?_,λ⟨_,z⟩=>by cases z⟩;unfold ec at h;cases e:H a with
  | none=>simp only[e]at h;cases h
  | some o=>
   cases o with
   | lst xs=>simp only[e]at h;cases h;cases z
   | tup xs=>simp only[e]at h;cases h;cases z
   | _=>simp only[e]at h;cases h
 | _=>cases h
def ax(s:af H H')(h:H' p=b_):af H (db H' p o):=λb u e=>by
 rw[ah<|aQ (s b u e) h];exact s b u e
end TL
namespace L4
open PySem.Builtin PySem.Builtin.Str
noncomputable def ame(n:Nat):List Nat:=(Nat.toDigits 10 n).map Char.toNat
def al8(n:Nat):cw:=⟨(ame n).toArray⟩
abbrev Tl:=cw×List Nat
inductive dq (sz:Nat):Tl->Prop
 | put (r m:Nat):r<4->m<10^60->dq sz ("put",[r,m])
 | add (r o:Nat):r<4->o<4->dq sz ("add",[r,o])
 | set (n r:Nat):n<12->r<4->dq sz ("set",[n,r])
 | look (r n:Nat):r<4->n<12->dq sz ("look",[r,n])
 | swap (r n:Nat):r<4->n<12->dq sz ("swap",[r,n])
 | clear:dq sz ("clear",[])
 | skip (r q:Nat):r<4->q<=sz->q<=120->dq sz ("skip",[r,q])
def dq.len{sz:Nat}(g:dq sz t):t.2.length<=2:=by cases g <;> simp
noncomputable def Hs:List cw:=["put","add","set","look","swap","clear","skip"]
def dq.word{sz:Nat}(g:dq sz t):t.1∈Hs:=by
 cases g <;> (unfold Hs;simp only[a9,true_or,or_true])
def HN(t:Tl):List cw:=t.1::t.2.map al8
def adL{sz:Nat}(g:dq sz t):(HN t).length<=3:=by
 unfold HN;rw[gE,aS];have:=g.len;lia
abbrev Pt:=List Tl
structure lB(ps:List Pt):Prop where
 ne:1<=ps.length
 le:ps.length<=4
 part:∀p∈ps,p.length<=120/\∀t∈p,dq p.length t
def dq.mono(g:dq a t)(h:a<=b):dq b t:=by
 cases g with
 | put r m h1 h2=>exact .put r m h1 h2
 | add r m h1 h2=>exact .add r m h1 h2
 | set r m h1 h2=>exact .set r m h1 h2
 | look r m h1 h2=>exact .look r m h1 h2
 | swap r m h1 h2=>exact .swap r m h1 h2
 | clear=>exact .clear
 | skip r q h1 h2 h3=>exact .skip r q h1 (cQ h2 h) h3
end L4
namespace L2
open TL
def sl(h:autoParam (n<=1000) ap):n<=aX:=by rw[ij];exact cQ h qc
end L2
set_option autoImplicit true
namespace L2
abbrev IV:=Nat->St->Hp->Prop
def pR(R:TS)(h:dM X l R):dM X l R:=h
end L2
namespace L2
structure Dp(P:l_)(w:k_)(K:u_)(mg:cw->Option f_)(base:j_)(k:Nat)(x:cw)(ps:List cw)(sp:Sp) where
 {f:e_}
 {fd:ir}
 G:aE P w K mg base aL k f fd ps sp
 k:x_ K (.ref f)=c_
 b:dt K fd ps []
 m:mg x=a_ (.ref f)
structure Mt(P:l_)(w:k_)(K:u_)(mg:cw->Option f_)(base:j_)(C:e_)(k:Nat)(x:cw)(ps:List cw)(sp:Sp) where
 {f:e_}
 {fd:ir}
 G:aE P w K mg base aL k f fd ps sp
 b:dt K fd ps []
 m:Meth K C x f
section
variable{X:Cx}{C:e_}{k:Nat}{ps:List cw}{sp:Sp}{x m:cw}{p pos apos:Pos}{e o:bT}{es:List bT}{ta:TE}{t:TA}
def dP(D:Dp X.prog X.w X.K X.mg X.base k x ps sp)(a:eM k X.A)(c:Gl X x)(ha:PA X (e::es) t)(d:autoParam ((x==("__debug__":cw))=false) ap)(f:autoParam (cg (e::es) X.env=(d_,eval e X.env)::cg es X.env) am)(g:autoParam ((cc pos<|cg es X.env).any (·.1)=false) am):
  PE X (.Call (.Name x p) (e::es) [] pos) (Pa sp [] E0 t):=oa D.G a c D.m D.k D.b .nil cX ha d f g
def ji(a:PE X o ta)(c:eO X.K C)(D:Mt X.prog X.w X.K X.mg X.base C k m ps sp)(d:eM k X.A)(ha:PA X (e::es) t)
  (g:autoParam (cg (e::es) X.env=(d_,eval e X.env)::cg es X.env) am) (h:autoParam ((cc pos<|cg es X.env).any (·.1)=false) am)
  (i:autoParam (eval (.Call (.Attribute o m apos) (e::es) [] pos) X.env=(do
   let ov <-eval o X.env
   standAt apos.atName
   let (f,first) <-holding [ov] (yp ov m pl)
   CV pos f first (cc pos<|cg (e::es) X.env) (AG pos<|Au [] X.env))) am) :
  PE X (.Call (.Attribute o m apos) (e::es) [] pos) (DD C m sp [] E0 ta t):=He a c D.m D.G d D.b .nil cX ha g h i
def oh(a:PE X o ta)(c:eO X.K C)(D:Mt X.prog X.w X.K X.mg X.base C k m ps sp)(d:eM k X.A)
  (g:autoParam (eval (.Call (.Attribute o m apos) [] [] pos) X.env=(do
   let ov <-eval o X.env
   standAt apos.atName
   let (f,first) <-holding [ov] (yp ov m pl)
   CV pos f first (cc pos<|cg [] X.env) (AG pos<|Au [] X.env))) am) :
  PE X (.Call (.Attribute o m apos) [] [] pos) (DD C m sp [] E0 ta oZ):=Gu a c D.m D.G d D.b .nil cX g
end
end L2
namespace TL
open L2 L3
structure Bl(mg:cw->Option f_):Prop where
 km:mg "isinstance"=b_
 int:mg "int"=b_
 bool:mg "bool"=b_
 str:mg "str"=b_
 tuple:mg Z_ = b_
 len:mg "len"=b_
 all:mg "all"=b_
 zip:mg "zip"=b_
structure Cn(mg:cw->Option f_):Prop where
 top:∃u,mg "TOP"=a_ u/\df (.int dH) u
 names:∃u,mg "NAMES"=a_ u/\df (.int 12) u
 eL:∃u,mg "REGISTERS"=a_ u/\df (.int 4) u
 long:∃u,mg "LONGEST"=a_ u/\df (.int 120) u
section
variable{P:l_}{w:k_}{K:u_}{mg:cw->Option f_}{fK:j_}
def Nl:Sp:=λvs H Q _=>∃v T,vs=[v]/\ec H v=a_ T/\Q (.bl<|vK v) H
def ago:bc [aq6] [aq6] (aR Df):=bx
def Wl(F:aW K Y_ Y_ Df f fd)(B:Bl mg):aE P w K mg fK aL 1 f fd [aq6] Nl:=by
 refine F.ok ago λaI A _ s H vs Q E c h=>?_
 .refine gf h λv T b a k=>?_;clear h;subst b;refine⟨_,aB<|aU<|HD (b9 kY xz B.km jI<|aa (pv 0)<|aa (qZ (v:=.ty "int") xz B.int boot_int xz) ag)<|Dj<|Oj<|b9 kY xz B.km jI<|aa (pv 0)<|aa (qZ (v:=.ty "bool") xz B.bool boot_bool xz) ag,?_⟩;have e:=YI a;refine au v xz<|dF _ _ _ _<|i9 _ xz (ph a) xz (pe a qc)<|au _ xz (Ee (λh1=>?_) λh1=>?_)
  .refine au v xz (dF _ _ _ _<|i9 _ xz (ph a) xz (pe a qc)<|au _ xz ?_);rw[h1,qb]at e;rw[e];exact k
  .rw[h1,qS]at e;rw[e];exact k
def V9:Sp:=λvs H Q _=>∃x,vs=[.str x]/\(cF x=b_->Q .aH H)/\∀bs,cF x=a_ bs->∀p,H p=b_->Q (.ref p) (db H p<|.lst<|bs.map V.int)
def ae0:bc ["word"] ["word"] (aR C2):=bx
def str_inj(h:V.str x=V.str y):x=y:=by injection h
def ad8(F:aW K aq4 aq4 C2 f fd)(C:Cn mg):aE P w K mg fK aL 1 f fd ["word"] V9:=by
 refine F.ok ae0 λaI A _ s H vs Q E D h=>?_
 .refine aZ h λx n k0 k1=>?_;clear h;subst n;refine aJ C.top λG o rT=>aJ C.names λI m rN=>aJ C.eL λJ k l=>aJ C.long λL q rL=>?_;refine let a:TS:=_;let b:TS:=_;let c:TS:=_;let d:TS:=_;let g:TS:=_;⟨_,aw (br (bR dm (pv 0) a7<|bG _) (aB<|aU<|dh<|aa (gG xz k l)<|aa (gG xz o rT) ag) bQ)<|pR g<|aw (br (bR dm (pv 0) a7<|bG _) (aB<|aU<|dh<|aa (gG xz k l)<|aa (gG xz k l) ag) bQ)<|pR d<|aw (br (bR dm (pv 0) a7<|bG _) (aB<|aU<|dh<|aa (gG xz m rN)<|aa (gG xz k l) ag) bQ)<|pR c<|aw (br (PW.pt<|pw_or (bR dm (pv 0) a7<|bG _)<|pw_or1<|bR dm (pv 0) a7<|bG _) (aB<|aU<|dh<|aa (gG xz k l)<|aa (gG xz m rN) ag) bQ)<|pR b<|aw (br (bR dm (pv 0) a7<|bG _) (aB<|aU<|dh ag) bQ)<|pR a<|aw (br (bR dm (pv 0) a7<|bG _) (aB<|aU<|dh<|aa (gG xz k l)<|aa (aG fQ (gG xz q rL) ao) ag) bQ)<|aB<|aU qi,?_⟩;refine vr xz ⟨xz,⟨_,xz,bq (λe=>?_) λn1=>?_⟩⟩
  .cases str_inj e;exact⟨qc,λp i=>k1 [4,dH] (by unfold cF;rw[ek rfl]) p i⟩
  refine au _ xz ⟨xz,⟨_,xz,bq (λe=>?_) λr=>?_⟩⟩
  .cases str_inj e;exact⟨qc,λp i=>k1 [4,4] (by unfold cF;rw[ei dk,ek rfl]) p i⟩
  refine au _ xz ⟨xz,⟨_,xz,bq (λe=>?_) λt=>?_⟩⟩
  .cases str_inj e;exact⟨qc,λp i=>k1 [12,4] (by unfold cF;rw[ei dk,ei dk,ek rfl]) p i⟩
  refine au _ xz ⟨xz,⟨_,xz,bq (λe=>?_) λu=>?_⟩⟩
  .cases str_inj e;exact iQ ⟨qc,λp i=>k1 [4,12] (by unfold cF;rw[ei dk,ei dk,ei dk,ek rfl]) p i⟩
  refine vr xz ⟨xz,⟨_,xz,bq (λe=>?_) λv=>?_⟩⟩
  .cases str_inj e;exact⟨qc,λp i=>k1 [4,12] (by unfold cF;rw[ei dk,ei dk,ei dk,ei dk,ek rfl]) p i⟩
  refine au _ xz ⟨xz,⟨_,xz,bq (λe=>?_) λz=>?_⟩⟩
  .cases str_inj e;exact⟨qc,λp i=>k1 [] (by unfold cF;rw[ei dk,ei dk,ei dk,ei dk,ei dk,ek rfl]) p i⟩
  refine au _ xz ⟨xz,⟨_,xz,bq (λe=>?_) λB=>?_⟩⟩
  .cases str_inj e;exact⟨_,⟨_,xz,xz,qc,λp i=>k1 [4,121] (by unfold cF;rw[ei dk,ei dk,ei dk,ei dk,ei dk,ei dk,ek rfl]) p i⟩⟩
  refine k0 ?_;have j:∀{y:cw},¬V.str x=V.str y->¬x=y:=λh e=>h (by rw[e]);unfold cF;rw[ei<|j n1,ei<|j r,ei<|j t,ei<|j u,ei<|j v,ei<|j z,ei<|j B]
def MG:Sp:=λvs H Q _=>∃v T,vs=[v]/\ec H v=a_ T/\(∀xs,cA H v=a_ xs->xs.length<=1000/\∀x∈xs,∃T,ec H x=a_ T)/\∀H',af H H'->Q (.bl<|nz H v) H'
def Wb:bc [ap6,"bounds"] [ap6] (aR Hc):=bx
def Qf(y:V)(ps:List V):HT.bZ (y::ps).length 0 (a_ 1)=1:=by
 simp only[HT.bZ,gE]
 first | omega | (simp;done) | (split <;> omega)
def mL(y:V)(ps:List V):nE (y::ps) (a_ 1) b_=ps:=by
 unfold nE;rw[Qf];show List.take (HT.bZ (y::ps).length (y::ps).length b_-1) ps=ps;exact jd (by simp[HT.bZ])
def U2{bs:List Int}(h:cF x=a_ bs):bs.length<=2:=by
 unfold cF at h
 repeat (first | (split at h;(cases h;decide)) | (cases h;done))
def Zv:([ap7,"bound"]:List cw).Nodup:=dk
def Vn(F:aW K "is_step" "is_step" Hc f fd)(B:Bl mg)(C:Cn mg)(S:aW K Y_ Y_ Df fW rX)(bW:dt K rX [aq6] [])(mW:mg Y_ = a_ (.ref fW))(U:aW K aq4 aq4 C2 fB BE)(bB:dt K BE ["word"] [])(mB:mg aq4 = a_ (.ref fB)):aE P w K mg fK aL 2 f fd [ap6] MG:=by
 have GW:aE P w K mg fK aL 1 fW rX [aq6] Nl:=Wl S B;have GB:aE P w K mg fK aL 1 fB BE ["word"] V9:=ad8 U C;refine F.ok Wb λaI A _ s H vs Q E W h=>?_
 .obtain⟨v,T,ae,o,hx,k⟩:=h;subst ae
  refine let b:TS:=_;let d:TS:=_;let g:TS:=_;⟨_,aw (br (PW.pt<|pw_or (og<|gZ<|b9 kY xz B.km jI<|aa (pv 0)<|aa (qZ (v:=.ty Z_) xz B.tuple i8 xz) ag)<|pw_or (bR dm (b9 gm xz B.len q_<|aa (pv 0) ag) ao<|bG _)<|pw_or1<|og<|gZ<|b9 kY xz B.km jI<|aa (aV dO (pv 0) ao)<|aa (qZ (v:=.ty "str") xz B.str boot_str xz) ag) (aB<|aU lj) bQ) (pR g (aw (bf (i:=1) Wb.nd xz (aP xz)<|oa GB W xz mB U.kp bB .nil cX<|aa (aV dO (pv 0) ao) ag) (pR d (aw (br (PW.pt<|pw_or (bR Yu (pv 1) qi<|bG _)<|pw_or1<|bR akj (b9 gm xz B.len q_<|aa (pv 0) ag) (aG fQ (b9 gm xz B.len q_<|aa (pv 1) ag) ao)<|bG _) (aB<|aU lj) bQ) (pR b (aB (aU (b9 (CS xz) xz B.all GR (aa (iu (N:=[ap7,"bound"]) (idx:=[]) xz (dJ.of<|by kernel_rfl) (FU (bJ _)<|bJ _)
    (aim (b1:=d_) (b2:=c_) xz B.zip<|aa (CO Hw (pv 0) (C3 ao) C4)<|aa (pv 1) ag)
    (λ_ _ _ _=>wL xz<|mq (cW (i:=0) Zv xz (aP xz)<|.inr xz)<|mq (cW (i:=1) Zv xz (aP xz)<|.inr xz) wG)
    (λ_ _ _ _=>gY)
    λ_ _ _ _=>HD (oa GW W xz mW S.kp bW .nil cX<|aa (pv 0) ag)<|Dj<|afc HW wN ao (pv 0)<|pv 1) ag))))))))),?_⟩
  cases hv:cA H v with
  | none=>
   have hi:rK T Z_ = false:=by rw[Dq o,hv];rfl
   have cO:nz H v=false:=by unfold nz;rw[hv]
   have l:=k H<|af.refl H;rw[cO]at l;refine au v xz<|dF _ _ _ _<|i9 _ xz (ph o) xz (pe o qc)<|au _ xz ?_;rw[hi];exact iQ<|iQ l
  | some xs=>
   refine aJ (Az hv) λa I ha=>?_;subst I;refine oA (hx xs hv) λhl X=>?_;have hi:rK T Z_ = true:=by rw[Dq o,hv];rfl
   have l:∀H',af H H'->Q (.bl<|stepOk xs) H':=λH' s=>by
    have q:=k H' s;unfold nz at q;rw[hv]at q;exact q
   refine vr xz<|dF _ _ _ _<|i9 _ xz (ph o) xz (pe o qc)<|au _ xz ?_;rw[hi];refine fq ?_;cases xs with
   | nil=>
    refine vr xz<|dG a ([]) xz (.inr<|az.of ha) ⟨xz,⟨_,xz,bq (λe=>?_) λY=>eo xz Y⟩⟩;exact iQ<|l H<|af.refl H
   | cons y ps=>
    refine vr xz<|dG a (y::ps) xz (.inr<|az.of ha) ⟨xz,⟨_,xz,bq (λe=>?_) λY=>?_⟩⟩
    .injection e with e
     exact eo e (by simp only[gE];omega)
    refine oE (X y cb) λTy G=>lF (v:=y) (j:=0) xz ha xz<|dF _ _ _ _<|i9 _ xz (ph G) xz (pe G qc)<|au _ xz (DV (λh1=>?_) λh1=>?_)
    .have e:stepOk (y::ps)=false:=by
      cases y with
      | str x=>exact eo ((HL G).mpr ⟨x,xz⟩) (by rw[h1];exact dS)
      | _=>rfl
     have q:=l H<|af.refl H;rw[e]at q;exact q
    refine oE ((HL G).mp h1) λt I=>?_;subst I;refine lF (v:=.str t) (j:=0) xz ha xz (dD t xz (λu=>?_) λbs u p hp=>?_)
    .refine au _ xz ⟨xz,⟨_,xz,bq (λ_=>?_) λn=>eo xz n⟩⟩
     have e:stepOk (.str t::ps)=false:=by
      show (match cF t with | none=>d_ | some bs=>decide (ps.length=bs.length)&&(ps.zip bs).all λp=>mI p.1 p.2)=d_;rw[u]
     have q:=l H<|af.refl H;rw[e]at q;exact iQ q
    have s1:af H (db H p<|.lst<|bs.map V.int):=ax (af.refl H) hp;have Z:=s1 _ _ ha
    have eS:stepOk (.str t::ps)=(decide (ps.length=bs.length)&&(ps.zip bs).all λp=>mI p.1 p.2):=by
     show (match cF t with | none=>d_ | some bs=>decide (ps.length=bs.length)&&(ps.zip bs).all λp=>mI p.1 p.2)=_;rw[u]
    rw[eS]at l;refine au _ xz ⟨xz,⟨_,xz,bq (λz=>by cases z) λ_=>vr xz ⟨a,⟨_,xz,.inr<|az.of Z,_,xz,p,_,xz,.inl<|aq.of ai,_,_,xz,xz,xz,_,xz,wU (λne=>?_) λJ=>?_⟩⟩⟩⟩
    .have e:decide (ps.length=bs.length)=false:=eT λz=>ne (by rw[gE,aS,z];rfl);rw[e,qS]at l;exact l _ s1
    have hlen:ps.length=bs.length:=by
     injection J with J
     rw[gE,aS]at J;omega
    rw[eu hlen,qb]at l;refine au _ xz<|au 1 xz ⟨a,⟨_,xz,az.of Z,?_,λq hq=>?_⟩⟩
    .intro z;have z1:=z.1;rw[Qf]at z1;cases z1
    rw[mL];have s2:af H (db (db H p<|.lst<|bs.map V.int) q<|.tup ps):=ax s1 hq;have xw:=aQ ai hq;have D:db (db H p<|.lst<|bs.map V.int) q (.tup ps) p=a_ (.lst<|bs.map V.int):=by rw[ah xw];exact ai
    refine vr xz<|⟨q,p,ps,(bs.map V.int),xz,(az.of ai),(aq.of D),?_⟩;generalize hH3:db (db H p<|.lst<|bs.map V.int) q (.tup ps)=H3 at s2 D;have L:H3 q=a_ (.tup ps):=by rw[<-hH3];exact ai
    refine iH (n:=bs.length) (λi ys H'=>i<=bs.length/\af H3 H'/\ys=((ps.zip bs).take i).map λz=>V.bl<|mI z.1 z.2) ?_ ?_ ?_ ?_ ?_ ?_ ?_
    .have jF:=U2 u;exact cI<|cU w4
    .exact gQ (bJ _) (af.refl _) xz
    .rintro i ys H' ⟨_,_,e⟩;rw[e,aS,gX];exact xl
    .rintro i ys H' hi ⟨_,m,_⟩;exact⟨ps,(bs.map V.int),(ps[i]'wg),(V.int bs[i]),(az.of<|m _ _ L),(aq.of<|m _ _ D),(by simp[hlen,hi]),(by simp[hi])⟩
    .rintro ys H' ⟨_,m,_⟩;exact dG ps (bs.map V.int) (az.of<|m _ _ L) (aq.of<|m _ _ D)<|.inr (by rw[aS];exact aD _)
    .rintro i ys H' hi ⟨_,m,e⟩ v gD ⟨r,x,y,M,ev,eH,hxy⟩;refine oA (hxy ps (bs.map V.int) (az.of<|m _ _ L)<|aq.of<|m _ _ D) λeZ vU=>?_;subst ev;subst eH
     have uM:y=V.int bs[i]:=by
      rw[eX,a8 hi]at vU;exact(eG vU).fF
     subst uM;have s4:af H3 (db H' r<|.tup [x,V.int bs[i]]):=ax m M;refine oE (X x<|cu _<|cH eZ) λTx zU=>?_;have QH:=sY (s2.fC s4) zU
     have zi:(ps.zip bs)[i]?=a_ (x,bs[i]):=by
      rw[abp];exact⟨eZ,a8 hi⟩
     have O:∀c,c=mI x bs[i]->i+1<=bs.length/\af H3 (db H' r<|.tup [x,V.int bs[i]])/\ys++[V.bl c]=((ps.zip bs).take<|i+1).map λz=>V.bl (mI z.1 z.2):=λc hc=>by
      refine gQ hi s4 ?_;rw[kN,zi,fg,<-e,hc];rfl
     refine rm r ([x,V.int bs[i]]) xz (az.of ai) xz<|gw x ([V.int bs[i]]) xz<|dG (V.int bs[i]) ([]) xz xz ?_;dsimp only[jz];rw[ek rfl];refine vr xz<|dG x Tx xz QH<|au _ xz ?_;cases x with
     | int j=>
      exact iQ<|au _ xz<|gw 0 j xz ⟨xz,⟨_,xz,bq (λR=>vr xz<|dG j (bs[i]) xz xz<|O _<|by show _=(decide (0<=j)&&decide (j<bs[i]));rw[eu R,qb]) λR=>O _<|by show _=(decide (0<=j)&&decide (j<bs[i]));rw[eT R,qS]⟩⟩
     | _=>exact fq<|O _ xz
    .rintro ys H' ⟨_,m,e⟩;refine⟨?_,λr M=>?_⟩
     .rw[e,aS,gX];have jF:=U2 u;have:=cU (n:=bs.length) w4;omega
     have ey:ys=(((ps.zip bs).map λz=>mI z.1 z.2)).map V.bl:=by
      rw[e,jd (by rw[List.length_zip];omega),qU];rfl
     refine dG r ((ps.zip bs).map λz=>mI z.1 z.2) xz (aq.of<|by rw[ai,ey]) ?_;rw[yh];exact l _<|ax (s2.fC m) M
def vm(K:u_):Sp:=λvs H Q _=>∃x C dx fs a xs,vs=[.ref x,.ref a]/\H x=a_ (.ins C dx fs)/\eO K C/\bp K C K_/\fs.length<900/\H a=a_ (.tup xs)/\Q .aH (db H x<|.ins C dx<|aN K_ (.ref a) fs)
def ah9:bc g8 g8 (aR HU):=bx
def wI(F:aW K M_ "Step.__init__" HU f fd)(B:mg Z_ = b_):aE P w K mg fK aL 1 f fd [V_,ap6] (vm K):=by
 refine F.ok ah9 λaI A _ s H vs Q E g h=>?_
 .refine qV h λx C dx fs a xs b c cl d e=>?_;subst b;exact jm e λi ha k=>rQ (aB<|dU (pv 0) (gu kR xz B i8<|aa (pv 1) ag) xz)<|vr xz<|gw a xs xz<|.inr ⟨az.of ha,_,xz,x,C,dx,fs,xz,c,cl,d,wa,k⟩
def Bc(f:cw)(u:V):(aN f u []).length<1000:=by
 have h1:=qW f u [];have h3:([]:List (cw×V)).length=0:=rfl;exact wb
def Bb(f g:cw)(u v:V):(aN f u<|aN g v []).length<1000:=by
 have h1:=qW f u<|aN g v [];have h2:=qW g v [];have h3:([]:List (cw×V)).length=0:=rfl;exact xi
structure yE(K:u_)(mg:cw->Option f_)(cS fI:e_)(gR:ir):Prop where
 fn:aW K M_ "Step.__init__" HU fI gR
 bi:dt K gR g8 []
 cf:PN K cS M_ fI
 at_:mg "Step"=a_ (.ref cS)
 tup:mg Z_ = b_
def lG(C:e_)(d e:cw):Sp:=λvs H Q _=>∃x dx a xs b c,vs=[.ref x,.ref a]/\H x=a_ (.ins C dx [])/\H a=a_ (.tup xs)/\xs[1]?=a_ b/\xs[2]?=a_ c/\
 Q .aH (db H x<|.ins C dx<|aN e c<|aN d b<|aN K_ (.ref a) [])
def ah8:bc g8 g8 (aR HS):=bx
def Xk{f fI cS C:e_}(F:aW K M_ "Put.__init__" HS f fd)(I:yE K mg cS fI gR)(cl:eO K C)(e:bp K C K_)(n1:bp K C O_)(g:bp K C "number"):aE P w K mg fK aL 2 f fd g8 (lG C O_ "number"):=by
 have GI:aE P w K mg fK aL 1 fI gR g8 (vm K):=wI I.fn I.tup;refine F.ok ah8 λaI A _ s H vs Q E i h=>?_
 .refine qV h λx dx a xs l m n d ha o p=>?_;subst n;refine oA p λq k=>?_;refine let b:TS:=_;⟨_,aw (dY<|Aw I.cf GI i xz I.at_ I.bi .nil cX<|aa (pv 0)<|aa (pv 1) ag)<|pR b<|aw (dU (pv 0) (aV dO (pv 1) ao) xz)<|aB<|dU (pv 0) (aV dO (pv 1) ao) xz,?_⟩;have c:=hV ha d (by intro z;cases z);refine vr xz<|vr xz ⟨x,⟨C,dx,[],a,xs,xz,d,cl,e,qc,ha,vT (v:=l) xz (az.of<|by rw[ah c];exact ha) (eI (j:=1) o) ⟨_,xz,x,C,dx,_,xz,ai,cl,n1,Bc _ _,vT (v:=m) xz (az.of<|by rw[ah c,ah c];exact ha) (eI (j:=2) q) ⟨_,xz,x,C,dx,_,xz,ai,cl,g,Bb _ _ _ _,?_⟩⟩⟩⟩;rw[nZ,nZ];exact k
def aib:bc g8 g8 (aR HV):=bx
def Xl{f fI cS C:e_}(F:aW K M_ "Add.__init__" HV f fd)(I:yE K mg cS fI gR)(cl:eO K C)(e:bp K C K_)(n1:bp K C O_)(g:bp K C aq7):aE P w K mg fK aL 2 f fd g8 (lG C O_ aq7):=by
 have GI:aE P w K mg fK aL 1 fI gR g8 (vm K):=wI I.fn I.tup;refine F.ok aib λaI A _ s H vs Q E i h=>?_
 .refine qV h λx dx a xs l m n d ha o p=>?_;subst n;refine oA p λq k=>?_;refine let b:TS:=_;⟨_,aw (dY<|Aw I.cf GI i xz I.at_ I.bi .nil cX<|aa (pv 0)<|aa (pv 1) ag)<|pR b<|aw (dU (pv 0) (aV dO (pv 1) ao) xz)<|aB<|dU (pv 0) (aV dO (pv 1) ao) xz,?_⟩;have c:=hV ha d (by intro z;cases z);refine vr xz<|vr xz ⟨x,⟨C,dx,[],a,xs,xz,d,cl,e,qc,ha,vT (v:=l) xz (az.of<|by rw[ah c];exact ha) (eI (j:=1) o) ⟨_,xz,x,C,dx,_,xz,ai,cl,n1,Bc _ _,vT (v:=m) xz (az.of<|by rw[ah c,ah c];exact ha) (eI (j:=2) q) ⟨_,xz,x,C,dx,_,xz,ai,cl,g,Bb _ _ _ _,?_⟩⟩⟩⟩;rw[nZ,nZ];exact k
def ah7:bc g8 g8 (aR HR):=bx
def Xj{f fI cS C:e_}(F:aW K M_ "Set.__init__" HR f fd)(I:yE K mg cS fI gR)(cl:eO K C)(e:bp K C K_)(n1:bp K C H_)(g:bp K C O_):aE P w K mg fK aL 2 f fd g8 (lG C H_ O_):=by
 have GI:aE P w K mg fK aL 1 fI gR g8 (vm K):=wI I.fn I.tup;refine F.ok ah7 λaI A _ s H vs Q E i h=>?_
 .refine qV h λx dx a xs l m n d ha o p=>?_;subst n;refine oA p λq k=>?_;refine let b:TS:=_;⟨_,aw (dY<|Aw I.cf GI i xz I.at_ I.bi .nil cX<|aa (pv 0)<|aa (pv 1) ag)<|pR b<|aw (dU (pv 0) (aV dO (pv 1) ao) xz)<|aB<|dU (pv 0) (aV dO (pv 1) ao) xz,?_⟩;have c:=hV ha d (by intro z;cases z);refine vr xz<|vr xz ⟨x,⟨C,dx,[],a,xs,xz,d,cl,e,qc,ha,vT (v:=l) xz (az.of<|by rw[ah c];exact ha) (eI (j:=1) o) ⟨_,xz,x,C,dx,_,xz,ai,cl,n1,Bc _ _,vT (v:=m) xz (az.of<|by rw[ah c,ah c];exact ha) (eI (j:=2) q) ⟨_,xz,x,C,dx,_,xz,ai,cl,g,Bb _ _ _ _,?_⟩⟩⟩⟩;rw[nZ,nZ];exact k
def agt:bc g8 g8 (aR Hz):=bx
def Wo{f fI cS C:e_}(F:aW K M_ "Look.__init__" Hz f fd)(I:yE K mg cS fI gR)(cl:eO K C)(e:bp K C K_)(n1:bp K C O_)(g:bp K C H_):aE P w K mg fK aL 2 f fd g8 (lG C O_ H_):=by
 have GI:aE P w K mg fK aL 1 fI gR g8 (vm K):=wI I.fn I.tup;refine F.ok agt λaI A _ s H vs Q E i h=>?_
 .refine qV h λx dx a xs l m n d ha o p=>?_;subst n;refine oA p λq k=>?_;refine let b:TS:=_;⟨_,aw (dY<|Aw I.cf GI i xz I.at_ I.bi .nil cX<|aa (pv 0)<|aa (pv 1) ag)<|pR b<|aw (dU (pv 0) (aV dO (pv 1) ao) xz)<|aB<|dU (pv 0) (aV dO (pv 1) ao) xz,?_⟩;have c:=hV ha d (by intro z;cases z);refine vr xz<|vr xz ⟨x,⟨C,dx,[],a,xs,xz,d,cl,e,qc,ha,vT (v:=l) xz (az.of<|by rw[ah c];exact ha) (eI (j:=1) o) ⟨_,xz,x,C,dx,_,xz,ai,cl,n1,Bc _ _,vT (v:=m) xz (az.of<|by rw[ah c,ah c];exact ha) (eI (j:=2) q) ⟨_,xz,x,C,dx,_,xz,ai,cl,g,Bb _ _ _ _,?_⟩⟩⟩⟩;rw[nZ,nZ];exact k
def agr:bc g8 g8 (aR Hx):=bx
def Wm{f fI cS C:e_}(F:aW K M_ "Swap.__init__" Hx f fd)(I:yE K mg cS fI gR)(cl:eO K C)(e:bp K C K_)(n1:bp K C O_)(g:bp K C H_):aE P w K mg fK aL 2 f fd g8 (lG C O_ H_):=by
 have GI:aE P w K mg fK aL 1 fI gR g8 (vm K):=wI I.fn I.tup;refine F.ok agr λaI A _ s H vs Q E i h=>?_
 .refine qV h λx dx a xs l m n d ha o p=>?_;subst n;refine oA p λq k=>?_;refine let b:TS:=_;⟨_,aw (dY<|Aw I.cf GI i xz I.at_ I.bi .nil cX<|aa (pv 0)<|aa (pv 1) ag)<|pR b<|aw (dU (pv 0) (aV dO (pv 1) ao) xz)<|aB<|dU (pv 0) (aV dO (pv 1) ao) xz,?_⟩;have c:=hV ha d (by intro z;cases z);refine vr xz<|vr xz ⟨x,⟨C,dx,[],a,xs,xz,d,cl,e,qc,ha,vT (v:=l) xz (az.of<|by rw[ah c];exact ha) (eI (j:=1) o) ⟨_,xz,x,C,dx,_,xz,ai,cl,n1,Bc _ _,vT (v:=m) xz (az.of<|by rw[ah c,ah c];exact ha) (eI (j:=2) q) ⟨_,xz,x,C,dx,_,xz,ai,cl,g,Bb _ _ _ _,?_⟩⟩⟩⟩;rw[nZ,nZ];exact k
def ags:bc g8 g8 (aR Hy):=bx
def Wn{f fI cS C:e_}(F:aW K M_ "Skip.__init__" Hy f fd)(I:yE K mg cS fI gR)(cl:eO K C)(e:bp K C K_)(n1:bp K C O_)(g:bp K C ac2):aE P w K mg fK aL 2 f fd g8 (lG C O_ ac2):=by
 have GI:aE P w K mg fK aL 1 fI gR g8 (vm K):=wI I.fn I.tup;refine F.ok ags λaI A _ s H vs Q E i h=>?_
 .refine qV h λx dx a xs l m n d ha o p=>?_;subst n;refine oA p λq k=>?_;refine let b:TS:=_;⟨_,aw (dY<|Aw I.cf GI i xz I.at_ I.bi .nil cX<|aa (pv 0)<|aa (pv 1) ag)<|pR b<|aw (dU (pv 0) (aV dO (pv 1) ao) xz)<|aB<|dU (pv 0) (aV dO (pv 1) ao) xz,?_⟩;have c:=hV ha d (by intro z;cases z);refine vr xz<|vr xz ⟨x,⟨C,dx,[],a,xs,xz,d,cl,e,qc,ha,vT (v:=l) xz (az.of<|by rw[ah c];exact ha) (eI (j:=1) o) ⟨_,xz,x,C,dx,_,xz,ai,cl,n1,Bc _ _,vT (v:=m) xz (az.of<|by rw[ah c,ah c];exact ha) (eI (j:=2) q) ⟨_,xz,x,C,dx,_,xz,ai,cl,g,Bb _ _ _ _,?_⟩⟩⟩⟩;rw[nZ,nZ];exact k
structure bj where
 (fW fB fS fO fI IB IC IA Ig Ic Ie akP lV lW kh lz lu rA gJ:e_)
 (rX BE xB yZ gR DZ D0 DX Dx Dv Dw:ir)
structure qk(K:u_)(mg:cw->Option f_)(t:bj):Prop where
 bl:Bl mg
 cn:Cn mg
 Jk:aW K Y_ Y_ Df t.fW t.rX
 bW:dt K t.rX [aq6] []
 mW:mg Y_ = a_ (.ref t.fW)
 fnB:aW K aq4 aq4 C2 t.fB t.BE
 bB:dt K t.BE ["word"] []
 mB:mg aq4 = a_ (.ref t.fB)
 Jl:aW K "is_step" "is_step" Hc t.fS t.xB
 bS:dt K t.xB [ap6] []
 mS:mg "is_step"=a_ (.ref t.fS)
 Jm:aW K "step_of" "step_of" Nw t.fO t.yZ
 bO:dt K t.yZ [ap6] []
 mO:mg "step_of"=a_ (.ref t.fO)
 init:yE K mg t.akP t.fI t.gR
 yt:eO K t.rA
 Xm:bp K t.rA K_
 Xn:Mk K t.rA t.fI
 Xo:mg "Clear"=a_ (.ref t.rA)
 vA:eO K t.lV
 ZA:bp K t.lV K_
 Pr:bp K t.lV O_
 Pp:bp K t.lV "number"
 ZD:Mk K t.lV t.IB
 Pw:mg "Put"=a_ (.ref t.lV)
 ZL:aW K M_ "Put.__init__" HS t.IB t.DZ
 ZT:dt K t.DZ g8 []
 tZ:eO K t.lW
 ZC:bp K t.lW K_
 HZ:bp K t.lW O_
 Pq:bp K t.lW aq7
 mkAdd:Mk K t.lW t.IC
 Px:mg "Add"=a_ (.ref t.lW)
 ZM:aW K M_ "Add.__init__" HV t.IC t.D0
 ZU:dt K t.D0 g8 []
 rF:eO K t.kh
 Zz:bp K t.kh K_
 DI:bp K t.kh H_
 Po:bp K t.kh O_
 mkSet:Mk K t.kh t.IA
 Pu:mg "Set"=a_ (.ref t.kh)
 ZK:aW K M_ "Set.__init__" HR t.IA t.DX
 ZS:dt K t.DX g8 []
 rq:eO K t.lz
 Yz:bp K t.lz K_
 Ou:bp K t.lz O_
 Ds:bp K t.lz H_
 YD:Mk K t.lz t.Ig
 Ow:mg "Look"=a_ (.ref t.lz)
 YQ:aW K M_ "Look.__init__" Hz t.Ig t.Dx
 Y6:dt K t.Dx g8 []
 qj:eO K t.lu
 Yx:bp K t.lu K_
 HG:bp K t.lu O_
 Dr:bp K t.lu H_
 YB:Mk K t.lu t.Ic
 Ov:mg "Swap"=a_ (.ref t.lu)
 YN:aW K M_ "Swap.__init__" Hx t.Ic t.Dv
 Y4:dt K t.Dv g8 []
 tO:eO K t.gJ
 Yy:bp K t.gJ K_
 Ot:bp K t.gJ O_
 HF:bp K t.gJ ac2
 YC:Mk K t.gJ t.Ie
 HH:mg "Skip"=a_ (.ref t.gJ)
 YO:aW K M_ "Skip.__init__" Hy t.Ie t.Dw
 Y5:dt K t.Dw g8 []
def dR(t:bj)(x:cw):Addr:=if x = S_ then t.lV else if x = Q_ then t.lW else if x = U_ then t.kh else if x = L_ then t.lz else if x = I_ then t.lu else if x = N_ then t.rA else t.gJ
def hX(v:V)(x:cw)(ps:List V):List (cw×V):=
 if x = S_ then aN "number" (ps.getD 1 .aH) (aN O_ (ps.getD 0 .aH)<|aN K_ v [])
 else if x = Q_ then aN aq7 (ps.getD 1 .aH) (aN O_ (ps.getD 0 .aH)<|aN K_ v [])
 else if x = U_ then aN O_ (ps.getD 1 .aH) (aN H_ (ps.getD 0 .aH)<|aN K_ v [])
 else if x = L_ then aN H_ (ps.getD 1 .aH) (aN O_ (ps.getD 0 .aH)<|aN K_ v [])
 else if x = I_ then aN H_ (ps.getD 1 .aH) (aN O_ (ps.getD 0 .aH)<|aN K_ v [])
 else if x = N_ then aN K_ v []
 else aN ac2 (ps.getD 1 .aH) (aN O_ (ps.getD 0 .aH)<|aN K_ v [])
def ahj{c:Type}{l:List c}(h:l.length=2):∃a b,l=[a,b]:=by
 cases l with
 | nil=>cases h
 | cons a t=>
  exact oE (Td.mp (show t.length=1 from Cw h)) λb e=>BC a b (by rw[e])
def oQ(h:stepOk (.str x::ps)=c_){b c:Int}{bs:List Int}(a:cF x=a_ bs)(d:autoParam (bs=[b,c]) am):∃e f,ps=[e,f]:=by
 subst d;have h':(match cF x with | none=>d_ | some bs=>decide (ps.length=bs.length)&&(ps.zip bs).all λp=>mI p.1 p.2)=true:=h;rw[a]at h';simp only[fY,decide_eq_true_eq]at h';exact ahj h'.1
def Mq(h:stepOk (.str x::ps)=c_)(n1:¬x = S_)(a:¬x = Q_)(b:¬x = U_)(c:¬x = L_)(d:¬x = I_)(f:¬x = N_):x = J_:=by
 apply oF;intro g
 have e:cF x=none:=by
  unfold cF;rw[ei n1,ei a,ei b,ei c,ei d,ei f,ei g]
 have h':(match cF x with | none=>d_ | some bs=>decide (ps.length=bs.length)&&(ps.zip bs).all λp=>mI p.1 p.2)=true:=h;rw[e]at h';cases h'
def V3(t:bj):Sp:=λvs H Q _=>∃a x ps,vs=[.ref a]/\H a=a_ (.tup (.str x::ps))/\stepOk (.str x::ps)=c_/\(ps.length<=900/\∀y∈ps,∃T,ec H y=a_ T)/\
 ∀z dx H',af H H'->H z=b_->H' z=a_ (.ins (dR t x) dx<|hX (.ref a) x ps)->Q (.ref z) H'
def Gr:bc [ap6,"word"] [ap6] (aR Nw):=bx
def ad7(T:qk K mg t):aE P w K mg fK aL 4 t.fO t.yZ [ap6] (V3 t):=by
 have X:aE P w K mg fK aL 2 t.fS t.xB [ap6] MG:=Vn T.Jl T.bl T.cn T.Jk T.bW T.mW T.fnB T.bB T.mB;have GI:aE P w K mg fK aL 1 t.fI t.gR g8 (vm K):=wI T.init.fn T.init.tup;have Y:aE P w K mg fK aL 2 t.IB t.DZ g8 (lG t.lV O_ "number"):=Xk T.ZL T.init T.vA T.ZA T.Pr T.Pp;have Z:aE P w K mg fK aL 2 t.IC t.D0 g8 (lG t.lW O_ aq7):=Xl T.ZM T.init T.tZ T.ZC T.HZ T.Pq;have QL:aE P w K mg fK aL 2 t.IA t.DX g8 (lG t.kh H_ O_):=Xj T.ZK T.init T.rF T.Zz T.DI T.Po;have P5:aE P w K mg fK aL 2 t.Ig t.Dx g8 (lG t.lz O_ H_):=Wo T.YQ T.init T.rq T.Yz T.Ou T.Ds;have P2:aE P w K mg fK aL 2 t.Ic t.Dv g8 (lG t.lu O_ H_):=Wm T.YN T.init T.qj T.Yx T.HG T.Dr;have P4:aE P w K mg fK aL 2 t.Ie t.Dw g8 (lG t.gJ O_ ac2):=Wn T.YO T.init T.tO T.Yy T.Ot T.HF;refine T.Jm.ok Gr λaI A _ s H vs Q E M h=>?_
 .refine jx h λa S ps U ha bg=>?_;clear h;subst U;refine jm bg λN U k=>oA U λhl kz=>?_;have O:∀{y:cw},¬V.str S=V.str y->¬S=y:=λh e=>h (by rw[e])
  refine let c:TS:=_;let d:TS:=_;let f:TS:=_;let g:TS:=_;let l:TS:=_;let m:TS:=_;let n:TS:=_;let p:TS:=_;let r:TS:=_;let u:TS:=_;let z:TS:=_;let B:TS:=_;let C:TS:=_;let D:TS:=_;⟨_,(aw (br (og<|gZ<|oa X (M.mono qc) xz T.mS T.Jl.kp T.bS .nil cX<|aa (pv 0) ag) Mj bQ)
   (pR D (aw (bf (i:=1) Gr.nd xz (aP xz)<|aV dO (pv 0) ao) (pR C (aw (br (bR dm (pv 1) a7<|bG _) (pR c<|aB<|aU<|jY T.ZD Y M xz T.Pw T.ZT .nil cX<|aa (pv 0) ag) bQ) (pR B (aw (br (bR dm (pv 1) a7<|bG _) (pR d<|aB<|aU<|jY T.mkAdd Z M xz T.Px T.ZU .nil cX<|aa (pv 0) ag) bQ) (pR z (aw (br (bR dm (pv 1) a7<|bG _) (pR f<|aB<|aU<|jY T.mkSet QL M xz T.Pu T.ZS .nil cX<|aa (pv 0) ag) bQ) (pR u (aw (br (bR dm (pv 1) a7<|bG _) (pR g<|aB<|aU<|jY T.YD P5 M xz T.Ow T.Y6 .nil cX<|aa (pv 0) ag) bQ) (pR r (aw (br (bR dm (pv 1) a7<|bG _) (pR l<|aB<|aU<|jY T.YB P2 M xz T.Ov T.Y4 .nil cX<|aa (pv 0) ag) bQ) (pR p (aw (br (bR dm (pv 1) a7<|bG _) (pR m<|aB<|aU<|jY T.Xn GI (M.mono qc) xz T.Xo T.init.bi .nil cX<|aa (pv 0) ag) bQ)
   (pR n<|aB<|aU<|jY T.YC P4 M xz T.HH T.Y5 .nil cX<|aa (pv 0) ag)))))))))))))))),?_⟩
  refine vr xz ⟨_,⟨_,xz,va ha,(λxs hv=>?_),λH1 F=>?_⟩⟩
  .rw[i0 ha]at hv;cases hv;refine⟨by simp only[gE];exact wb,λy W=>?_⟩;obtain e|W:=a9.mp W
   .subst e;exact⟨_,xz⟩
   .exact kz y W
  have cO:nz H (.ref a)=true:=by unfold nz;rw[i0 ha];exact N
  rw[cO];refine au _ xz<|fq<|lF (v:=.str S) (j:=0) xz ((F _ _ ha)) xz<|au _ xz ⟨xz,⟨_,xz,bq (λe=>?_) λn1=>?_⟩⟩
  .cases str_inj e;obtain⟨I,J,L⟩:=oQ N (bs:=[4,dH]) (by unfold cF;rw[ek rfl]);subst L;refine vr xz λx dx nx G R=>⟨x,dx,a,[.str S_,I,J],I,J,xz,ai,?_,xz,xz,xz,?_⟩
   .rw[ah<|aQ (F _ _ ha) nx,ah<|aQ (F _ _ ha) G];exact F _ _ ha
   .refine k x dx _ (λb o q=>?_) (F.free nx) (by rw[ai];rfl);rw[ah<|aQ (F b o q) nx,ah<|aQ (F b o q) nx,ah<|aQ (F b o q) G];exact F b o q
  refine au _ xz ⟨xz,⟨_,xz,bq (λe=>?_) λn2=>?_⟩⟩
  .cases str_inj e;obtain⟨I,J,L⟩:=oQ N (bs:=[4,4]) (by unfold cF;rw[ei dk,ek rfl]);subst L;refine vr xz λx dx nx G R=>⟨x,dx,a,[.str Q_,I,J],I,J,xz,ai,?_,xz,xz,xz,?_⟩
   .rw[ah<|aQ (F _ _ ha) nx,ah<|aQ (F _ _ ha) G];exact F _ _ ha
   .refine k x dx _ (λb o q=>?_) (F.free nx) (by rw[ai];rfl);rw[ah<|aQ (F b o q) nx,ah<|aQ (F b o q) nx,ah<|aQ (F b o q) G];exact F b o q
  refine au _ xz ⟨xz,⟨_,xz,bq (λe=>?_) λn3=>?_⟩⟩
  .cases str_inj e;obtain⟨I,J,L⟩:=oQ N (bs:=[12,4]) (by unfold cF;rw[ei dk,ei dk,ek rfl]);subst L;refine vr xz λx dx nx G R=>⟨x,dx,a,[.str U_,I,J],I,J,xz,ai,?_,xz,xz,xz,?_⟩
   .rw[ah<|aQ (F _ _ ha) nx,ah<|aQ (F _ _ ha) G];exact F _ _ ha
   .refine k x dx _ (λb o q=>?_) (F.free nx) (by rw[ai];rfl);rw[ah<|aQ (F b o q) nx,ah<|aQ (F b o q) nx,ah<|aQ (F b o q) G];exact F b o q
  refine au _ xz ⟨xz,⟨_,xz,bq (λe=>?_) λn4=>?_⟩⟩
  .cases str_inj e;obtain⟨I,J,L⟩:=oQ N (bs:=[4,12]) (by unfold cF;rw[ei dk,ei dk,ei dk,ek rfl]);subst L;refine vr xz λx dx nx G R=>⟨x,dx,a,[.str L_,I,J],I,J,xz,ai,?_,xz,xz,xz,?_⟩
   .rw[ah<|aQ (F _ _ ha) nx,ah<|aQ (F _ _ ha) G];exact F _ _ ha
   .refine k x dx _ (λb o q=>?_) (F.free nx) (by rw[ai];rfl);rw[ah<|aQ (F b o q) nx,ah<|aQ (F b o q) nx,ah<|aQ (F b o q) G];exact F b o q
  refine au _ xz ⟨xz,⟨_,xz,bq (λe=>?_) λn5=>?_⟩⟩
  .cases str_inj e;obtain⟨I,J,L⟩:=oQ N (bs:=[4,12]) (by unfold cF;rw[ei dk,ei dk,ei dk,ei dk,ek rfl]);subst L;refine vr xz λx dx nx G R=>⟨x,dx,a,[.str I_,I,J],I,J,xz,ai,?_,xz,xz,xz,?_⟩
   .rw[ah<|aQ (F _ _ ha) nx,ah<|aQ (F _ _ ha) G];exact F _ _ ha
   .refine k x dx _ (λb o q=>?_) (F.free nx) (by rw[ai];rfl);rw[ah<|aQ (F b o q) nx,ah<|aQ (F b o q) nx,ah<|aQ (F b o q) G];exact F b o q
  refine au _ xz ⟨xz,⟨_,xz,bq (λe=>?_) λn6=>?_⟩⟩
  .cases str_inj e;refine vr xz λx dx nx G R=>⟨x,t.rA,dx,[],a,.str N_ :: ps,xz,ai,T.yt,T.Xm,qc,?_,xz,?_⟩
   .rw[ah<|aQ (F _ _ ha) nx,ah<|aQ (F _ _ ha) G];exact F _ _ ha
   .refine k x dx _ (λb o q=>?_) (F.free nx) (by rw[ai];rfl);rw[ah<|aQ (F b o q) nx,ah<|aQ (F b o q) nx,ah<|aQ (F b o q) G];exact F b o q
  have PR:=Mq N (O n1) (O n2) (O n3) (O n4) (O n5)<|O n6;subst PR;obtain⟨I,J,L⟩:=oQ N (bs:=[4,121]) (by unfold cF;rw[ei dk,ei dk,ei dk,ei dk,ei dk,ei dk,ek rfl]);subst L;refine vr xz λx dx nx G R=>⟨x,dx,a,[.str J_,I,J],I,J,xz,ai,?_,xz,xz,xz,?_⟩
  .rw[ah<|aQ (F _ _ ha) nx,ah<|aQ (F _ _ ha) G];exact F _ _ ha
  .refine k x dx _ (λb o q=>?_) (F.free nx) (by rw[ai];rfl);rw[ah<|aQ (F b o q) nx,ah<|aQ (F b o q) nx,ah<|aQ (F b o q) G];exact F b o q
end
end TL
namespace L2
section
variable{X:Cx}
def len_K(K:u_)(h:autoParam (X.K=K) am):my X (.builtin "len") (λxs H Q=>∃p ys,xs=[.ref p]/\(aq K H p ys\/az K H p ys)/\Q (.int ys.length) H):=by subst h;exact gm
def DU(K:u_)(h:autoParam (X.K=K) am):Ey X (Ea K):=by subst h;exact cJ
def akF(K:u_)(h:autoParam (X.K=K) am):Ey X (D' K):=by subst h;exact dO
def aj9(K:u_)(h:autoParam (X.K=K) am):Js X (ol K):=by subst h;exact Hw
def akL(K:u_)(a:PE X e ta)(b:Cu e f X.env (eval e X.env)=eval e X.env)(h:autoParam (X.K=K) am):PE X (.Attribute e f pos) (Ip K ta f):=by subst h;exact ba a b
end
end L2
namespace L2
end L2
namespace L2
open L3
def yQ(h:j_)(e:e_)(b:f_)(dd:Option e_)(tb:f_):Prop:=
 ∃a vs c,h.get? e=a_ a/\a.cls=b/\a.dict=dd/\a.data=.fields vs/\vs[0]?=a_ c/\vs[1]?=a_ tb/\(b≠.ref mu->vs[2]?=a_ .none)
def Ej(h:j_)(e T:e_)(fl:f_):Prop:=T≠e/\∃a ts,h.get? T=a_ a/\a.data=.fields ts/\ts[3]?=a_ fl
def BM(h:j_)(e:e_)(a:f_)(dd:Option e_)(tb:Option e_):Prop:=
 yQ h e a dd (tb.elim .none bN)/\∀T,tb=a_ T->Ej h e T .none
def qA(h:j_)(e:e_)(a:f_)(dd:Option e_)(T:e_)(fl:f_):Prop:=yQ h e a dd (.ref T)/\Ej h e T fl
def yQ.keep(x:yQ h e cls dd tb)(k:∀o,h.get? e=a_ o->h'.get? e=a_ o):yQ h' e cls dd tb:=
 let ⟨oe,vs,a0,q,r⟩:=x;⟨oe,vs,a0,k _ q,r⟩
def Ej.keep(x:Ej h e T fl)(k:∀o,h.get? T=a_ o->h'.get? T=a_ o):Ej h' e T fl:=
 let ⟨n,oT,ts,q,r⟩:=x;⟨n,oT,ts,k _ q,r⟩
def aey(o:cB)(f:Array f_->Array f_):(o.mapFields f).dict=o.dict:=by
 obtain⟨c,d,a,s⟩:=o;cases a <;> rfl
section
variable{M:d5}{A:h_}{E:f_->g_->Prop}{s:g_}{fK:j_}{env:Env}{outer:List Env}{L e:e_}{cls:f_}{dd:Option e_}{Q:Unit->g_->Prop}
def L6(p:A.frames=a_ (env::outer))(d:s.heap.FunFrames fK (env::outer))(r:env.frame=a_ L)(q:s.heap.get? e=a_ oe)(t:oe.cls=cls)(u:oe.dict=dd)
  (hd:oe.data=.fields vs) (v:vs[0]?=a_ a0) (hsz:1<vs.size) (w:cls≠.ref mu->vs[2]?=a_ .none)
  (k:∀h' T,(∀b o,b∉iA (env::outer)->b≠e->s.heap.get? b=a_ o->h'.get? b=a_ o)->(∀b o,s.heap.get? b=a_ o->b≠e->∃sl,h'.get? b=a_ {o with slots:=sl})->s.heap.objs.size<=T->
   qA h' e cls dd T (cr L)->Q () {s with heap:=h'}) :
  bz M A (do let a <-frameOf env;let pl <-entryPlaceOf L had;let b <-abJ head a .none (cr L) .none pl;setField (.ref e) 1 b) Q E s:=by
 have x:e∉iA (env::outer):=λz=>by
  refine oA (d.mem z) λ_ y=>aJ y λo f B=>?_;rw[q]at f;cases f;exact B vs hd
 refine ak (wpAny_frameOf_fun p d r λh1 c=>ak<|wpAny_entryPlaceOf λpl g=>?_);unfold abJ newFields;refine ak<|we ?_<|g.sizeOk5 _ _ _ _ _;have h:=(c.2.1 e x).fC q;generalize i:({cls:=.type "traceback",dict:=b_,data:=.fields ([head,.ref L,.none,cr L,.none]++(if pl.isEmpty then dB 6 gq else pl)).toArray}:cB)=ot;have j:(h1.push ot).get? e=a_ oe:=bo _ h;refine Aj j hd hsz ?_;have l:=uX<|bP h;have m:=Ad hd (·.setIfInBounds 1 (bN h1.objs.size));have C:=Ab (sV (·.setIfInBounds 1 (bN h1.objs.size))) j<|KH m;have fr:ot.isFreed=false:=by rw[<-i];rfl
 have D:((h1.push ot).update e<|sV (·.setIfInBounds 1 (bN h1.objs.size))).get? h1.objs.size=a_ ot:=by
  rw[sM _ _<|eJ l];exact iF h1 fr
 have kp:∀b o,b≠e->h1.get? b=a_ o->((h1.push ot).update e<|sV (·.setIfInBounds 1 (bN h1.objs.size))).get? b=a_ o:=λb o n z=>by
  rw[sM _ _<|eJ n];exact bo _ z
 refine k _ h1.objs.size (λb o F n z=>kp b o n<|(c.2.1 b F).fC z) (λb o z n=>oE (c.2.2 b o z) λsl G=>⟨sl,kp b _ n G⟩) (m8 c.1.fF)<|gQ ⟨_,_,a0,C,?_,?_,m,?_,?_,λz=>by rw[abb qc];exact w z⟩ l ⟨ot,_,D,by rw[<-i],?_⟩
 .rw[abV];exact t
 .rw[aey];exact u
 .rw[abb qc];exact v
 .simp[hsz]
 .first | (simp;done) | (rcases g with rfl | ⟨_,_,_,_,_,_,_,rfl⟩ <;> simp)
def Mn(j:A.frames=a_ (env::outer))(l:s.heap.FunFrames fK (env::outer))(h:env.frame=a_ L)(x:BM s.heap e cls dd tb)(k:∀h' T,(∀b o,b∉iA (env::outer)->b≠e->tb≠a_ b->s.heap.get? b=a_ o->h'.get? b=a_ o)->(∀b o,s.heap.get? b=a_ o->b≠e->tb≠a_ b->∃sl,h'.get? b=a_ {o with slots:=sl})->s.heap.objs.size<=T->qA h' e cls dd T (cr L)->Q () {s with heap:=h'}):bz M A (wB (.ref e) env) Q E s:=by
 refine oA x λf C=>jx f λG vs H q m f=>AX f λp hd r h1 t=>?_;have hsz:1<vs.size:=(Cg.mp h1).1;unfold wB;simp only[h];cases tb with
 | none=>
  refine ak<|i7 q hd h1 ?_;rw[ei qc];exact L6 j l h q m p hd r hsz t λh' T a b c d=>k h' T (λx o y z _=>a x o y z) (λx o y z _=>b x o y z) c d
 | some T0=>
  refine oA (C T0 xz) λD f=>gf f λI ts i dT u=>ak<|i7 q hd h1 ?_;show bz M A (if (bN T0 != gq)=c_ then _ else _) Q E s;rw[ek (by simp)];refine ak<|i7 i dT u ?_;rw[ei (show ¬((gq==cr L)=c_) by simp[cr])];refine ak<|Aj i dT (Cg.mp u).1 ?_;have g:∀b,b≠T0->(s.heap.update T0<|sV (·.setIfInBounds 3 gq)).get? b=s.heap.get? b:=λb n=>sM _ _<|eJ n;refine L6 (s:={s with heap:=s.heap.update T0 (sV (·.setIfInBounds 3 gq))}) j (l.of_keeps λb o z F=>⟨o,(g b λw=>?_).fC z,xz⟩) h ((g e<|eJ D).fC q) m p hd r hsz t λh' T a b c d=>?_
  .rw[w,i]at z;cases z;exact F ts dT
  .refine k h' T (λx o y z n w=>a x o y z<|(g x λv=>n<|by rw[v]).fC w) (λx o w z n=>b x o ((g x λv=>n<|by rw[v]).fC w) z) ?_ d;have B:(s.heap.update T0<|sV (·.setIfInBounds 3 gq)).objs.size<=T:=c;rw[abw]at B;exact B
def Aq(x:qA s.heap e cls dd T fl)(k:∀h',(∀b o,b≠T->s.heap.get? b=a_ o->h'.get? b=a_ o)->BM h' e cls dd (a_ T)->Q () {s with heap:=h'}):bz M A (Gh (.ref e) b_) Q E s:=by
 refine jm x λa c i=>jx a λj vs l q m a=>AX a λp hd r h1 t=>gf i λv ts d dT u=>?_;have g:3<ts.size:=(Cg.mp u).1;unfold Gh;refine ak<|i7 q hd h1 ?_;rw[ek (show (bN T != gq)=c_ by simp)];have h:∀b,b≠T->(s.heap.update T<|sV (·.setIfInBounds 3 ((b_:Option e_).elim gq λf=>cr f))).get? b=s.heap.get? b:=λb n=>sM _ _<|eJ n;refine Aj d dT g<|k _ (λb o n z=>(h b n).fC z) ⟨⟨j,vs,l,(h e<|eJ c).fC q,m,p,hd,r,h1,t⟩,λw z=>?_⟩;cases z;exact⟨c,⟨_,_,Ab _ d<|KH<|Ad dT _,Ad dT _,by simp[g]⟩⟩
end
def eV(P:l_)(w:k_):qE:=λouter H s E e s'=>∃ea c dd T H',e=.ref ea/\s'.os=s.os/\AllBare s'.gens/\Un (iA outer) [] H H' s.heap s'.heap/\fV P w H' s'.heap/\BM s'.heap ea c dd (a_ T)/\
 s.heap.objs.size<=ea/\s.heap.objs.size<=T/\H' ea=b_/\H' T=b_/\E c dd H'
structure yz(X:Cx)(p_:List (e_×cB))(σ:St)(H:Hp)(s:g_)(ea:e_)(c:f_)(dd tb:Option e_):Prop where
 inv:dc X p_ σ H s
 yY:BM s.heap ea c dd tb
 fe:dW X p_ H ea
 ft:∀T,tb=a_ T->dW X p_ H T
abbrev WX:=St->XK
def qt(X:Cx)(W:WX):Prop:=∀(p_:List (e_×cB))(σ:St)(H:Hp)(s:g_)(ea:e_)(c:f_)(dd tb:Option e_),yz X p_ σ H s ea c dd tb->W σ c dd H->X.xe (.ref ea) s
section
variable{X:Cx}{p_:List (e_×cB)}{σ:St}{H:Hp}{s:g_}
def Gb{h':j_}{ch:List e_}(I:dc X p_ σ H s)(a:∀b∈ch,H b=b_)(k:∀b o,b∉iA X.stack->b∉ch->s.heap.get? b=a_ o->h'.get? b=a_ o):fV X.prog X.w H h':=λb u e=>by
 refine(I.aM b u e).qw (λd v hd q=>k d v (λz=>?_) (λz=>?_) q) (λ_ q=>q) λ_ _ q=>q
 .have n:=I.G6 d z;obtain w|w:=hd
  .rw[w,e]at n;cases n
  .rw[w]at n;cases n
 .have n:=a d z;obtain w|w:=hd
  .rw[w,e]at n;cases n
  .rw[w]at n;cases n
def Wx{P:l_}{w:k_}{K:u_}{mg:cw->Option f_}{fK:j_}{N:List cw}{qual:cw}{scope:i_}{f:e_}{cd:f_}{A:h_}{outer:List Env}{a:g_}{H0:Hp}{E:XK}:qt (gK (eV P w) P w K mg fK N qual scope f cd A outer a H0 E) (λ_=>E):=by
 intro p_ σ H s ea c dd tb x J;show bz (bK P w) (A.deeper<|d8 qual scope a.heap.objs.size f cd) (leaving (d8 qual scope a.heap.objs.size f cd)<|.ref ea) (λ_ k=>eV P w outer H0 a E (.ref ea) k) (λL k=>eV P w outer H0 a E L k) s;have I:=x.inv
 have B:a.heap.objs.size<=ea:=by
  obtain z|z:=x.fe.2.2.2.1
  .exact eo (show ea∈([]:List e_) from z) (by simp)
  .exact z
 have M:∀T,tb=a_ T->a.heap.objs.size<=T:=λT z=>by
  rcases(x.ft T z).2.2.2.1 with y | y
  .exact eo (show T∈([]:List e_) from y) (by simp)
  .exact y
 unfold leaving;refine ak (Mn (fK:=fK) I.ok.frames I.stack xz x.yY λh1 T k1 C i O=>Aq O λh2 j Q=>?_);have m:∀{b:e_}{o:cB},a.heap.get? b=a_ o->b<a.heap.objs.size:=λe=>bP e;have D:a.heap.objs.size<=s.heap.objs.size:=I.sz;have p:∀{b:e_},b<a.heap.objs.size->b≠T:=λh z=>eo (ff h<|cQ D i) (by rw[z];exact je _);have r:∀{b:e_},b<a.heap.objs.size->b≠ea:=λh z=>eo (ff h B) (by rw[z];exact je _);have t:∀{b:e_},b<a.heap.objs.size->tb≠a_ b:=λh z=>eo (ff h<|M _ z)<|je _
 have R:∀{b:e_},b<a.heap.objs.size->b∉iA outer->b∉iA (d8 qual scope a.heap.objs.size f cd::outer):=λh z y=>by
  obtain u|u:=I.Dd _ y |> a9.mp
  .exact eo h (by rw[u];exact je _)
  .exact z u
 have S:∀{b:e_}{o:cB},s.heap.get? b=a_ o->b≠T:=λe z=>eo (ff (bP e) i) (by rw[z];exact je _)
 have U:fV P w H h2:=by
  refine Gb (ch:=ea::tb.toList) I (λb d=>?_) λb o d F e=>j b o (S e)<|k1 b o d (λz=>F<|by rw[z];exact cb) (λz=>F<|cu _<|by rw[z];simp) e;obtain z|z:=a9.mp d
  .rw[z];exact x.fe.1
  .cases tb with
   | none=>simp at z
   | some T0=>
    have V:b=T0:=by simpa using z
    rw[V];exact(x.ft T0 xz).1
 refine⟨ea,c,dd,T,H,xz,I.os,I.bare,⟨λb o e n d g=>?_,λb o e n d g=>?_,I.base.free,λb o e g=>?_,I.base.oY,I.base.oq,I.base.oo⟩,U,Q,B,(cQ D i),x.fe.1,⟨I.aM.fresh i,J⟩⟩
 .have l:=m e;exact j b o (p l)<|k1 b o (R l d) (r l) (t l)<|I.base.keep b o e n d g
 .have l:=m e;exact oE (I.base.slot b o e n d g) λsl q=>oE (C b _ q (r l)<|t l) λG v=>⟨G,j b _ (p l) v⟩
 .have l:=m e;exact oE (I.base.there b o e g) λo' q=>oE (C b _ q (r l)<|t l) λG v=>⟨_,j b _ (p l) v⟩
def U6(I:dc X p_ σ H s)(h:eV X.prog X.w X.stack H s E e s'):∃ea c dd T H',e=.ref ea/\yz X p_ σ H' s' ea c dd (a_ T)/\E c dd H':=by
 obtain⟨ea,c,dd,T,H',a,os,bare,un,aM,d⟩:=h;subst a;exact rj d λfl l1 l2 n1 f q=>⟨ea,c,dd,T,H',xz,⟨I.PF os un aM bare λb z=>eo z (by simp),fl,I.gz l1 n1,λg z=>by cases z;exact I.gz l2 f⟩,q⟩
end
def ah5(sp:Sp)(dvs:List V)(W:WX)(t:TA):TE:=λσ H Q=>t σ H λvs a=>sp (vs++dvs) a Q<|W σ
section
variable{X:Cx}{k:Nat}{f C:e_}{fd:ir}{ps:List cw}{sp:Sp}{dvs:List V}{ds:List f_}{W:WX}{x m:cw}{p pos apos:Pos}{e o:bT}{es:List bT}{ta:TE}{t:TA}{P:l_}{w:k_}
def agB(F:aE X.prog X.w X.K X.mg X.base (eV X.prog X.w) k f fd ps sp)(d:eM k X.A)(g:dt X.K fd ps ds)(hd:dn dvs ds)(i:qt X W)(I:dc X p_ σ H s)(r:dn vs us)(h:sp (vs++dvs) H Q (W σ)):bz (bK X.prog X.w) X.A (call (.ref f) us) (EP X p_ σ Q) X.xe s:=by
 have r2:=r.append hd;have j:(us++ds).length=ps.length:=by rw[<-r2.length];exact F.len _ _ _ _ h
 refine tj (yf (F.run X.A X.stack s H ⟨us,[]⟩ (us++ds) (vs++dvs) Q (W σ) d I.Eg (g s us I.cZ j) r2 h) λr s' a=>?_);cases r with
 | error e=>
  refine jw (U6 I a) λea c dd T H' b=>jm b λb x l=>?_;subst b;exact i _ _ _ _ _ _ _ _ x l
 | ok fl=>
  cases fl with
  | ret u=>exact I.after a
  | next=>exact ip a
  | brk=>exact ip a
  | cont=>exact ip a
def Gv(F:aE P w X.K X.mg X.base (eV P w) k f fd ps sp)(b:eM k X.A)(c:qt X W)(d:Gl X x)(hm:X.mg x=a_ (.ref f))(g:x_ X.K (.ref f)=c_)(i:dt X.K fd ps ds)(hd:dn dvs ds)
  (ha:PA X (e::es) t) (j:autoParam (X.prog=P) am) (hw:autoParam (X.w=w) am) (l:autoParam ((x==("__debug__":cw))=false) ap) (n:autoParam (cg (e::es) X.env=(d_,eval e X.env)::cg es X.env) am) (u:autoParam ((cc pos<|cg es X.env).any (·.1)=false) am) :
  PE X (.Call (.Name x p) (e::es) [] pos) (ah5 sp dvs W t):=by
 subst j hw;intro p_ s σ H Q I h;refine wc<|tI I d hm ?_ l;refine G_ (h₀:=X.base) I.ok.mod.pk g (Bx (ha pos p_ s σ H _ I h) λus s1 vs v a r q=>⟨a.cZ,?_⟩) n u;exact agB F b i hd c a r q
end
section
variable{P:l_}{w:k_}{K:u_}{mg:cw->Option f_}{fK:j_}
def aW.BA{st:bM}{k:Nat}{sp:Sp}(F:aW K x qual st f fd)(S:bc N ps (aR st))
  (b:∀(aI:f_)(A:h_)(outer:List Env)(s:g_)(H:Hp)(vs:List V)(Q:VK)(E:XK),eM k (A.deeper<|d8 qual (aR st) s.heap.objs.size f aI)->
   qt (gK (eV P w) P w K mg fK N qual (aR st) f aI A outer s H E) (λ_=>E)->
   lO (bK P w) (A.deeper<|d8 qual (aR st) s.heap.objs.size f aI) (d8 qual (aR st) s.heap.objs.size f aI) (gK (eV P w) P w K mg fK N qual (aR st) f aI A outer s H E).xe->sp vs H Q E->
   ∃t,dM (gK (eV P w) P w K mg fK N qual (aR st) f aI A outer s H E) (fj st) t/\t {nx:=λ_ H'=>Q .aH H',rt:=Q} (start N vs) H) (len:∀vs H Q E,sp vs H Q E->vs.length=ps.length:=by intro _ _ _ _ h;(repeat obtain⟨_,h⟩:=h);subst_vars;rfl):aE P w K mg fK (eV P w) (k+1) f fd ps sp:=by
 refine jw F.ex λoc od kV doc pm a=>Dn a λan aI ct jb a c=>?_;subst a;exact oA c λd e=>vy d e S len λA outer s H vs Q E g i=>b aI A outer s H vs Q E g Wx lO.leaving i
end
end L2
namespace L2
open L3
open Sem (wp)
def ur(h:j_)(C:e_)(c:Option f_):Prop:=∃nm q N bs a d e f g i dd k0 k1 j k l b,h.get? C=a_ (excClassObj nm q C N bs a d e f g i dd k0 k1 j k l "ValueError.__new__")/\h.Ns N b/\b "__init__"=c/\OwnTail h xh a
def ur.keeps(x:ur h C oi)(k:∀b o,h.get? b=a_ o->h'.get? b=a_ o):ur h' C oi:=by
 exact qd x λnm q N bs a c d e f g i=>FQ i λdd k0 k1 j l m n p hN hi T=>⟨nm,⟨q,N,bs,a,c,d,e,f,g,dd,k0,k1,j,l,m,n,k _ _ p,hN.keeps k,hi,T.keeps k⟩⟩
def IF(K:u_)(C:e_):Prop:=W.excIn K C xh "ValueError.__new__"=c_
def IF.at{K:u_}(x:IF K C)(X:K.In h):ur h C none:=by
 unfold IF W.excIn at x
 split at x
 .rename_i dd cd sl g
  split at x
  .rename_i u i k0 k1 b c n d hm hs
   simp only[fY,fv,ab4]at x;refine oA x λa e=>oA a λa aM=>oA a λa j=>oA a λa f=>oA a λk m=>?_;subst k m;obtain⟨nm,bs,mro,ns,o,hd,p,q,r,s,del⟩:=cd;dsimp only at hm f aM e;subst hm f
   have t:sl=#[k0,k1,b,c,a_<|.builtin "ValueError.__new__",d]:=by
    obtain⟨l⟩:=sl;exact fw GU hs
   subst t;exact⟨nm,⟨o,ns,bs,i,hd,p,q,r,s,dd,k0,k1,b,c,d,_,X _ _ g,.of_isNs<|W.isNs_of_in X aM,W.nsMap_none_of_in X aM e,W.tail_of_in X j⟩⟩
  .cases x
 .cases x
section
variable{prog:l_}{w:k_}{A:h_}{E:f_->g_->Prop}{h:j_}{g:Array GenState}{d:Drawn}{t:Nat}{os:cj}{C:e_}
noncomputable abbrev newX(C t:e_):cB:={cls:=.ref C,data:=.fields #[.ref t,.none,.none,.none,.bool d_,.none]}
noncomputable abbrev Ei(us:List f_):cB:={cls:=.type "tuple",data:=.seq us.toArray}
def afZ(x:ur h C b_)(j:us.length<=aX)(k:∀h' t',(∀b o,h.get? b=a_ o->h'.get? b=a_ o)->h'.get? (h.objs.size+1)=a_ (newX C t')->Q (.done<|.ret<|.ref<|h.objs.size+1) ⟨h',g,d,t,os⟩):bz (bK prog w) A (Builtin.«type.__call__» ⟨.ref C::us,[]⟩) Q E ⟨h,g,d,t,os⟩:=by
 refine qd x λnm q N bs l p r s u v m=>FQ m λdd k0 k1 y B D G c hN hi T=>?_;have a:=PySem.F.excBase_ValueError
 repeat (first | (with_reducible refine wm c ?_) | (with_reducible refine wpAny_madeBy_exc c ?_) | wp_step)
 refine abn (KS _ a.quiet)<|wpAny_check_new_subU a xz T c<|codeAny_exc_new_subU a xz a T c ?_ j;show bz _ _ _ _ _ _;have e:∀b o,h.get? b=a_ o->((h.push {cls:=.type "tuple",data:=.seq us.toArray}).push {cls:=.ref C,data:=.fields #[.ref h.objs.size,.none,.none,.none,.bool d_,.none]}).get? b=a_ o:=λb o z=>bo _<|bo _ z;have c1:=e _ _ c;have n1:=hN.keeps e;have i:=T.keeps e;have f:((h.push {cls:=.type "tuple",data:=.seq us.toArray}).push {cls:=.ref C,data:=.fields #[.ref h.objs.size,.none,.none,.none,.bool d_,.none]}).get? (h.objs.size+1)=a_ {cls:=.ref C,data:=.fields #[.ref h.objs.size,.none,.none,.none,.bool d_,.none]}:=by heap_get
 have n:(bN C::l).contains (.ref C)=true:=by simp
 unfold CB
 repeat (first | (with_reducible refine wm f ?_) | (with_reducible refine Tj c1 ?_;rw[n]) | wp_step)
 show bz _ _ (FY (.ref C) _) _ _ _;refine wpAny_typeLookup_tail c1 n1 i a.mroIs a.init.lookup ?_;rw[hi];refine mj<|ak<|wpAny_of_eq (a.init.bind _)<|ak<|tj<|Th a.init.plain a.initEntry<|wpAny_check_init_subU a i c1 f xz ?_
 wp_walk
 refine k _ (h.objs.size+2) (λb o z=>?_) ?_
 .rw[sM _ _<|uX<|K'<|bP z];exact bo _<|e b o z
 .rw[Ab _ (bo _ f) rfl];simp only[nW];rfl
def af0(x:ur h C b_)(e:us.length<=aX)(f:∀h' t',(∀b o,h.get? b=a_ o->h'.get? b=a_ o)->h'.get? (h.objs.size+1)=a_ (newX C t')->Q (.ref<|h.objs.size+1) ⟨h',g,d,t,os⟩):bz (bK prog w) A (call (.ref C) us) Q E ⟨h,g,d,t,os⟩:=by
 refine qd (id x) λnm q N bs i j l m n p a=>jw a λdd k0 k1 s u a=>dC a λv y c r=>?_;have z:=tc_lookup;have B:=tc_bind<|.ref C;have D:(⟨h,g,d,t,os⟩:g_).TypeIs (.ref C) "type":=⟨_,c,xz⟩;refine tj<|codeAny_of_tree ?_;show bz _ _ (callAny (.ref C) _) _ _ _
 repeat (any_goals (first | assumption | (with_reducible refine wm c ?_) | wp_step))
 exact⟨xz,abr (KS _ dk) entry_typeCall<|abl c<|afZ x e λh' t' k q=>f h' t' k q⟩
end
section
variable{M:d5}{A:h_}{E:f_->g_->Prop}{s:g_}{env:Env}{C:e_}
def UJ(j:A.handled=b_)(k:bz M A x (λv s1=>∃e a vs c f,v=.ref e/\ur s1.heap C f/\s1.heap.get? e=a_ a/\a.cls=.ref C/\a.data=.fields vs/\vs[0]?=a_ c/\vs[1]?=a_ .none/\E (.ref e) s1) E s):bz M A (raiseStmt env (a_ x) b_) Q E s:=by
 unfold raiseStmt;refine ak (ik k (λv s1 z=>?_) λ_ _ y=>y);obtain⟨e,a,vs,c,f,b,l,m,h,hd,n⟩:=z;subst b;refine qd l λnm q N bs o t u w B D b=>FQ b λdd k0 k1 F G H I i hN hi T=>jm n λJ h1 p=>?_;have r:(bN C::o).contains (.type "BaseException")=true:=by rw[List.contains_cons,T.hasType (show xh.contains (.type "BaseException")=c_ from xz),Bool.or_true]
 obtain⟨oc,od,K,jb⟩:=a;dsimp only at h hd;subst h hd;obtain⟨L,g,d,tk,os⟩:=s1
 repeat (first | (with_reducible refine wm m ?_) | (with_reducible refine wm i ?_) | (with_reducible refine Tj i ?_;rw[r]) | wp_step)
 rw[h1];refine aO ?_;rw[ei qc];exact aO<|wpAny_raiseNew_none j p
end
end L2
namespace L2
open L3
structure XC(K:u_)(C:e_):Prop where
 exc:IF K C
 kp:x_ K (.ref C)=c_
def ahY(C:e_)(W:WX)(t:TA):TS:=λ_ σ H=>t σ H λvs a=>vs.length<=aX/\W σ (.ref C) b_ a
section
variable{X:Cx}{W:WX}{C:e_}{x:cw}{np nG pos:Pos}{e:bT}{es:List bT}{t:TA}
def MT(c:X.calm=c_)(d:qt X W)(xc:XC X.K C)(f:Gl X x)(hm:X.mg x=a_ (.ref C))(ha:PA X (e::es) t)(g:autoParam ((x==("__debug__":cw))=false) ap)
  (i:autoParam (cg (e::es) X.env=(d_,eval e X.env)::cg es X.env) am) (j:autoParam ((cc nG<|cg es X.env).any (·.1)=false) am) :
  PS X (.Raise (a_<|.Call (.Name x np) (e::es) [] nG) b_ pos) (ahY C W t):=by
 intro p_ s σ H D I h;rw[arm_exec_Raise];refine ak<|Ak<|UJ (C:=C) (I.ok.hd c)<|ak (ik ?_ (λv p z=>ak<|Ak<|aO z) λ_ _ y=>y);refine wc<|tI I f hm ?_ g;refine G_ (h₀:=X.base) I.ok.mod.pk xc.kp (Bx (ha nG p_ s σ H _ I h) λus s1 vs u a r l=>oA l λm q=>⟨a.cZ,?_⟩) i j;have xa:=xc.exc.at a.cZ;obtain⟨h1,w,d1,n,A⟩:=s1;refine af0 xa (by rw[Ct,<-r.length];exact m) λh' t' k b=>?_;have o:=a.kept (t':=n) k;refine dF _ _ _ _<|⟨_,xz,(xa.keeps k),b,xz,xz,xz,xz,(d _ _ _ _ _ _ _ (tb:=b_) ⟨o,⟨⟨_,_,_,b,xz,xz,xz,xz,xz,λ_=>rfl⟩,λT z=>by cases z⟩,a.gz (jf _)<|a.aM.fresh<|jf _,λT z=>by cases z⟩ q)⟩
end
section
variable{M:d5}{A:h_}{E:f_->g_->Prop}{s:g_}
def UP{K:u_}(X:K.In s.heap)(e:yQ s.heap ea c dd tb)(f:y_ K c cv=a_ b)(h:y_ K cv (.type "BaseException")=a_ c_)(a:Q b s):bz M A (excMatches (.ref ea) cv) Q E s:=by
 refine jm (PySem.W.kit_cls (M:=M) X f) λl1 l2 l3=>jm (PySem.W.kit_cls (M:=M) X h) λ_ _ i=>jx e λl vs m q j _=>?_;have k:=tc_notTuple;unfold excMatches CB;refine ak<|ak<|l1.at ?_;rw[k];refine aO ?_;rw[ei dS];refine ak<|aO ?_;simp only[Ai,List.forIn_nil];unfold isExcClass;refine ak<|ak<|ak<|ak<|l2.at ?_;rw[ek rfl];refine i.at ?_;simp only[Bool.not_true,yb,if_false];refine aO<|aO ?_;obtain⟨n,g,d,tk,os⟩:=s;unfold typeOf;refine ak<|ak<|wm q<|aO ?_;rw[j];refine ak<|ak<|ak<|l3.at ?_;cases b with
 | true=>exact aO<|aO<|aO a
 | false=>exact aO<|aO<|aO a
end
noncomputable abbrev Cx.body(X:Cx)(pn:List (e_×cB))(E:f_->g_->Prop):Cx:={X with pn:=pn,xe:=E}
noncomputable abbrev Cx.kZ(X:Cx)(ea:e_)(pn:List (e_×cB)):Cx:={X with A:=X.A.mark<|a_<|.ref ea,calm:=d_,pn:=pn,xe:=λ_ _=>False}
section
variable{X:Cx}{p_ pl:List (e_×cB)}{σ:St}{H:Hp}{s:g_}{ea:e_}{E:f_->g_->Prop}
def agX(ok:X.Ok)(pn:List (e_×cB))(E:f_->g_->Prop):(X.body pn E).Ok:=
 ⟨ok.mod,ok.kind,ok.glob,ok.blt,ok.above,ok.inj,ok.has,ok.vO,ok.hd,ok.frames,ok.xt,ok.um,ok.bs,ok.mQ,ok.vD,ok.ue,ok.mz,ok.rW⟩
def ad6(ok:(X.body pn E).Ok):X.Ok:=
 ⟨ok.mod,ok.kind,ok.glob,ok.blt,ok.above,ok.inj,ok.has,ok.vO,ok.hd,ok.frames,ok.xt,ok.um,ok.bs,ok.mQ,ok.vD,ok.ue,ok.mz,ok.rW⟩
def afd(ok:X.Ok)(ea:e_)(pn:List (e_×cB)):(X.kZ ea pn).Ok:=
 ⟨ok.mod,ok.kind,ok.glob,ok.blt,ok.above,ok.inj,ok.has,ok.vO,λz=>(by cases z),ok.frames,ok.xt,ok.um,ok.bs,ok.mQ,ok.vD,ok.ue,ok.mz,ok.rW⟩
def dc.body(I:dc X p_ σ H s)(E:f_->g_->Prop):dc (X.body (X.pn++p_) E) [] σ H s:=
 ⟨agX I.ok _ E,I.os,I.bare,I.base,I.loc,I.cell,I.free,I.jP,λp a=>I.pin p (by simpa using a),I.aM,I.len⟩
def dc.vj(I:dc (X.body (X.pn++p_) E) pl σ H s):dc X p_ σ H s:=
 ⟨ad6 I.ok,I.os,I.bare,I.base,I.loc,I.cell,I.free,I.jP,λp a=>I.pin p<|pU _ a,I.aM,I.len⟩
def dc.kZ(I:dc X p_ σ H s)(ea:e_):dc (X.kZ ea<|X.pn++p_) [] σ H s:=
 ⟨afd I.ok ea _,I.os,I.bare,I.base,I.loc,I.cell,I.free,I.jP,λp a=>I.pin p (by simpa using a),I.aM,I.len⟩
def dc.wD(ok:X.Ok)(I:dc (X.kZ ea<|X.pn++p_) pl σ H s):dc X p_ σ H s:=
 ⟨ok,I.os,I.bare,I.base,I.loc,I.cell,I.free,I.jP,λp a=>I.pin p<|pU _ a,I.aM,I.len⟩
def dW.body(f:dW (X.body (X.pn++p_) E) pl H b):dW X p_ H b:=
 ⟨f.1,f.2.1,f.2.2.1,f.2.2.2.1,f.2.2.2.2.1,λp a=>f.2.2.2.2.2 p<|pU _ a⟩
def SP.vj(h:SP (X.body (X.pn++p_) E) pl D f s):SP X p_ D f s:=by
 cases f with
 | next=>obtain⟨a,H',I,q⟩:=h;exact⟨a,H',I.vj,q⟩
 | brk=>obtain⟨a,H',I,q⟩:=h;exact⟨a,H',I.vj,q⟩
 | cont=>obtain⟨a,H',I,q⟩:=h;exact⟨a,H',I.vj,q⟩
 | ret u=>obtain⟨v,a,H',I,r,q⟩:=h;exact⟨v,a,H',I.vj,r,q⟩
def Vt(hs:X.stack=X.env::X.outer)(r:X.env.frame=a_ X.env.locals)(x:yz X p_ σ H s ea c dd tb)(k:∀h' T,dc X p_ σ H {s with heap:=h'}->BM h' ea c dd (a_ T)->dW X p_ H ea->dW X p_ H T->Q () {s with heap:=h'}):bz (bK X.prog X.w) X.A (wB (.ref ea) X.env) (λ_ s2=>bz (bK X.prog X.w) X.A (Gh (.ref ea) b_) Q E' s2) E' s:=by
 have I:=x.inv;have st:=I.stack;have fr:=I.ok.frames;rw[hs]at st fr;refine Mn (fK:=X.base) fr st r x.yY λh1 T k1 t i u=>Aq u λh2 j v=>?_;have l:∀{b:e_}{o:cB},s.heap.get? b=a_ o->b≠T:=λe z=>eo (ff (bP e) i) (by rw[z];exact je _)
 have d:∀b∈ea::tb.toList,dW X p_ H b:=λb a=>by
  obtain z|z:=a9.mp a
  .rw[z];exact x.fe
  .cases tb with
   | none=>simp at z
   | some T0=>
    have y:b=T0:=by simpa using z
    rw[y];exact x.ft T0 xz
 have n1:∀{b:e_},b∉ea::tb.toList->b≠ea:=λh z=>h (by rw[z];exact cb);have m:∀{b:e_},b∉ea::tb.toList->tb≠a_ b:=λh z=>h<|cu _ (by rw[z];simp);have p:=λb o a f e=>j b o (l e)<|k1 b o (by rw[<-hs];exact a) (n1 f) (m f) e
 have ks:∀b o,b∉ea::tb.toList->s.heap.get? b=a_ o->∃sl,h2.get? b=a_ {o with slots:=sl}:=λb o f e=>by
  exact oE (t b o e (n1 f)<|m f) λsl q=>⟨sl,j b _ (l e) q⟩
 have B:dc X p_ σ H {s with heap:=h2}:=I.call (g':=s.gens) (d':=s.drawn) (t':=s.toks) (ch:=ea::tb.toList)
  ⟨λb o e n a g=>p b o a g e,λb o e n a g=>ks b o g e,λ_ _ _ n _=>n,λb o e g=>let ⟨sl,q⟩:=ks b o g e;⟨_,q⟩,λ_ _ e=>e,λ_ _ _ e=>e,λb ps e=>⟨#[],by rw[e];simp⟩⟩
  (Gb I (λb a=>(d b a).1) p) I.bare λb a=>⟨(d b a).2.2.2.1,(d b a).2.1,(d b a).2.2.2.2.1,(d b a).2.2.2.2.2⟩
 exact k h2 T B v x.fe<|I.gz i<|I.aM.fresh i
end
noncomputable def ko(ea:e_)(c:f_)(dd:Option e_):HO:=.ext λh=>∃o vs,h.get? ea=a_ o/\o.cls=c/\o.dict=dd/\o.data=.fields vs
def ai3{P:l_}{w:k_}(x:yQ h ea c dd tb):hZ P w H h ea (ko ea c dd):=by
 exact jx x λa vs g q b d=>jm d λf hd _=>gQ ⟨a,vs,q,b,f,hd⟩ ⟨a,q⟩ λh1 h2⟨o,vs,e,r⟩k=>⟨o,vs,k o e,r⟩
section
variable{X:Cx}{p_:List (e_×cB)}{σ:St}{H:Hp}{s:g_}
def Hi(I:dc X p_ σ H s)(hN:X.N.Nodup)(hi:X.N[i]?=a_ n)(x:X.env.scope.names.lookup n=a_ .local)
  (k:∀s',dc X p_ (σ.set i b_) H s'->Q () s'):bz M A (do bindName X.env n .none;unbindBehindTheSuite X.env n pos) Q E s:=by
 refine aJ (id I.loc) λm hn B=>?_;have C:(X.env.scope.kind==.class||(X.env.scope.kind==.module&&X.env.locals != X.env.globals))=false:=by rw[I.ok.kind];rfl
 have D:i < σ.length:=by rw[I.len];exact(dX.mp hi).1
 refine wpAny_nameGoes_keeps x hn C λh' v F hs=>k _ ?_;have g:∀{b:e_}{o:cB},X.s₀.heap.get? b=a_ o->b≠X.env.locals:=λe=>fh<|ff (bP e) I.ok.above;refine⟨I.ok,I.os,I.bare,⟨λb o e n h a=>(hs.2 b<|g e).fC<|I.base.keep b o e n h a,λb o e n h a=>let ⟨sl,q⟩:=I.base.slot b o e n h a;⟨sl,(hs.2 b<|g e).fC q⟩,I.base.free,λb o e a=>let ⟨o',q⟩:=I.base.there b o e a;⟨o',(hs.2 b<|g e).fC q⟩,I.base.oY,I.base.oq,I.base.oo⟩,⟨_,F,λj y G t f J=>?_⟩,λy c e=>let ⟨u,z⟩:=I.cell y c e;⟨u,z.sameBut hs<|I.vN y c e⟩,I.free,I.jP,λp K=>let ⟨e,n,ne,r⟩:=I.pin p K;⟨(hs.2 p.1 ne).fC e,n,ne,r⟩,λb u e=>?_,by simpa using I.len⟩
 .by_cases l:j=i
  .subst l;rw[nU D]at f;cases f
  .rw[Cp<|eJ l]at f;refine aJ (B j y G t f J) λu r q=>au u r ?_;obtain⟨kd,e⟩|⟨kd,c,e,z⟩:=q
   .refine .inl ⟨kd,?_⟩;have L:y≠n:=λz=>l<|MX hN t<|z ▸ hi;show (if y=n then v else m y)=a_ u;rw[ei L];exact e
   .exact .inr ⟨kd,⟨c,e,z.sameBut hs<|I.vN y c e⟩⟩
 .refine(I.aM b u e).qw (λd w hd q=>(hs.2 d λz=>?_).fC q) (λ_ q=>q) λ_ _ q=>q;have fr:=I.free;rw[<-z]at fr;obtain y|y:=hd
  .rw[y,e]at fr;cases fr
  .rw[y]at fr;cases fr
end
def ahX(K:u_)(d:f_)(i:Nat)(tb:WX->TS)(ts:TS):TS:=λD σ H=>tb (λe c dd H'=>y_ K c d=a_ c_/\
 ∀ea,H' ea=b_->ts ⟨λa b=>D.nx (a.set i b_) b,D.rt,λa b=>D.bk (a.set i b_) b,λa b=>D.ct (a.set i b_) b⟩ (e.set i<|a_<|.ref ea) (db H' ea<|ko ea c dd)) D σ H
def aj0(K:u_)(a:f_)(tb:WX->TS)(ts:TS):TS:=λD σ H=>tb (λb c dd H'=>y_ K c a=a_ c_/\ts D b H') D σ H
section
variable{X:Cx}{body:List bM}{b0:bM}{kZ:List bM}{x n:cw}{np aaN pos:Pos}{tb:WX->TS}{ts:TS}{cv:f_}{i:Nat}
def ae6(hs:X.stack=X.env::X.outer)(L:X.env.frame=a_ X.env.locals)(M:X.ex=[])(hN:X.N.Nodup)(hi:X.N[i]?=a_ n)(d:X.env.scope.names.lookup n=a_ .local)
  (O:Gl X x) (hm:X.mg x=a_ cv) (P:y_ X.K cv (.type "BaseException")=a_ c_)
  (l:∀(W:WX)(pn:List (e_×cB))(E:f_->g_->Prop),qt (X.body pn E) W->lO (bK X.prog X.w) X.A X.env E->dM (X.body pn E) body (tb W))
  (Q:∀(ea:e_)(pn:List (e_×cB)),dM (X.kZ ea pn) (b0::kZ) ts) (R:autoParam ((x==("__debug__":cw))=false) ap) :
  PS X (.Try body [.ExceptHandler (a_<|.Name x np) (a_ n) (b0::kZ) aaN] [] [] pos) (ahX X.K cv i tb ts):=by
 intro p_ s σ H D I h;have ok:=I.ok;refine wpAny_Try_except (ik (l _ (X.pn++p_) _ ?_ abU [] s σ H D (I.body _) h) (λf s1 q=>?_) λ_ _ y=>y)
 ·-- the exception
  intro pl B C s1 ea c dd S j m;refine oA m λU m=>?_;have V:yz X p_ B C s1 ea c dd S:=⟨j.inv.vj,j.yY,j.fe.body,λT z=>(j.ft T z).body⟩;refine Vt hs L V λh' T F fl fe g=>?_;have G:=F.kZ ea;refine wpAny_handleBy_cons (abz<|tI (X:=X.kZ ea<|X.pn++p_) G O hm ?_ R) (by intro z;cases z);refine UP G.cZ fl.1 U P<|codeAny_handlers_suite_as (Aq (T:=T) (fl:=.none) ⟨fl.1,fl.2 T xz⟩ λh3 Y Z=>?_);have I4:dc X p_ B C {s1 with heap:=h3}:=dc.turned (s:={s1 with heap:=h'}) (h':=h3) (t':=s1.toks) (it:=T) F (λb o l e=>Y b o l e) g.1 g.2.1 g.2.2.2.1 g.2.2.2.2.1 g.2.2.2.2.2
  have ya:X.s₀.heap.objs.size<=ea:=by
   obtain z|z:=fe.2.2.2.1
   .rw[M]at z;exact eo z (by simp)
   .exact z
  have I5:=dc.adopt (o:=ko ea c dd) I4 fe.1 ya fe.2.1 fe.2.2.2.2.1 fe.2.2.2.2.2<|ai3 Z.1;have I6:=I5.kZ ea;refine Gp (X:=X.kZ ea<|X.pn++p_) (v:=.ref ea) I6 hN hi (.inl d) xz (λs4 I7=>?_)<|.inr d;refine ik (Q ea (X.pn++p_) [] s4 _ _ _ I7 (m ea fe.1)) (λf s5 q=>?_) λ_ _ z=>ip z;cases f with
  | next=>obtain⟨p,H',J,q⟩:=q;exact Hi (X:=X) (dc.wD ok J) hN hi d λt a=>⟨_,_,a,q⟩
  | brk=>obtain⟨p,H',J,q⟩:=q;exact Hi (X:=X) (dc.wD ok J) hN hi d λt a=>⟨_,_,a,q⟩
  | cont=>obtain⟨p,H',J,q⟩:=q;exact Hi (X:=X) (dc.wD ok J) hN hi d λt a=>⟨_,_,a,q⟩
  | ret u=>obtain⟨v,p,H',J,r,q⟩:=q;exact Hi (X:=X) (dc.wD ok J) hN hi d λt a=>⟨v,_,_,a,r,q⟩
 .have k:=SP.vj q;cases f with
  | next=>exact Cr k
  | brk=>exact k
  | cont=>exact k
  | ret u=>exact k
def agJ(hs:X.stack=X.env::X.outer)(C:X.env.frame=a_ X.env.locals)(F:Gl X x)(hm:X.mg x=a_ cv)(G:y_ X.K cv (.type "BaseException")=a_ c_)
  (j:∀(W:WX)(pn:List (e_×cB))(E:f_->g_->Prop),qt (X.body pn E) W->lO (bK X.prog X.w) X.A X.env E->dM (X.body pn E) body (tb W))
  (L:∀(ea:e_)(pn:List (e_×cB)),dM (X.kZ ea pn) (b0::kZ) ts) (M:autoParam ((x==("__debug__":cw))=false) ap) :
  PS X (.Try body [.ExceptHandler (a_<|.Name x np) b_ (b0::kZ) aaN] [] [] pos) (aj0 X.K cv tb ts):=by
 intro p_ s σ H D I h;have ok:=I.ok;refine wpAny_Try_except (ik (j _ (X.pn++p_) _ ?_ abU [] s σ H D (I.body _) h) (λf s1 q=>?_) λ_ _ y=>y)
 .intro pl m p s1 ea c dd N d k;refine oA k λO k=>?_;have P:yz X p_ m p s1 ea c dd N:=⟨d.inv.vj,d.yY,d.fe.body,λT z=>(d.ft T z).body⟩;refine Vt hs C P λh' T t fl fe a=>?_;have B:=t.kZ ea;refine wpAny_handleBy_cons (abz<|tI (X:=X.kZ ea<|X.pn++p_) B F hm ?_ M) (by intro z;cases z);refine UP B.cZ fl.1 O G<|codeAny_handlers_suite (Aq (T:=T) (fl:=.none) ⟨fl.1,fl.2 T xz⟩ λh3 Q S=>?_);have R:dc X p_ m p {s1 with heap:=h3}:=dc.turned (s:={s1 with heap:=h'}) (h':=h3) (t':=s1.toks) (it:=T) t (λb o j e=>Q b o j e) a.1 a.2.1 a.2.2.2.1 a.2.2.2.2.1 a.2.2.2.2.2;refine ik (L ea (X.pn++p_) [] _ _ _ _ (R.kZ ea) k) (λf U q=>?_) λ_ _ z=>ip z;cases f with
  | next=>obtain⟨l,H',J,q⟩:=q;exact⟨_,_,dc.wD ok J,q⟩
  | brk=>obtain⟨l,H',J,q⟩:=q;exact⟨_,_,dc.wD ok J,q⟩
  | cont=>obtain⟨l,H',J,q⟩:=q;exact⟨_,_,dc.wD ok J,q⟩
  | ret u=>obtain⟨v,l,H',J,r,q⟩:=q;exact⟨v,_,_,dc.wD ok J,r,q⟩
 .have g:=SP.vj q;cases f with
  | next=>exact Cr g
  | brk=>exact g
  | cont=>exact g
  | ret u=>exact g
end
end L2
namespace L2
def afS:plainId jk=true:=dk
def ahs:builtinKind jk=a_ Manifest.AttrKind.slot:=by kernel_rfl
def afR:splitId jk=a_ ("BaseException","__getattribute__"):=by kernel_rfl
def ahu(a b:f_):argsOk jk {pos:=[a,b]}:=by kernel_rfl
def aht(self:f_):bindSpecial (.builtin jk) self=pure (.builtin jk,[self]):=by kernel_rfl
def afT:entryFor table jk=a_ Builtin.«object.__getattribute__»:=by kernel_rfl
end L2
namespace L2
open L3
section
variable{prog:l_}{w:k_}{A:h_}{E:f_->g_->Prop}{s:g_}{K:u_}{x C:e_}{ox:cB}{od:Option cB}{name:cw}{tk:Tok}
def XB{fill expr:Bool}(X:K.In s.heap)(I:D_ s.heap x ox C od)(b:w_ K (.ref C) (eQ "__getattribute__")=a_ (a_<|.builtin jk))(c:w_ K (.ref C) (eQ "__getattr__")=a_ b_)(d:A_ K C (.type "BaseException")=a_ c_)(h:bz (bK prog w) A.in1 (Builtin.«object.__getattribute__» {pos:=[.ref x,.str name tk]}) (λa s'=>∃v,a=CZ (Flow.ret v)/\bz (bK prog w) A (handedOut v) Q E s') (λ_ _=>False) s):bz (bK prog w) A (getAttrBy (.ref x) (.str name tk) fill expr) Q E s:=by
 have f:=W.InstAt.type (M:=bK prog w) I;have g:=W.looks_findIn (M:=bK prog w) X b;have L2:=W.looks_findIn (M:=bK prog w) X c;unfold getAttrBy;refine mj<|ak<|f.here<|ak<|g.here ?_;show bz (bK prog w) A (if (onTheHeap (.ref C)&&(Al jk==Al "object.__getattribute__"))=c_ then _ else getAttrByItsOwn (.ref x) (.str name tk) (.ref C) (.builtin jk) fill expr) Q E s
 have i:(onTheHeap (.ref C)&&(Al jk==Al "object.__getattribute__"))=false:=by
  show (c_&&(Al jk==Al "object.__getattribute__"))=d_;decide +kernel
 rw[i,ei dS];unfold getAttrByItsOwn;refine ak<|L2.here<|ak<|FK<|mj ?_
 have j:callGetattribute (.ref x) (.str name tk) (.builtin jk) expr=boundAndCalled (.builtin jk) (.ref x) (.str name tk):=by
  unfold callGetattribute;rw[ei (by cases expr <;> decide)]
 rw[j];unfold boundAndCalled;rw[aht];refine ak<|aO ?_;show bz (bK prog w) A (call (.builtin jk) [.ref x,.str name tk]) _ _ s;have k:s_ (bK prog w) s.heap (CB (.ref x)<|.type "BaseException") true:=W.Looks.andThen (W.InstAt.type I)<|W.looks_mroIn X d;have h5:=ahu (.ref x)<|.str name tk;refine tj<|Th afS afT (ik (@W.check_slot (bK prog w) A.in1 (λ_ _=>False) s jk "BaseException" "__getattribute__" (.ref x) [.str name tk] [] (λ_ l=>l=s) ahs afR k h5 xz) (λ_ s1 e=>?_) λ_ _ z=>ip z);subst e;refine ik h (λa s' z=>?_) λ_ _ z=>ip z;obtain⟨v,e,z⟩:=z;subst e;exact z
def XD{Q:f_->g_->Prop}{r:KD}(X:K.In s.heap)(I:D_ s.heap x ox C od)(c:W.findObj K C od name=a_ r)
  (h:bz (bK prog w) A (match r with
    | aoM v=>ret v
    | aoN g a=>SY g a (.ref x)<|.ref C
    | aoL=>unsupported "no") (λb s'=>∃v,b=CZ (Flow.ret v)/\Q v s') (λ_ _=>False) s) (d:r≠.missing) :
  bz (bK prog w) A (Builtin.«object.__getattribute__» {pos:=[.ref x,.str name tk]}) (λb s'=>∃v,b=CZ (Flow.ret v)/\Q v s') (λ_ _=>False) s:=by
 have e:=W.InstAt.type (M:=bK prog w) I;have f:=W.looks_find (M:=bK prog w) X I c;refine ak<|aO<|ak<|aO<|ak<|e.here<|ak<|f.here ?_;cases r with
 | value v=>exact h
 | bind g a=>exact h
 | missing=>exact eo xz d
end
def aiy:classOwn (nX "ValueError") (eQ "__setattr__")=pure none:=by kernel_rfl
def aki:classOwn (nX "Exception") (eQ "__setattr__")=pure none:=by kernel_rfl
def aiz:classOwn (nX "BaseException") (eQ "__setattr__")=pure none:=by kernel_rfl
theorem Ug:∀{l:List f_},tH l=c_->∃b:List e_,l=b.map bN++xh
 | [],h=>by cases h
 | v::r,h=>by
  cases v with
  | ref a=>
   exact oE (Ug (l:=r) h) λb e=>⟨a::b,by rw[e];rfl⟩
  | type a=>
   have h':(a=="ValueError"&&(r==[.type "Exception",.type "BaseException",.type "object"]))=true:=h;rw[fY]at h';refine⟨[],?_⟩;rw[CL h'.1,CL h'.2];rfl
  | _=>cases h
theorem UI(self:f_):∀b:List e_,L8 self (eQ "__setattr__") (b.map bN++xh)=pure ()
 | []=>by
  have e:=W.refuse_only self (l:=[.type "object"]) rfl;show L8 self (eQ "__setattr__") [.type "ValueError",.type "Exception",.type "BaseException",.type "object"]=pure ();unfold L8 at e ⊢;simp only[Ai,aiy,aki,aiz,pure_bind,Option.isSome_none,yb,if_false]at e ⊢;exact e
 | a::b=>by
  have e:=UI self b;rw[fu,TQ];unfold L8 at e ⊢;rw[Ai];simp only[pure_bind];exact e
section
variable{prog:l_}{w:k_}{A:h_}{K:u_}{C x:e_}{s:g_}{ox:cB}{od:Option cB}{name:cw}{tk:Tok}{v:f_}
def Vl(X:K.In s.heap)(I:D_ s.heap x ox C od)(d:W.clsIn K C=a_ cd)(g:tH cd.mro=c_)(ha:w_ K (.ref C) name=a_ b_)
  (h:bz (bK prog w) A.in1 (aoK (.ref x) (.ref C) (.str name tk) name v d_) (λa s'=>match a with | CZ f=>R (VU f) s' | Fin.again c'=>c'.quiet=c_/\codeAny (bK prog w) A c' R s') (λe s'=>R (LM e) s') s) :
  codeAny (bK prog w) A (Code.call (.builtin "object.__setattr__") {pos:=[.ref x,.str name tk,v]}) R s:=by
 have b:=F.store_object;refine oE (Ug g) λi c=>?_;have ne:cd.mro.isEmpty=false:=by rw[c];cases i <;> rfl
 have j:cd.mro.contains (.type "object")=true:=by rw[c,List.contains_eq_mem];exact eu<|ig _ (by simp)
 have k:s_ (bK prog w) s.heap (CB (.ref x)<|.type "object") true:=W.Looks.andThen (W.InstAt.type I) (W.looks_mroIn X (by
  unfold A_;rw[d,Lf,ei (by rw[ne];exact dS),j]))
 have hm:s_ (bK prog w) s.heap (mroOf<|.ref C) cd.mro:=W.Looks.andThen (W.looks_clsIn X d) W.Looks.now;have h1:=b.slot.plain;have h2:=b.entry;have h3:=b.kind;have h4:=b.split;have h5:=b.args (.ref x) (.str name tk) v
 have l:bz (bK prog w) A.in1 (Builtin.«object.__setattr__» {pos:=[bN x,Gj name tk,v]})
   (λa s'=>match a with | CZ f=>R (VU f) s' | Fin.again c'=>c'.quiet=c_/\codeAny (bK prog w) A c' R s') (λe s'=>R (LM e) s') s:=by
  rw[W.osa_eq,refuse_eq];refine ak<|ak<|W.Looks.here (W.InstAt.type I)<|ak<|W.Looks.here hm ?_;rw[c,UI];exact aO<|ak<|W.Looks.here (W.InstAt.type I)<|ak<|W.Looks.here (W.looks_findIn X ha)<|ak<|aO h
 refine Th h1 h2 ?_;exact @W.check_slot (bK prog w) A.in1 (λe s'=>R (LM e) s') s "object.__setattr__" "object" "__setattr__" (.ref x) [.str name tk,v] [] (λ_ m=>bz (bK prog w) A.in1 (Builtin.«object.__setattr__» {pos:=[bN x,Gj name tk,v]}) (λa s'=>match a with | CZ f=>R (VU f) s' | Fin.again c'=>c'.quiet=c_/\codeAny (bK prog w) A c' R s') (λe s'=>R (LM e) s') m) h3 h4 k h5 l
def aeU{sl:Array (Option f_)}(X:K.In s.heap)(c:s.heap.get? x=a_ ⟨.ref C,b_,.fields vs,sl⟩)(hs:w_ K (.ref C) "__setattr__"=a_ (a_<|.builtin "object.__setattr__"))(f:W.clsIn K C=a_ cd)(l:tH cd.mro=c_)(hd:cd.hasDict=c_)(ha:w_ K (.ref C) name=a_ b_)(h:∀h',h'.get? x=a_ ⟨.ref C,a_ s.heap.objs.size,.fields vs,sl⟩->h'.Ns1 s.heap.objs.size (λy=>if y=name then a_ v else b_)->(∀b o,b≠x->s.heap.get? b=a_ o->h'.get? b=a_ o)->Q () {s with heap:=h',toks:=s.toks+2}):bz (bK prog w) A (setAttr (.ref x) name v) Q E s:=by
 have J:D_ s.heap x ⟨.ref C,b_,.fields vs,sl⟩ C none:=⟨c,xz,xz,nY⟩;have nx:x≠s.heap.objs.size:=fh<|bP c;refine W.set_plain X J hs<|Vl (s:={s with toks:=s.toks+1}) X J f l ha<|ak<|aO<|ak<|ak<|Lp c<|ak<|W.Looks.here (s:={s with toks:=s.toks+1}) (W.looks_clsIn X f) ?_;rw[hd];refine ak<|wpAny_alloc<|ak ?_;have i:(s.heap.push {cls:=.type "dict",data:=.dict #[]}).get? x=a_ ⟨.ref C,b_,.fields vs,sl⟩:=bo _ c;refine wpAny_update i<|aO (a:=a_ s.heap.objs.size)<|ak<|aO<|ak ?_;have d1:(s.heap.push {cls:=.type "dict",data:=.dict #[]}).get? s.heap.objs.size=a_ {cls:=.type "dict",data:=.dict #[]}:=iF _ rfl;generalize d:(s.heap.push {cls:=.type "dict",data:=.dict #[]}).update x (λo=>{cls:=o.cls,dict:=a_ s.heap.objs.size,data:=o.data,slots:=o.slots})=h1;have m:h1.get? x=a_ ⟨.ref C,a_ s.heap.objs.size,.fields vs,sl⟩:=by rw[<-d];exact Ab _ i xz
 have n:h1.get? s.heap.objs.size=a_ {cls:=.type "dict",data:=.dict #[]}:=by rw[<-d,sM _ _ nx];exact d1
 have p:h1.Ns1 s.heap.objs.size (λ_=>b_):=⟨_,_,_,n,xz,λe q=>eo q (by simp),ab2,λ_=>rfl⟩;refine Uj (s:={s with heap:=h1,toks:=s.toks+1}) p λh' j k=>?_;have wi:PySem.Within (λ_:cw=>(b_:Option f_)) []:=λg r=>eo xz r;refine jx (j.count<|PySem.Within.cons name v wi) λD F G t u z=>ak<|TC t (by rw[u];exact TH<|cQ z<|by show 1<=aX+1;decide)<|aO (h _ ((k.2 _ nx).fC m) j λb o B e=>?_);have nd:b≠s.heap.objs.size:=fh<|bP e;rw[k.2 _ nd];show h1.get? b=a_ o;rw[<-d,sM _ _<|eJ B];exact bo _ e
def aeT{sl:Array (Option f_)}(X:K.In s.heap)(b:s.heap.get? x=a_ ⟨.ref C,a_ dx,.fields vs,sl⟩)(hn:s.heap.Ns1 dx mA)(hw:PySem.Within mA ns)(hsz:ns.length<=aX)(hs:w_ K (.ref C) "__setattr__"=a_ (a_<|.builtin "object.__setattr__"))(c:W.clsIn K C=a_ cd)(e:tH cd.mro=c_)(hd:cd.hasDict=c_)(ha:w_ K (.ref C) name=a_ b_)(h:∀h',h'.Ns1 dx (λy=>if y=name then a_ v else mA y)->sX dx s.heap h'->Q () {s with heap:=h',toks:=s.toks+2}):bz (bK prog w) A (setAttr (.ref x) name v) Q E s:=by
 refine aJ (Mp hn) λod f l=>?_;have J:D_ s.heap x ⟨.ref C,a_ dx,.fields vs,sl⟩ C (a_ od):=⟨b,xz,xz,f⟩;refine W.set_plain X J hs<|Vl (s:={s with toks:=s.toks+1}) X J c e ha<|ak<|aO<|ak<|ak<|Lp b<|ak<|W.Looks.here (s:={s with toks:=s.toks+1}) (W.looks_clsIn X c) ?_;rw[hd];exact aO (a:=a_ dx)<|ak<|aO<|ak (Uj (s:={s with toks:=s.toks+1}) hn λh' d g=>jx (d.count<|PySem.Within.cons name v hw) λm n o i j k=>ak<|TC i (by rw[j];exact TH<|cQ k<|by rw[gE];lia)<|aO<|h _ d g)
def ahr{sl:Array (Option f_)}(X:K.In s.heap)(a:s.heap.get? x=a_ ⟨.ref C,a_ dx,.fields vs,sl⟩)(hn:s.heap.Ns1 dx mA)(b:w_ K (.ref C) (eQ "__getattribute__")=a_ (a_<|.builtin jk))(c:w_ K (.ref C) (eQ "__getattr__")=a_ b_)(d:A_ K C (.type "BaseException")=a_ c_)(e:F_ K C=c_)(ha:w_ K (.ref C) name=a_ b_)(hv:mA name=a_ v)(f:W.handedIn v=c_)(h:Q v {s with toks:=s.toks+1}):bz (bK prog w) A (getAttr (.ref x) name expr) Q E s:=by
 refine aJ (Mp hn) λod g i=>?_;have J:D_ s.heap x ⟨.ref C,a_ dx,.fields vs,sl⟩ C (a_ od):=⟨a,xz,xz,g⟩;have j:=W.findObj_own e ha xz (show W.lookIn name od=a_ (a_ v) by rw[i,hv]);unfold getAttr;refine ak<|wpAny_mkText<|XB (s:={s with toks:=s.toks+1}) X J b c d<|XD (s:={s with toks:=s.toks+1}) (r:=.value v) X J j (aO ⟨v,xz,W.handed_on f h⟩) (by intro z;cases z)
end
def Ij(K:u_)(C:e_):Prop:=OL K C xh "ValueError.__new__"=c_
def Ij.at{K:u_}(x:Ij K C)(X:K.In h):∃f,ur h C f:=by
 unfold Ij OL at x
 split at x
 .rename_i dd cd sl g
  split at x
  .rename_i u i k0 k1 b c n d hm hs
   simp only[fY,fv,ab4]at x;refine oA x λa aM=>oA a λa j=>oA a λa e=>oA a λk m=>?_;subst k m;obtain⟨nm,bs,mro,ns,o,hd,p,q,r,s,del⟩:=cd;dsimp only at hm e aM;subst hm e
   have t:sl=#[k0,k1,b,c,a_<|.builtin "ValueError.__new__",d]:=by
    obtain⟨l⟩:=sl;exact fw GU hs
   subst t;exact⟨_,⟨nm,o,ns,bs,i,hd,p,q,r,s,dd,k0,k1,b,c,d,_,X _ _ g,.of_isNs<|W.isNs_of_in X aM,xz,W.tail_of_in X j⟩⟩
  .cases x
 .cases x
section
variable{prog:l_}{w:k_}{A:h_}{E:f_->g_->Prop}{h:j_}{g:Array GenState}{d:Drawn}{t:Nat}{os:cj}{C f:e_}
def aer(x:ur h C oi)(j:us.length<=aX)(k:∀h',(∀b o,h.get? b=a_ o->h'.get? b=a_ o)->s_ (bK prog w) h' (FY (.ref C) "__init__") (a_<|.ref f))(l:∀h' self,(∀b o,h.get? b=a_ o->h'.get? b=a_ o)->s_ (bK prog w) h' (bindSpecial (.ref f) self) (.ref f,[self]))(m:bz (bK prog w) A (call (.ref f) (.ref (h.objs.size+1)::us)) (λv s'=>v=.none/\Q (.done<|.ret<|.ref<|h.objs.size+1) s') E ⟨(h.push<|Ei us).push<|newX C h.objs.size,g,d,t,os⟩):bz (bK prog w) A (Builtin.«type.__call__» ⟨.ref C::us,[]⟩) Q E ⟨h,g,d,t,os⟩:=by
 refine qd x λnm q N bs n u B D G H p=>FQ p λdd k0 k1 I J K L a hN hi T=>?_;have c:=PySem.F.excBase_ValueError
 repeat (first | (with_reducible refine wm a ?_) | (with_reducible refine wpAny_madeBy_exc a ?_) | wp_step)
 refine abn (KS _ c.quiet)<|wpAny_check_new_subU c xz T a<|codeAny_exc_new_subU c xz c T a ?_ j;show bz _ _ _ _ _ _;have i:∀b o,h.get? b=a_ o->((h.push {cls:=.type "tuple",data:=.seq us.toArray}).push {cls:=.ref C,data:=.fields #[.ref h.objs.size,.none,.none,.none,.bool d_,.none]}).get? b=a_ o:=λb o z=>bo _<|bo _ z;have c1:=i _ _ a;have r:((h.push {cls:=.type "tuple",data:=.seq us.toArray}).push {cls:=.ref C,data:=.fields #[.ref h.objs.size,.none,.none,.none,.bool d_,.none]}).get? (h.objs.size+1)=a_ {cls:=.ref C,data:=.fields #[.ref h.objs.size,.none,.none,.none,.bool d_,.none]}:=by heap_get
 have s:(bN C::n).contains (.ref C)=true:=by simp
 unfold CB
 repeat (first | (with_reducible refine wm r ?_) | (with_reducible refine Tj c1 ?_;rw[s]) | wp_step)
 show bz _ _ (FY (.ref C) _) _ _ _;refine(k _ i).at (mj<|ak<|(l _ _ i).at<|ak<|ik m (λv s' z=>?_) λ_ _ y=>y);obtain⟨e,z⟩:=z;subst e;exact aO<|aO z
def aes(x:ur h C oi)(e:us.length<=aX)(i:∀h',(∀b o,h.get? b=a_ o->h'.get? b=a_ o)->s_ (bK prog w) h' (FY (.ref C) "__init__") (a_<|.ref f))(j:∀h' self,(∀b o,h.get? b=a_ o->h'.get? b=a_ o)->s_ (bK prog w) h' (bindSpecial (.ref f) self) (.ref f,[self]))(k:bz (bK prog w) (A.under<|Code.builtin "type.__call__" ⟨.ref C::us,[]⟩) (call (.ref f) (.ref (h.objs.size+1)::us)) (λv s'=>v=.none/\Q (.ref<|h.objs.size+1) s') E ⟨(h.push<|Ei us).push<|newX C h.objs.size,g,d,t,os⟩):bz (bK prog w) A (call (.ref C) us) Q E ⟨h,g,d,t,os⟩:=by
 refine qd (id x) λnm q N bs l m n p s u a=>jw a λdd k0 k1 y z a=>dC a λB D c r=>?_;have F:=tc_lookup;have G:=tc_bind<|.ref C;have H:(⟨h,g,d,t,os⟩:g_).TypeIs (.ref C) "type":=⟨_,c,xz⟩;refine tj<|codeAny_of_tree ?_;show bz _ _ (callAny (.ref C) _) _ _ _
 repeat (any_goals (first | assumption | (with_reducible refine wm c ?_) | wp_step))
 exact⟨xz,abr (KS _ dk) entry_typeCall<|abl c<|aer x e i j k⟩
end
def kj(d:e_)(fs:List (cw×V)):HO:=.ext λh=>fs.length<=1000/\∃mA,h.Ns1 d mA/\(∀f,mG (fs.lookup f)<|mA f)/\PySem.Within mA (fs.map (·.1))
def X5{P:l_}{w:k_}{fs:List (cw×V)}(l:fs.length<=1000)(n:h.Ns1 d mA)(r:∀f,mG (fs.lookup f)<|mA f)(wi:PySem.Within mA (fs.map (·.1))):hZ P w H h d (kj d fs):=by
 exact gQ ⟨l,mA,n,r,wi⟩ (rE n λo _ _ e _=>⟨o,e⟩) λh1 h2⟨l,m,n,r⟩k=>⟨l,m,rE n λo es a e c=>⟨o,es,a,(k _ e),c⟩,r⟩
noncomputable def nI(ea:e_)(c:f_)(dd:Option e_)(vs:Array f_):HO:=.ext λh=>∃o,h.get? ea=a_ o/\o.cls=c/\o.dict=dd/\o.data=.fields vs
def YU{P:l_}{w:k_}{sl:Array (Option f_)}(e:h.get? ea=a_ ⟨c,dd,.fields vs,sl⟩):hZ P w H h ea (nI ea c dd vs):=
 ⟨⟨_,e,xz,xz,xz⟩,⟨_,e⟩,λ_ _⟨o,e,r⟩k=>⟨o,k o e,r⟩⟩
noncomputable def del(H:Hp)(a:e_):Hp:=λb=>if b=a then b_ else H b
def af5:del H a a=none:=by unfold del;rw[ek rfl]
def yy(h:b≠a):del H a b=H b:=by unfold del;rw[ei h]
def af4(h:del H a b=a_ o):b≠a/\H b=a_ o:=by
 unfold del at h
 split at h
 .cases h
 .rename_i n;exact⟨n,h⟩
def GC(h:H b=b_):del H a b=none:=by
 unfold del
 split
 .rfl
 .exact h
def dc.del(I:dc X p_ σ H s)(e:H a=a_ (.ext φ)):dc X p_ σ (del H a) s:=by
 refine⟨I.ok,I.os,I.bare,⟨I.base.keep,I.base.slot,λb o q n d=>GC<|I.base.free b o q n d,I.base.there,λb xs q=>?_,λb o u q=>?_,λb ps q=>?_⟩,I.loc,I.cell,GC I.free,λx c q=>GC<|I.jP x c q,λp f=>?_,λb u q=>?_,I.len⟩
 .have z:=I.base.oY b xs q;rw[yy<|hV z e (by intro y;cases y)];exact z
 .have z:=I.base.oq b o u q;rw[yy<|hV z e (by intro y;cases y)];exact z
 .exact oE (I.base.oo b ps q) λm z=>⟨m,by rw[yy<|hV z e (by intro y;cases y)];exact z⟩
 .exact jm (I.pin p f) λg h i=>gQ g (GC h) i
 .refine oA (af4 q) λj q=>(I.aM b u q).qw (λ_ _ _ z=>z) (λc z=>?_) λc xs z=>?_
  .rw[yy<|hV z e (by intro y;cases y)];exact z
  .rw[yy<|hV z e (by intro y;cases y)];exact z
structure XF(K:u_)(C:e_):Prop where
 sa:w_ K (.ref C) "__setattr__"=a_ (a_<|.builtin "object.__setattr__")
 cd:∃cd,W.clsIn K C=a_ cd/\tH cd.mro=c_/\cd.hasDict=c_
 ga:w_ K (.ref C) (eQ "__getattribute__")=a_ (a_<|.builtin jk)
 gt:w_ K (.ref C) (eQ "__getattr__")=a_ b_
 be:A_ K C (.type "BaseException")=a_ c_
def XF.hd{K:u_}(x:XF K C):F_ K C=true:=by
 refine aZ x.cd λcd h1 _ h2=>?_;unfold F_;rw[h1];exact h2
section
variable{X:Cx}{p_:List (e_×cB)}{σ:St}{H:Hp}{s:g_}{a C d:e_}{fs:List (cw×V)}{f:cw}{v:V}{A:h_}{E:f_->g_->Prop}
def OK{P:l_}{w:k_}(ok:fV P w H h)(e:H a=a_ (nI a c dd vs)):∃sl,h.get? a=a_ ⟨c,dd,.fields vs,sl⟩:=by
 refine oA (ok a _ e) λg _=>eh g λo q b hd hv=>?_;obtain⟨i,d',j,sl⟩:=o;dsimp only at b hd hv;subst b hd hv;exact⟨sl,q⟩
def YW{P:l_}{w:k_}(ok:fV P w H h)(e:H a=a_ (ko a c dd)):∃vs sl,h.get? a=a_ ⟨c,dd,.fields vs,sl⟩:=by
 refine oA (ok a _ e) λg _=>Oo g λo vs q b hd hv=>?_;obtain⟨i,d',j,sl⟩:=o;dsimp only at b hd hv;subst b hd hv;exact BC vs sl q
def NR{P:l_}{w:k_}(ok:fV P w H h)(e:H d=a_ (kj d fs)):fs.length<=1000/\∃mA,h.Ns1 d mA/\(∀f,mG (fs.lookup f)<|mA f)/\PySem.Within mA (fs.map (·.1)):=(ok d _ e).1
def ahq(I:dc X p_ σ H s)(e:H a=a_ (ko a (.ref C)<|a_ d))(i:H d=a_ (kj d fs))(c:XF X.K C)(n:bp X.K C f)(l:fs.lookup f=a_ v)(h:∀u s',dc X p_ σ H s'->df v u->Q u s'):bz (bK X.prog X.w) A (getAttr (.ref a) f b) Q E s:=by
 refine Ji (YW I.aM e) λvs sl j=>oA (NR I.aM i) λ_ k=>aZ k λmA hn r _=>?_;obtain⟨u,m,g⟩:=mG.some_of (v:=v) (o:=mA f) (by rw[<-l];exact r f);exact ahr I.cZ j hn c.ga c.gt c.be c.hd n m (Vw g)<|h u _ (I.tok _) g
def aeS(I:dc X p_ σ H s)(e:H a=a_ (nI a (.ref C) b_ vs))(c:XF X.K C)(n:bp X.K C f)(l:df y u)(h:∀d s',H d=b_->dc X p_ σ (db (db H a<|nI a (.ref C) (a_ d) vs) d<|kj d [(f,y)]) s'->Q () s'):bz (bK X.prog X.w) A (setAttr (.ref a) f u) Q E s:=by
 refine oE (OK I.aM e) λsl i=>aZ c.cd λcd h1 h2 h3=>aeU I.cZ i c.sa h1 h2 h3 n λh' j m k=>h s.heap.objs.size _ (I.aM.fresh<|aD _) ?_
 have o:dc X p_ σ (db H a<|nI a (.ref C) (a_ s.heap.objs.size) vs) {s with heap:=h',toks:=s.toks+2}:=
  I.write (x:=a) (e:=a) (by rw[e];exact nY) (.inl xz) (λb q p z=>k b q p z) ⟨_,j⟩ (YU j)
 have hn:db H a (nI a (.ref C) (a_ s.heap.objs.size) vs) s.heap.objs.size=none:=by
  rw[ah<|uX<|bP i];exact I.aM.fresh<|aD _
 have fp:=I.gz (aD _) hn;refine o.adopt hn I.sz fp.2.1 fp.2.2.2.2.1 fp.2.2.2.2.2 (X5 (by show 1<=1000;decide) m (λg=>?_) λg r=>?_)
 .show mG (([(f,y)]:List (cw×V)).lookup g) (if g=f then a_ u else b_)
  by_cases q:g=f
  .rw[ek q,q,Aa];exact l
  .rw[ei q,qR,fi.mpr q];exact nY
 .by_cases q:g=f
  .rw[q];exact c7.mpr xz
  .exact eo (ei q) r
def aeR(I:dc X p_ σ H s)(e:H a=a_ (nI a (.ref C) (a_ d) vs))(i:H d=a_ (kj d fs))(c:XF X.K C)(n:bp X.K C f)(F:fs.length<1000)(k:df y u)(h:∀s',dc X p_ σ (db H d<|kj d<|aN f y fs) s'->Q () s'):bz (bK X.prog X.w) A (setAttr (.ref a) f u) Q E s:=by
 refine oE (OK I.aM e) λsl l=>oA (NR I.aM i) λ_ m=>aZ m λmA hn r wi=>aZ c.cd λcd h1 h2 h3=>?_;have p:(fs.map (·.1)).length<=aX:=by rw[aS,ij];lia
 refine aeT I.cZ l hn wi p c.sa h1 h2 h3 n λh' j t=>h _ ?_;have hd:∃o,h'.get? d=a_ o:=let ⟨o,_,_,e',_⟩:=j;⟨o,e'⟩
 refine I.write (x:=d) (e:=d) (by rw[i];exact nY) (.inl xz) (λb q B z=>(t.2 b B).fC z) hd (X5 ?_ j (λg=>?_) λg D=>?_)
 .have:=qW f y fs;lia
 .show mG ((aN f y fs).lookup g) (if g=f then a_ u else mA g);rw[fJ]
  by_cases q:g=f
  .rw[ek q,ek q];exact k
  .rw[ei q,ei q];exact r g
 .by_cases q:g=f
  .rw[q];exact(CH f y fs).1
  .refine(CH f y fs).2 g (wi g λz=>D ?_);show (if g=f then a_ u else mA g)=b_;rw[ei q];exact z
end
def Zg(K:u_)(c:TE)(f:cw):TE:=λσ H Q=>c σ H λx b=>∃a C d fs v,x=.ref a/\b a=a_ (ko a (.ref C)<|a_ d)/\b d=a_ (kj d fs)/\XF K C/\bp K C f/\fs.lookup f=a_ v/\Q v b
def aif(K:u_)(c tv:TE)(f:cw):TS:=λD σ H=>tv σ H λy e=>c σ e λx b=>∃a C vs,x=.ref a/\b a=a_ (nI a (.ref C) b_ vs)/\XF K C/\bp K C f/\
 ∀d,b d=b_->D.nx σ (db (db b a<|nI a (.ref C) (a_ d) vs) d<|kj d [(f,y)])
def aie(K:u_)(c tv:TE)(f:cw):TS:=λD σ H=>tv σ H λy e=>c σ e λx b=>∃a C vs d fs,x=.ref a/\b a=a_ (nI a (.ref C) (a_ d) vs)/\b d=a_ (kj d fs)/\XF K C/\bp K C f/\fs.length<1000/\
 D.nx σ (db b d<|kj d<|aN f y fs)
section
variable{X:Cx}{o e value:bT}{f:cw}{pos pos':Pos}{ta tv:TE}
def agM(ha:PE X e ta)(g:Cu e f X.env (eval e X.env)=eval e X.env):PE X (.Attribute e f pos) (Zg X.K ta f):=by
 intro p_ s σ H Q I h;refine XX g (aT (ha p_ s σ H _ I h) λu s1 b=>gf b λx i j k b=>jw b λa C d fs v b=>rj b λex ea m c n b=>oA b λl q=>?_);subst ex;obtain rfl:u=bN a:=k;exact ahq j ea m c n l λu s2 p r=>(dG v i p r q)
def ae8(ha:PE X o ta)(hv:PE X value tv)(hs:AA value (a_<|.Attribute o f pos') pos.line X.env=pure d_):PS X (.Assign [.Attribute o f pos'] value pos) (aif X.K ta tv f):=by
 intro p_ s σ H D I h;refine SR (Jf (hv p_ s σ H _ I h) λu s1 y g i j q=>aT (ha p_ s1 σ g _ i q) λov s2 b=>?_) hs;refine gf b λx r k l b=>nr b λa C vs b=>AX b λex ea c n m=>?_;subst ex;obtain rfl:ov=bN a:=l;exact aeS k ea c n j λd t hd p=>(gw σ _ p<|m d hd)
def ae7(ha:PE X o ta)(hv:PE X value tv)(hs:AA value (a_<|.Attribute o f pos') pos.line X.env=pure d_):PS X (.Assign [.Attribute o f pos'] value pos) (aie X.K ta tv f):=by
 intro p_ s σ H D I h;refine SR (Jf (hv p_ s σ H _ I h) λu s1 y g i j q=>aT (ha p_ s1 σ g _ i q) λov s2 b=>?_) hs;refine gf b λx v k m b=>jw b λa C vs d fs b=>rj b λex ea p c n b=>oA b λl r=>?_;subst ex;obtain rfl:ov=bN a:=m;exact aeR k ea p c n l j λw t=>(gw σ _ t r)
end
structure pi(K:u_)(C f:e_):Prop where
 exc:Ij K C
 init:w_ K (.ref C) "__init__"=a_ (a_<|.ref f)
 fn:PySem.W.isFn K (.ref f)=c_
 kp:x_ K (.ref C)=c_
noncomputable abbrev OD(t:e_):Array Value:=#[.ref t,.none,.none,.none,.bool d_,.none]
def agi(C:e_)(sp:Sp)(W:WX)(t:TA):TS:=λ_ σ H=>t σ H λvs a=>vs.length<=aX/\∀ea b,a ea=b_->sp (.ref ea::vs) (db a ea<|nI ea (.ref C) b_<|OD b)
 (λr c=>r=.aH/\∃dd,c ea=a_ (nI ea (.ref C) dd<|OD b)/\W σ (.ref C) dd (del c ea)) (λ_ _ _=>False)
section
variable{X:Cx}{W:WX}{k:Nat}{C f:e_}{fd:ir}{ps:List cw}{sp:Sp}{x:cw}{np nG pos:Pos}{e:bT}{es:List bT}{t:TA}{P:l_}{w:k_}
def ad0(E:X.calm=c_)(G:qt X W)(xc:pi X.K C f)(F:aE P w X.K X.mg X.base aL k f fd ps sp)(J:eM (k+1) X.A)(L:dt X.K fd ps [])(M:Gl X x)(hm:X.mg x=a_ (.ref C))(ha:PA X (e::es) t)
  (N:autoParam (X.prog=P) am) (hw:autoParam (X.w=w) am) (O:autoParam ((x==("__debug__":cw))=false) ap)
  (Q:autoParam (cg (e::es) X.env=(d_,eval e X.env)::cg es X.env) am) (R:autoParam ((cc nG<|cg es X.env).any (·.1)=false) am) :
  PS X (.Raise (a_<|.Call (.Name x np) (e::es) [] nG) b_ pos) (agi C sp W t):=by
 subst N hw;intro p_ s σ H D I h;rw[arm_exec_Raise];refine ak<|Ak<|UJ (C:=C) (I.ok.hd E)<|ak (ik ?_ (λv s3 z=>ak<|Ak<|aO z) λ_ _ y=>y);refine wc<|tI I M hm ?_ O;refine G_ (h₀:=X.base) I.ok.mod.pk xc.kp (Bx (ha nG p_ s σ H _ I h) λus s1 vs j c r S=>oA S λU q=>⟨c.cZ,?_⟩) Q R;refine oE (xc.exc.at c.cZ) λoi xa=>?_;obtain⟨h1,Y,d1,l,Z⟩:=s1;have pk:∀h':j_,(∀b o,h1.get? b=a_ o->h'.get? b=a_ o)->X.K.In h':=λh' k a o z=>k a o<|c.cZ a o z;refine aes (f:=f) xa (by rw[Ct,<-r.length];exact U) (λh' k=>PySem.W.looks_findIn (pk h' k) xc.init) (λh' self k=>PySem.W.bind_fn (pk h' k) self<|fv.mp xc.fn) ?_;rw[Ct];have fr:j (h1.objs.size+1)=none:=c.aM.fresh<|jf _;have m:=q (h1.objs.size+1) h1.objs.size fr;have ge:((h1.push<|Ei us).push<|newX C h1.objs.size).get? (h1.objs.size+1)=a_ (newX C h1.objs.size):=by heap_get
 have g:dc X p_ σ (db j (h1.objs.size+1)<|nI (h1.objs.size+1) (.ref C) b_<|OD h1.objs.size) ⟨(h1.push<|Ei us).push<|newX C h1.objs.size,Y,d1,l,Z⟩:=
  c.laid (t':=l) (h':=(h1.push<|Ei us).push<|newX C h1.objs.size) (λb o z=>bo _<|bo _ z) (jf _) (YU ge)
 have r2:dn (V.ref (h1.objs.size+1)::vs) (bN (h1.objs.size+1)::us):=.cons xz r
 have hl:(bN (h1.objs.size+1)::us++[]).length=ps.length:=by
  have e:=r2.length;rw[F.len _ _ _ _ m]at e;rw[pZ];exact e.fF
 have n:=L _ (bN (h1.objs.size+1)::us) g.cZ hl;rw[pZ]at n;refine tj (yf (F.run _ X.stack _ _ ⟨bN (h1.objs.size+1)::us,[]⟩ (bN (h1.objs.size+1)::us) _ _ _ (J.make C us []) (g.Eg.make C us []) n r2 m) λr s' d=>?_);cases r with
 | error e=>exact(show False from d).elim
 | ok fl=>
  cases fl with
  | next=>exact ip d
  | brk=>exact ip d
  | cont=>exact ip d
  | ret u=>
   refine Oo (g.after d) λv H' i rv ev ae=>aJ ae λdd p q3=>?_;subst ev;refine oE (OK i.aM p) λsl B=>oE (xc.exc.at i.cZ) λoi' xa'=>⟨rv,⟨_,_,_,_,⟨_,xz,xa',B,xz,xz,xz,xz,G _ _ _ _ _ _ _ (tb:=b_) ⟨i.del p,⟨⟨_,_,_,B,xz,xz,xz,xz,xz,λ_=>rfl⟩,λT z=>by cases z⟩,c.gz (jf _) af5,λT z=>by cases z⟩ q3⟩⟩⟩
end
end L2
namespace L2
open PySem.W L3
def acB{K:Frag}(b:(clsIn K C).isSome=c_)(ha:findIn K (.ref C) name=a_ (a_ a))(hn:specialIn K a (eQ "__get__")=a_ (a_ g))(c:takesIn K a=a_ c_):findObj K C od name=a_ (.bind g a):=by
 refine oE (Tb.mp b) λcd d=>?_;unfold findObj;rw[d,ha];simp only[Lf];rw[hn];simp only[Lf];rw[c];simp only[Lf]
structure Jq(K:Frag)(D:e_):Prop where
 ga:findIn K (.ref D) (eQ "__getattribute__")=a_ (a_<|.builtin jk)
 gn:findIn K (.ref D) (eQ "__getattr__")=a_ b_
 be:mroIn K D (.type "BaseException")=a_ c_
 hd:hasDictIn K D=c_
 cl:findIn K (.ref D) (eQ "__class__")=a_ (a_<|.builtin "object.__class__")
 gt:specialIn K (.builtin "object.__class__") (eQ "__get__")=a_ (a_<|.builtin "getset_descriptor.__get__")
 tk:takesIn K (.builtin "object.__class__")=a_ c_
 mr:mroIn K D (.type "object")=a_ c_
def adD{w:k_}{K:Frag}(c:Jq K D)(X:K.In s.heap)(I:InstAt s.heap x ox D od)(h:Q (a_<|.ref D) {s with toks:=s.toks+1}):bz (bK prog w) A (getAttr? (.ref x)<|eQ "__class__") Q E s:=by
 have a:=acB (od:=od) (by obtain⟨cd,b,_⟩:=any_some c.hd;rw[b];rfl) c.cl c.gt c.tk;unfold getAttr? getAttrBy?;refine ak<|wpAny_mkText<|ak<|FK<|XB (s:={s with toks:=s.toks+1}) (fill:=d_) (expr:=d_) X I c.ga c.gn c.be<|XD (s:={s with toks:=s.toks+1}) X I a ?_ (by intro z;cases z);show bz (bK prog w) A.in1 (SY (.builtin "getset_descriptor.__get__") (.builtin "object.__class__") (.ref x)<|.ref D) _ _ _;unfold SY;exact ak<|mj<|tj<|class_get (s:={s with toks:=s.toks+1}) X I c.mr<|aO<|au _ xz<|handed_on xz<|aO h
def afG{K:Frag}(c:Jq K D):KitX K (.ref x) (.ref D) (λh=>InstAt h x ox D od):=
 {ty:=λ_ _ _ I=>InstAt.type I
  it:=λM h X _=>by
   refine aJ (any_some c.hd) λcd a _=>?_;unfold clsIn at a
   split at a
   .rename_i oc dd f sl b
    intro g i j s' k q;exact ak<|Lp (k D _<|X D _ b)<|aO q
   .cases a
  ne:=λh l dd m n sl X d=>by
   refine aJ (any_some c.hd) λcd a _=>?_;unfold clsIn at a
   split at a
   .rename_i oc o f p b
    rw[Bool.eq_false_iff];intro q;have e:=bN.inj<|fv.mp q;subst e;rw[X _ _ b]at d;cases d
   .cases a
  ca:=λX I q=>adD c X I q}
def Zp(K:Frag):List V->Hp->VK->Prop:=λxs H Q=>∃ea D dd cl a b,xs=[.ref ea,cl]/\H ea=a_ (ko ea (.ref D) dd)/\(∀d,dd=a_ d->∃fs,H d=a_ (kj d fs))/\Jq K D/\Ql cl=a_ a/\kitOne K (.ref D) a=a_ b/\Q (.bl b) H
def aeB:my X (.builtin "isinstance") (Zp X.K):=by
 intro p_ s σ H xs us Q I r h;refine qV h λea D dd cl m b e g hd c a=>jm a λi j q=>?_;subst e;cases r with
 | cons k r2=>
  cases r2 with
  | cons r2 r3=>
   cases r3;cases WM i r2;cases k;refine Ji (YW I.aM g) λvs sl f=>?_
   have J:∃od,InstAt s.heap ea ⟨.ref D,dd,.fields vs,sl⟩ D od:=by
    cases dd with
    | none=>exact⟨b_,f,xz,xz,nY⟩
    | some d=>
     exact oE (hd d xz) λfs hd=>oA (NR I.aM hd) λ_ a=>aJ a λmA a _=>rE a λo es n l _=>⟨a_ o,⟨f,xz,xz,l⟩⟩
   exact oE J λod J=>kia_one (afG c) I.cZ J j (λz=>nomatch z) λtk=>(dG (.bl b) H (I.tok tk) xz q)
def OC(K:Frag)(h:autoParam (X.K=K) am):my X (.builtin "isinstance") (Zp K):=by subst h;exact aeB
end L2
namespace L2
open Sem (wp)
def adQ:fillsNumberSlot (.type "tuple") "mul"=pure false:=
 (PySem.fillsNumberSlot_seq (id:="tuple.__mul__") (r:=a_<|.builtin "tuple.__rmul__") Li.lookup dk F.slot_tuple_rmul.lookup dk)
def ada:seqRepeat? (.type "tuple")=pure (a_<|.builtin "tuple.__mul__"):=by
 unfold seqRepeat?;rw[(PySem.seqSlot_of (T:="tuple") (name:="__mul__") (id:="tuple.__mul__") Li.lookup dk),(PySem.seqSlot_of (T:="tuple") (name:="__rmul__") (id:="tuple.__rmul__") F.slot_tuple_rmul.lookup dk)];rfl
def acN(k:Int)(t:Tok)(l:e_)(items:Array f_)(n:Nat)(dd:Option e_)(sl:Array (Option f_)):Meets (Builtin.«int.__rmul__» ⟨[.int k t,.ref l],[]⟩) (λ_ R s=>s.heap.get? l=a_ ⟨.type "tuple",dd,.seq items n,sl⟩/\R (.ok<|.ret Value.notImplemented) s):=
 .of_wp λprog w A R s h=>by obtain⟨a,g,d,tk,os⟩:=s;obtain⟨b,h⟩:=h;wp_walk;exact(⟨_,xz,h⟩)
def aeM(l:e_)(items:Array f_)(n:Nat)(dd:Option e_)(sl:Array (Option f_))(t:Tok)(hv:items.isEmpty=d_):Meets (Builtin.«tuple.__mul__» ⟨[.ref l,.int 0 t],[]⟩) (λ_ R s=>s.heap.get? l=a_ ⟨.type "tuple",dd,.seq items n,sl⟩/\R (.ok<|.ret<|.ref s.heap.objs.size) {s with heap:=s.heap.push {cls:=.type "tuple",data:=.seq #[]}}):=
 .of_wp λprog w A R s h=>by
  obtain⟨a,g,d,tk,os⟩:=s;obtain⟨b,h⟩:=h
  wp_walk
  exact⟨_,xz,h⟩
def aeL(l:e_)(items:Array f_)(n:Nat)(dd:Option e_)(sl:Array (Option f_))(k:Int)(t:Tok)(hv:items.isEmpty=d_)(h1:1<k)(h2:k<2^62)(a:items.size*k.toNat<=aX):Meets (Builtin.«tuple.__mul__» ⟨[.ref l,.int k t],[]⟩) (λ_ R s=>s.heap.get? l=a_ ⟨.type "tuple",dd,.seq items n,sl⟩/\R (.ok<|.ret<|.ref s.heap.objs.size) {s with heap:=s.heap.push {cls:=.type "tuple",data:=.seq ((dB k.toNat items).foldl (· ++ ·) #[])}}):=
 .of_wp λprog w A R s h=>by
  obtain⟨f,g,d,tk,os⟩:=s;obtain⟨i,h⟩:=h;have c:((k.toNat:Nat):Int)=k:=li;have b:(items.size:Int)*k=((items.size*k.toNat:Nat):Int):=by rw[Int.natCast_mul,c]
  have j:items.size*k.toNat<=2^40:=cQ a qc
  have c1:¬((decide (k < -2^63)||decide (k ≥ 2^63))=c_):=by
   rw[eT li,eT li];exact dS
  have c2:¬((items.isEmpty||k==1)=c_):=by
   rw[hv,fi.mpr li];exact dS
  have c3:¬((decide (k<=0)||items.isEmpty)=c_):=by
   rw[hv,eT li];exact dS
  have c4:¬((items.size:Int)*k > (2^63-1)/8):=by
   rw[b];lia
  have c5:¬(abi ((items.size:Int)*k)=c_):=by
   rw[b];unfold abi;simp only[decide_eq_true_eq];have:(aX:Nat)<=aX:=aD _;lia
  have e:sizeOk (.seq<|(dB k.toNat items).foldl (· ++ ·) #[]):=by
   show ((dB k.toNat items).foldl (· ++ ·) #[]).size<=aX;have:=foldl_rep items.toList k.toNat [];simp only[Array.toArray_toList,Ct]at this;rw[this,eW,len_rep,v8,Up];exact a
  wp_walk
  rw[ei c1]
  wp_walk
  rw[ei c2]
  wp_walk
  rw[ei c3];dsimp only;rw[ei c4];rw[ei c5];refine ak (m:=Fp _)<|we ?_ e;exact aO ⟨_,xz,h⟩
section
variable{X:Cx}
def akc(K:u_):R2:=λx y H Q=>∃a k xs,x=.ref a/\y=.int k/\az K H a xs/\xs≠[]/\(k=0\/1<k)/\k<2^62/\xs.length*k.toNat<=aX/\
 ∀p,H p=b_->Q (.ref p) (db H p<|.tup (dB k.toNat xs).flatten)
def Xi:fG X (oO .Mult) (akc X.K):=by
 intro p_ s σ H x y v u Q I m p h;obtain⟨a,k,xs,rfl,rfl,ha,w,f,h2,g,q⟩:=h;cases m;obtain⟨t,rfl⟩:=p;obtain⟨c,r,z,D⟩:=I.tuple ha;have i:=r.length
 have j:c.toArray.isEmpty=false:=by
  cases c with
  | nil=>exact eo (Fq.mp i) w
  | cons a b=>rfl
 obtain⟨⟨E,dd,data,sl⟩,d,l,n,hd⟩:=id z;simp only at l hd;subst l hd
 refine abm (T:="tuple") (U:="int") qc ⟨_,d,xz⟩ (λs'=>FZ s' k t) adQ F.fills_int_mul Lm ada F.slot_int_index.lookup
  (yn Lm (FZ s k t) F.entry_int_rmul (F.args_int_rmul_2 _ _) (acN k t a c.toArray n dd sl) ⟨d,xz,⟨_,d,xz⟩,?_⟩)
 obtain rfl|f:=f
 .refine yn Li ⟨_,d,xz⟩ F.entry_tuple_mul (F.args_tuple_mul_2 _ _) (aeM a c.toArray n dd sl t j) ⟨d,⟨.ref s.heap.objs.size,_,I.laid (t':=s.toks) (o:=.tup []) (λb A q=>bo _ q) (aD _) ?_,xz,q _<|I.aM.fresh<|aD _⟩⟩;exact⟨bJ _,[],.nil,Gk _ _⟩
 .refine yn Li ⟨_,d,xz⟩ F.entry_tuple_mul (F.args_tuple_mul_2 _ _) (aeL a c.toArray n dd sl k t j f h2<|by rw[eW,<-i];exact g) ⟨d,?_⟩
  have e:Ma (λB C=>B++C) #[] (dB k.toNat c.toArray)=(dB k.toNat c).flatten.toArray:=by
   have:=foldl_rep c k.toNat [];rw[Ct]at this;exact this
  rw[e];refine⟨.ref s.heap.objs.size,_,I.laid (t':=s.toks) (o:=.tup (dB k.toNat xs).flatten) (λb A q=>bo _ q) (aD _) ?_,xz,q _<|I.aM.fresh<|aD _⟩;exact⟨by rw[len_rep,Up];exact g,_,r.rep k.toNat,Gk _ _⟩
end
end L2
namespace HT
open Sem (wp)
section
variable{prog:l_}{w:k_}{A:h_}{E:f_->g_->Prop}{s:g_}
def abO{t sl:e_}{lo hi:Option Int}(a:IsTup s.heap t items)(hs:s.heap.IsSliceOf sl vl vu .none)(pl:IsPart vl lo)(b:IsPart vu hi)(hw:bZ items.size 0 lo=0/\bZ items.size items.size hi=items.size)(h:Q (.ref t) s):bz (bK prog w) A (getItem (.ref t)<|.ref sl) Q E s:=by
 obtain⟨os,c,d,g⟩:=id hs;have e:(s.TypeIs (.ref sl) "slice"):=⟨os,c,d⟩;unfold getItem
 try with_reducible refine mj ?_
 first | refine ak (aO ?_) | skip
 refine(ak<|wpAny_sequenceKey a.typeIs qc<|ak<|z6 (name:=eQ "__getitem__") a.typeIs Ce<|wx Ce a.typeIs entry_tuple_getitem ?_<|args_tuple_getitem _ _);show bz _ _ ((abj<|.ref t) >>= _) _ _ s;refine(ak<|tupleItemsOf_ a<|ak<|LH e ?_);rw[ek qc];refine(ak<|Tw hs pl b ?_)
 have f:((((bZ items.size 0 lo:Nat):Int)==0&&(1:Int)==1&&(bZ items.size items.size hi-bZ items.size 0 lo)==items.size)=c_):=by
  rw[hw.1,hw.2];simp
 show bz _ _ (if ((((bZ items.size 0 lo:Nat):Int)==0&&(1:Int)==1&&(bZ items.size items.size hi-bZ items.size 0 lo)==items.size))=c_ then _ else _) _ _ s;rw[ek f];unfold Builtin.Tuple.tupleIsExact;refine ak<|ak<|LH a.typeIs<|aO ?_;rw[ek qc];refine ak<|Ay ?_
 first
  | exact aO ⟨_,rfl,aO h⟩
  | exact ak (aO (aO ⟨_,rfl,aO h⟩))
  | (wp_walk;exact⟨_,rfl,aO h⟩)
end
end HT
namespace L2
section
variable{X:Cx}
def Zo(K:u_):V->Option Int->Option Int->Hp->VK->Prop:=λx lo hi H Q=>∃a xs,x=.ref a/\az K H a xs/\
 ((HT.bZ xs.length 0 lo=0/\HT.bZ xs.length xs.length hi=xs.length)->Q (.ref a) H)/\(¬(HT.bZ xs.length 0 lo=0/\HT.bZ xs.length xs.length hi=xs.length)->∀p,H p=b_->Q (.ref p) (db H p<|.tup<|nE xs lo hi))
def W5:Js X (Zo X.K):=by
 intro p_ s σ H x v f g lo hi sl Q I b hs pl c h;obtain⟨a,xs,rfl,d,i,j⟩:=h
 by_cases hw:(HT.bZ xs.length 0 lo=0/\HT.bZ xs.length xs.length hi=xs.length)
 .cases b;obtain⟨k,r,e,m⟩:=I.tuple d;have l:k.toArray.size=xs.length:=by rw[eW];exact r.length.fF
  exact⟨"tuple",_,Ce.lookup,e.typeIs,HT.abO e hs pl c (by rw[l];exact hw) ⟨.ref a,H,I,xz,i hw⟩⟩
 .exact Hw p_ s σ H _ v f g lo hi sl Q I b hs pl c ⟨a,xs,xz,d,hw,j hw⟩
end
end L2
namespace L2
open PySem.SeqAt
mutual
noncomputable def noDict:ci->Bool
 | .dict _=>d_
 | .list xs=>wA xs
 | .tuple xs=>wA xs
 | _=>c_
noncomputable def wA:List ci->Bool
 | []=>c_
 | x::xs=>noDict x&&wA xs
end
mutual
theorem UO:∀d:ci,noDict d=c_->noMix d d=c_/\same d d=c_
 | .none,_=>⟨xz,xz⟩
 | .bool b,_=>⟨xz,by simp[same]⟩
 | .int i,_=>⟨xz,by simp[same]⟩
 | .str x,_=>⟨xz,by simp[same]⟩
 | .list xs,h=>by
  rw[noMix,same];exact Ls xs (by rw[noDict]at h;exact h)
 | .tuple xs,h=>by
  rw[noMix,same];exact Ls xs (by rw[noDict]at h;exact h)
 | .dict _,h=>by rw[noDict]at h;cases h
theorem Ls:∀xs:List ci,wA xs=c_->noMixAll xs xs=c_/\sameAll xs xs=c_
 | [],_=>⟨by rw[noMixAll],by rw[sameAll]⟩
 | x::xs,h=>by
  rw[wA,fY]at h;refine oA (UO x h.1) λa b=>oA (Ls xs h.2) λc d=>?_;rw[noMixAll,sameAll,a,b,c,d];exact⟨xz,xz⟩
end
mutual
theorem T6:∀d:ci,d.canLay0=c_->noDict d=c_
 | .none,_=>rfl
 | .bool b,_=>rfl
 | .int i,_=>rfl
 | .str x,_=>rfl
 | .list xs,h=>by rw[noDict];exact Lc xs (by rw[wy]at h;exact h)
 | .tuple xs,h=>by rw[noDict];exact Lc xs (by rw[wy]at h;exact h)
 | .dict _,h=>by rw[wy]at h;cases h
theorem Lc:∀xs:List ci,pX xs=c_->wA xs=c_
 | [],_=>by rw[wA]
 | x::xs,h=>by
  rw[pX,fY]at h;rw[wA,T6 x h.1,Lc xs h.2];rfl
end
def Ha(h:shaped d=c_):noMix d d=c_/\same d d=true:=UO d<|T6 d<|canLay_of_shaped h
def MY{K:u_}(c:c8 K H x d)(e:c8 K H y d)(hs:shaped d=c_)(q:Q (.bl d_) H):Ir K c_ x y H Q:=by
 refine oA (Ha hs) λa b=>⟨d,d,c,e,hs,hs,a,?_⟩;rw[ek xz,b];exact q
def Gz{K:u_}(c:c8 K H x d)(e:c8 K H y d)(hs:shaped d=c_)(q:Q (.bl c_) H):Ir K d_ x y H Q:=by
 refine oA (Ha hs) λa b=>⟨d,d,c,e,hs,hs,a,?_⟩;rw[ei dS,b];exact q
theorem U1{c:Type}{f:c->ci}:∀{l:List c},(∀a∈l,(f a).canLay0=c_)->pX (l.map f)=c_
 | [],_=>by simp[pX]
 | a::l,h=>by
  rw[fu,pX,h a cb,U1 λb d=>h b<|cu _ d];rfl
theorem VJ{c:Type}{f:c->ci}{k:Nat}:∀{l:List c},(∀a∈l,(f a).depth<=k)->sR (l.map f)<=k
 | [],_=>by simp[sR]
 | a::l,h=>by
  have h1:=h a cb;have h2:=VJ λb d=>h b<|cu _ d;simp only[fu,sR];lia
theorem Mz{b:Type}{K:u_}{F:V->b->Prop}{f:b->ci}(h:∀v a,F v a->c8 K H v (f a)):∀{vs:List V}{l:List b},bL F vs l->eU K H vs (l.map f)
 | _,_,.nil=>.nil
 | _,_,.cons g t=>.cons (h _ _ g)<|Mz h t
def y0(h:j_)(dx:ci)(u:f_):Bool:=@decide (∃d a,Reads h u d a/\mm d dx=c_)<|Tc _
def YY(r:Reads h u d as):y0 h dx u=mm d dx:=by
 unfold y0;cases e:mm d dx with
 | true=>exact @eu _ (Tc _) ⟨d,as,r,e⟩
 | false=>
  refine @eT _ (Tc _) ?_;rintro⟨d',a,b,c⟩;refine oA (r.unique d' a b) λq _=>?_;rw[q,c]at e;cases e
theorem XZ:∀{us:List f_}{ds:List ci}{a:List e_},CW h us ds a->us.any (y0 h dx)=ds.any λd=>mm d dx
 | _,_,_,.nil=>rfl
 | _,_,_,.cons r t=>by rw[Am,Am,YY r,XZ t]
theorem Xq{A:h_}{s:g_}{v:f_}{dx:ci}{bs:List e_}(b:Reads s.heap v dx bs)(c:shaped dx=c_)(a:A.in1.units+64<cLine):∀{us:List f_}{ds:List ci}{e:List e_},CW s.heap us ds e->(∀d∈ds,shaped d=c_)->∀u∈us,EqAt A.in1 s u v<|y0 s.heap dx u
 | _,_,_,.nil,_=>λu a=>by cases a
 | _,_,_,.cons r t,h=>λu hm=>by
  obtain rfl|hm:=a9.mp hm
  .rw[YY r];exact W.keq_at r b (h _<|by simp) c a
  .exact Xq b c a t (λd hd=>h d<|cu _ hd) u hm
def alY(K:u_)(a:Bool):R2:=λx y H Q=>∃p xs ds dx,y=.ref p/\aq K H p xs/\eU K H xs ds/\c8 K H x dx/\shaped dx=c_/\(∀d∈ds,shaped d=c_)/\Q (.bl (if a=c_ then !(ds.any λd=>mm d dx) else ds.any λd=>mm d dx)) H
section
variable{X:Cx}
def Vm(l:X.A.units+65<cLine):fG X (jL .NotIn) (alY X.K c_):=by
 intro p_ s σ H x y v u Q I c d h;obtain⟨p,xs,ds,dx,e,f,hd,g,i,j,q⟩:=h;subst e;cases d;refine aZ (I.list f) λa r pl m=>oE (hd.reads I r) λn b=>oE (g.reads I c) λbs k=>notIn_listAt (y0 s.heap dx) pl.isList (λw hw=>Xq k i (by show X.A.units+1+64<cLine;exact w0) b j w<|by simpa using hw) ⟨.bl _,H,I,xz,?_⟩;rw[show a.toArray.any (y0 s.heap dx)=a.any (y0 s.heap dx) by simp,XZ b];exact q
end
end L2
namespace L2
open PySem.W L3
section
variable{X:Cx}{pz:List (e_×cB)}{σ:St}{H:Hp}{s:g_}{ns:List Int}{kf:Int->Int}{l it sx f:e_}{R:Result->g_->Prop}
def ajm(kf:Int->Int)(ns:List Int)(sx:e_)(j:Nat)(h:j_):Prop:=(j=0/\∃c,h.get? sx=a_ (d6 "list" #[] c))\/
 (0<j/\∃a b tb c,h.get? sx=a_ (d6 "list" #[b,.int (kf a) tb] c)/\df (.int a) b/\a∈ns/\∀i n,i<j->ns[i]?=a_ n->kf a<=kf n)
def ajj(a:dn (ns.map V.int) vs){j:Nat}(e:vs[j]?=a_ v):∃n t,ns[j]?=a_ n/\v=.int n t:=by
 have c:=a.length;rw[aS]at c;have g:j<vs.length:=(dX.mp e).1;obtain⟨u,b,t,d⟩:=a.get (i:=j) (x:=.int ns[j]) (by simp[show j<ns.length by exact wg]);rw[e]at b;cases b;exact⟨ns[j],t,a8 (by exact wg),d⟩
def afB(hh:X.A.handled=b_)(hl:aq X.K H l (ns.map V.int))(h0:0<ns.length)(hli:l≠it)(turn:∀(n:Int)(u:f_)(P:List (e_×cB))(s:g_),n∈ns->df (.int n) u->(∀p∈pz,p∈P)->dc X P σ H s->bz (bK X.prog X.w) X.A.in1 (call (.ref f) [u]) (EP X P σ λv H'=>v=.int (kf n)/\H'=H) (λ_ _=>False) s)(hR:∀g h s',dc X pz σ H s'->df (.int g) h->g∈ns->(∀n∈ns,kf g<=kf n)->R (.ok<|.ret h) s'):∀(r j:Nat)(s:g_),ns.length-j=r->j<=ns.length->dc X pz σ H s->dW X pz H sx->dW X pz H it->sx≠it->s.heap.IsListIter it l j->ajm kf ns sx j s.heap->codeAny (bK X.prog X.w) X.A (.builtin "min.loop" ⟨[.ref it,.ref f,.ref sx],[]⟩) R s:=by
 have Q:(toString "min"++toString ".loop":String)="min.loop":=qc;intro r
 induction r with
 | zero=>
  intro j s hr hj I fs d y S T;have ej:j=ns.length:=li;obtain⟨z,_⟩|⟨_,g,h,tb,c,B,U,mb,E⟩:=T
  .lia
  .obtain⟨vs,G,pl,hz⟩:=I.list hl;have L:=G.length;rw[aS]at L;have W:=U5 (prog:=X.prog) (w:=X.w) (A:=X.A.in1) hh it l hli vs.toArray;refine(codeAny_builtin PySem.F.entry_min_loop (?_:bz _ _ _ _ _ s));rw[(abD PySem.F.plain_min_loop _)];show bz _ X.A.in1 (MD (.ref sx) >>= _) _ _ _;refine ak<|sU B xz (?_:bz _ X.A.in1 (tryCatch (pyNext<|.ref it) _ >>= _) _ _ _);refine ak<|Lo (W.done _ _ _ ⟨by rw[eW,<-L,<-ej];exact S,pl.isList⟩ λh' C Y=>?_);have k1:∀b o,b≠it->s.heap.get? b=a_ o->h'.get? b=a_ o:=λb o n e=>Y b o (by simpa using n) e;have Z:dc X pz σ H {s with heap:=h',toks:=C}:=I.turned k1 d.1 d.2.1 d.2.2.2.1 d.2.2.2.2.1 d.2.2.2.2.2;have e1:=k1 sx _ y B;show bz _ X.A.in1 (updateSeq sx (λ_=>#[]) >>= _) _ _ _;refine ak<|TR e1 xz<|ak<|As<|aO ?_;have M:=KQ h' sx (qf λ_=>(#[]:Array f_));refine hR g h _ (Z.turned (h':=_) (t':=C) (it:=sx) (λb o n e=>(M.2 b n).fC e) fs.1 fs.2.1 fs.2.2.2.1 fs.2.2.2.2.1 fs.2.2.2.2.2) U mb λn hn=>?_;obtain⟨i,hi,e⟩:=x9 hn;exact E i n (by exact wg) (by rw[<-e];exact a8 hi)
 | succ r ih=>
  intro j s hr hj I fs d y S T;have lt:j<ns.length:=li;obtain⟨vs,G,pl,hz⟩:=I.list hl;have L:=G.length;rw[aS]at L;have W:=U5 (prog:=X.prog) (w:=X.w) (A:=X.A.in1) hh it l hli vs.toArray
  have hS:∃xs c,s.heap.get? sx=a_ (d6 "list" xs c)/\((j=0/\xs=#[])\/(0<j/\∃g h tb,xs=#[h,.int (kf g) tb]/\df (.int g) h/\g∈ns/\∀i n,i<j->ns[i]?=a_ n->kf g<=kf n)):=by
   obtain⟨z,c,e⟩|⟨z,g,h,tb,c,e,q⟩:=T
   .exact⟨_,c,e,.inl ⟨z,xz⟩⟩
   .exact⟨_,c,e,.inr ⟨z,g,h,tb,xz,q⟩⟩
  obtain⟨xs,c,B,hx⟩:=hS;refine(codeAny_builtin PySem.F.entry_min_loop (?_:bz _ _ _ _ _ s));rw[(abD PySem.F.plain_min_loop _)];show bz _ X.A.in1 (MD (.ref sx) >>= _) _ _ _;refine ak<|sU B xz (?_:bz _ X.A.in1 (tryCatch (pyNext<|.ref it) _ >>= _) _ _ _);refine ak<|Lo (W.item j _ _ _ (by rw[eW];exact wf) ⟨S,pl.isList⟩ λv h' C hP amV Y=>?_);have hv:vs[j]?=a_ v:=by simpa using hP
  obtain⟨n,t,en,rfl⟩:=ajj G hv;have mn:=cH en;have k1:∀b o,b≠it->s.heap.get? b=a_ o->h'.get? b=a_ o:=λb o z e=>Y b o (by simpa using z) e;have Z:dc X pz σ H {s with heap:=h',toks:=C}:=I.turned k1 d.1 d.2.1 d.2.2.2.1 d.2.2.2.2.1 d.2.2.2.2.2;have e1:=k1 sx _ y B;obtain⟨N,hoI,zO,RP⟩:=id amV.1
  have P1:dc X ((pz++[(sx,d6 "list" xs c)])++[(it,N)]) σ H {s with heap:=h',toks:=C}:=by
   have a:=Z.Iu fs e1 (λv z=>by cases z);refine a.Iu ⟨d.1,d.2.1,d.2.2.1,d.2.2.2.1,d.2.2.2.2.1,λp D=>?_⟩ hoI (λv z=>by rw[RP]at z;cases z);obtain z|z:=i6.mp D
   .exact d.2.2.2.2.2 p (pU _ z)
   .obtain z|z:=i6.mp z
    .exact d.2.2.2.2.2 p (ig _ z)
    .have z':p=(sx,d6 "list" xs c):=by simpa using z
     rw[z'];exact y
  show bz _ X.A.in1 (tryCatch (holding [nj n t] (call (.ref f) [nj n t])) _ >>= _) _ _ _;refine ak<|Lo<|mj (ik (turn n _ _ _ mn ⟨t,xz⟩ (λp D=>pU _<|pU _ D) P1) (λw s2 hw=>?_) λ_ _ z=>z.elim);obtain⟨v2,H2,J,r2,rfl,rfl⟩:=hw;obtain⟨x,rfl⟩:=r2;have I2:=J.wF λp D=>J.pin p<|ig _<|pU _<|pU _ D;have O:=(J.pin (sx,d6 "list" xs c)<|ig _<|pU _<|ig _<|by simp).1;have i2:=(J.pin (it,N)<|ig _<|ig _<|by simp).1
  have wr:∀(tk:Nat),(∀i m,i<j->ns[i]?=a_ m->kf n<=kf m)->codeAny (bK X.prog X.w) X.A (.builtin "min.loop" ⟨[.ref it,.ref f,.ref sx],[]⟩) R {s2 with heap:=s2.heap.update sx (qf λ_=>#[.int n t,.int (kf n) x]),toks:=tk}:=λtk alz=>by
   have M:=KQ s2.heap sx (qf λ_=>#[nj n t,nj (kf n) x]);have I3:dc X pz σ H2 {s2 with heap:=s2.heap.update sx (qf λ_=>#[.int n t,.int (kf n) x]),toks:=tk}:=I2.turned (it:=sx) (λb o z e=>(M.2 b z).fC e) fs.1 fs.2.1 fs.2.2.2.1 fs.2.2.2.2.1 fs.2.2.2.2.2;refine ih (j+1) _ om (by exact xf) I3 fs d y ⟨N,(M.2 it<|eJ y).fC i2,zO,RP⟩<|.inr ⟨Uo _,n,_,x,_,TV O λ_=>#[.int n t,.int (kf n) x],⟨t,xz⟩,mn,λi m hi k=>?_⟩
   by_cases z:i=j
   .subst z;rw[en]at k;cases k;exact Int.le_refl _
   .exact alz i m li k
  obtain⟨z,rfl⟩|⟨z,g,h,tb,rfl,U,mb,E⟩:=hx
  .show bz _ X.A.in1 (updateSeq sx (λ_=>#[.int n t,.int (kf n) x]) >>= _) _ _ _;refine ak<|TR O xz ?_;rw[Q];exact aO ⟨Ly PySem.F.plain_min_loop _,wr s2.toks λi m hi _=>eo hi li⟩
  .show bz _ X.A.in1 (tryCatch (holding [.int n t,.int (kf n) x] (richCompare .Lt (.int (kf n) x) (.int (kf g) tb) >>= _)) _ >>= _) _ _ _;refine ak<|Lo<|mj<|ak<|lt_int (?_:bz _ _ _ _ _ _);refine ak (mj<|qO<|ak<|As<|aO ?_)
   by_cases eP:kf n<kf g
   .simp only[eP,decide_true,if_true];refine ak<|TR O xz<|ak<|As ?_;rw[Q];refine aO ⟨Ly PySem.F.plain_min_loop _,wr s2.toks λi m hi k=>?_⟩;have:=E i m hi k;lia
   .simp only[eP,decide_false,yb,if_false];refine ak<|As ?_;rw[Q];refine aO ⟨Ly PySem.F.plain_min_loop _,ih (j+1) _ li (by exact xf) I2 fs d y ⟨N,i2,zO,RP⟩<|.inr ⟨Uo _,g,h,tb,c,O,U,mb,λi m hi k=>?_⟩⟩
    by_cases z2:i=j
    .subst z2;rw[en]at k;cases k;lia
    .exact E i m li k
end
section
variable{X:Cx}{p_:List (e_×cB)}{σ:St}{H:Hp}{s:g_}{ns:List Int}{kf:Int->Int}{l f:e_}
def afC(I:dc X pz σ H s)(h:X.A.handled=b_)(d:aq X.K H l (ns.map V.int))(i:0<ns.length)(turn:∀(n:Int)(u:f_)(a:List (e_×cB))(s:g_),n∈ns->df (.int n) u->(∀p∈pz,p∈a)->dc X a σ H s->bz (bK X.prog X.w) X.A.in1 (call (.ref f) [u]) (EP X a σ λv H'=>v=.int (kf n)/\H'=H) (λ_ _=>False) s)(q:∀m∈ns,(∀n∈ns,kf m<=kf n)->Q (.int m) H):bz (bK X.prog X.w) X.A (call (.builtin "min") [.ref l] [(eQ "key",.ref f)]) (EP X pz σ Q) E s:=by
 have j:(toString "min"++toString ".loop":String)="min.loop":=qc;obtain⟨vs,B,pl,C⟩:=I.list d
 have k:l<s.heap.objs.size:=by
  obtain⟨o,e,_⟩:=pl.isList;exact bP e
 refine kmk_tree PySem.F.kind_min PySem.F.plain_min PySem.F.entry_min (kmk_min_key _ _) (?_:bz _ X.A.in1 (abg "min" ["key","default"] 0 ⟨[],[(eQ "key",.ref f)]⟩ >>= _) _ _ s);refine ak<|wpAny_of_eq (rfl:abg "min" ["key","default"] 0 ⟨[],[(eQ "key",.ref f)]⟩=pure [a_ (.ref f),b_])<|ak<|aO<|ak<|KU pl.isList<|ak<|T8 ?_<|bJ _;rw[j];have c:(s.heap.push {cls:=.type "list_iterator",data:=.fields #[.ref l,.int 0 0]}).objs.size=s.heap.objs.size+1:=nW _ _;have r:=I.aM.fresh<|aD _;have t:H (s.heap.push {cls:=.type "list_iterator",data:=.fields #[.ref l,.int 0 0]}).objs.size=none:=I.aM.fresh (by rw[c];exact jf _);refine aO ⟨Ly PySem.F.plain_min_loop _,?_⟩;have x:dc X pz σ H {s with heap:=(s.heap.push {cls:=.type "list_iterator",data:=.fields #[.ref l,.int 0 0]}).push (d6 "list" #[] 0)}:=I.kept (t':=s.toks) λb o e=>bo _<|bo _ e
 refine afB (kf:=kf) (pz:=pz) (σ:=σ) h d i (fh k) turn (λg D s' J y mb z=>?_) (ns.length-0) 0 _ xz (bJ _) x (I.gz (by rw[c];exact jf _) t) (I.gz (aD _) r) (by rw[c];exact Fz _)
  ⟨_,bo _<|iF _ xz,xz,xz⟩ (.inl ⟨xz,0,iF _ xz⟩)
 exact⟨.int g,H,J,y,q g mb z⟩
def nK(B:V->Hp->Prop):List V->Hp->Prop:=λvs H=>match vs with | [x]=>B x H | _=>False
def agV:∀{vs:List V}{H:Hp},nK B vs H->∃x,vs=[x]/\B x H
 | [x],_,h=>⟨x,xz,h⟩
 | [],_,h=>h.elim
 | _::_::_,_,h=>h.elim
def agj(K:u_)(P:e_)(d:Pos)(qual:cw)(tl te:TE)(idx:List Nat)(n k:Nat):TE:=λσ H Q=>tl σ H λx c=>∃(a:e_)(ns:List Int)(kf:Int->Int),x=.ref a/\aq K c a (ns.map V.int)/\0<ns.length/\cx P d qual c/\
 ∀b,wY P c b->cx P d qual b->aq K b a (ns.map V.int)/\(∀m∈ns,te ((lU idx n σ).set k<|a_<|.int m) b λv H'=>v=.int (kf m)/\H'=b)/\∀m∈ns,(∀n∈ns,kf m<=kf n)->Q (.int m) b
def ad3{le body:bT}{c P:e_}(q:X.calm=c_)(hrm:X.A.depth+5<FJ)(r:Gl X "min")(hm:X.mg "min"=b_)(t:PE X le tl)(S:dJ X sc N idx)
  (y:X.env.code=.ref c) (C:CodeHd X.base c P) (B:vH X.mg X.base) (z:N[k]?=a_ px) (D:sc.names.lookup px=a_ .local) (hi:idx.length<=k) (g:∀A qual f cd s H,PE (Jn X A sc N qual f cd s H) body te)
  (E:∀(qual:cw)(cl:List (cw×e_))(pm cd j u:f_),vf (kla_fn "<lambda>" qual params body sc cl pm cd j) ⟨[u],[]⟩=pure [(px,u)]) (F:autoParam (defaultsOf params X.env=([],[])) am) (G:autoParam (sc.isCoroutine=false) am) (J:autoParam (sc.isGenerator=false) am)
  (L:autoParam (cc pos (cg [le] X.env)=(d_,eval le X.env)::cc pos (cg [] X.env)) am) (M:autoParam ((cc pos<|cg [le] X.env).any (·.1)=false) am) (hs:autoParam (cg [le] X.env=(d_,eval le X.env)::cg [] X.env) am) :
  PE X (.Call (.Name "min" p) [le] [⟨a_ "key",.Lambda params body sc Br,apf⟩] pos) (agj X.K P Br (X.env.qual++"<lambda>") tl te idx N.length k):=by
 intro p_ s σ H Q I h;refine wc<|yx I r hm (show Ao "min"=a_ (.builtin "min") from boot_min) ?_ qc qc
 refine callWith_kw (aT (aa (X:=X) t ag hs pos p_ s σ H (nK λx d=>∃(a:e_)(ns:List Int)(kf:Int->Int),x=.ref a/\aq X.K d a (ns.map V.int)/\0<ns.length/\cx P Br (X.env.qual++"<lambda>") d/\
  ∀b,wY P d b->cx P Br (X.env.qual++"<lambda>") b->aq X.K b a (ns.map V.int)/\(∀m∈ns,te ((lU idx N.length σ).set k<|a_<|.int m) b λv H'=>v=.int (kf m)/\H'=b)/\∀m∈ns,(∀n∈ns,kf m<=kf n)->Q (.int m) b) I h) λus s1⟨vs,d,O,R,T⟩=>?_) L M xz xz
 obtain⟨x,rfl,a,ns,kf,rfl,hL,U,W,Y⟩:=agV T;obtain⟨u,rfl,i⟩:=vals1 R;cases i;refine kws_cons (afE O S y C B F W λf Z b pm j s2 I2 sm El zT=>kws_nil ?_);obtain⟨sH,hte,hQ⟩:=Y b sm El;have o:=I.ok.hd q;refine Jf (afC (kf:=kf) (f:=f) I2 o sH U (λn u pp s3 hn i hp e=>?_) λm hm g=>hQ m hm g) λw s4 v H4 I4 r4 q4=>⟨v,H4,I4.Gn,r4,q4⟩;refine afF (A:=X.A.in1) (v:=.int n) e S e.ok.frames o (by show X.A.depth<_;lia) z D hi i (e.pin _<|ig _<|hp _<|ig _ cb).1 (e.aM Z _ zT).1 (E _ _ _ _ _ _) G J (g _ _ _ _ _ _)<|hte n hn
end
end L2
namespace L2
open L3
structure xn(K:u_)(x qual:cw)(st:bM)(f:e_)(fd:ir)(c:e_):Prop where
 ex:∃(oc:f_)(od:Option e_)(kV doc pm:f_)(an:Option e_)(ct:f_)(jb:Array (Option f_)),fd=B_ x qual (mw st) (fj st) (aR st) .none kV doc pm an (.ref c) ct/\K.lookup f=a_ ⟨oc,od,.func fd,jb⟩/\W.codeIn K (.ref c) qual=c_
 kp:x_ K (.ref f)=c_
def ahv{K:u_}{x qual:cw}{st:bM}{f c:e_}{oc:f_}{od an:Option e_}{jb:Array (Option f_)}{kV doc pm ct:f_}(l:K.lookup f=a_ ⟨oc,od,.func<|B_ x qual (mw st) (fj st) (aR st) .none kV doc pm an (.ref c) ct,jb⟩)(c1:W.codeIn K (.ref c) qual=c_)(k:x_ K (.ref f)=c_):xn K x qual st f (B_ x qual (mw st) (fj st) (aR st) .none kV doc pm an (.ref c) ct) c:=⟨⟨oc,od,kV,doc,pm,an,ct,jb,xz,l,c1⟩,k⟩
section
variable{P:l_}{w:k_}{K:u_}{mg:cw->Option f_}{fK:j_}
def xn.ok{st:bM}{k:Nat}{sp:Sp}(F:xn K x qual st f fd c)(S:bc N ps (aR st))
  (b:∀(A:h_)(outer:List Env)(s:g_)(H:Hp)(vs:List V)(Q:VK)(E:XK),eM k (A.deeper<|d8 qual (aR st) s.heap.objs.size f<|.ref c)->sp vs H Q E->
   ∃t,dM (gK aL P w K mg fK N qual (aR st) f (.ref c) A outer s H E).lH (fj st) t/\t {nx:=λ_ H'=>Q .aH H',rt:=Q} (start N vs) H) (len:∀vs H Q E,sp vs H Q E->vs.length=ps.length:=by intro _ _ _ _ h;(repeat obtain⟨_,h⟩:=h);subst_vars;rfl):aE P w K mg fK aL (k+1) f fd ps sp:=by
 refine jw F.ex λoc od kV doc pm a=>jx a λan ct jb a d e=>?_;subst a;exact vy d e S len λA outer s H vs Q E g i=>aJ (b A outer s H vs Q E g i) λt h q=>au t h.lH q
def xn.fun{st:bM}(F:xn K x qual st f fd c):aW K x qual st f fd:=by
 exact jw F.ex λoc od kV doc pm a=>jx a λan ct jb e b d=>⟨⟨oc,od,kV,doc,pm,an,_,ct,jb,e,b,d⟩,F.kp⟩
end
end L2
namespace L2
open PySem.W
def acI(h:OO (ps.map (·.2)) (λi=>(ps.map (·.1)).getD i 0) zs):∃qs:List (Int×V),qs.Perm ps/\qs.Pairwise (λa b=>a.1<b.1)/\zs=qs.map (·.2):=by
 obtain⟨p,g,d,rfl⟩:=h;rw[aS]at g d;have r:=Mo g;have f:=SS.mp g
 have m:(List.range ps.length).map (λi=>ps.getD i (0,.aH))=ps:=by
  apply TN
  .simp
  .intro i h1 h2;simp[h2]
 refine⟨p.toList.map λi=>ps.getD i (0,.aH),?_,?_,?_⟩
 .have:=f.map λi=>ps.getD i (0,.aH);simp only[List.toList_toArray]at this;rw[m]at this;exact this
 .rw[mZ];intro i j hi n o;rw[aS]at hi n;have:=d i j o wf;unfold rk at this;have hsz:=g.size;simp only[ab',Array.getElem_toList];have e:∀k(c:k<p.size),p.getD k 0=p[k]:=λk c=>by simp[Mb,c]
  rw[e i om,e j om]at this;have l:∀k,k<ps.length->(ps.map (·.1)).getD k 0=(ps.getD k (0,.aH)).1:=λk c=>by simp[c]
  have lt:∀k(c:k<p.size),p[k]<ps.length:=λk c=>by
   have:=g.lt (k:=k) wf;rw[e k c]at this;exact this
  dsimp only at this;rw[l _<|lt i om,l _<|lt j om]at this;exact this
 .rw[qU];refine List.map_congr_left λi hi=>?_
  have q:i<ps.length:=by
   have:=f.mem_iff.mp hi;simpa using this
  simp[q]
section
variable{X:Cx}
def ac8(M:d5)(h:j_)(i:Int)(t:Tok):Looks M h (typeOf<|.int i t) (.type "int"):=Looks.of_pure xz
def aii(K:u_):List V->Hp->VK->Prop:=λxs H Q=>∃(p:e_)(ps:List (Int×V)),xs=[.ref p]/\aq K H p (ps.map (·.2))/\ps.length<64/\(∀q∈ps,∃a ys,q.2=.ref a/\az K H a (.int q.1::ys))/\(ps.map (·.1)).Nodup/\
 ∀l qs,H l=b_->CM qs ps->qs.Pairwise (λa b=>a.1<b.1)->Q (.ref l) (db H l<|.lst<|qs.map (·.2))
def acP:my X (.builtin "sorted") (aii X.K):=by
 intro p_ s σ H xs us Q I r h;obtain⟨p,ps,rfl,M,h64,N,nd,q⟩:=h;obtain⟨u,rfl,O⟩:=vals1 r;cases O;obtain⟨w,L,pl,hz⟩:=I.list M;have P:=L.length;rw[aS]at P;refine Ve (H:=H)<|collect_list pl.isList ?_ (by rw[ij];lia)
 have kp:∀b o,s.heap.get? b=a_ o->((s.heap.push<|d6 "list" #[] 0).update s.heap.objs.size<|qf (· ++ w.toArray)).get? b=a_ o:=λb o e=>by
  rw[KP _ _ _ _<|fh<|bP e];exact bo _ e
 have tup:∀i,i<ps.length->∃a o vs n,w.getD i gq=.ref a/\s.heap.get? a=a_ o/\o.cls=.type "tuple"/\o.data=.seq vs n/\∃t rest,vs.toList=nj ((ps.map (·.1)).getD i 0) t::rest:=λi hi=>by
  obtain⟨a,ys,y,f⟩:=N _<|Ag hi;obtain⟨vs,R,⟨o,S,co,n,U⟩,_⟩:=I.tuple f;obtain⟨u,V,W⟩:=L.get (i:=i) (x:=.ref a) (by simp[hi,y]);cases W;cases R with
  | cons ra rr=>
   obtain⟨t,rfl⟩:=ra;exact⟨a,o,_,n,by rw[nS,V];rfl,S,co,U,t,_,by simp[hi];rfl⟩
 refine⟨ps.map (·.2),λi=>(ps.map (·.1)).getD i 0,I.kept kp,L,⟨li,λi j hi Y e=>?_,λh2=>?_⟩,λl zs hn Z=>?_⟩
 .have D:i<ps.length:=wg;have E:j<ps.length:=wg;have A:(ps.map (·.1))[i]'(by simpa using D)=(ps.map (·.1))[j]'(by simpa using E):=by simpa[D,E]using e
  obtain z|z|z:=KZ i j
  .exact eo A (mZ.mp nd i j _ _ z)
  .exact z
  .exact eo A.fF (mZ.mp nd j i _ _ z)
 .refine⟨tuples' c_,λs' k=>?_⟩
  have nL:∀b o,s.heap.get? b=a_ o->o.cls=.type "tuple"->(∃vs n,o.data=.seq vs n)->b≠X.env.locals:=λb o e _ d z=>by
   obtain⟨m,F⟩:=I.fr;obtain⟨o',es,ep,A,d',_⟩:=F.ns;rw[z,A]at e;cases e;obtain⟨vs,n,d⟩:=d;rw[d']at d;cases d
  have at':∀i,i<ps.length->∃a o vs n,w.getD i gq=.ref a/\s'.heap.get? a=a_ o/\o.cls=.type "tuple"/\o.data=.seq vs n/\∃t rest,vs.toList=nj ((ps.map (·.1)).getD i 0) t::rest:=λi hi=>by
   obtain⟨a,o,vs,n,y,f,G,B,J⟩:=tup i hi;exact⟨a,o,vs,n,y,k _ _ (nL a o f G ⟨vs,n,B⟩)<|kp _ _ f,G,B,J⟩
  constructor
  .intro Q' hQ
   have kt:∀m,m<=ps.length->∃fs:List f_,fs.length=m/\KatTups s'.heap (w.drop<|ps.length-m) fs/\∀v∈fs,∃i t,v=nj i t:=λm=>by
    induction m with
    | zero=>
     intro _;refine⟨[],xz,?_,λv hv=>nomatch hv⟩;rw[Te li];exact .nil
    | succ m ih=>
     intro hm;obtain⟨fs,h1,h2,h3⟩:=ih li;obtain⟨a,o,vs,n,y,f,G,B,t,rest,J⟩:=at' (ps.length-(m+1)) om
     have hd:w.drop (ps.length-(m+1))=.ref a::w.drop (ps.length-m):=by
      rw[SV om,show ps.length-(m+1)+1=ps.length-m by lia]
      congr 1
      rw[<-y];simp[show ps.length-(m+1)<w.length by omega]
     rw[hd];refine⟨nj ((ps.map (·.1)).getD (ps.length-(m+1)) 0) t::fs,by rw[gE,h1],.cons f G B ?_ h2,λv hv=>?_⟩
     .have:vs.toList[0]?=a_ (nj ((ps.map (·.1)).getD (ps.length-(m+1)) 0) t):=by rw[J];rfl
      rw[Tf]at this;exact this
     .obtain z|z:=a9.mp hv
      .exact⟨_,_,z⟩
      .exact h3 v z
   obtain⟨fs,h1,h2,h3⟩:=kt ps.length<|aD _;rw[LI,Lq]at h2;refine kat_kind (T:=.type "int") h2 li (λv hv=>?_) qc (by rw[show (nX "int" != nX "tuple")=c_ by decide];exact hQ);obtain⟨i,t,e⟩:=h3 v hv;rw[e];exact ac8 _ _ _ _
  .intro i j C hi Y ne c;obtain⟨a,o,vs,n,y,f,G,B,t,rest,J⟩:=at' i wg;obtain⟨a',o',kr,n',Fn,e2',e3',e4',t',aoQ,e5'⟩:=at' j wg;unfold kas_ask;rw[y,Fn];refine kat_lt f B e2' e4' ?_;rw[J,e5'];refine kat_cons (TF ?_)
   have jo:(ps.map (·.1)).getD i 0≠(ps.map (·.1)).getD j 0:=λe=>by
    have D:i<ps.length:=wg;have E:j<ps.length:=wg;have A:(ps.map (·.1))[i]'(by simpa using D)=(ps.map (·.1))[j]'(by simpa using E):=by simpa[D,E]using e
    obtain z|z:=To ne
    .exact eo A (mZ.mp nd i j _ _ z)
    .exact eo A.fF (mZ.mp nd j i _ _ z)
   rw[show ((ps.map (·.1)).getD i 0==(ps.map (·.1)).getD j 0)=d_ by simpa using jo];exact kat_no<|oneLt_int c
 .obtain⟨qs,g,pw,rfl⟩:=acI Z;exact q l qs hn g pw
end
end L2
namespace TL
open L2 L3
structure gl where
 (t n num d:Int)
 deriving DecidableEq
noncomputable def cD(es:List gl)(i:Nat):List gl:=es.filter λe=>decide<|e.n=(i:Int)
def ke(H:Hp)(v:V)(e:gl):Prop:=∃p s,v=.ref p/\H p=a_ (.tup [.int e.t,.ref s])/\H s=a_ (.tup [.int e.n,.int e.num,.int e.d])
def Ex(H:Hp)(b:e_)(es:List gl):Prop:=∃vs,H b=a_ (.lst vs)/\bL (ke H) vs es
def X7:List cw:=[Q_,"latest","fronts","take","is_empty","listed","twin"]
structure pH(tn:Int)(es:List gl):Prop where
 asc:es.Pairwise λx y=>x.t<y.t
 nm:∀e∈es,0<=e.n/\e.n<12
 lt:∀e∈es,e.t<tn
structure dQ(H:Hp)(a C:e_)(kd:cw)(tn:Int)(es:List gl)(q:e_)(qr:List e_):Prop where
 obj:∃dx fs,H a=a_ (.ins C dx fs)/\fs.lookup (T_ : cw)=a_ (V.str kd)/\fs.lookup (ap8 : cw)=a_ (V.int tn)/\fs.lookup ("queues":cw)=a_ (V.ref q)/\(∀m∈X7,fs.lookup m=b_)/\fs.length<=20
 qs:H q=a_ (.lst<|qr.map V.ref)
 len:qr.length=12
 nd:qr.Nodup
 nq:q∉qr
 kl:∀i b,qr[i]?=a_ b->Ex H b (cD es i)
 wf:pH tn es
structure iP(F:List e_)(H H':Hp):Prop where
 k:∀b o,b∉F->(∀ps,o≠.gg ps)->H b=a_ o->H' b=a_ o
 t:∀b,H' b=b_->H b=b_
def iP.of(s:af H H'):iP F H H':=⟨λb o _ _ e=>s b o e,λb h=>s.free h⟩
def iP.fC(a:iP F H H1)(b:iP F H1 H2):iP F H H2:=⟨λc o h1 h2 e=>b.k c o h1 h2<|a.k c o h1 h2 e,λc h=>a.t c<|b.t c h⟩
def iP.xu{P:e_}(s:wY P H H')(a:H P=a_ (.gg ps))(c:H' P=a_ (.gg ps')):iP [] H H':=
 ⟨λb o _ n e=>s b o (λz=>by rw[z,a]at e;cases e;exact n ps xz) e,λb h=>by
  cases e:H b with
  | none=>rfl
  | some o=>
   by_cases z:b=P
   .rw[z,c]at h;cases h
   .rw[s b o z e]at h;cases h⟩
def Cz{P:e_}{d:Pos}{qual:cw}{F:List e_}{H H':Hp}(h:cx P d qual H)(k:∀b o,b∉F->H b=a_ o->H' b=a_ o)(f:∀b∈F,∀o,H b=a_ o->(∃C dx fs,o=.ins C dx fs)\/∃xs,o=.lst xs):cx P d qual H':=by
 refine aJ h λps g a=>?_
 have i:P∉F:=λz=>by
  rcases f P z _ g with ⟨_,_,_,e⟩ | ⟨_,e⟩ <;> cases e
 refine au ps (k P _ i g) ?_;obtain e|⟨c,e,a⟩:=a
 .exact .inl e
 .refine .inr (au c e<|k c _ (λz=>?_) a);rcases f c z _ a with ⟨_,_,_,e⟩ | ⟨_,e⟩ <;> cases e
def fA{P:e_}{a:Pos}{qual:cw}{H H':Hp}(h:cx P a qual H)(k:af H H'):cx P a qual H':=Cz (F:=[]) h (λb o _ e=>k b o e) λb c=>nomatch c
def ke.keep{F:List e_}(h:ke H v e)(k:∀b xs,H b=a_ (.tup xs)->H' b=a_ (.tup xs)):ke H' v e:=let ⟨p,s,e1,e2,e3⟩:=h;⟨p,s,e1,k _ _ e2,k _ _ e3⟩
theorem tG{c d:Type}{F G:c->d->Prop}(f:∀a b,F a b->G a b):∀{l:List c}{r:List d},bL F l r->bL G l r
 | _,_,.nil=>.nil
 | _,_,.cons h t=>.cons (f _ _ h)<|tG f t
def Ex.keep(h:Ex H b es)(a:∀o,H b=a_ o->H' b=a_ o)(k:∀b xs,H b=a_ (.tup xs)->H' b=a_ (.tup xs)):Ex H' b es:=let ⟨vs,e,r⟩:=h;⟨vs,a _ e,tG (λ_ _ z=>z.keep (F:=[]) k) r⟩
def dQ.keep(T:dQ H a C kd tn es q qr)(k:∀b∈a::q::qr,∀o,H b=a_ o->H' b=a_ o)(d:∀b xs,H b=a_ (.tup xs)->H' b=a_ (.tup xs)):dQ H' a C kd tn es q qr:=by
 obtain⟨⟨dx,fs,e,r⟩,qs,len,nd,nq,kl,wf⟩:=T;exact⟨⟨dx,fs,k a (by simp) _ e,r⟩,k q (by simp) _ qs,len,nd,nq,λi b c=>(kl i b c).keep (λo=>k b (by simp[cH c]) o) d,wf⟩
def dQ.akE(T:dQ H a C kd tn es q qr)(k:iP F H H')(f:∀b∈F,b∉a::q::qr)(g:∀b∈F,∀xs,H b≠a_ (.tup xs)):dQ H' a C kd tn es q qr:=by
 refine T.keep (λb d o e=>k.k b o (λz=>f b z d) (λps z=>?_) e) λb xs e=>k.k b _ (λz=>g b z xs e) (λps z=>by cases z) e;subst z;obtain z|z:=a9.mp d
 .refine dC T.obj λdx fs c _=>?_;rw[z,c]at e;cases e
 .obtain z|z:=a9.mp z
  .rw[z,T.qs]at e;cases e
  .refine oE (x9 z) λi h=>oE h λhi j=>?_;obtain⟨vs,c,_⟩:=T.kl i b (by rw[<-j];exact a8 hi);rw[c]at e;cases e
def dQ.wQ(T:dQ H a C kd tn es q qr)(k:iP [] H H'):dQ H' a C kd tn es q qr:=T.akE k (λb c=>nomatch c) λb c=>nomatch c
def dQ.kinds(T:dQ H a C kd tn es q qr):∀b∈a::q::qr,∀o,H b=a_ o->(∃C dx fs,o=.ins C dx fs)\/∃xs,o=.lst xs:=λb d o e=>by
 obtain z|z:=a9.mp d
 .refine dC T.obj λdx fs c _=>?_;rw[z,c]at e;cases e;exact .inl<|⟨_,_,_,xz⟩
 .obtain z|z:=a9.mp z
  .rw[z,T.qs]at e;cases e;exact .inr ⟨_,xz⟩
  .refine oE (x9 z) λi f=>oE f λhi g=>?_;obtain⟨vs,c,_⟩:=T.kl i b (by rw[<-g];exact a8 hi);rw[c]at e;cases e;exact .inr ⟨_,xz⟩
def dQ.there(T:dQ H a C kd tn es q qr):∀b∈a::q::qr,∃o,H b=a_ o:=λb d=>by
 obtain z|z:=a9.mp d
 .exact dC T.obj λdx fs c _=>⟨_,by rw[z];exact c⟩
 .obtain z|z:=a9.mp z
  .exact⟨_,by rw[z];exact T.qs⟩
  .refine oE (x9 z) λi e=>oE e λhi f=>?_;obtain⟨vs,c,_⟩:=T.kl i b (by rw[<-f];exact a8 hi);exact⟨_,c⟩
def Hg(es:List gl)(i:Nat):Option gl:=(cD es i).getLast?
def nA(es:List gl):List Int:=((List.range 12).filter λi=>decide<|cD es i≠[]).map λ(i:Nat)=>(i:Int)
def ju(kd:cw)(es:List gl):List Int:=if kd = ap9 then (es.head?.map (·.n)).toList else nA es
noncomputable def tY(es:List gl)(n:Int):List gl:=es.eraseP λe=>decide<|e.n=n
def agH(i:Nat):cD [] i=[]:=rfl
def Xe(es:List gl)(e:gl)(i:Nat):cD (es++[e]) i=if e.n=(i:Int) then cD es i++[e] else cD es i:=by
 unfold cD;rw[Ae]
 by_cases h:e.n=(i:Int)
 .rw[ek h];simp[h]
 .rw[ei h];simp[h]
def CG:n∈nA es↔∃i:Nat,i<12/\n=i/\cD es i≠[]:=by
 unfold nA;rw[eR];constructor
 .rintro⟨i,hi,rfl⟩;rw[pY,uU]at hi;exact dD i hi.1 xz (by simpa using hi.2)
 .rintro⟨i,h1,rfl,h2⟩;exact au i (by rw[pY,uU];exact⟨h1,by simpa using h2⟩) xz
def WC{i:Nat}(h:es.head?=a_ e)(hi:e.n=(i:Int)):(cD es i).head?=a_ e:=by
 cases es with
 | nil=>cases h
 | cons x r=>
  cases h;unfold cD;rw[sQ,ek (by simpa using hi)];rfl
def ahT(w:pH tn es)(b:0<=n)(h1:n<12):pH (tn+1) (es++[⟨tn,n,num,d⟩]):=by
 refine⟨List.pairwise_append.mpr ⟨w.asc,List.pairwise_singleton _ _,λx c y f=>?_⟩,λe a=>?_,λe a=>?_⟩
 .rw[c7.mp f];exact w.lt x c
 .obtain z|z:=i6.mp a
  .exact w.nm e z
  .rw[c7.mp z];exact⟨b,h1⟩
 .obtain z|z:=i6.mp a
  .have:=w.lt e z;lia
  .rw[c7.mp z];show tn<tn+1;lia
def agf(w:pH tn es)(n:Int):pH tn (tY es n):=by
 have a:(tY es n).Sublist es:=List.eraseP_sublist;exact⟨w.asc.sublist a,λe b=>w.nm e<|a.subset b,λe b=>w.lt e<|a.subset b⟩
def ae3(es:List gl)(n:Int)(i:Nat):cD (tY es n) i=if n=(i:Int) then (cD es i).tail else cD es i:=by
 induction es with
 | nil=>unfold tY cD;simp
 | cons e r ih=>
  unfold tY at ih ⊢;rw[List.eraseP_cons]
  by_cases h:e.n=n
  .rw[eu h,cond_true];unfold cD
   by_cases hi:n=(i:Int)
   .rw[ek hi,sQ,ek (by simpa using h.fC hi)];rfl
   .rw[ei hi,sQ,ei (by simpa using λz:e.n=(i:Int)=>hi<|h.fF.fC z)]
  .rw[eT h,cond_false];unfold cD at ih ⊢;rw[sQ,sQ]
   by_cases a:e.n=(i:Int)
   .have b:¬n=(i:Int):=λz=>h<|a.fC z.fF;rw[ei b]at ih;simp only[eu a,if_true];rw[ei b,ih]
   .simp only[eT a,yb,if_false];rw[ih]
end TL
namespace L2
open L3
def ah3(C:e_)(sp:Sp)(dvs:List V)(W:WX)(t:TA):TE:=λσ H Q=>t σ H λvs a=>∀x dx,a x=b_->a dx=b_->dx≠x->sp (.ref x::(vs++dvs)) (db (db a dx<|.own x) x<|.ins C dx []) (λv b=>v=.aH/\Q (.ref x) b) (W σ)
section
variable{X:Cx}{k:Nat}{f C:e_}{fd:ir}{ps:List cw}{sp:Sp}{dvs:List V}{ds:List f_}{W:WX}{x m:cw}{p pos apos:Pos}{e o:bT}{es:List bT}{ta:TE}{t:TA}{P:l_}{w:k_}
def adZ(M:Mk X.K C f)(F:aE X.prog X.w X.K X.mg X.base (eV X.prog X.w) k f fd ps sp)(g:eM (k+1) X.A)(i:dt X.K fd ps ds)(hd:dn dvs ds)(j:qt X W)(I:dc X p_ σ H s)(r:dn vs us)(h:∀x dx,H x=b_->H dx=b_->dx≠x->sp (.ref x::(vs++dvs)) (db (db H dx<|.own x) x<|.ins C dx []) (λv l=>v=.aH/\Q (.ref x) l) (W σ)):bz (bK X.prog X.w) X.A (call (.ref C) us) (EP X p_ σ Q) X.xe s:=by
 have d:=h (s.heap.objs.size+1) s.heap.objs.size (I.aM.fresh<|jf _) (I.aM.fresh<|aD _)<|fh<|sO _;have b:=dc.made (C:=C) I;have r2:dn (V.ref (s.heap.objs.size+1)::(vs++dvs)) (bN (s.heap.objs.size+1)::(us++ds)):=.cons xz<|r.append hd
 have n:(bN (s.heap.objs.size+1)::us++ds).length=ps.length:=by
  have e:=r2.length;rw[F.len _ _ _ _ d]at e;exact e.fF
 refine tj<|Wv (f:=f) I.cZ M.makes M.init (fv.mp M.fn) (yf (F.run _ X.stack _ _ ⟨bN (s.heap.objs.size+1)::us,[]⟩ (bN (s.heap.objs.size+1)::(us++ds)) _ _ (W σ) (g.make C us []) (b.Eg.make C us []) (i _ (bN (s.heap.objs.size+1)::us) b.cZ n) r2 d) λr s' a=>?_);cases r with
 | error e=>
  obtain⟨ea,c,dd,T,H',q,x,y⟩:=U6 b a;subst q;exact j _ _ _ _ _ _ _ _ x y
 | ok fl=>
  cases fl with
  | ret u=>
   obtain⟨v,H',z,B,D,E⟩:=(b.after a);subst D;exact⟨B,⟨V.ref<|s.heap.objs.size+1,H',z,xz,E⟩⟩
  | next=>exact ip a
  | brk=>exact ip a
  | cont=>exact ip a
def afa(M:Mk X.K C f)(F:aE P w X.K X.mg X.base (eV P w) k f fd ps sp)(b:eM (k+1) X.A)(c:qt X W)(d:Gl X x)(hm:X.mg x=a_ (.ref C))(g:dt X.K fd ps ds)(hd:dn dvs ds)
  (ha:PA X (e::es) t) (i:autoParam (X.prog=P) am) (hw:autoParam (X.w=w) am) (j:autoParam ((x==("__debug__":cw))=false) ap) (l:autoParam (cg (e::es) X.env=(d_,eval e X.env)::cg es X.env) am) (n:autoParam ((cc pos<|cg es X.env).any (·.1)=false) am) :
  PE X (.Call (.Name x p) (e::es) [] pos) (ah3 C sp dvs W t):=by
 subst i hw;intro p_ s σ H Q I h;refine wc<|tI I d hm ?_ j;refine G_ (h₀:=X.base) I.ok.mod.pk M.kp (aT (ha pos p_ s σ H _ I h) λus s1⟨vs,u,a,r,q⟩=>⟨a.cZ,?_⟩) l n;exact adZ M F b g hd c a r q
end
def adx(h:env.frame=aa1.frame):wB e env=wB e aa1:=by
 unfold wB PySem.frameOf;rw[h]
section
variable{M:d5}{A:h_}{E:f_->g_->Prop}{s:g_}{fK:j_}{env:Env}{outer:List Env}{L e T:e_}{cls fl:f_}{dd:Option e_}{Q:Unit->g_->Prop}
def ady(p:A.frames=a_ (env::outer))(r:s.heap.FunFrames fK (env::outer))(j:env.frame=a_ L)(x:qA s.heap e cls dd T fl)(k0:qA s.heap e cls dd T (cr L)->Q () s)(k:∀h' f,(∀b o,b∉iA (env::outer)->b≠e->b≠T->s.heap.get? b=a_ o->h'.get? b=a_ o)->(∀b o,s.heap.get? b=a_ o->b≠e->b≠T->∃sl,h'.get? b=a_ {o with slots:=sl})->s.heap.objs.size<=f->qA h' e cls dd f (cr L)->Q () {s with heap:=h'}):bz M A (wB (.ref e) env) Q E s:=by
 refine jm (id x) λt u v=>?_;obtain⟨H,vs,I,q,B,C,hd,D,h1,F⟩:=t;refine gf v λJ ts h dT l=>?_;have hsz:1<vs.size:=(Cg.mp h1).1;unfold wB;simp only[j];refine ak<|i7 q hd h1 ?_;show bz M A (if (bN T != gq)=c_ then _ else _) Q E s;rw[ek (by simp)];refine ak<|i7 h dT l ?_
 by_cases i:(fl==cr L)=c_
 .rw[ek i];have:=CL i;subst this;exact aO<|k0 x
 .rw[ei i];refine ak<|Aj h dT (Cg.mp l).1 ?_;have g:∀b,b≠T->(s.heap.update T<|sV (·.setIfInBounds 3 gq)).get? b=s.heap.get? b:=λb n=>sM _ _<|eJ n;refine L6 (s:={s with heap:=s.heap.update T (sV (·.setIfInBounds 3 gq))}) p (r.of_keeps λb o z G=>⟨o,(g b λw=>?_).fC z,xz⟩) j ((g e<|eJ u).fC q) B C hd D hsz F λh' f a b c d=>?_
  .rw[w,h]at z;cases z;exact G ts dT
  .refine k h' f (λx o y z n w=>a x o y z<|(g x n).fC w) (λx o w z n=>b x o ((g x n).fC w) z) ?_ d;have m:(s.heap.update T<|sV (·.setIfInBounds 3 gq)).objs.size<=f:=c;rw[abw]at m;exact m
def acO{fr:Option e_}(x:qA s.heap e cls dd T fl)(k:∀h' h,(∀b o,b≠T->s.heap.get? b=a_ o->h'.get? b=a_ o)->qA h' e cls dd T h->Q () {s with heap:=h'}):bz M A (Gh (.ref e) fr) Q E s:=by
 refine jm x λi a j=>?_;obtain⟨l,vs,m,q,p,r,hd,t,h1,u⟩:=i;refine gf j λw ts c dT v=>?_;have d:3<ts.size:=(Cg.mp v).1;unfold Gh;refine ak<|i7 q hd h1 ?_;rw[ek (show (bN T != gq)=c_ by simp)];have g:∀b,b≠T->(s.heap.update T<|sV (·.setIfInBounds 3 (fr.elim gq λf=>cr f))).get? b=s.heap.get? b:=λb n=>sM _ _<|eJ n;exact Aj c dT d<|k _ _ (λb o n z=>(g b n).fC z)<|gQ ⟨l,vs,m,(g e<|eJ a).fC q,p,r,hd,t,h1,u⟩ a<|dG _ _ (Ab _ c<|KH<|Ad dT _) (Ad dT _) (by rw[Array.getElem?_setIfInBounds_self_of_lt d])
def ad4{d:Type}{f:String}{g:Env}{h:d->g_->Prop}(x:qA s.heap e cls dd T fl)(k:∀h' c,(∀b o,b≠T->s.heap.get? b=a_ o->h'.get? b=a_ o)->qA h' e cls dd T c->E (.ref e) {s with heap:=h'}):bz M A (PySem.passOn f (.ref e) g:Sem d) h E s:=by
 refine oA (id x) λi _=>?_;obtain⟨j,vs,l,q,m,n,hd,p,h1,r⟩:=i;unfold PySem.passOn;refine ak<|i7 q hd h1 ?_;rw[ei (by simp)];exact ak (acO x λh' c a b=>wpAny_throw<|k h' c a b)
end
structure mt(X:Cx)(p_:List (e_×cB))(σ:St)(H:Hp)(s:g_)(ea:e_)(c:f_)(dd:Option e_)(T:e_)(fl:f_):Prop where
 inv:dc X p_ σ H s
 held:qA s.heap ea c dd T fl
 fe:dW X p_ H ea
 ft:dW X p_ H T
def OP(X:Cx)(W:WX):Prop:=∀(p_:List (e_×cB))(σ:St)(H:Hp)(s:g_)(ea:e_)(c:f_)(dd:Option e_)(T:e_)(fl:f_),mt X p_ σ H s ea c dd T fl->W σ c dd H->X.xe (.ref ea) s
section
variable{P:l_}{w:k_}{K:u_}{mg:cw->Option f_}{fK:j_}{N:List cw}{qual:cw}{scope:i_}{f:e_}{cd:f_}{A:h_}{outer:List Env}{s0:g_}{H0:Hp}{E:XK}
def Wy(x:mt (gK (eV P w) P w K mg fK N qual scope f cd A outer s0 H0 E) p_ σ H s ea c dd T fl)(k1:∀b o,b∉iA (d8 qual scope s0.heap.objs.size f cd::outer)->b≠ea->b≠T->s.heap.get? b=a_ o->h2.get? b=a_ o)(m:∀b o,s.heap.get? b=a_ o->b≠ea->b≠T->∃sl,h2.get? b=a_ {o with slots:=sl})(B:s0.heap.objs.size<=T')(hn:H T'=b_)(C:BM h2 ea c dd (a_ T'))(D:E c dd H):eV P w outer H0 s0 E (.ref ea) {s with heap:=h2}:=by
 have I:=x.inv
 have p:∀{b:e_},dW (gK (eV P w) P w K mg fK N qual scope f cd A outer s0 H0 E) p_ H b->s0.heap.objs.size<=b:=λz=>by
  obtain y|y:=z.2.2.2.1
  .exact eo (show _∈([]:List e_) from y) (by simp)
  .exact y
 have r:=p x.fe;have F:=p x.ft;have g:∀{b:e_}{o:cB},s0.heap.get? b=a_ o->b<s0.heap.objs.size:=λe=>bP e;have i:∀{b:e_},b<s0.heap.objs.size->b≠ea:=λh z=>eo (ff h r) (by rw[z];exact je _);have j:∀{b:e_},b<s0.heap.objs.size->b≠T:=λh z=>eo (ff h F) (by rw[z];exact je _)
 have G:∀{b:e_},b<s0.heap.objs.size->b∉iA outer->b∉iA (d8 qual scope s0.heap.objs.size f cd::outer):=λh z y=>by
  obtain u|u:=I.Dd _ y |> a9.mp
  .exact eo h (by rw[u];exact je _)
  .exact z u
 have J:fV P w H h2:=by
  refine Gb (ch:=[ea,T]) I (λb a=>?_) λb o a t e=>k1 b o a (λz=>t<|by rw[z];simp) (λz=>t<|by rw[z];simp) e;obtain z|z:=a9.mp a
  .rw[z];exact x.fe.1
  .rw[c7.mp z];exact x.ft.1
 refine⟨ea,c,dd,T',H,xz,I.os,I.bare,⟨λb o e n a d=>?_,λb o e n a d=>?_,I.base.free,λb o e d=>?_,I.base.oY,I.base.oq,I.base.oo⟩,J,C,r,B,x.fe.1,⟨hn,D⟩⟩
 .have l:=g e;exact k1 b o (G l a) (i l) (j l)<|I.base.keep b o e n a d
 .have l:=g e;refine oE (I.base.slot b o e n a d) λsl q=>?_;refine oE (m b _ q (i l)<|j l) λv k=>?_;exact⟨v,k⟩
 .have l:=g e;refine oE (I.base.there b o e d) λo' q=>?_;refine oE (m b _ q (i l)<|j l) λv k=>?_;exact⟨_,k⟩
def aeg:OP (gK (eV P w) P w K mg fK N qual scope f cd A outer s0 H0 E) (λ_=>E):=by
 intro p_ σ H s ea c dd T fl x j;show bz (bK P w) (A.deeper<|d8 qual scope s0.heap.objs.size f cd) (leaving (d8 qual scope s0.heap.objs.size f cd)<|.ref ea) (λ_ d=>eV P w outer H0 s0 E (.ref ea) d) (λl d=>eV P w outer H0 s0 E l d) s;have I:=x.inv;have m:s0.heap.objs.size<=s.heap.objs.size:=I.sz;unfold leaving;refine ak (ady (fK:=fK) I.ok.frames I.stack xz x.held (λg=>?_) λh1 p k1 r h g=>?_)
 .refine Aq g λh2 a i=>?_;refine Wy (s:=s) x (λb o _ _ n e=>a b o n e) (λb o e _ n=>⟨o.slots,a b _ n e⟩) ?_ x.ft.1 i j;obtain y|y:=x.ft.2.2.2.1
  .exact eo (show T∈([]:List e_) from y) (by simp)
  .exact y
 .refine Aq g λh2 a i=>?_;have k:∀{b:e_}{o:cB},s.heap.get? b=a_ o->b≠p:=λe z=>eo (ff (bP e) h) (by rw[z];exact je _);refine Wy (s:=s) x (λb o z y n e=>a b o (k e)<|k1 b o z y n e) (λb o e z n=>?_) (cQ m h) (I.aM.fresh h) i j;refine oE (r b o e z n) λsl q=>?_;exact⟨sl,a b _ (k e) q⟩
end
def ah4(wi:TI)(g:TG)(b:zl)(te:XK->TE)(W:WX)(idx:List Nat)(n:Nat):TE:=λσ H Q=>wi σ H λJ c=>
 D4 J g b (te<|W σ) (lU idx n σ) c λys a=>ys.length<=aX/\∀p,a p=b_->Q (.ref p) (db a p<|.lst ys)
section
variable{X:Cx}{tg elt iter:bT}{ifs:List bT}{wi:TI}{g:TG}{tc:zl}{te:XK->TE}{sc:i_}{N:List cw}{idx:List Nat}{pos:Pos}{W:WX}
def akk(ok:X.Ok):Cx.Ok {X with xe:=EE}:=
 ⟨ok.mod,ok.kind,ok.glob,ok.blt,ok.above,ok.inj,ok.has,ok.vO,ok.hd,ok.frames,ok.xt,ok.um,ok.bs,ok.mQ,ok.vD,ok.ue,ok.mz,ok.rW⟩
def Y1{fp:List e_}(I:dc X p_ σ H s)(a:∀b∈fp,dW X p_ H b)(f:dW (kg X sc N (lQ s) H (s.heap.objs.size::fp) (s.heap.push cy).objs.size EE) pl H' b):dW X p_ H' b:=by
 obtain z|z:=f.2.2.2.1
 .obtain e|e:=a9.mp z
  .exact I.gz (by rw[e];exact aD _) f.1
  .have q:=a b e;exact⟨f.1,q.2⟩
 .have c:(s.heap.push cy).objs.size<=b:=z;rw[nW]at c;exact I.gz li f.1
def afb(hs:X.stack=X.env::X.outer)(O:X.env.frame=a_ X.env.locals)(hL:OP X W)(f:X.calm=c_)(S:dJ X sc N idx)(gk:A5 idx.length g)(hi:PI X tg iter wi)
  (hg:∀s H ex C EE,PG (kg X sc N s H ex C EE) tg g) (ht:∀s H ex C EE,BL (kg X sc N s H ex C EE) ifs tc) (he:∀(E0:XK)s H ex C EE,qt (kg X sc N s H ex C EE) (λ_=>E0)->PE (kg X sc N s H ex C EE) elt (te E0))
  (hfo:∀x,KW iter X.env x=pure x:=by intro _;rfl):PE X (.ListComp elt [⟨tg,iter,ifs,0⟩] sc pos) (ah4 wi g tc te W idx N.length):=by
 intro p_ s σ H Q I h;rw[eval_ListComp];have uJ:closureFor sc X.env=pure (gA X.env.cells sc.names []):=FX λp hp e=>I.ok.has p.1<|.inl<|S.frees p hp e;refine Ta (use:=b_) xz hfo uJ S.kind S.locs (aT (hi p_ s σ H _ I h) λv s1 h1=>aT h1 λEK s2 h2=>?_);obtain⟨it,fp,tn,J,E,F,i,T,zx,r,hW⟩:=h2;subst F;have t:(s2.heap.push cy).objs.size=s2.heap.objs.size+1:=nW _ _;have G:dW X p_ E s2.heap.objs.size:=i.gz (aD _)<|i.aM.fresh<|aD _;have u:dW X p_ E (s2.heap.push cy).objs.size:=i.gz (by rw[t];exact jf _)<|i.aM.fresh (by rw[t];exact jf _);have P:X.s₀.heap.objs.size<=s2.heap.objs.size:=i.sz
 refine Nb (EE:=λe s'=>∃pl y H' ea c dd tb,e=bN ea/\yz (zh X sc N (lQ s2) E (s2.heap.objs.size::fp) (s2.heap.push cy).objs.size) pl y H' s' ea c dd tb/\W σ c dd H')
  (RR:=λC acc=>compPost (bK X.prog X.w) X.A X.xe b_ (EP X p_ σ Q) acc C) f S gk (hg _ _ _ _ _) (ht _ _ _ _ _) (he (W σ) _ _ _ _ _ ?_) i T zx r hW (λe s' j=>?_) λs' ys H' m ar n R d ma Fe U rv ea=>?_
 .intro pl y H' s' ea c dd tb x K;exact⟨pl,y,H',ea,c,dd,tb,xz,⟨⟨akk x.inv.ok,x.inv.os,x.inv.bare,x.inv.base,x.inv.loc,x.inv.cell,x.inv.free,x.inv.jP,x.inv.pin,x.inv.aM,x.inv.len⟩,x.yY,x.fe,x.ft⟩,K⟩
 .obtain⟨pl,y,H',ea,c,dd,tb,F,x,K⟩:=j;subst F;have d:dc X p_ σ H' s':=WL i r x.inv;have L:yz X p_ σ H' s' ea c dd tb:=⟨d,x.yY,Y1 i r x.fe,λT z=>Y1 i r<|x.ft T z⟩;have st:=d.stack;have fr:=d.ok.frames;rw[hs]at st fr;have M:dW X p_ H' (s2.heap.push cy).objs.size:=⟨x.inv.free,u.2⟩;show bz (bK X.prog X.w) X.A (wB (.ref ea)<|GQ sc (gA X.env.cells sc.names []) (s2.heap.push cy).objs.size X.env) (λ_ pI=>compPost (bK X.prog X.w) X.A X.xe b_ (EP X p_ σ Q) (.ref s2.heap.objs.size) (s2.heap.push cy).objs.size (.error<|.ref ea) pI) _ s';rw[adx (env:=GQ sc (gA X.env.cells sc.names []) (s2.heap.push cy).objs.size X.env) (aa1:=X.env) rfl];refine Mn (fK:=X.base) fr st O x.yY λh1 B k1 k2 D V=>?_;refine aJ x.inv.loc λm hn _=>?_;have Y:s'.heap.Ns (s2.heap.push cy).objs.size m:=hn
  have nC:(s2.heap.push cy).objs.size∉iA (X.env::X.outer):=λz=>by
   rw[show iA (X.env::X.outer)=X.env.locals::X.fs by unfold Cx.fs iA;rw[Fx,O]]at z;obtain e|e:=a9.mp z
   .exact M.2.1 e
   .exact M.2.2.1 e
  have Z:(s2.heap.push cy).objs.size≠ea:=λz=>x.fe.2.1 z.fF;have nbC:tb≠a_ (s2.heap.push cy).objs.size:=λz=>(x.ft _ z).2.1 rfl;have nTC:B≠(s2.heap.push cy).objs.size:=λz=>eo Y.lt (by rw[<-z];exact Nat.not_lt.mpr D);refine au m (Y.at λo e=>k1 _ o nC Z nbC e) λh' k Er _=>?_;have hd2:qA h' ea c dd B (cr X.env.locals):=⟨V.1.keep λo e=>(k.2 _<|eJ Z).fC e,V.2.keep λo e=>(k.2 _ nTC).fC e⟩;refine ad4 (s:={s' with heap:=h'}) hd2 λh2 zY k3 So=>hL p_ σ H' _ ea c dd B zY ⟨?_,So,L.fe,d.gz D<|d.aM.fresh D⟩ K;have uv:∀{b:e_}{o:cB},s'.heap.get? b=a_ o->b≠B:=λe z=>eo (ff (bP e) D) (by rw[z];exact je _)
  have l:∀b∈(s2.heap.push cy).objs.size::ea::tb.toList,dW X p_ H' b:=λb a=>by
   obtain z|z:=a9.mp a
   .rw[z];exact M
   .obtain z|z:=a9.mp z
    .rw[z];exact L.fe
    .cases tb with
     | none=>simp at z
     | some T0=>
      have z':b=T0:=by simpa using z
      rw[z'];exact L.ft T0 xz
  have n0:∀{b:e_},b∉(s2.heap.push cy).objs.size::ea::tb.toList->b≠(s2.heap.push cy).objs.size:=λh z=>h (by rw[z];exact cb);have n1:∀{b:e_},b∉(s2.heap.push cy).objs.size::ea::tb.toList->b≠ea:=λh z=>h (by rw[z];exact cu _ cb);have n2:∀{b:e_},b∉(s2.heap.push cy).objs.size::ea::tb.toList->tb≠a_ b:=λh z=>h<|cu _<|cu _ (by rw[z];simp);have kk:∀b o,b∉iA X.stack->b∉(s2.heap.push cy).objs.size::ea::tb.toList->s'.heap.get? b=a_ o->h2.get? b=a_ o:=λb o a f e=>k3 b o (uv e)<|(k.2 b<|n0 f).fC<|k1 b o (by rw[<-hs];exact a) (n1 f) (n2 f) e
  have ks:∀b o,b∉(s2.heap.push cy).objs.size::ea::tb.toList->s'.heap.get? b=a_ o->∃sl,h2.get? b=a_ {o with slots:=sl}:=λb o f e=>by
   refine oE (k2 b o e (n1 f)<|n2 f) λsl q=>?_;exact⟨sl,k3 b _ (uv e)<|(k.2 b<|n0 f).fC q⟩
  exact dc.call (s:=s') d (g':=s'.gens) (d':=s'.drawn) (t':=s'.toks) (ch:=(s2.heap.push cy).objs.size::ea::tb.toList)
   ⟨λb o e n a j=>kk b o a j e,λb o e n a j=>ks b o j e,λ_ _ _ n _=>n,λb o e j=>let ⟨sl,q⟩:=ks b o j e;⟨_,q⟩,λ_ _ e=>e,λ_ _ _ e=>e,λb ps e=>⟨#[],by rw[e];simp⟩⟩
   (Gb d (λb a=>(l b a).1) kk) d.bare λb a=>⟨(l b a).2.2.2.1,(l b a).2.1,(l b a).2.2.2.2.1,(l b a).2.2.2.2.2⟩
 .have I1:=dc.adopt (o:=.lst ys) d U P G.2.1 G.2.2.2.2.1 G.2.2.2.2.2 ⟨R.1,ar,n,rv,ea⟩;refine au m ma λh' k=>(dG (.ref s2.heap.objs.size) _ (I1.turned (h':=h') (t':=s'.toks) (it:=(s2.heap.push cy).objs.size) (λb o a e=>(k.2 b a).fC e) ?_ u.2.1 (.inr<|by rw[t];exact uQ P) u.2.2.2.2.1 u.2.2.2.2.2) xz<|R.2 _ U);rw[ah (by rw[t];exact Fz _)];exact Fe
end
end L2
namespace L2
section
variable{X:Cx}
def Zq(K:u_):R2:=λx y H Q=>∃a b xs ys,x=.ref a/\y=.ref b/\az K H a xs/\az K H b ys/\xs.length+ys.length<=aX/\
 (xs=[]->Q (.ref b) H)/\(xs≠[]->ys=[]->Q (.ref a) H)/\(xs≠[]->ys≠[]->∀p,H p=b_->Q (.ref p) (db H p<|.tup<|xs++ys))
def NF(K:u_)(p:autoParam (X.K=K) am):fG X (oO .Add) (Zq K):=by
 subst p;intro p_ s σ H x y v u Q I f g h;obtain⟨a,b,xs,ys,c,d⟩:=h;subst c;obtain⟨rfl,ha,i,q,r,t,w⟩:=d
 by_cases e:xs=[]
 .cases f;cases g;refine aZ (I.tuple ha) λz A B _=>aZ (I.tuple i) λC r2 D _=>?_;have hi:=A.Hf.mpr e;refine aZ (id B) λc j k d=>?_;obtain⟨L,dd,data,sl⟩:=c;obtain⟨n,hd⟩:=d;refine aZ (id D) λc l m d=>?_;obtain⟨M,E,N,G⟩:=c;obtain⟨J,o⟩:=d;simp only at k hd m o;subst k hd m o
  exact Ul ⟨_,j,xz⟩ ⟨_,l,xz⟩ TJ T9 PySem.F.slot_tuple_add PySem.F.entry_tuple_add (PySem.F.args_tuple_add_2 _ _)
   (tuple_addW0 a b z.toArray C.toArray n J dd E sl G<|by simp[hi]) ⟨j,l,⟨.ref b,H,I,xz,r e⟩⟩
 .exact agU p_ s σ H _ _ v u Q I f g (⟨a,b,xs,ys,xz,xz,ha,i,e,q,(t e),(w e)⟩)
def NL{K:u_}(ha:H a=a_ (.tup xs))(c:H b=a_ (.tup ys))(d:xs.length+ys.length<=1000)(q:∀p H',af H H'->H' p=a_ (.tup<|xs++ys)->Q (.ref p) H'):Zq K (.ref a) (.ref b) H Q:=by
 exact⟨a,b,xs,ys,xz,xz,(az.of ha),(az.of c),(cI<|cU d),(λe=>q b H (af.refl H)<|by rw[e];exact c),(λ_ e=>q a H (af.refl H)<|by rw[e,pZ];exact ha),(λ_ _ p f=>q p _ (λb u e=>by rw[ah (λz=>by rw[z,f]at e;cases e)];exact e) ai)⟩
def Yl{K:u_}{lo hi:Option Int}(ha:H a=a_ (.tup xs))(q:∀p H',af H H'->H' p=a_ (.tup<|nE xs lo hi)->Q (.ref p) H'):Zo K (.ref a) lo hi H Q:=by
 refine rm a xs xz (az.of ha) (λh=>q a H (af.refl H) ?_) λ_ p c=>q p _ (λb u e=>by rw[ah (λz=>by rw[z,c]at e;cases e)];exact e) ai;rw[ha];unfold nE;rw[h.1,h.2,Lq,Nat.sub_zero,TM]
def aja(xs:List V)(k:Nat):nE xs b_ (a_ (k:Int))=xs.take k:=by
 unfold nE;rw[HT.We,HT.Xb,Lq,Nat.sub_zero]
 by_cases h:k<=xs.length
 .rw[FE h]
 .rw[Nat.min_eq_right om,TM,jd om]
def af8(xs:List V)(k:Nat):nE xs (a_ (k:Int)) b_=xs.drop k:=by
 unfold nE;rw[HT.We,HT.Xb]
 by_cases h:k<=xs.length
 .rw[FE h,jd (by rw[FC];exact aD _)]
 .rw[Nat.min_eq_right om,List.drop_length,Te om];simp
end
end L2
namespace TL
open PySem.SeqAt L2 L3
section
variable{P:l_}{w:k_}{K:u_}{mg:cw->Option f_}{fK:j_}
def adU(h:nz H v=c_):∃a x ps,v=.ref a/\H a=a_ (.tup (.str x::ps))/\stepOk (.str x::ps)=true:=by
 unfold nz at h;cases e:cA H v with
 | none=>rw[e]at h;cases h
 | some xs=>
  rw[e]at h;refine aJ (Az e) λa b ha=>?_;subst b
  match xs,h,ha with
  | .str x::ps,h,ha=>exact⟨a,x,ps,xz,ha,h⟩
def WZ(t:bj)(b:e_):Sp:=λvs H Q E=>∃v T,vs=[v]/\ec H v=a_ T/\(∀xs,cA H v=a_ xs->xs.length<=1000/\∀x∈xs,∃T,ec H x=a_ T)/\
 (∀a x ps,v=.ref a->H a=a_ (.tup (.str x::ps))->stepOk (.str x::ps)=c_->∀z dx H',af H H'->H z=b_->H' z=a_ (.ins (dR t x) dx<|hX (.ref a) x ps)->Q (.ref z) H')/\
 (nz H v=d_->∀H',af H H'->E (.ref b) b_ H')
def afe(T:qk K mg t)(xc:XC K cN)(Y:mg "NoStep"=a_ (.ref cN)):aE P w K mg fK (eV P w) 4 t.fO t.yZ [ap6] (WZ t cN):=by
 have Z:aE P w K mg fK aL 2 t.fS t.xB [ap6] MG:=Vn T.Jl T.bl T.cn T.Jk T.bW T.mW T.fnB T.bB T.mB;have GI:aE P w K mg fK aL 1 t.fI t.gR g8 (vm K):=wI T.init.fn T.init.tup;have QM:aE P w K mg fK aL 2 t.IB t.DZ g8 (lG t.lV O_ "number"):=Xk T.ZL T.init T.vA T.ZA T.Pr T.Pp;have QN:aE P w K mg fK aL 2 t.IC t.D0 g8 (lG t.lW O_ aq7):=Xl T.ZM T.init T.tZ T.ZC T.HZ T.Pq;have QL:aE P w K mg fK aL 2 t.IA t.DX g8 (lG t.kh H_ O_):=Xj T.ZK T.init T.rF T.Zz T.DI T.Po;have P5:aE P w K mg fK aL 2 t.Ig t.Dx g8 (lG t.lz O_ H_):=Wo T.YQ T.init T.rq T.Yz T.Ou T.Ds;have P2:aE P w K mg fK aL 2 t.Ic t.Dv g8 (lG t.lu O_ H_):=Wm T.YN T.init T.qj T.Yx T.HG T.Dr;have P4:aE P w K mg fK aL 2 t.Ie t.Dw g8 (lG t.gJ O_ ac2):=Wn T.YO T.init T.tO T.Yy T.Ot T.HF;refine T.Jm.BA Gr λaI A outer s H vs Q E M hL hp h=>?_
 .obtain⟨W,Ty,U,hTy,RE,k',kx⟩:=h;subst U
  refine let c:TS:=_;let d:TS:=_;let f:TS:=_;let g:TS:=_;let l:TS:=_;let m:TS:=_;let n:TS:=_;let p:TS:=_;let r:TS:=_;let u:TS:=_;let z:TS:=_;let B:TS:=_;let C:TS:=_;let D:TS:=_;⟨_,(aw (br (og<|gZ<|oa Z (M.mono qc) xz T.mS T.Jl.kp T.bS .nil cX<|aa (pv 0) ag) (aB<|MT xz hL xc xz Y<|aa a7 ag) bQ)
   (pR D (aw (bf (i:=1) Gr.nd xz (aP xz)<|aV dO (pv 0) ao) (pR C (aw (br (bR dm (pv 1) a7<|bG _) (pR c<|aB<|aU<|jY T.ZD QM M xz T.Pw T.ZT .nil cX<|aa (pv 0) ag) bQ) (pR B (aw (br (bR dm (pv 1) a7<|bG _) (pR d<|aB<|aU<|jY T.mkAdd QN M xz T.Px T.ZU .nil cX<|aa (pv 0) ag) bQ) (pR z (aw (br (bR dm (pv 1) a7<|bG _) (pR f<|aB<|aU<|jY T.mkSet QL M xz T.Pu T.ZS .nil cX<|aa (pv 0) ag) bQ) (pR u (aw (br (bR dm (pv 1) a7<|bG _) (pR g<|aB<|aU<|jY T.YD P5 M xz T.Ow T.Y6 .nil cX<|aa (pv 0) ag) bQ) (pR r (aw (br (bR dm (pv 1) a7<|bG _) (pR l<|aB<|aU<|jY T.YB P2 M xz T.Ov T.Y4 .nil cX<|aa (pv 0) ag) bQ) (pR p (aw (br (bR dm (pv 1) a7<|bG _) (pR m<|aB<|aU<|jY T.Xn GI (M.mono qc) xz T.Xo T.init.bi .nil cX<|aa (pv 0) ag) bQ)
   (pR n<|aB<|aU<|jY T.YC P4 M xz T.HH T.Y5 .nil cX<|aa (pv 0) ag)))))))))))))))),?_⟩
  refine vr xz (rm W Ty xz hTy RE λH1 F=>?_);refine au _ xz ?_;cases X:nz H W with
  | false=>exact iQ ⟨by show 1<=aX;decide,kx X H1 F⟩
  | true=>
  refine fq ?_;refine jx (adU X) λa S ps U ha N=>?_;subst U;have k:=k' a S ps xz ha N;have O:∀{y:cw},¬V.str S=V.str y->¬S=y:=λh e=>h (by rw[e]);refine vT (v:=.str S) xz (az.of<|F _ _ ha) (eI (j:=0) xz) ?_;refine au _ xz ⟨xz,⟨_,xz,bq (λe=>?_) λn1=>?_⟩⟩
  .cases str_inj e;obtain⟨I,J,L⟩:=oQ N (bs:=[4,dH]) (by unfold cF;rw[ek rfl]);subst L;refine vr xz λx dx nx G R=>⟨x,dx,a,[.str S_,I,J],I,J,xz,ai,?_,xz,xz,xz,?_⟩
   .rw[ah<|aQ (F _ _ ha) nx,ah<|aQ (F _ _ ha) G];exact F _ _ ha
   .refine k x dx _ (λb o q=>?_) (F.free nx) (by rw[ai];rfl);rw[ah<|aQ (F b o q) nx,ah<|aQ (F b o q) nx,ah<|aQ (F b o q) G];exact F b o q
  refine au _ xz ⟨xz,⟨_,xz,bq (λe=>?_) λn2=>?_⟩⟩
  .cases str_inj e;obtain⟨I,J,L⟩:=oQ N (bs:=[4,4]) (by unfold cF;rw[ei dk,ek rfl]);subst L;refine vr xz λx dx nx G R=>⟨x,dx,a,[.str Q_,I,J],I,J,xz,ai,?_,xz,xz,xz,?_⟩
   .rw[ah<|aQ (F _ _ ha) nx,ah<|aQ (F _ _ ha) G];exact F _ _ ha
   .refine k x dx _ (λb o q=>?_) (F.free nx) (by rw[ai];rfl);rw[ah<|aQ (F b o q) nx,ah<|aQ (F b o q) nx,ah<|aQ (F b o q) G];exact F b o q
  refine au _ xz ⟨xz,⟨_,xz,bq (λe=>?_) λn3=>?_⟩⟩
  .cases str_inj e;obtain⟨I,J,L⟩:=oQ N (bs:=[12,4]) (by unfold cF;rw[ei dk,ei dk,ek rfl]);subst L;refine vr xz λx dx nx G R=>⟨x,dx,a,[.str U_,I,J],I,J,xz,ai,?_,xz,xz,xz,?_⟩
   .rw[ah<|aQ (F _ _ ha) nx,ah<|aQ (F _ _ ha) G];exact F _ _ ha
   .refine k x dx _ (λb o q=>?_) (F.free nx) (by rw[ai];rfl);rw[ah<|aQ (F b o q) nx,ah<|aQ (F b o q) nx,ah<|aQ (F b o q) G];exact F b o q
  refine au _ xz ⟨xz,⟨_,xz,bq (λe=>?_) λn4=>?_⟩⟩
  .cases str_inj e;obtain⟨I,J,L⟩:=oQ N (bs:=[4,12]) (by unfold cF;rw[ei dk,ei dk,ei dk,ek rfl]);subst L;refine vr xz λx dx nx G R=>⟨x,dx,a,[.str L_,I,J],I,J,xz,ai,?_,xz,xz,xz,?_⟩
   .rw[ah<|aQ (F _ _ ha) nx,ah<|aQ (F _ _ ha) G];exact F _ _ ha
   .refine k x dx _ (λb o q=>?_) (F.free nx) (by rw[ai];rfl);rw[ah<|aQ (F b o q) nx,ah<|aQ (F b o q) nx,ah<|aQ (F b o q) G];exact F b o q
  refine au _ xz ⟨xz,⟨_,xz,bq (λe=>?_) λn5=>?_⟩⟩
  .cases str_inj e;obtain⟨I,J,L⟩:=oQ N (bs:=[4,12]) (by unfold cF;rw[ei dk,ei dk,ei dk,ei dk,ek rfl]);subst L;refine vr xz λx dx nx G R=>⟨x,dx,a,[.str I_,I,J],I,J,xz,ai,?_,xz,xz,xz,?_⟩
   .rw[ah<|aQ (F _ _ ha) nx,ah<|aQ (F _ _ ha) G];exact F _ _ ha
   .refine k x dx _ (λb o q=>?_) (F.free nx) (by rw[ai];rfl);rw[ah<|aQ (F b o q) nx,ah<|aQ (F b o q) nx,ah<|aQ (F b o q) G];exact F b o q
  refine au _ xz ⟨xz,⟨_,xz,bq (λe=>?_) λn6=>?_⟩⟩
  .cases str_inj e;refine vr xz λx dx nx G R=>⟨x,t.rA,dx,[],a,.str N_ :: ps,xz,ai,T.yt,T.Xm,qc,?_,xz,?_⟩
   .rw[ah<|aQ (F _ _ ha) nx,ah<|aQ (F _ _ ha) G];exact F _ _ ha
   .refine k x dx _ (λb o q=>?_) (F.free nx) (by rw[ai];rfl);rw[ah<|aQ (F b o q) nx,ah<|aQ (F b o q) nx,ah<|aQ (F b o q) G];exact F b o q
  have PR:S = J_:=Mq N (O n1) (O n2) (O n3) (O n4) (O n5)<|O n6;subst PR;obtain⟨I,J,L⟩:=oQ N (bs:=[4,121]) (by unfold cF;rw[ei dk,ei dk,ei dk,ei dk,ei dk,ei dk,ek rfl]);subst L;refine vr xz λx dx nx G R=>⟨x,dx,a,[.str J_,I,J],I,J,xz,ai,?_,xz,xz,xz,?_⟩
  .rw[ah<|aQ (F _ _ ha) nx,ah<|aQ (F _ _ ha) G];exact F _ _ ha
  .refine k x dx _ (λb o q=>?_) (F.free nx) (by rw[ai];rfl);rw[ah<|aQ (F b o q) nx,ah<|aQ (F b o q) nx,ah<|aQ (F b o q) G];exact F b o q
end
end TL
namespace L2
def OE{J:It}{n:Nat}{g:TG}{tb:TS}{D:Ends}{σ:St}{H:Hp}(a:Nat->St->Hp->Prop)(j:a 0 σ H)(k:∀i σ H,i<n->a i σ H->J.go i H)(l:∀σ H,a n σ H->J.stop n H)(hs:∀i σ H,i<n->a i σ H->∀x H',J.xq i H x H'->g x σ H' λb c=>tb {D with nx:=a<|i+1,ct:=a<|i+1,bk:=D.nx} b c)(hd:∀σ H,a n σ H->D.nx σ H):∃W:Nat->Nat->St->Hp->Prop,(∃m,W 0 m σ H)/\∀i m σ H,W i m σ H->(J.stop i H/\D.nx σ H)\/(J.go i H/\∃N:St->Hp->Prop,(∀d H',N d H'->∃h,h<m/\W (i+1) h d H')/\∀x H',J.xq i H x H'->g x σ H' λb c=>tb {D with nx:=N,ct:=N,bk:=D.nx} b c):=by
 refine⟨λi m σ H=>m=n-i/\i<=n/\a i σ H,⟨n,by simp,bJ _,j⟩,?_⟩;rintro i m σ H ⟨rfl,hi,p⟩
 by_cases f:i<n
 .exact .inr ⟨k i σ H f p,⟨a<|i+1,λd H' o=>⟨n-(i+1),om,xz,f,o⟩,hs i σ H f p⟩⟩
 .have e:i=n:=om;subst e;exact .inl ⟨l σ H p,hd σ H p⟩
end L2
namespace TL
open PySem.SeqAt L2 L3
variable{P:l_}{w:k_}{K:u_}{mg:cw->Option f_}{fK:j_}
structure Y8(K:u_)(c cE:e_):Prop where
 xc:XC K c
 self:y_ K (.ref c) (.ref c)=a_ c_
 base:y_ K (.ref c) (.type "BaseException")=a_ c_
 te:v_ K (.ref c) (.ref cE)=a_ c_
 ve:v_ K (.ref c) (.type "ValueError")=a_ c_
noncomputable def OF:V->Bool
 | .aH=>c_
 | .bl _=>c_
 | .int _=>c_
 | .str x=>yg x
 | _=>d_
def ahz(h:OF v=c_):(∃T,ec H v=a_ T)/\cA H v=none:=by
 cases v with
 | aH=>exact⟨⟨_,xz⟩,xz⟩
 | bl b=>exact⟨⟨_,xz⟩,xz⟩
 | int i=>exact⟨⟨_,xz⟩,xz⟩
 | str x=>exact⟨⟨_,xz⟩,xz⟩
 | _=>cases h
def Told(H:Hp)(v:V):Prop:=(∃T,ec H v=a_ T)/\∀xs,cA H v=a_ xs->xs.length<=1000/\∀x∈xs,OF x=c_
def vc(s:af H H')(h:ec H v=a_ T):cA H' v=cA H v:=by
 cases v with
 | ref a=>
  unfold ec at h;unfold cA;cases e:H a with
  | none=>simp only[e]at h;cases h
  | some o=>simp only[s a o e,e]
 | _=>rfl
def Told.same(s:af H H')(h:Told H v):Told H' v:=by
 refine oA h λb c=>?_;refine oE b λT a=>?_;refine⟨⟨T,sY s a⟩,λxs e=>?_⟩;rw[vc s a]at e;exact c xs e
def vg(H:Hp)(v:V)(n:Int):Bool:=match cA H v with
 | some [.str x,_,.int q]=>decide (x="skip")&&decide (n<q)
 | _=>d_
def gI(H:Hp)(v:V)(p n:Int):Bool:=nz H v&&(!vg H v n&&decide (p<120))
def Ms(s:af H H')(h:Told H v):gI H' v p n=gI H v p n:=by
 refine oA h λa _=>?_;refine oE a λT b=>?_;unfold gI nz vg;rw[vc s b]
structure CK(K:u_)(c cS:e_)(b:Bool):Prop where
 cl:w_ K (.ref c) "__class__"=a_ (a_<|.builtin ap3)
 mr:A_ K c (.type "object")=a_ c_
 one:v_ K (.ref c) (.ref cS)=a_ b
structure Qo(K:u_)(t:bj):Prop where
 gt:PySem.W.specialIn K (.builtin ap3) "__get__"=a_ (a_<|.builtin "getset_descriptor.__get__")
 tk:PySem.W.takesIn K (.builtin ap3)=a_ c_
 put:CK K t.lV t.gJ d_
 add:CK K t.lW t.gJ d_
 set:CK K t.kh t.gJ d_
 look:CK K t.lz t.gJ d_
 swap:CK K t.lu t.gJ d_
 clear:CK K t.rA t.gJ d_
 skip:CK K t.gJ t.gJ c_
section
variable{t:bj}
def ahF(T:qk K mg t)(S:Qo K t)(h:stepOk (.str x::ps)=c_):eO K (dR t x)/\CK K (dR t x) t.gJ (decide<|x = J_):=by
 unfold dR
 by_cases a:x = S_
 .subst a;rw[ek rfl];exact⟨T.vA,S.put⟩
 rw[ei a]
 by_cases b:x = Q_
 .subst b;rw[ek rfl];exact⟨T.tZ,S.add⟩
 rw[ei b]
 by_cases c:x = U_
 .subst c;rw[ek rfl];exact⟨T.rF,S.set⟩
 rw[ei c]
 by_cases d:x = L_
 .subst d;rw[ek rfl];exact⟨T.rq,S.look⟩
 rw[ei d]
 by_cases e:x = I_
 .subst e;rw[ek rfl];exact⟨T.qj,S.swap⟩
 rw[ei e]
 by_cases f:x = N_
 .subst f;rw[ek rfl];exact⟨T.yt,S.clear⟩
 rw[ei f];have g:=Mq h a b c d e f;subst g;exact⟨T.tO,S.skip⟩
def Z9(C:e_):Sp:=λvs H Q _=>∃a b c p,vs=[.ref a,c,p]/\H a=a_ (nI a (.ref C) b_ b)/\∀d,H d=b_->Q .aH (db (db H a<|nI a (.ref C) (a_ d) b) d<|kj d [(X_,c),(ac2,p)])
def alW:bc hO hO (aR Qd):=bx
def akm(F:aW K M_ "NoProgram.__init__" Qd f fd)(xf:XF K C)(n1:bp K C X_)(e:bp K C ac2):aE P w K mg fK aL 1 f fd hO (Z9 C):=by
 refine F.ok alW λaI A _ s H vs Q E j h=>?_
 .obtain⟨a,b,c,p,g,ha,k⟩:=h;subst g;refine rQ (aw (ae8 (pv 0) (pv 1) xz)<|aB<|ae7 (pv 0) (pv 2) xz) ?_;refine vr xz<|vr xz (oN a C b xz ha xf n1 λd hd=>?_);have i:a≠d:=aQ ha hd;refine au _ xz<|vr xz<|⟨a,C,b,d,([(X_,c)]),xz,(by rw[ah i];exact ai),ai,xf,e,(by show 1<1000;decide),?_⟩;rw[nZ];exact k d hd
def aeQ(h:stepOk [.str J_,v1,a]=c_):∃q,a=.int q:=by
 have e:cF J_ = a_ [4,121]:=by unfold cF;rw[ei dk,ei dk,ei dk,ei dk,ei dk,ei dk,ek rfl]
 have h':(match cF J_ with | none=>d_ | some bs=>decide ([v1,a].length=bs.length)&&([v1,a].zip bs).all λp=>mI p.1 p.2)=true:=h;rw[e]at h';simp only[fY]at h';have h2:(mI v1 4&&(mI a 121&&c_))=true:=h'.2;rw[fY,fY]at h2;cases a with
 | int q=>exact⟨q,xz⟩
 | _=>cases h2.2.1
def Yj:Sp:=λvs H Q _=>∃v p n,vs=[v,.int p,.int n]/\Told H v/\∀H',af H H'->Q (.bl<|gI H v p n) H'
def Yo:bc [ap6,ac2,"length","step"] im (aR Ph):=bx
def ag7(F:aW K "fits" "fits" Ph f fd)(T:qk K mg t)(S:Qo K t)(u:Y8 K cN cE)(D:mg "NoStep"=a_ (.ref cN)):aE P w K mg fK aL 5 f fd im Yj:=by
 have J:aE P w K mg fK (eV P w) 4 t.fO t.yZ [ap6] (WZ t cN):=afe T u.xc D;refine aJ T.cn.long λuL L rL=>?_;refine F.ok Yo λaI A _ s H vs Q E M h=>?_
 .refine jx h λv p n g N k=>?_;clear h;subst g;refine oA N λg G=>?_;refine oE g λO R=>?_;have U:∀xs,cA H v=a_ xs->xs.length<=1000/\∀x∈xs,∃T,ec H x=a_ T:=λxs e=>⟨(G xs e).1,λx j=>(ahz<|(G xs e).2 x j).1⟩;refine let b:TS:=_;⟨_,aw (agJ xz xz xz D u.base (λW pn E V hp=>aB<|bf (i:=3) Yo.nd xz (aP xz)<|Gv J M V xz T.mO T.Jm.kp T.bO .nil<|aa (pv 0) ag) λea pn=>aB<|aU lj)<|pR b<|aw (br (PW.pt<|pw_and (gZ<|b9 kY xz T.bl.km jI<|aa (pv 3)<|aa (gG (v:=.ref t.gJ) xz T.HH xz) ag)<|pw_and1<|bR HX (ba (pv 3) xz) (pv 2)<|bG _) (aB<|aU lj) bQ)<|aB<|aU<|wH wN (pv 1) (gG xz L rL)<|bG _,?_⟩;refine vr xz<|⟨v,O,xz,R,U,(λa x ps X B o z dx l s1 hz I=>?_),(λm l s1=>⟨u.self,?_⟩)⟩
  .subst X;have m:nz H (.ref a)=true:=by unfold nz;rw[i0 B];exact o
   refine oA (ahF T S o) λcl ck=>?_;refine vr xz<|⟨_,(.ref t.gJ),(.ref<|dR t x),(.ref t.gJ),(decide<|x = J_),xz,(i3.ins I cl ck.cl S.gt S.tk ck.mr),xz,ck.one,(tk<|bq (λj=>?_) λj=>?_)⟩
   .subst j;obtain⟨v1,v2,Y⟩:=oQ o (bs:=[4,121]) (by unfold cF;rw[ei dk,ei dk,ei dk,ei dk,ei dk,ei dk,ek rfl]);subst Y;refine oE (aeQ o) λq g=>?_;subst g;have r:vg H (.ref a) n=decide (n<q):=by unfold vg;rw[i0 B];rfl
    refine vF (v:=.int q) xz I T.tO T.HF xz<|vr xz ⟨_,⟨_,xz,xz,_,xz,bq (λC=>?_) λC=>?_⟩⟩
    .have d:gI H (.ref a) p n=false:=by unfold gI;rw[r,eu C,m];rfl
     have c:=k l s1;rw[d]at c;exact c
    .have d:gI H (.ref a) p n=decide (p<120):=by unfold gI;rw[r,eT C,m];rfl
     have c:=k l s1;rw[d]at c;exact au _ xz ⟨_,⟨_,xz,xz,c⟩⟩
   .have r:vg H (.ref a) n=false:=by
     unfold vg;rw[i0 B]
     split
     .rename_i xx y q Z
      cases Z;rw[eT j];rfl
     .rfl
    have d:gI H (.ref a) p n=decide (p<120):=by unfold gI;rw[r,m];rfl
    have c:=k l s1;rw[d]at c;exact au _ xz ⟨_,⟨_,xz,xz,c⟩⟩
  .have d:gI H v p n=false:=by unfold gI;rw[m];rfl
   have c:=k l s1;rw[d]at c;exact c
end
def akG{X:Cx}(K:u_)(h:autoParam (X.K=K) am):my X (.builtin "isinstance") (nT K):=by subst h;exact kY
def dZ(H:Hp)(x:V):List V:=(cA H x).getD []
def ia(H:Hp)(v:V):Bool:=match cA H v with
 | some xs=>(decide (1<=xs.length)&&decide (xs.length<=4))&&xs.all λx=>(cA H x).isSome
 | none=>d_
def qp(H:Hp)(v:V):Prop:=(∃T,ec H v=a_ T)/\∀xs,cA H v=a_ xs->xs.length<=1000/\∀x∈xs,(∃T,ec H x=a_ T)/\∀ys,cA H x=a_ ys->ys.length<=1000/\∀y∈ys,Told H y
noncomputable def hY(H:Hp)(n:Int):Nat->List V->Option Nat
 | _,[]=>b_
 | p,v::r=>if gI H v p n=c_ then hY H n (p+1) r else a_ p
noncomputable def gF(H:Hp):Nat->List V->Option (Nat×Nat)
 | _,[]=>b_
 | c,x::r=>match hY H (dZ H x).length 0 (dZ H x)with
  | some p=>a_ (c,p)
  | none=>gF H (c+1) r
theorem MC{n:Int}:∀{l r:List V}{p:Nat},hY H n p l=b_->hY H n p (l++r)=hY H n (p+l.length) r
 | [],r,p,_=>rfl
 | v::l,r,p,h=>by
  have h':(if gI H v p n=c_ then hY H n (p+1) l else a_ p)=none:=h;show (if gI H v p n=c_ then hY H n (p+1) (l++r) else a_ p)=_
  by_cases e:gI H v p n=c_
  .rw[ek e]at h' ⊢;rw[MC h',gE]
   congr 1
   lia
  .rw[ei e]at h';cases h'
theorem LG:∀{l r:List V}{c:Nat},gF H c l=b_->gF H c (l++r)=gF H (c+l.length) r
 | [],r,c,_=>rfl
 | x::l,r,c,h=>by
  have h':(match hY H (dZ H x).length 0 (dZ H x)with | some p=>a_ (c,p) | none=>gF H (c+1) l)=none:=h;show (match hY H (dZ H x).length 0 (dZ H x)with | some p=>a_ (c,p) | none=>gF H (c+1)<|l++r)=_;cases e:hY H (dZ H x).length 0 (dZ H x)with
  | some p=>rw[e]at h';cases h'
  | none=>
   rw[e]at h';show gF H (c+1) (l++r)=_;rw[LG h',gE]
   congr 1
   omega
def take_cons{a:Type}{l:List a}{i:Nat}{x:a}(h:l[i]?=a_ x):l=l.take i++x::l.drop (i+1):=by
 refine oE (dX.mp h) λhi e=>?_;rw[<-e,<-SV hi,Ft]
def adH{H:Hp}{n:Int}{l:List V}{i:Nat}{x:V}(a:l[i]?=a_ x)(h:hY H n 0 (l.take i)=b_)(f:gI H x i n=c_):hY H n 0 (l.take<|i+1)=none:=by
 have hi:i<l.length:=(dX.mp a).1;rw[kN,a,MC h,gX,FE<|cI hi,Um];show (if gI H x i n=c_ then b_ else a_ i)=b_;rw[ek f]
def VS{n:Int}{i:Nat}(a:l[i]?=a_ x)(h:hY H n 0 (l.take i)=b_)(f:gI H x i n=d_):hY H n 0 l=a_ i:=by
 have hi:i<l.length:=(dX.mp a).1;rw[take_cons a,MC h,gX,FE<|cI hi,Um];show (if gI H x i n=c_ then _ else a_ i)=a_ i;rw[f,ei dS]
def acA{H:Hp}{l:List V}{i:Nat}{x:V}(a:l[i]?=a_ x)(h:gF H 0 (l.take i)=b_)(f:hY H (dZ H x).length 0 (dZ H x)=b_):gF H 0 (l.take<|i+1)=none:=by
 rw[kN,a,LG h];show (match hY H (dZ H x).length 0 (dZ H x)with | some p=>a_ (_,p) | none=>b_)=b_;rw[f]
def Uh{i p:Nat}(a:l[i]?=a_ x)(h:gF H 0 (l.take i)=b_)(f:hY H (dZ H x).length 0 (dZ H x)=a_ p):gF H 0 l=a_ (i,p):=by
 have hi:i<l.length:=(dX.mp a).1;rw[take_cons a,LG h,gX,FE<|cI hi,Um];show (match hY H (dZ H x).length 0 (dZ H x)with | some p=>a_ (i,p) | none=>_)=a_ (i,p);rw[f]
def ahc:([ap7]:List cw).Nodup:=dk
section
variable{t:bj}
def Zk:Sp:=λvs H Q _=>∃v,vs=[v]/\qp H v/\∀H',af H H'->Q (.bl<|ia H v) H'
def aka:bc gy gy (aR Qg):=bx
def aiE(F:aW K "has_clerks" "has_clerks" Qg f fd)(B:Bl mg)(C:∃u,mg "CLERKS"=a_ u/\df (.int 4) u):aE P w K mg fK aL 1 f fd gy Zk:=by
 refine aJ C λW D G=>?_;refine F.ok aka λaI A _ s H vs Q E X h=>?_
 .refine aZ h λv g I k=>?_;clear h;subst g;refine oA I λg J=>?_;refine oE g λm d=>?_
  refine let b:TS:=_;⟨_,aw (br (PW.pt<|pw_or (og<|gZ<|b9 kY xz B.km jI<|aa (pv 0)<|aa (qZ (v:=.ty Z_) xz B.tuple i8 xz) ag)<|pw_or1<|og<|ae5 HW HW ao (b9 gm xz B.len q_<|aa (pv 0) ag)<|gG xz D G) (aB<|aU lj) bQ) (pR b (aB (aU (b9 (CS xz) xz B.all GR (aa (iu (N:=[ap7]) (idx:=[]) xz (dJ.of<|by kernel_rfl) (iG<|bJ _)
    (vp<|pv 0) (λ_ _ _ _=>cW (i:=0) ahc xz (aP xz)<|.inr xz) (λ_ _ _ _=>gY)
    λ_ _ _ _=>b9 (akG K) xz B.km jI<|aa (pv 0)<|aa (qZ (v:=.ty Z_) xz B.tuple i8 xz) ag) ag))))),?_⟩
  cases hv:cA H v with
  | none=>
   have hi:rK m Z_ = false:=by rw[Dq d,hv];rfl
   have L:ia H v=false:=by unfold ia;rw[hv]
   have c:=k H<|af.refl H;rw[L]at c;refine au v xz<|dF _ _ _ _<|i9 _ xz (ph d) xz (pe d qc)<|au _ xz ?_;rw[hi];exact iQ<|iQ c
  | some xs=>
   refine aJ (Az hv) λa M ha=>?_;subst M;refine oA (J xs hv) λY O=>?_;have hi:rK m Z_ = true:=by rw[Dq d,hv];rfl
   have c:∀H',af H H'->Q (.bl<|(decide (1<=xs.length)&&decide (xs.length<=4))&&xs.all λx=>(cA H x).isSome) H':=λH' s=>by
    have q:=k H' s;unfold ia at q;rw[hv]at q;exact q
   refine vr xz<|dF _ _ _ _<|i9 _ xz (ph d) xz (pe d qc)<|au _ xz ?_;rw[hi];refine fq ?_;refine vr xz<|dG a xs xz (.inr<|az.of ha) ⟨_,⟨_,xz,xz,_,xz,bq (λh1=>?_) λh1=>?_⟩⟩
   .have j:decide (1<=xs.length)=true:=eu li;rw[j,qb]at c;refine⟨_,⟨_,xz,xz,_,xz,wU (λh2=>?_) λh2=>?_⟩⟩
    .have l:decide (xs.length<=4)=false:=eT λz=>h2 li;rw[l,qS]at c;exact c H<|af.refl H
    have l:decide (xs.length<=4)=true:=eu li;rw[l,qb]at c;refine au _ xz<|dD a xz ⟨xs,az.of ha⟩ ?_;refine iH (n:=xs.length) (λi ys H'=>i<=xs.length/\af H H'/\ys=(xs.take i).map λx=>V.bl (cA H x).isSome) ?_ ?_ ?_ ?_ ?_ ?_ ?_
    .exact cI (cU w0)
    .exact gQ (bJ _) (af.refl _) xz
    .rintro i ys H' ⟨_,_,e⟩;rw[e,aS,gX];exact xl
    .rintro i ys H' hi ⟨_,s1,_⟩;exact gw xs (xs[i]) (az.of<|s1 _ _ ha)<|a8 hi
    .rintro ys H' ⟨_,s1,_⟩;exact au xs (az.of<|s1 _ _ ha)<|aD _
    .rintro i ys H' hi ⟨_,s1,e⟩ x Z ⟨R,S⟩;subst R;have o:=S xs<|az.of<|s1 _ _ ha;refine oA (O x<|cH o) λg _=>?_;refine oE g λTx p=>?_;have y:=sY s1 p;refine vr xz<|dF _ _ _ _<|⟨_,xz,(ph y),xz,(pe y qc),hi,s1,?_⟩;rw[kN,o,fg,<-e,Dq p];rfl
    .rintro ys H' ⟨_,s1,e⟩;refine⟨?_,λr T=>?_⟩
     .rw[e,aS,gX];exact cI<|cU li
     have U:ys=((xs.map λx=>(cA H x).isSome)).map V.bl:=by
      rw[e,jd<|aD _,qU];rfl
     refine dG r (xs.map λx=>(cA H x).isSome) xz (aq.of<|by rw[ai,U]) ?_;rw[yh];exact c _<|ax s1 T
   .have j:decide (1<=xs.length)=false:=eT λz=>h1 li;rw[j,qS,qS]at c;exact au _ xz<|iQ<|c H<|af.refl H
def NV(cC cP:e_):Sp:=λvs H Q E=>∃v,vs=[v]/\qp H v/\(ia H v=d_->∀H',af H H'->E (.ref cC) b_ H')/\
 (ia H v=c_->∀xs,cA H v=a_ xs->(gF H 0 xs=b_->∀H',af H H'->Q .aH H')/\
  ∀c p,gF H 0 xs=a_ (c,p)->∀d H',af H H'->H' d=a_ (kj d [(X_,.int c),(ac2,.int p)])->E (.ref cP) (a_ d) H')
def De:bc ["program",X_,ap7,ac2,ap6] gy (aR Mi):=bx
def aep(h:ia H v=c_)(hv:cA H v=a_ xs):∀x∈xs,cA H x=a_ (dZ H x):=λx a=>by
 unfold ia at h;rw[hv]at h;have h':((decide (1<=xs.length)&&decide (xs.length<=4))&&xs.all λx=>(cA H x).isSome)=true:=h;rw[fY]at h';have:=kQ.mp h'.2 x a;refine oE (Tb.mp this) λys e=>?_;unfold dZ;rw[e];rfl
def ag2{f L M fI cC cP:e_}{fd U V gR:ir}(F:aW K "look_over" "look_over" Mi f fd)(B:Bl mg)(W:mg "enumerate"=b_)(GH:aE P w K mg fK aL 1 L U gy Zk)(kH:x_ K (.ref L)=c_)(bH:dt K U gy [])(mH:mg "has_clerks"=a_ (.ref L))(GF:aE P w K mg fK aL 5 M V im Yj)(kF:x_ K (.ref M)=c_)(bF:dt K V im [])(mF:mg "fits"=a_ (.ref M))(xC:XC K cC)(mC:mg "NoClerks"=a_ (.ref cC))(xP:pi K cP fI)(GI:aE P w K mg fK aL 1 fI gR hO (Z9 cP))(bI:dt K gR hO [])(mP:mg "NoProgram"=a_ (.ref cP)):aE P w K mg fK (eV P w) 6 f fd gy (NV cC cP):=by
 refine F.BA De λaI A outer s H vs Q E N X Y h=>?_
 .refine eh h λv O Z kC kP=>?_;clear h;subst O
  refine let k:TS:=_;let l:TS:=_;let m:TS:=_;let t:TS:=_;⟨_,aw (br (og<|gZ<|oa GH (N.mono qc) xz mH kH bH .nil cX<|aa (pv 0) ag) (aB<|MT xz X xC xz mC<|aa a7 ag) bQ)
   (pR t<|aB<|tM Y xz (C5 (b:=d_) xz W<|aa (pv 0) ag) (wL xz<|mq (cW (i:=1) De.nd xz<|aP xz)<|mq (cW (i:=2) De.nd xz<|aP xz) wG)<|pR m<|aB<|tM Y xz (C5 (b:=d_) xz W<|aa (pv 2) ag) (wL xz<|mq (cW (i:=3) De.nd xz<|aP xz)<|mq (cW (i:=4) De.nd xz<|aP xz) wG)<|pR l<|aB<|br (og<|gZ<|oa GF N xz mF kF bF .nil cX<|aa (pv 4)<|aa (pv 3)<|aa (b9 gm xz B.len q_<|aa (pv 2) ag) ag) (pR k<|aB<|ad0 xz X xP GI (N.mono qc) bI xz mP<|aa (pv 1)<|aa (pv 3) ag) bQ),?_⟩
  refine vr xz (dD v xz Z λH1 s1=>⟨_,xz,?_⟩);cases C:ia H v with
  | false=>exact iQ ⟨by show 1<=aX;decide,kC C H1 s1⟩
  | true=>
  refine fq ?_
  obtain⟨xs,hv⟩:∃xs,cA H v=a_ xs:=by
   unfold ia at C;cases e:cA H v with
   | none=>rw[e]at C;cases C
   | some xs=>exact⟨xs,xz⟩
  refine oA (kP C xs hv) λkn kb=>?_;have RO:=aep C hv;refine oA Z λ_ hx=>?_;refine oA (hx xs hv) λhl kz=>?_;refine aJ (Az hv) λa e0 ha=>?_;subst e0;refine vr xz<|dG a xs xz (az.of<|s1 _ _ ha)<|OE (n:=xs.length) (λi σ H'=>i<=xs.length/\∃c q p d,σ=[a_ (.ref a),c,q,p,d]/\af H H'/\gF H 0 (xs.take i)=b_) ⟨bJ _,b_,b_,b_,b_,xz,s1,xz⟩ ?_ ?_ ?_ ?_
  .rintro i σ H' hi ⟨_,_,_,_,_,_,s2,_⟩;exact gw xs (xs[i]) (az.of<|s2 _ _ ha)<|a8 hi
  .rintro σ H' ⟨_,_,_,_,_,_,s2,_⟩;exact au xs (az.of<|s2 _ _ ha)<|aD _
  .rintro i σ H2 hi ⟨_,c,q,p,d,rfl,s2,D⟩ z H3 ⟨r,x,c9,ez,eH,eZ⟩;subst ez;subst eH;have R:=eZ xs<|az.of<|s2 _ _ ha;have hm:=cH R;refine oA (kz x hm) λO hys=>?_;refine oE O λTx zU=>?_;have hpx:=RO x hm;refine oA (hys _ hpx) λhyl hyt=>?_;refine aJ (Az hpx) λb eb G=>?_;subst eb;have s3:af H (db H2 r<|.tup [.int i,.ref b]):=ax s2 c9;refine rm r ([.int i,.ref b]) xz (az.of ai) xz<|gw (.int i) ([.ref b]) xz<|dG (.ref b) ([]) xz xz ?_;refine vr xz<|dG b (dZ H<|.ref b) xz (az.of<|s3 _ _ G)<|OE (n:=(dZ H<|.ref b).length) (λj σ H'=>∃p d,σ=[a_ (.ref a),a_<|.int i,a_<|.ref b,p,d]/\af H H'/\hY H (dZ H<|.ref b).length 0 ((dZ H<|.ref b).take j)=b_) ⟨p,d,xz,s3,xz⟩ ?_ ?_ ?_ ?_
   .rintro j σ H' hj ⟨_,_,_,u,_⟩;exact gw _ ((dZ H<|.ref b)[j]) (az.of<|u _ _ G)<|a8 hj
   .rintro σ H' ⟨_,_,_,u,_⟩;exact au _ (az.of<|u _ _ G)<|aD _
   .rintro j σ H4 hj ⟨p',d',rfl,u,I⟩ z' H5 ⟨r',y,JZ,ez',SG,vU⟩;subst ez';subst SG;have S:=vU _<|az.of<|u _ _ G;have aaH:=hyt y<|cH S;have J:af H (db H4 r'<|.tup [.int j,y]):=ax u JZ;refine rm r' ([.int j,y]) xz (az.of ai) xz<|gw (.int j) ([y]) xz<|dG y ([]) xz xz ?_;refine au _ xz<|vr xz<|vr xz ⟨b,⟨_,xz,.inr<|az.of<|J _ _ G,y,j,_,xz,aaH.same J,λH6 s6=>⟨_,xz,?_⟩⟩⟩;rw[Ms J aaH];cases hf:gI H y j (dZ H<|.ref b).length with
    | false=>
     refine iQ<|au _ xz<|vr xz ⟨by show 2<=aX;decide,(λea ta zR=>⟨ea,_,.int i,.int j,xz,ai,λd hd=>⟨xz,a_ d,?_,?_⟩⟩)⟩
     .rw[ah<|aQ ai hd];exact ai
     .have T:af H H6:=J.fC s6;have nde:d≠ea:=λz=>by rw[z,ai]at hd;cases hd
      refine kb i j (Uh R D<|VS S I hf) d _ (λg o e=>?_) ?_
      .have n1:g≠ea:=aQ (T _ _ e) zR;have n2:g≠d:=aQ (show db H6 ea _ g=a_ o by rw[ah n1];exact T _ _ e) hd;rw[yy n1,ah n2,ah n1,ah n1];exact T _ _ e
      .rw[yy nde];exact ai
    | true=>exact fq ⟨_,_,xz,J.fC s6,adH S I hf⟩
   .rintro σ H4 ⟨p',d',rfl,u,I⟩;rw[jd<|aD _]at I;exact⟨hi,⟨_,_,_,⟨_,xz,u,acA R D I⟩⟩⟩
  .rintro σ H' ⟨_,c,q,p,d,rfl,s2,D⟩;rw[jd<|aD _]at D;exact kn D H' s2
end
end TL
namespace TL
open L2 L3
variable{P:l_}{w:k_}{K:u_}{mg:cw->Option f_}{fK:j_}
structure BT(mg:cw->Option f_):Prop where
 km:mg "isinstance"=b_
 int:mg "int"=b_
 bool:mg "bool"=b_
 str:mg "str"=b_
 len:mg "len"=b_
 all:mg "all"=b_
 range:mg "range"=b_
 enum:mg "enumerate"=b_
 min:mg "min"=b_
 sorted:mg "sorted"=b_
structure lA(K:u_)(C:e_):Prop where
 cl:eO K C
 kind:bp K C T_
 turn:bp K C ap8
 tL:bp K C "queues"
def V1:Sp:=λvs H Q _=>∃v T,vs=[v]/\ec H v=a_ T/\Q (.bl<|vK v) H
def aeV:bc [aq6] [aq6] (aR Nt):=bx
def ad5(F:aW K Y_ Y_ Nt f fd)(B:BT mg):aE P w K mg fK aL 1 f fd [aq6] V1:=by
 refine F.ok aeV λaI A _ s H vs Q E c h=>?_
 .refine gf h λv T b a k=>?_;clear h;subst b;refine⟨_,aB<|aU<|HD (b9 kY xz B.km jI<|aa (pv 0)<|aa (qZ (v:=.ty "int") xz B.int boot_int xz) ag)<|Dj<|Oj<|b9 kY xz B.km jI<|aa (pv 0)<|aa (qZ (v:=.ty "bool") xz B.bool boot_bool xz) ag,?_⟩;have e:=YI a;refine au v xz<|dF _ _ _ _<|i9 _ xz (ph a) xz (pe a qc)<|au _ xz (Ee (λh1=>?_) λh1=>?_)
  .refine au v xz (dF _ _ _ _<|i9 _ xz (ph a) xz (pe a qc)<|au _ xz ?_);rw[h1,qb]at e;rw[e];exact k
  .rw[h1,qS]at e;rw[e];exact k
def P'(C:e_):Sp:=λvs H Q _=>∃x dx kd,vs=[.ref x,.str kd]/\H x=a_ (.ins C dx [])/\∀H' q qr,dQ H' x C kd 0 [] q qr->(∀b o,b≠x->H b=a_ o->H' b=a_ o)->(∀b∈q::qr,H b=b_)->Q .aH H'
def alV:bc hF hF (aR Es):=bx
def ahd:([H_]:List cw).Nodup:=dk
def akC(f:cw)(u:V):(aN f u []).length<1000:=by
 have h1:=qW f u [];have h3:([]:List (cw×V)).length=0:=rfl;exact wb
def akB(f g:cw)(u v:V):(aN f u<|aN g v []).length<1000:=by
 have h1:=qW f u<|aN g v [];have h2:=qW g v [];have h3:([]:List (cw×V)).length=0:=rfl;exact xi
def WU:∀m∈X7,¬m = T_/\¬m = ap8/\¬m="queues":=dk
def nH(kd:cw)(q:e_):(aN "queues" (.ref q) (aN ap8 (.int 0)<|aN T_ (.str kd) []))=[((T_ : cw),V.str kd),((ap8 : cw),V.int 0),(("queues":cw),V.ref q)]:=by
 have n1:¬(T_ : cw) = ap8:=dk;have a:¬(T_ : cw)="queues":=dk;have b:¬(ap8 : cw)="queues":=dk;simp only[aN,n1,a,b,if_false]
def Zs(F:aW K M_ "Tray.__init__" Es f fd)(B:BT mg)(r:lA K C)(G:∃u,mg "NAMES"=a_ u/\df (.int 12) u):aE P w K mg fK aL 1 f fd hF (P' C):=by
 refine aJ G λuN G rN=>F.ok alV λaI A _ s H vs Q E hr h=>?_
 .refine jx h λx dx kd O R k=>?_;clear h;subst O
  refine let a:TS:=_;let d:TS:=_;⟨_,aw (dU (pv 0) (pv 1) xz) (pR d (aw (dU (pv 0) ao xz) (pR a (aB (dU (pv 0) (iu (N:=[H_]) (idx:=[]) xz (dJ.of<|by kernel_rfl) (iG<|bJ _)
   (oM xz B.range<|aa (gG xz G rN) ag) (λ_ _ _ _=>cW (i:=0) ahd xz (aP xz)<|.inr xz) (λ_ _ _ _=>gY) λ_ _ _ _=>dh ag) xz))))),?_⟩
  refine vr xz<|vr xz<|kU x C dx ([]) xz R r.cl r.kind qc<|au _ xz<|⟨x,C,dx,(jg _ xz ai r.cl r.turn (akC _ _) ?_)⟩;rw[nZ];refine⟨12,xz,qc,qc,?_⟩;generalize I:db H x (.ins C dx<|aN ap8 (.int 0)<|aN T_ (.str kd) [])=H1;have J:H1 x=a_ (.ins C dx<|aN ap8 (.int 0)<|aN T_ (.str kd) []):=by rw[<-I];exact ai
  have n1:∀b,H1 b=b_->H b=none:=λb e=>by
   rw[<-I]at e
   by_cases z:b=x
   .rw[z,ai]at e;cases e
   .rwa[ah z]at e
  refine iH (n:=12) (λi ys H'=>∃qr:List e_,ys=qr.map V.ref/\qr.length=i/\qr.Nodup/\(∀b∈qr,H' b=a_ (.lst [])/\H1 b=b_)/\af H1 H') qc ⟨[],xz,xz,.nil,(λb g=>nomatch g),af.refl _⟩ ?_ ?_ ?_ ?_ ?_
  .rintro i ys H' ⟨qr,rfl,t,_⟩;rw[aS,t];exact aD _
  .rintro i ys H' hi _;exact hi
  .rintro ys H' _;exact aD _
  .rintro i ys H' hi ⟨qr,rfl,t,nd,j,l⟩ y gD ⟨S,ey⟩;subst S;dsimp only[iO,jz];rw[ek rfl];refine⟨qc,λp D=>⟨qr++[p],by simp,by simp[t],?_,λb g=>?_,ax l D⟩⟩
   .refine La.mpr (gQ nd (by simp) λb g c T=>?_);rw[c7.mp T];exact aQ (j b g).1 D
   .obtain z|z:=i6.mp g
    .exact⟨by rw[ah<|aQ (j b z).1 D];exact(j b z).1,(j b z).2⟩
    .rw[c7.mp z];refine⟨ai,?_⟩;cases e:H1 p with
     | none=>rfl
     | some o=>rw[l _ _ e]at D;cases D
  .rintro ys H' ⟨qr,rfl,t,nd,j,l⟩;refine⟨by rw[aS,t];decide,λq v=>?_⟩;have nx:=aQ (l _ _ J) v;refine vr xz<|⟨x,C,dx,(jg _ xz (by rw[ah nx];exact l _ _ J) r.cl r.tL (akB _ _ _ _) ?_)⟩;have xv:q∉qr:=λz=>by rw[(j q z).1]at v;cases v
   have U:x∉qr:=λz=>by have:=(j x z).2;rw[J]at this;cases this
   refine k _ q qr ⟨⟨dx,_,ai,?_,?_,?_,?_,?_⟩,by rw[ah<|eJ nx,ai],t,nd,xv,λi b g=>⟨[],?_,by rw[agH];exact .nil⟩,⟨.nil,(λe L=>nomatch L),(λe L=>nomatch L)⟩⟩ (λb o g e=>?_) λb g=>?_
   .rw[fJ,ei dk,fJ,ei dk,fJ,ek rfl]
   .rw[fJ,ei dk,fJ,ek rfl]
   .rw[fJ,ek rfl]
   .intro m hm;refine jm (WU m hm) λW X Y=>?_;rw[fJ,ei Y,fJ,ei X,fJ,ei W];rfl
   .rw[nH];show 3<=20;decide
   .have hm:=cH g;have Z:b≠x:=λz=>U<|z ▸ hm;have nbq:b≠q:=λz=>xv<|z ▸ hm;rw[ah Z,ah nbq];exact(j b hm).1
   .have e1:H1 b=a_ o:=by rw[<-I,ah g];exact e
    have M:=l _ _ e1;rw[ah g,ah<|aQ M v];exact M
   .refine n1 b ?_;obtain z|z:=a9.mp g
    .subst z;cases e:H1 b with
     | none=>rfl
     | some o=>rw[l _ _ e]at v;cases v
    .exact(j b z).2
def D3(F:List e_)(H H':Hp):Prop:=∀b o,b∉F->H b=a_ o->H' b=a_ o
def aiO(h:n<=20000):n<aX:=by rw[ij];exact wb
def ND(es:List gl)(i:Nat):(cD es i).length<=es.length:=uP _ _
theorem LX{c d:Type}{F:c->d->Prop}{a:c}{b:d}:∀{l:List c}{r:List d},bL F l r->F a b->bL F (l++[a]) (r++[b])
 | _,_,.nil,h=>.cons h .nil
 | _,_,.cons g t,h=>.cons g<|LX t h
def dQ.aah{tn:Int}(T:dQ H a C kd tn es q qr){n:Int}(c:0<=n)(h1:n<12):∃i:Nat,n=i/\i<12/\∃b,qr[i]?=a_ b/\jS (qr.map V.ref) n=a_ (.ref b):=by
 have d:=T.len;obtain⟨i,rfl⟩:∃i:Nat,n=i:=⟨n.toNat,xm⟩;have hi:i<qr.length:=li;refine dD i xz li<|au (qr[i]) (a8 hi)<|eI ?_;rw[eX,a8 hi];rfl
theorem YE:∀(fs:List (cw×V))(u:V),fs.lookup f=a_ v->(aN f u fs).length=fs.length
 | [],_,e=>by cases e
 | (g,x)::r,u,e=>by
  by_cases h:g=f
  .simp only[aN,ek h,gE]
  .simp only[aN,ei h,gE];rw[YE r u];have a:(f==g)=false:=by simpa using λz=>h z.fF
   rw[qR,a]at e;exact e
def Zl(C:e_):Sp:=λvs H Q _=>∃a n num d kd tn es q qr,vs=[.ref a,.int n,.int num,.int d]/\dQ H a C kd tn es q qr/\0<=n/\n<12/\es.length<=20000/\
 ∀H',dQ H' a C kd (tn+1) (es++[⟨tn,n,num,d⟩]) q qr->D3 (a::q::qr) H H'->Q .aH H'
def ah6:bc iv iv (aR Pd):=bx
def agZ(F:aW K Q_ "Tray.add" Pd f fd)(l:lA K C):aE P w K mg fK aL 1 f fd iv (Zl C):=by
 refine F.ok ah6 λaI A _ s H vs Q E hr h=>?_
 .refine jw h λa n num d kd t=>Dn t λtn es q qr t G=>?_;subst t;obtain⟨T,M,h1,hz,k⟩:=G;refine⟨_,aw (dY<|lh m_ n_ o_ nh (aV cJ (ba (pv 0) xz)<|pv 1)<|aa (cp<|aa (ba (pv 0) xz)<|aa (cp<|aa (pv 1)<|aa (pv 2)<|aa (pv 3) ag) ag) ag)<|aB<|ad1 (pv 0) ao aiU,?_⟩;refine eY (id T.obj) λdx fs ea e1 I N em el=>aZ (T.aah M h1) λi t hi G=>?_;subst t;refine aJ G λb x hat=>aJ (T.kl i b x) λvs r O=>?_;have R:=cH x;have lv:=r_ O;have lq:=ND es i;refine vF xz ea l.cl l.tL N<|vr xz<|rL (v:=.ref b) (aq.of T.qs) (hat) ⟨.inl ⟨xz,_,aq.of r⟩,vF xz ea l.cl l.turn I<|au _ xz<|vr xz<|vr xz ⟨(sl (n:=3)),(λst cO=>⟨(sl (n:=2)),λp S=>?_⟩)⟩⟩;have B:∀c o,H c=a_ o->c≠st:=λc o e=>aQ e cO;have J:=λc o e=>aQ (by rw[ah<|B c o e];exact e) S;have nsp:=aQ ai S;have up:∀c o,H c=a_ o->db (db H st<|.tup [.int (i:Int),.int num,.int d]) p (.tup [.int tn,.ref st]) c=a_ o:=λc o e=>by rw[ah<|J c o e,ah<|B c o e];exact e
  have L:=hV ea r (by intro z;cases z);have Rj:q≠b:=λz=>T.nq<|z ▸ R;refine oN b vs (.ref p) xz xz (up _ _ r) (aiO li)<|au _ xz<|dF a C dx fs<|jg _ xz (by rw[ah L];exact up _ _ ea) l.cl l.turn I ⟨_,_,xz,xz,dx,fs,by rw[ah L];exact up _ _ ea,wb,?_⟩;have pb:=eJ<|J b _ r;have pa:=eJ<|J a _ ea;have sb:=eJ<|B b _ r;have sa:=eJ<|B a _ ea;generalize u:db (db (db (db H st<|.tup [.int (i:Int),.int num,.int d]) p<|.tup [.int tn,.ref st]) b<|.lst<|vs++[.ref p]) a (.ins C dx<|aN ap8 (.int<|tn+1) fs)=H2;have D:∀c o,c≠a->c≠b->H c=a_ o->H2 c=a_ o:=λc o z1 z2 e=>by rw[<-u,ah z1,ah z2];exact up c o e
  have ga:H2 a=a_ (.ins C dx<|aN ap8 (.int<|tn+1) fs):=by rw[<-u];exact ai
  have gb:H2 b=a_ (.lst<|vs++[.ref p]):=by rw[<-u,ah<|eJ L];exact ai
  have gp:H2 p=a_ (.tup [.int tn,.ref st]):=by rw[<-u,ah pa,ah pb];exact ai
  have gs:H2 st=a_ (.tup [.int (i:Int),.int num,.int d]):=by rw[<-u,ah sa,ah sb,ah nsp];exact ai
  have U:∀c xs,H c=a_ (.tup xs)->H2 c=a_ (.tup xs):=λc xs e=>D c _ (hV e ea<|by intro z;cases z) (hV e r<|by intro z;cases z) e;refine k H2 ⟨⟨dx,_,ga,?_,?_,?_,λm hm=>?_,?_⟩,D q _ (hV T.qs ea<|by intro z;cases z) Rj T.qs,T.len,T.nd,T.nq,λj c g=>?_,ahT T.wf M h1⟩ λc o g e=>D c o (λz=>g<|by simp[z]) (λz=>g<|by simp[z,R]) e
  .rw[fJ,ei dk];exact e1
  .rw[fJ,ek rfl]
  .rw[fJ,ei dk];exact N
  .rw[fJ,ei (WU m hm).2.1];exact em m hm
  .have:=YE fs (.int<|tn+1) I;exact w7
  .rw[Xe]
   by_cases z:j=i
   .subst z;rw[x]at g;cases g;rw[ek rfl];exact au _ gb<|LX (tG (λ_ _ y=>y.keep (F:=[]) U) O) ⟨p,st,xz,gp,gs⟩
   .rw[ei λy=>z (by have:(i:Int)=(j:Int):=y;lia)]
    have Rl:c≠b:=λy=>z (by
     subst y;have n1:=dX.mp g;have n2:=dX.mp x;refine oE n1 λV W=>oE n2 λX Y=>?_;obtain y|y|y:=KZ j i
     .exact eo (W.fC Y.fF) (mZ.mp T.nd j i V X y)
     .exact y
     .exact eo (Y.fC W.fF) (mZ.mp T.nd i j X V y))
    refine(T.kl j c g).keep (λo e=>D c o (λy=>?_) Rl e) U;refine aJ (T.kl j c g) λkr Z _=>?_;rw[y,ea]at Z;cases Z
def adm{b a:Type}{F:b->a->Prop}{r:List a}(h:bL F [] r):r=[]:=by cases h;rfl
theorem Ud:∀{vs:List V}{l:List gl},bL (ke H) vs l->vs≠[]->∃c v e,vs=c++[v]/\l.getLast?=a_ e/\ke H v e
 | _,_,.nil,h=>eo xz h
 | _,_,.cons (a:=v) (b:=e) g t,_=>by
  cases t with
  | nil=>exact⟨[],v,e,xz,xz,g⟩
  | cons h t=>
   exact jx (Ud (.cons h t)<|by simp) λc d f i j k=>⟨(v::c),d,f,(by rw[i];rfl),(by rw[List.getLast?_cons_cons];exact j),k⟩
def V5(C:e_):Sp:=λvs H Q _=>∃a n kd tn es q qr,vs=[.ref a,.int n]/\dQ H a C kd tn es q qr/\0<=n/\n<12/\es.length<=20000/\
 (Hg es n.toNat=b_->Q .aH H)/\∀e st,Hg es n.toNat=a_ e->H st=a_ (.tup [.int e.n,.int e.num,.int e.d])->Q (.ref st) H
def Vf:bc [V_,H_,"queue"] gP (aR MO):=bx
def adq(F:aW K "latest" "Tray.latest" MO f fd)(B:BT mg)(g:lA K C):aE P w K mg fK aL 1 f fd gP (V5 C):=by
 refine F.ok Vf λaI A _ s H vs Q E G h=>?_
 .obtain⟨a,n,kd,tn,es,q,qr,c,T,l,d⟩:=h;subst c;obtain⟨h1,I,k0,k1⟩:=d;refine⟨_,aw (bf (i:=2) Vf.nd xz (aP xz)<|aV cJ (ba (pv 0) xz)<|pv 1)<|aB<|aU<|MW (bR dm (b9 gm xz B.len q_<|aa (pv 2) ag) ao<|bG _) qi<|aV dO (aV cJ (pv 2)<|Zr X6 ao) ao,?_⟩;refine eY (id T.obj) λdx fs ea J L m M N=>aZ (T.aah l h1) λi c hi d=>?_;subst c;refine aJ d λb o r=>?_;rw[mh]at k0 k1;refine aJ (T.kl i b o) λvs j k=>vF xz ea g.cl g.tL m<|vr xz<|rL (v:=.ref b) (aq.of T.qs) (r)<|vr xz ⟨b,⟨_,xz,.inl<|aq.of j,xz,_,xz,bq (λz=>?_) λz=>?_⟩⟩
  .have hv:vs=[]:=by
    injection z with z
    exact Fq.mp li
   subst hv;refine k0 ?_;unfold Hg;rw[adm k];rfl
  .have hv:vs≠[]:=λy=>z (by rw[y];rfl);refine jx (Ud k hv) λO v e t u c=>gf c λp st c x D=>?_;subst c;subst t;refine vr xz<|au _ xz<|rL (v:=.ref p) (aq.of j) (WO _ _)<|rT (v:=.ref st) (az.of x) (xz)<|k1 e st u D
def Np(C:e_):Sp:=λvs H Q _=>∃a kd tn es q qr,vs=[.ref a]/\dQ H a C kd tn es q qr/\∀H',af H H'->Q (.bl<|decide<|es=[]) H'
def aeX:bc g0 g0 (aR Nv):=bx
def Wt:(["queue"]:List cw).Nodup:=dk
def adM{tn:Int}(w:pH tn es)(h:∀i,i<12->cD es i=[]):es=[]:=by
 cases es with
 | nil=>rfl
 | cons e r=>
  refine oA (w.nm e cb) λa h1=>?_;have:=h e.n.toNat li;unfold cD at this;rw[sQ,ek (by simp;lia)]at this;cases this
def all_empty{tn:Int}(w:pH tn es):((List.range 12).map λi=>decide<|cD es i=[]).all id=decide (es=[]):=by
 by_cases h:es=[]
 .subst h;rfl
 .rw[eT h,yh];cases e:(List.range 12).all (id ∘ λi=>decide<|cD es i=[])with
  | false=>rfl
  | true=>
   exfalso;exact h (adM w λi hi=>by simpa using kQ.mp e i (uU.mpr hi))
def ad9(F:aW K "is_empty" "Tray.is_empty" Nv f fd)(B:BT mg)(c:lA K C):aE P w K mg fK aL 1 f fd g0 (Np C):=by
 refine F.ok aeX λaI A _ s H vs Q E v h=>?_
 .refine jw h λa kd tn es q b=>aZ b λqr b T k=>?_;subst b
  refine⟨_,aB (aU (b9 (CS xz) xz B.all GR (aa (iu (N:=["queue"]) (idx:=[]) xz (dJ.of<|by kernel_rfl) (iG<|bJ _) (qY<|ba (pv 0) xz)
   (λ_ _ _ _=>cW (i:=0) Wt xz (aP xz)<|.inr xz) (λ_ _ _ _=>gY) λ_ _ _ _=>wH dm (b9 (len_K K) xz B.len q_<|aa (pv 0) ag) ao<|bG _) ag))),?_⟩
  refine eY (id T.obj) λdx fs ea x D g G I=>au _ xz<|dF a C dx fs<|jg _ xz ea c.cl c.tL g<|dD q xz ⟨_,aq.of T.qs⟩ ?_;have l:=T.len;refine iH (n:=12) (λi ys H'=>H'=H/\ys=(List.range i).map λj=>V.bl<|decide<|cD es j=[]) qc ⟨xz,xz⟩ ?_ ?_ ?_ ?_ ?_
  .rintro i ys H' ⟨_,rfl⟩;rw[aS,wq];exact aD _
  .rintro i ys H' hi ⟨rfl,_⟩;exact gw _ (V.ref<|qr[i]'wg) (aq.of T.qs) (by rw[eX,a8 wg];rfl)
  .rintro ys H' ⟨rfl,_⟩;exact au _ (aq.of T.qs) (by rw[aS,l];exact aD _)
  .rintro i ys H' hi ⟨rfl,rfl⟩ y J ⟨m,o⟩;subst m;have d:=o _<|aq.of T.qs;rw[eX,a8 wg]at d;cases d;refine aJ (T.kl i _<|a8 wg) λvs r t=>?_;dsimp only[iO,jz];rw[ek rfl];refine vr xz ⟨_,⟨_,xz,.inl<|aq.of r,xz,xz,?_⟩⟩;rw[sS,fg]
   congr 1
   have e:=r_ t;simp only[fu,List.map_nil,vd.injEq,V.bl.injEq,and_true];refine decide_eq_decide.mpr ⟨λz=>?_,λz=>?_⟩
   .injection z with z
    exact Fq.mp li
   .rw[z]at e;rw[e];rfl
  .rintro ys H' ⟨rfl,rfl⟩;refine⟨by rw[aS,wq];decide,λp u=>dG p ((List.range 12).map λj=>decide<|cD es j=[]) xz (aq.of<|by rw[ai,qU];rfl) ?_⟩;rw[all_empty T.wf];exact k _<|ax (af.refl _) u
def wM(es:List gl)(i:Nat):List Int:=((List.range i).filter λj=>decide<|cD es j≠[]).map λ(j:Nat)=>(j:Int)
def UC(es:List gl)(i:Nat):wM es (i+1)=wM es i++(if cD es i≠[] then [(i:Int)] else []):=by
 unfold wM;rw[sS,Ae,fg]
 congr 1
 by_cases h:cD es i≠[]
 .rw[ek h,List.filter_cons_of_pos (by simpa using h)];rfl
 .rw[ei h,List.filter_cons_of_neg (by simpa using h)];rfl
def U7(es:List gl)(i:Nat):(wM es i).length<=i:=by
 unfold wM;rw[aS];have h:=uP (λj=>decide<|cD es j≠[])<|List.range i;rw[wq]at h;exact h
def xy(es:List gl)(n:Int):Int:=((cD es n.toNat).head?.map (·.t)).getD 0
def LF(w:pH tn es)(h:es.head?=a_ e):e.n∈nA es:=by
 have hm:e∈es:=by
  cases es with
  | nil=>cases h
  | cons x r=>cases h;exact cb
 refine oA (w.nm e hm) λa h1=>CG.mpr (dD e.n.toNat li xm λz=>?_);have:=WC (i:=e.n.toNat) h xm;rw[z]at this;cases this
def agC(w:pH tn es)(hm:m∈nA es)(c:∀n∈nA es,xy es m<=xy es n):(es.head?.map (·.n)).toList=[m]:=by
 refine aZ (CG.mp hm) λi hi d a=>?_;subst d;cases es with
 | nil=>exact eo xz a
 | cons e r=>
  have h1:=c e.n<|LF w xz;refine oA (w.nm e cb) λj n1=>?_
  have k1:xy (e::r) e.n=e.t:=by
   unfold xy;rw[WC (i:=e.n.toNat) (e:=e) xz xm];rfl
  cases q:cD (e::r) i with
  | nil=>exact eo q a
  | cons x l=>
   have f:xy (e::r) (i:Int)=x.t:=by
    unfold xy;rw[mh,q];rfl
   have b:x∈cD (e::r) i:=by rw[q];exact cb
   unfold cD at b;refine oA (pY.mp b) λg h=>?_;have hn:x.n=(i:Int):=by simpa using h
   obtain z|z:=a9.mp g
   .show [e.n]=[(i:Int)];rw[<-z,hn]
   .have:=(Tr.mp w.asc).1 x z;rw[k1,f]at h1;lia
def agD(w:pH tn es)(h:¬1<(nA es).length):(es.head?.map (·.n)).toList=nA es:=by
 cases es with
 | nil=>rfl
 | cons e r=>
  have hm:=LF (e:=e) w xz
  match q:nA (e::r)with
  | []=>rw[q]at hm;cases hm
  | [x]=>
   rw[q]at hm;rw[<-c7.mp hm];rfl
  | _::_::_=>
   rw[q]at h;simp at h
noncomputable abbrev LP:Pos:=⟨183,35,183,71⟩
noncomputable abbrev LQ:cw:=("Tray.fronts":cw)++".<locals>."++"<lambda>"
def MH(C PT:e_):Sp:=λvs H Q _=>∃a kd tn es q qr,vs=[.ref a]/\dQ H a C kd tn es q qr/\cx PT LP LQ H/\
 ∀H' l,iP [] H H'->cx PT LP LQ H'->H l=b_->H' l=a_ (.lst<|(ju kd es).map V.int)->Q (.ref l) H'
def Vg:bc [V_,"names"] g0 (aR Gs):=bx
def Zx:([H_,"queue"]:List cw).Nodup:=dk
def Iq(h:V.str x=V.str y):x=y:=by injection h
def adi{PT:e_}(s:af H H1)(t:wY PT H1 H2)(a:H1 PT=a_ (.gg ps))(b:H2 PT=a_ (.gg ps')):iP [] H H2:=(iP.of s).fC<|iP.xu t a b
def UN{f C PT c:e_}(F:xn K "fronts" "Tray.fronts" Gs f fd c)(B:BT mg)(G:lA K C)(hC:W.CodeHd fK c PT)(hB:vH mg fK):aE P w K mg fK aL 2 f fd g0 (MH C PT):=by
 refine F.ok Vg λA outer s H vs Q E hr h=>?_
 .refine jw h λa kd tn es q D=>eh D λqr D T yS k=>?_;subst D;have hrm:=hr.dp
  refine let d:TS:=_;let g:TS:=_;⟨_,aw (UK (i:=1) (N:=[H_,"queue"]) (idx:=[]) Vg.nd xz xz xz (dJ.of<|by kernel_rfl) (FU (bJ _)<|bJ _) (C5 (b:=c_) xz B.enum<|aa (ba (pv 0) xz) ag)
    (λ_ _ _ _=>wL xz<|mq (cW (i:=0) Zx xz (aP xz)<|.inr xz)<|mq (cW (i:=1) Zx xz (aP xz)<|.inr xz) wG)
    (λ_ _ _ _=>Xg<|bR HX (b9 (len_K K) xz B.len q_<|aa (pv 1) ag) ao<|bG _) λ_ _ _ _=>pv 0)
   (pR g (aw (br (PW.pt<|pw_and (bR dm (ba (pv 0) xz) a7<|bG _)<|pw_and1<|bR HX (b9 gm xz B.len q_<|aa (pv 1) ag) ao<|bG _) (pR d (aB (aU (dh (aa (ad3 (N:=[V_,H_]) (idx:=[0]) (k:=1) (px:=H_) (P:=PT) xz (by show A.depth+1+5<_;have h1:A.depth+1+3*1+5<FJ:=hrm;lia) xz B.min (pv 1) (dJ.of<|by kernel_rfl) xz hC hB xz xz qc
     (λ_ _ _ _ _ _=>aV (akF K) (aV (DU K) (aV (DU K) (akL K (pv 0) xz)<|pv 1) ao) ao) λ_ _ _ _ _ _=>rfl) ag))))) bQ)
   (aB<|aU<|pv 1))),?_⟩
  refine eY (id T.obj) λdx fs ea e1 e2 e3 em el=>?_;have hl:=T.len;refine vF xz ea G.cl G.tL e3 ⟨q,⟨_,xz,aq.of T.qs,iH (n:=12) (λi ys H'=>af H H'/\ys=(wM es i).map V.int) qc ⟨af.refl _,xz⟩ ?_ ?_ ?_ ?_ ?_⟩⟩
  .rintro i ys H' ⟨_,rfl⟩;rw[aS];exact U7 es i
  .rintro i ys H' hi ⟨u,_⟩;exact gw _ (V.ref<|qr[i]'wg) (aq.of<|u _ _ T.qs) (by rw[eX,a8 wg];rfl)
  .rintro ys H' ⟨u,_⟩;exact au _ (aq.of<|u _ _ T.qs) (by rw[aS,hl];exact aD _)
  .rintro i ys H' hi ⟨u,rfl⟩ y gD ⟨p,x,hp,ey,eH,L⟩;subst ey;subst eH;have Z:=L _<|aq.of<|u _ _ T.qs;rw[eX,a8 wg]at Z;cases Z;refine aJ (T.kl i _<|a8 wg) λvs R M=>?_;have s2:af H (db H' p<|.tup [.int i,.ref qr[i]]):=ax u hp;have lv:=r_ M;refine⟨p,⟨_,xz,az.of ai,xz,_,_,xz,_,_,xz,xz,vr xz ⟨_,⟨_,xz,.inl<|aq.of<|s2 _ _ R,_,_,xz,xz,_,xz,bq (λz=>?_) λz=>?_⟩⟩⟩⟩
   .refine vr xz ⟨s2,?_⟩;rw[UC,ek (λy=>by rw[y]at lv;rw[lv]at z;exact eo z<|by simp),fg];rfl
   .refine⟨s2,?_⟩;rw[UC,ei λy=>y<|Fq.mp li,pZ]
  .rintro ys H' ⟨u,rfl⟩;have wl:=U7 es 12;refine⟨by rw[aS];exact cI<|cU w4,λl1 S=>?_⟩;have s1:af H (db H' l1<|.lst<|(wM es 12).map V.int):=ax u S;generalize zV:db H' l1 (.lst<|(wM es 12).map V.int)=H1 at s1;have I:H1 l1=a_ (.lst<|(nA es).map V.int):=by rw[<-zV];exact ai
   have nl1:H l1=none:=by
    cases e:H l1 with
    | none=>rfl
    | some o=>rw[u _ _ e]at S;cases S
   have O:=fA yS s1;have T1:=T.wQ<|iP.of s1;refine eY (id T1.obj) λkJ kG Fm f1 f2 f3 _ _=>?_;have done:(nA es).length<=12:=wl;refine au _ xz<|dF a C kJ kG<|⟨_,xz,Fm,G.cl,G.kind,f1,xz,(au _ xz ?_)⟩
   by_cases J:kd = ap9
   .rw[eu (show V.str kd=V.str ap9 by rw[J])];refine iQ<|vr xz ⟨l1,⟨_,xz,.inl<|aq.of I,_,_,xz,xz,_,xz,bq (λz=>?_) λz=>?_⟩⟩
    .rw[aS]at z;refine au _ xz (oN l1 (nA es) (xy es) xz (aq.of I) li O λH2 sp U=>aJ (id O) λps hPT _=>aJ (id U) λps' aaW _=>?_);have kp:=iP.xu sp hPT aaW;have X:=T1.wQ kp;have nN:=kp.k l1 _ (by simp) (λps z=>by cases z) I;refine gQ (aq.of nN) (λm hm=>?_) λm hm hb=>?_
     .refine aZ (CG.mp hm) λi hi D jo=>?_;subst D;refine eY (id X.obj) λlM nQ ea2 g1 g2 g3 _ _=>aJ (X.kl i _<|a8 wg) λvs R M=>?_;cases Y:cD es i with
      | nil=>exact eo Y jo
      | cons x r=>
       rw[Y]at M;cases M with
       | cons L JZ=>
        refine gf L λp st D q1 q2=>?_;clear L;subst D;refine vF xz ea2 G.cl G.tL g3<|vr xz<|rL (v:=.ref<|qr[i]'wg) (aq.of X.qs) ((eI<|by rw[eX,a8 wg];rfl))<|cl1 (v:=.ref p) (j:=0) R xz<|rT (v:=.int x.t) (az.of q1) (eI (j:=0) xz) ⟨?_,xz⟩
        .unfold xy;rw[mh,Y];rfl
     .refine⟨(sl (n:=1)),λl hn=>k _ l ((adi s1 sp hPT aaW).fC<|iP.of<|ax (af.refl _) hn) (fA U<|ax (af.refl _) hn) ?_ ?_⟩
      .cases e:H l with
       | none=>rfl
       | some o=>
        by_cases zp:l=PT
        .refine aJ U λps2 h2 _=>?_;rw[zp,h2]at hn;cases hn
        .rw[sp _ _ zp<|s1 _ _ e]at hn;cases hn
      .rw[ai];unfold ju;rw[ek J,agC T.wf hm hb];rfl
    .rw[aS]at z;refine vr xz<|k H1 l1 (iP.of s1) O nl1 ?_;rw[I];unfold ju;rw[ek J,agD T.wf li]
   .rw[eT (show ¬V.str kd=V.str ap9 from λz=>J<|Iq z)];refine fq<|fq<|vr xz<|k H1 l1 (iP.of s1) O nl1 ?_;rw[I];unfold ju;rw[ei J]
def aho(n:Int)(ns:List Int):BB (.int n) (ns.map V.int)=decide (n∈ns):=by
 unfold BB
 induction ns with
 | nil=>rfl
 | cons m r ih=>
  rw[fu,Am,ih]
  by_cases h:m=n
  .subst h;simp[pq]
  .have:pq (.int m) (.int n)=false:=by simp[pq,h]
   rw[this,Bool.false_or];exact decide_eq_decide.mpr ⟨λz=>cu _ z,λz=>(a9.mp z).resolve_left λy=>h y.fF⟩
def aeq(ns:List Int):(ns.map V.int).all vz=true:=by
 rw[yh];exact kQ.mpr λ_ _=>rfl
def Vy{kd:cw}{tn:Int}{es:List gl}{n:Int}(w:pH tn es)(h:n∈ju kd es):∃i:Nat,i<12/\n=i/\∃e r,cD es i=e::r:=by
 have hw:n∈nA es:=by
  unfold ju at h
  by_cases a:kd = ap9
  .rw[ek a]at h;cases es with
   | nil=>cases h
   | cons e r=>
    have b:n=e.n:=by simpa using h
    rw[b];exact LF w xz
  .rw[ei a]at h;exact h
 refine aZ (CG.mp hw) λi hi e c=>dD i hi e ?_;cases q:cD es i with
 | nil=>exact eo q c
 | cons x r=>exact⟨x,r,xz⟩
def Ye(C PT:e_):Sp:=λvs H Q _=>∃a n kd tn es q qr,vs=[.ref a,.int n]/\dQ H a C kd tn es q qr/\cx PT LP LQ H/\n∈ju kd es/\
 ∀H' e st,(cD es n.toNat).head?=a_ e->dQ H' a C kd tn (tY es n) q qr->iP (a::q::qr) H H'->cx PT LP LQ H'->H' st=a_ (.tup [.int e.n,.int e.num,.int e.d])->Q (.ref st) H'
def agq:bc gP gP (aR N0):=bx
def afh{f fW O C PT c:e_}{fd rX R:ir}(F:aW K "take" "Tray.take" N0 f fd)(B:BT mg)(L:lA K C)(hC:W.CodeHd fK c PT)(hB:vH mg fK)(Z:aW K Y_ Y_ Nt fW rX)(bW:dt K rX [aq6] [])(mW:mg Y_ = a_ (.ref fW))(FF:xn K "fronts" "Tray.fronts" Gs O R c)(bF:dt K R g0 [])(mF:Meth K C "fronts" O):aE P w K mg fK aL 3 f fd gP (Ye C PT):=by
 have GW:aE P w K mg fK aL 1 fW rX [aq6] V1:=ad5 Z B;have GF:aE P w K mg fK aL 2 O R g0 (MH C PT):=UN FF B L hC hB;refine F.ok agq λaI A _ s H vs Q E hr h=>?_
 .obtain⟨a,n,kd,tn,es,q,qr,G,T,yS,M⟩:=h;subst G;refine oA M λjV k1=>?_;clear M
  refine let d:TS:=_;⟨_,aw (br (PW.pt (pw_or (og<|gZ<|oa GW (hr.mono qc) xz mW Z.kp bW .nil cX<|aa (pv 1) ag)
    (pw_or1<|bR Ue (pv 1) (Gu (pv 0) L.cl mF GF hr bF .nil cX) xz))) Mj bQ)
   (pR d<|aB<|aU<|aV dO (lh m_ PySem.F.slot_list_pop PySem.F.type_list_pop afz (aV cJ (ba (pv 0) xz)<|pv 1)<|aa ao ag) ao),?_⟩
  refine eY (id T.obj) λdx fs ea e1 e2 e3 em el=>vr xz<|dG (.int n) ("int") xz xz<|au _ xz<|fq<|vr xz<|vM xz ea (em "fronts" dk)<|⟨a,kd,tn,es,q,qr,xz,T,yS,(λN l kp rP hn hl=>⟨l,⟨_,xz,.inl<|aq.of hl,xz,aeq _,_,xz,?_⟩⟩)⟩;rw[ek xz,aho];refine DV (λz=>eo jV<|f' z) λ_=>?_
  .have g:=T.wQ kp;refine aZ (Vy T.wf jV) λi hi G M=>?_;subst G;refine Ji M λe r S=>eY (id g.obj) λkJ kG U f1 f2 f3 fm fl=>?_;have apk:=g.len;have x:qr[i]?=a_ (qr[i]'wg):=a8 wg;refine aJ (g.kl i _ x) λvs u rb=>?_;have V:=cH x;generalize qr[i]'wg=b at x u V;rw[S]at rb;cases rb with
   | cons hx JZ=>
    refine gf hx λp st G I J=>?_;clear hx;subst G
    rename_i X
    refine au _ xz<|dF a C kJ kG<|jg _ xz U L.cl L.tL f3<|vr xz<|rL (v:=.ref b) (aq.of g.qs) (eI<|by rw[eX,x];rfl) ⟨.inl ⟨xz,_,aq.of u⟩,?_⟩;refine⟨b,_,0,0,(.ref p),xz,xz,u,qc,qc,(by simp[ME]),xz,?_⟩;have npb:=hV I u (by intro z;cases z);have nsb:=hV J u (by intro z;cases z);refine rT (v:=.ref st) (az.of<|by rw[ah npb];exact I) (eI (j:=1) xz) ?_
    have ka:D3 (a::q::qr) N (db N b<|.lst X):=λc o m D=>by
     rw[ah λz=>m (by simp[z,V])];exact D
    have kt:∀c xs,N c=a_ (.tup xs)->db N b (.lst X) c=a_ (.tup xs):=λc xs D=>by rw[ah<|hV D u (by intro z;cases z)];exact D
    have EI:=hV U u (by intro z;cases z);have Rj:q≠b:=λz=>g.nq<|z ▸ V
    refine k1 _ e st (by rw[mh,S];rfl) ⟨⟨kJ,kG,by rw[ah EI];exact U,f1,f2,f3,fm,fl⟩,by rw[ah Rj];exact g.qs,g.len,g.nd,g.nq,λj c m=>?_,agf g.wf _⟩
     ⟨λc o m ht D=>ka c o m<|kp.k c o (by simp) ht D,λc h=>kp.t c (by
      by_cases z:c=b
      .rw[z,ai]at h;cases h
      .rwa[ah z]at h)⟩ (Cz rP ka g.kinds) (by rw[ah nsb];exact J)
    rw[ae3]
    by_cases Y:j=i
    .subst Y;rw[x]at m;cases m;rw[ek xz,S];exact au X ai<|tG (λ_ _ y=>y.keep (F:=[]) kt) JZ
    .rw[ei λy=>Y (by have:(i:Int)=(j:Int):=y;lia)]
     have Rl:c≠b:=λy=>Y (by
      subst y;refine oE (dX.mp m) λp1 I=>?_;refine oE (dX.mp x) λp2 J=>?_;obtain y|y|y:=KZ j i
      .exact eo (I.fC J.fF) (mZ.mp g.nd j i p1 p2 y)
      .exact y
      .exact eo (J.fC I.fF) (mZ.mp g.nd i j p2 p1 y))
     exact(g.kl j c m).keep (λo e=>by rw[ah Rl];exact e) kt
def V2(C:e_):Sp:=λvs H Q _=>∃kd,vs=[.str kd]/\(kd = ap9\/kd = H_\/kd = ap4)/\∀H' x q qr,dQ H' x C kd 0 [] q qr->D3 [] H H'->(∀b∈x::q::qr,H b=b_)->Q (.ref x) H'
def aeW:bc [T_] [T_] (aR Nu):=bx
def Xz{H:Hp}{v:V}{T:String}(h:ec H v=a_ T):rK T "str"=c_↔∃x,v=.str x:=by
 constructor
 .intro z;cases v with
  | str x=>exact⟨x,xz⟩
  | aH=>cases h;cases z
  | bl b=>cases h;cases z
  | int i=>cases h;cases z
  | ref a=>
   unfold ec at h;cases e:H a with
   | none=>simp only[e]at h;cases h
   | some o=>
    cases o with
    | lst xs=>simp only[e]at h;cases h;cases z
    | tup xs=>simp only[e]at h;cases h;cases z
    | _=>simp only[e]at h;cases h
  | _=>cases h
 .rintro⟨x,rfl⟩;cases h;rfl
theorem VA{f:Nat->List gl}:∀n:Nat,((∃k:Nat,k<n/\e.n=(k:Int))->CM ((List.range n).flatMap λ(i:Nat)=>if e.n=(i:Int) then e::f i else f i) (e::(List.range n).flatMap f))/\((¬∃k:Nat,k<n/\e.n=(k:Int))->((List.range n).flatMap λ(i:Nat)=>if e.n=(i:Int) then e::f i else f i)=(List.range n).flatMap f)
 | 0=>⟨λ⟨k,b,_⟩=>eo b<|TX _,λ_=>rfl⟩
 | n+1=>by
  refine oA (VA (e:=e) (f:=f) n) λm c=>?_;have d:∀g:Nat->List gl,(List.range<|n+1).flatMap g=(List.range n).flatMap g++g n:=λg=>by rw[sS,Fw];simp
  rw[d,d];constructor
  .rintro⟨k,b,o⟩
   by_cases h:e.n=(n:Int)
   .have a:¬∃k:Nat,k<n/\e.n=(k:Int):=λ⟨j,p,l⟩=>li;rw[c a,ek h];exact List.perm_middle
   .rw[ei h];exact(m ⟨k,li,o⟩).append_right _
  .intro a;rw[c λ⟨j,p,l⟩=>a ⟨j,li,l⟩,ei λh=>a ⟨n,w1,h⟩]
theorem Uu:∀{es:List gl},(∀e∈es,0<=e.n/\e.n<12)->CM ((List.range 12).flatMap<|cD es) es
 | [],_=>by
  have:(List.range 12).flatMap (cD [])=[]:=List.flatMap_eq_nil_iff.mpr λi _=>rfl;rw[this]
 | e::r,h=>by
  have a:(cD (e::r))=λi=>if e.n=((i:Nat):Int) then e::cD r i else cD r i:=by
   funext i
   unfold cD;rw[sQ]
   by_cases z:e.n=(i:Int)
   .simp only[eu z,if_true,ek z]
   .simp only[eT z,yb,if_false,ei z]
  refine oA (h e cb) λc h1=>?_;rw[a];exact((VA (e:=e) (f:=cD r) 12).1 ⟨e.n.toNat,li,xm⟩).fC ((Uu λx b=>h x<|cu _ b).cons e)
theorem Uw(qv:Nat->List V)(a:Nat->List gl):∀n:Nat,(∀i:Nat,i<n->bL (ke H) (qv i) (a i))->bL (ke H) ((List.range n).flatMap qv) ((List.range n).flatMap a)
 | 0,_=>.nil
 | n+1,h=>by
  have b:∀{e:Type}(g:Nat->List e),(List.range<|n+1).flatMap g=(List.range n).flatMap g++g n:=λg=>by rw[sS,Fw];simp
  rw[b,b];exact paired_cat (Uw qv a n λi hi=>h i li)<|h n<|sO n
where
 paired_cat {H:Hp}:∀{l c:List V}{r d:List gl},bL (ke H) l r->bL (ke H) c d->bL (ke H) (l++c) (r++d)
 | _,_,_,_,.nil,h=>h
 | _,_,_,_,.cons g t,h=>.cons g<|paired_cat t h
theorem Vk{c d:Type}{F:c->d->Prop}:∀{l:List c}{r:List d},l.length=r.length->(∀(i:Nat)a b,l[i]?=a_ a->r[i]?=a_ b->F a b)->bL F l r
 | [],[],_,_=>.nil
 | [],_::_,h,_=>by cases h
 | _::_,[],h,_=>by cases h
 | a::l,b::r,h,k=>.cons (k 0 a b xz xz) (Vk (by simpa using h) λi x y e f=>k (i+1) x y (by simpa using e)<|by simpa using f)
theorem LW:∀{l:List V}{r:List gl},bL (ke H) l r->∀q∈(l.zip r).map λz=>(z.2.t,z.1),∃e∈r,q.1=e.t/\ke H q.2 e
 | _,_,.nil,q,h=>by cases h
 | _,_,.cons (a:=v) (b:=e) g t,q,h=>by
  rw[Tq,fu]at h;obtain z|z:=a9.mp h
  .rw[z];exact dD e cb xz g
  .refine aJ (LW t q z) λc h1 h2=>?_;exact au c (cu _ h1) h2
theorem zip_parts:∀{l:List V}{r:List gl},bL (ke H) l r->((l.zip r).map λz=>(z.2.t,z.1)).map (·.2)=l/\((l.zip r).map λz=>(z.2.t,z.1)).map (·.1)=r.map (·.t)
 | _,_,.nil=>⟨xz,xz⟩
 | _,_,.cons g t=>by
  refine oA (zip_parts t) λh1 h2=>?_;rw[Tq,fu,fu,fu,h1,h2];exact⟨xz,xz⟩
def acV{tn:Int}{qs:List (Int×V)}(w:pH tn es)(d:CM L es)(r:bL (ke H) vs L)(f:CM qs ((vs.zip L).map λz=>(z.2.t,z.1)))(ha:qs.Pairwise λa b=>a.1<b.1):bL (ke H) (qs.map (·.2)) es:=by
 have g:qs.map (·.1)=es.map (·.t):=by
  refine W.ksm_same ?_ (Tu.mpr<|ha.imp λh=>Int.le_of_lt h)<|Tu.mpr (w.asc.imp λh=>Int.le_of_lt h);have:=f.map (·.1);rw[(zip_parts r).2]at this;exact this.fC<|d.map _
 have s:qs.length=es.length:=by have:=fw FR g;simpa using this
 refine Vk (by rw[aS,s]) λi v e hv k=>?_;rw[eX]at hv;refine aJ (Fs.mp hv) λq l c=>?_;subst c;refine aZ (LW r q<|f.mem_iff.mp<|cH l) λm u x y=>?_
 have A:q.1=e.t:=by
  have:(qs.map (·.1))[i]?=a_ q.1:=by rw[eX,l];rfl
  rw[g,eX,k]at this;exact(eG this).fF
 have B:m∈es:=d.mem_iff.mp u
 have:m=e:=by
  refine oE (x9 B) λj c=>?_;refine oE c λn o=>?_;refine oE (dX.mp k) λhi p=>?_;have C:es[j].t=es[i].t:=by rw[o,p,<-x,A]
  obtain z|z|z:=KZ j i
  .have:=mZ.mp w.asc j i n hi z;lia
  .subst z;rw[<-o,<-p]
  .have:=mZ.mp w.asc i j hi n z;lia
 rw[<-this];exact y
def ac0(w:pH tn es)(a:CM L es):(L.map (·.t)).Nodup:=by
 refine(a.map (·.t)).nodup_iff.mpr ?_;exact Tu.mpr (w.asc.imp λh=>Int.ne_of_lt h)
def Me(C a:e_):Sp:=λvs H Q E=>∃v T,vs=[v]/\ec H v=a_ T/\
 ((v=.str ap9\/v=.str H_\/v=.str ap4)->∀kd H' x q qr,v=.str kd->dQ H' x C kd 0 [] q qr->D3 [] H H'->(∀b∈x::q::qr,H b=b_)->Q (.ref x) H')/\
 (¬(v=.str ap9\/v=.str H_\/v=.str ap4)->E (.ref a) b_ H)
def ado(F:aW K "tray_of" "tray_of" Nu f fd)(B:BT mg)(i:lA K C)(M:Mk K C fI)(FI:aW K M_ "Tray.__init__" Es fI gR)(j:dt K gR hF [])(k:mg "Tray"=a_ (.ref C))(l:∃u,mg "NAMES"=a_ u/\df (.int 12) u)(mK:mg "KINDS"=a_ (.ref aK))(m:∀H:Hp,az K H aK [.str ap9,.str H_,.str ap4])(xc:XC K yG)(n:mg "NoKind"=a_ (.ref yG)):aE P w K mg fK (eV P w) 3 f fd [T_] (Me C yG):=by
 have GI:aE P w K mg fK aL 1 fI gR hF (P' C):=Zs FI B i l;refine F.BA aeW λaI A outer s H vs Q E p r S h=>?_
 .obtain⟨v,T,c,a,k1,d⟩:=h;subst c;refine⟨_,aw (br (PW.pt<|pw_or (og<|gZ<|b9 kY xz B.km jI<|aa (pv 0)<|aa (qZ (v:=.ty "str") xz B.str boot_str xz) ag)<|pw_or1<|bR Ue (pv 0) (gG (v:=.ref aK) xz mK xz) xz) (aB<|MT xz r xc xz n<|aa a7 ag) bQ)<|aB<|aU<|jY M GI p xz k j .nil cX<|aa (pv 0) ag,?_⟩;refine vr xz<|dF _ _ _ _<|i9 _ xz (ph a) xz (pe a qc)<|au _ xz ?_;refine DV (λz=>?_) λz=>?_
  .refine iQ ⟨qc,d λy=>?_⟩;have:∃x,v=.str x:=by rcases y with y | y | y <;> exact⟨_,y⟩
   rw[(Xz a).mpr this]at z;cases z
  .refine oE ((Xz a).mp z) λx c=>?_;subst c;refine vr xz ⟨aK,⟨_,xz,.inr<|m H,xz,xz,_,xz,?_⟩⟩;rw[ek rfl]
   have t:BB (.str x) [.str ap9,.str H_,.str ap4]=decide (V.str x=.str ap9\/V.str x=.str H_\/V.str x=.str ap4):=by
    unfold BB
    have g:∀y:cw,pq (.str y) (.str x)=decide (V.str x=V.str y):=λy=>by
     simp only[pq]
     by_cases q:x=y
     .subst q;simp
     .have:¬V.str x=V.str y:=λe=>q<|Iq e;rw[eT this];exact fi.mpr λe=>q e.fF
    simp only[Am,List.any_nil,g,Bool.or_false]
    by_cases D:V.str x=.str ap9 <;> by_cases G:V.str x=.str H_ <;> by_cases I:V.str x=.str ap4 <;> simp[D,G,I]
   rw[t];refine DV (λy=>?_) λy=>?_
   .exact⟨qc,d<|f' y⟩
   .refine vr xz λo dx no J ne=>?_;refine⟨o,dx,x,xz,ai,(λH' q qr L kp fr=>⟨xz,k1 (er y) x H' o q qr xz L (λb u _ e=>kp b u (aQ e no) ?_) λb N=>?_⟩)⟩
    .rw[ah<|aQ e no,ah<|aQ e J];exact e
    .obtain z|z:=a9.mp N
     .rw[z];exact no
     .have:=fr b z;have O:b≠o:=λe=>by rw[e,ai]at this;cases this
      rw[ah O]at this;have R:b≠dx:=λe=>by rw[e,ai]at this;cases this
      rw[ah R]at this;exact this
theorem WG{a:Type}{qv:Nat->List a}:∀n:Nat,(∀i,i<n->(qv i).length<=m)->((List.range n).flatMap qv).length<=n*m
 | 0,_=>by simp
 | n+1,h=>by
  rw[sS,Fw,dg];have h1:=WG n λi hi=>h i li;have h2:=h n<|sO n;simp only[Af,aca,pZ];rw[Nat.succ_mul];lia
theorem tf{a b:Type}{F:a->b->Prop}:∀{l:List a}{r:List b}{i:Nat}{x:a},bL F l r->l[i]?=a_ x->∃y,r[i]?=a_ y/\F x y
 | _,_,_,_,.nil,e=>by simp at e
 | _,_,0,_,.cons h _,e=>by simp at e;subst e;exact⟨_,xz,h⟩
 | _,_,i+1,x,.cons _ t,e=>by
  refine aJ (tf (i:=i) t<|by simpa using e) λy h1 h2=>?_;exact au y (by simpa using h1) h2
def amf(x y z:V):nE [x,y,z] b_ (a_ 2)=[x,y]:=rfl
def HM(H:Hp)(v:V)(e:gl):Prop:=∃p,v=.ref p/\H p=a_ (.tup [.int e.n,.int e.num])
def V4(C:e_):Sp:=λvs H Q _=>∃a kd tn es q qr,vs=[.ref a]/\dQ H a C kd tn es q qr/\es.length<64/\
 ∀H' l us,af H H'->H l=b_->H' l=a_ (.lst us)->bL (HM H') us es->Q (.ref l) H'
def Mg:bc [V_,"waiting","queue"] g0 (aR MN):=bx
def Zu:([ap8,aq5]:List cw).Nodup:=dk
def adp(F:aW K "listed" "Tray.listed" MN f fd)(B:BT mg)(cT:lA K C):aE P w K mg fK aL 1 f fd g0 (V4 C):=by
 refine F.ok Mg λaI A _ s H vs Q E hr h=>?_
 .obtain⟨a,kd,tn,es,q,qr,v,T,hz,k⟩:=h;subst v
  refine let g:TS:=_;let l:TS:=_;let u:TS:=_;⟨_,aw (bf (i:=1) Mg.nd xz (aP xz)<|dh ag) (pR u (aw (tM uS xz (qY<|ba (pv 0) xz) (cW (i:=2) Mg.nd xz<|aP xz)<|pR g<|aB<|dY<|lh m_ PySem.F.slot_list_extend PySem.F.type_list_extend Vq (pv 1)<|aa (pv 2) ag) (pR l (aB (aU (iu (N:=[ap8,aq5]) (idx:=[]) xz (dJ.of<|by kernel_rfl) (FU (bJ _)<|bJ _) (qY<|b9 acP xz B.sorted boot_sorted<|aa (pv 1) ag)
    (λ_ _ _ _=>wL xz<|mq (cW (i:=0) Zu xz (aP xz)<|.inr xz)<|mq (cW (i:=1) Zu xz (aP xz)<|.inr xz) wG)
    (λ_ _ _ _=>gY) λ_ _ _ _=>CO (aj9 K) (pv 1) C4<|C3 ao)))))),?_⟩
  refine eY (id T.obj) λdx fs ea e1 e2 e3 em el=>?_;have hl:=T.len
  obtain⟨qv,R⟩:∃qv:Nat->List V,∀i(hi:i<qr.length),H qr[i]=a_ (.lst<|qv i)/\bL (ke H) (qv i) (cD es i):=by
   refine⟨λi=>match H (qr.getD i 0)with | some (.lst vs)=>vs | _=>[],λi hi=>?_⟩;refine aJ (T.kl i _<|a8 hi) λvs h1 h2=>?_;have eg:qr.getD i 0=qr[i]:=by simp[hi]
   dsimp only;rw[eg,h1];exact⟨xz,h2⟩
  refine⟨qc,λlw nw=>?_⟩;have s0:af H (db H lw<|.lst []):=ax (af.refl _) nw;have naw:a≠lw:=aQ ea nw;have nqw:q≠lw:=aQ T.qs nw;refine au _ xz<|dF a C dx fs<|jg _ xz (by rw[ah naw];exact ea) cT.cl cT.tL e3 ⟨q,xz,⟨_,aq.of<|by rw[ah nqw];exact T.qs⟩,?_⟩;refine Gy (xs:=qr.map V.ref) (λi σ H'=>∃L,σ=[a_ (.ref a),a_<|.ref lw,L]/\af H H'/\H' lw=a_ (.lst<|(List.range i).flatMap qv)) ⟨b_,xz,s0,by rw[ai];rfl⟩ ?_ ?_ ?_
  .rintro i σ H' _ ⟨L,rfl,G,_⟩;exact aq.of<|G _ _ T.qs
  .rintro i x σ H' hx ⟨L,rfl,G,hw⟩;rw[eX]at hx;refine aJ (Fs.mp hx) λb hb v=>?_;subst v;refine oE (dX.mp hb) λhi eb=>?_;refine oA (R i hi) λh1 h2=>?_;rw[eb]at h1;have lq:=r_ h2;have lq2:=ND es i
   have fl:=WG (qv:=qv) (m:=64) i λj hj=>by
    have:=r_ (R j li).2;have:=ND es j;lia
   refine vr xz ⟨.inl ⟨xz,_,aq.of hw⟩,⟨_,xz,lw,b,_,_,xz,xz,hw,G _ _ h1,?_,⟨_,xz,λc o e=>?_,?_⟩⟩⟩
   .rw[ij];lia
   .rw[ah<|aQ e nw];exact G _ _ e
   .rw[ai,sS,Fw];simp
  .rintro σ H' ⟨L,rfl,G,hw⟩;rw[aS,hl]at hw;have S:bL (ke H) ((List.range 12).flatMap qv) ((List.range 12).flatMap<|cD es):=Uw qv (cD es) 12 λi hi=>(R i wg).2;have U:=Uu T.wf.nm;have ll:((List.range 12).flatMap<|cD es).length=es.length:=U.length_eq;have M:=r_ S;refine oA (zip_parts S) λz1 z2=>?_;have rp':bL (ke H') ((List.range 12).flatMap qv) ((List.range 12).flatMap<|cD es):=tG (λ_ _ y=>y.keep (F:=[]) λb xs e=>G _ _ e) S;refine vr xz<|⟨lw,((((List.range 12).flatMap qv).zip<|(List.range 12).flatMap<|cD es).map λz=>(z.2.t,z.1)),xz,(aq.of<|by rw[z1];exact hw),(by rw[aS,List.length_zip];omega),(λy W=>?_),(by rw[z2];exact ac0 T.wf U),(λO qs hn hp ha=>?_)⟩
   .refine aZ (LW rp' y W) λe _ et v=>?_;refine gf v λp st ep h1 h2=>?_;exact gw p ([.ref st]) ep<|az.of (by rw[et];exact h1)
   .have rs:=acV T.wf U rp' hp ha;have s1:af H' (db H' O<|.lst<|qs.map (·.2)):=ax (af.refl _) hn;generalize zV:db H' O (.lst<|qs.map (·.2))=H1 at s1;have I:H1 O=a_ (.lst<|qs.map (·.2)):=by rw[<-zV];exact ai
    have lqs:(qs.map (·.2)).length=es.length:=r_ rs;refine dD O xz ⟨_,aq.of I⟩ ?_;generalize hW:qs.map (·.2)=us at I rs lqs;refine iH (n:=es.length) (λi ys D=>af H1 D/\bL (HM D) ys (es.take i)) (by rw[ij];exact w5) ⟨af.refl _,by rw[List.take_zero];exact .nil⟩ ?_ ?_ ?_ ?_ ?_
    .rintro i ys D ⟨_,r2⟩;rw[r_ r2,gX];exact xl
    .rintro i ys D hi ⟨s2,_⟩;exact gw us (us[i]'wg) (aq.of<|s2 _ _ I)<|a8 wg
    .rintro ys D ⟨s2,_⟩;exact au us (aq.of<|s2 _ _ I) li
    .rintro i ys D hi ⟨s2,r2⟩ y H3 ⟨eH,W⟩;subst eH;have vU:=W us<|aq.of<|s2 _ _ I;refine aJ (tf rs vU) λe he v=>?_;refine gf v λp st v h1 h2=>?_;subst v;have g1:=s2 _ _<|s1 _ _ h1;have g2:=s2 _ _<|s1 _ _ h2;refine⟨p,⟨_,xz,az.of g1,xz,_,_,xz,_,_,xz,xz,?_⟩⟩;dsimp only[jz];rw[ek rfl];refine vr xz<|au 2 xz ⟨st,⟨_,xz,az.of g2,by show ¬(HT.bZ 3 0 b_=0/\HT.bZ 3 3 (a_ 2)=3);decide,λr c9=>?_⟩⟩;have J:af H3 (db H3 r<|.tup<|nE [.int e.n,.int e.num,.int e.d] b_ (a_ 2)):=ax (af.refl _) c9;refine⟨s2.fC J,?_⟩;rw[kN,he];exact LX (tG (λ_ _⟨p,X,Y⟩=>⟨p,X,J _ _ Y⟩) r2)<|au r xz (by rw[ai,amf])
    .rintro ys D ⟨s2,r2⟩;rw[TM]at r2;have ly:=r_ r2;refine⟨by rw[ij];lia,λM Z=>?_⟩;have J:af D (db D M<|.lst ys):=ax (af.refl _) Z;refine k _ M ys (G.fC<|s1.fC<|s2.fC J) ?_ ai<|tG (λ_ _⟨p,X,Y⟩=>⟨p,X,J _ _ Y⟩) r2;cases e:H M with
     | none=>rfl
     | some o=>rw[s2 _ _<|s1 _ _<|G _ _ e]at Z;cases Z
end TL
namespace TL
open PySem.SeqAt L2 L3
def Py(K:u_)(h:autoParam (X.K=K) am):my X (.type "list") (λxs H Q=>∃p ys,xs=[.ref p]/\(aq K H p ys\/az K H p ys)/\∀l,H l=b_->Q (.ref l) (db H l<|.lst ys)):=by subst h;exact ye
def Vi(s:af H0 H)(h:H0 r=b_):af H0 (db H r o):=λb u e=>by
 rw[ah<|aQ e h];exact s b u e
theorem uY:∀{fs:List (cw×V)},fs.lookup f=a_ u->(aN f v fs).length=fs.length
 | [],h=>by cases h
 | (k,x)::r,h=>by
  rw[show aN f v ((k,x)::r)=(if k=f then (k,v)::r else (k,x)::aN f v r) from rfl]
  by_cases a:k=f
  .rw[ek a];rfl
  .rw[ei a,gE,gE];rw[qR,show (f==k)=d_ from fi.mpr λz=>a z.fF]at h;rw[uY h]
def Xv{fs:List (cw×V)}:(aN x v fs).lookup x=a_ v:=by rw[fJ,ek rfl]
def AK{fs:List (cw×V)}(h:fs.lookup y=r)(n:y≠x):(aN x v fs).lookup y=r:=by rw[fJ,ei n];exact h
section
variable{P:l_}{w:k_}{K:u_}{mg:cw->Option f_}{fK:j_}
def WY(C:e_):Sp:=λvs H Q _=>∃a kd tn es q qr,vs=[.ref a]/\dQ H a C kd tn es q qr/\∀H' x c d,dQ H' x C kd tn es c d->af H H'->(∀b∈x::c::d,H b=b_)->Q (.ref x) H'
def W6:bc [V_,aq7] g0 (aR NZ):=bx
def afg(F:aW K "twin" "Tray.twin" NZ f fd)(B:BT mg)(jU:mg "list"=b_)(r:lA K C)(M:Mk K C fI)(FI:aW K M_ "Tray.__init__" Es fI gR)(bI:dt K gR hF [])(mT:mg "Tray"=a_ (.ref C))(mN:∃u,mg "NAMES"=a_ u/\df (.int 12) u):aE P w K mg fK aL 3 f fd g0 (WY C):=by
 have GI:aE P w K mg fK aL 1 fI gR hF (P' C):=Zs FI B r mN;refine F.ok W6 λaI A _ s H vs Q E hr h=>?_
 .obtain⟨a,kd,tn,es,q,qr,ae,T,k⟩:=h;subst ae
  refine let d:TS:=_;let g:TS:=_;⟨_,aw (bf (i:=1) W6.nd xz (aP xz)<|jY M GI hr xz mT bI .nil cX<|aa (ba (pv 0) xz) ag) (pR g (aw (dU (pv 1) (ba (pv 0) xz) xz) (pR d (aw (dU (pv 1) (iu (N:=["queue"]) (idx:=[]) xz (dJ.of<|by kernel_rfl) (iG<|bJ _) (qY<|ba (pv 0) xz) (λ_ _ _ _=>cW (i:=0) Wt xz (aP xz)<|.inr xz) (λ_ _ _ _=>gY) λ_ _ _ _=>gu (Py K) xz jU wC<|aa (pv 0) ag) xz)
   (aB<|aU<|pv 1))))),?_⟩
  refine eY T.obj λdx fs ha hk ht hq EU Eo=>?_;refine vF xz ha r.cl r.kind hk λx kJ nx cG ne=>⟨x,kJ,kd,xz,ai,λL q1 qr1 T1 kp fr=>⟨xz,?_⟩⟩;have s1:af H L:=λb o e=>kp b o (aQ e nx) (by rw[ah<|aQ e nx,ah<|aQ e cG];exact e);refine eY T1.obj λG I eZ k1 t1 qq1 ms1 aps=>?_;have nax:a≠x:=aQ ha nx;refine au _ xz<|dF a C dx fs<|jg _ xz (s1 _ _ ha) r.cl r.turn ht<|vr xz<|kU x C G I xz eZ r.cl r.turn wb ?_;have s2:af H (db L x<|.ins C G<|aN ap8 (.int tn) I):=Vi s1 nx;have O:db L x (.ins C G<|aN ap8 (.int tn) I) x=a_ (.ins C G<|aN ap8 (.int tn) I):=ai;have apr:=uY (v:=.int tn) t1;generalize db L x (.ins C G<|aN ap8 (.int tn) I)=H2 at s2 O ⊢;have hlen:=T.len;have R:=s2 _ _ T.qs;refine au _ xz<|dF a C dx fs<|jg _ xz (s2 _ _ ha) r.cl r.tL hq<|dD q xz ⟨_,aq.of R⟩ ?_;refine iH (n:=qr.length) (λi ys H'=>i<=qr.length/\∃rs:List e_,ys=rs.map V.ref/\rs.length=i/\af H2 H'/\(∀(j:Nat)b,rs[j]?=a_ b->Ex H' b (cD es j))/\rs.Nodup/\∀b∈rs,H2 b=b_/\H' b≠b_) ?_ ?_ ?_ ?_ ?_ ?_ ?_
  .exact cI (cU w6)
  .exact⟨bJ _,⟨[],xz,xz,af.refl _,λj b z=>(by simp at z),List.nodup_nil,λb z=>by cases z⟩⟩
  .rintro i ys H' ⟨_,rs,rfl,rfl,_⟩;rw[aS];exact aD _
  .rintro i ys H' hi ⟨_,rs,_,_,t,_⟩;exact gw _ _ (aq.of<|t _ _ R)<|a8 (by rw[aS];exact hi)
  .rintro ys H' ⟨_,rs,_,_,t,_⟩;exact au _ (aq.of<|t _ _ R) (by rw[aS];exact aD _)
  .rintro i ys H' hi ⟨_,rs,rfl,rfl,t,S,nd,J⟩ z Z ⟨eH,eE⟩;subst eH;have hz:=eE _<|aq.of<|t _ _ R;rw[eX,a8 hi]at hz;have xO:z=V.ref qr[rs.length]:=(eG hz).fF;subst xO;refine aJ (T.kl rs.length _<|a8 hi) λvs RG hv2=>?_;dsimp only[jz,iO];rw[ek rfl];have ky:=s2.fC t;refine vr xz (dG (qr[rs.length]) vs xz (.inl<|aq.of<|ky _ _ RG) λl U=>?_);have y:=ax (o:=.lst vs) (af.refl Z) U;have kt:∀b xs,H b=a_ (.tup xs)->db Z l (.lst vs) b=a_ (.tup xs):=λb xs e=>y _ _<|ky _ _ e;refine⟨hi,⟨rs++[l],by rw[fg];rfl,by rw[dg];rfl,t.fC y,λj b p=>?_,?_,λb p=>?_⟩⟩
   .by_cases hj:j<rs.length
    .rw[Cj hj]at p;refine aJ (S j b p) λus h1 h2=>?_;exact au us (y _ _ h1)<|tG (λ_ _ z=>z.keep (F:=[]) λb xs e=>y _ _ e) h2
    .have ej:j=rs.length:=by
      have:=(dX.mp p).1;rw[dg]at this;simp at this;lia
     subst ej;rw[Cf<|aD _,LI]at p;have eb:l=b:=eG p;subst eb;exact au vs ai<|tG (λ_ _ z=>z.keep (F:=[]) kt) hv2
   .rw[La];refine gQ nd (by simp) λb p c hc e=>?_;rw[c7.mp hc]at e;rw[e]at p;exact(J l p).2 U
   .obtain h|h:=i6.mp p
    .refine oA (J b h) λh1 h2=>?_;refine⟨h1,λz=>h2<|y.free z⟩
    .rw[c7.mp h];refine⟨t.free U,λz=>?_⟩;rw[ai]at z;cases z
  rintro ys W ⟨_,rs,rfl,jT,t,S,nd,J⟩;refine⟨by rw[aS];exact cI<|cU li,λD X=>?_⟩;have y:=ax (o:=.lst<|rs.map V.ref) (af.refl W) X;have hlq:db W D (.lst<|rs.map V.ref) D=a_ (.lst<|rs.map V.ref):=ai;have Y:H2 D=none:=t.free X;have xv:D∉rs:=λz=>(J D z).2 X;generalize db W D (.lst<|rs.map V.ref)=H4 at y hlq ⊢;have ED:=t.fC y;have EN:=ED _ _ O;refine vr xz<|⟨x,C,G,(jg _ xz EN r.cl r.tL wd ?_)⟩;have nlx:D≠x:=λz=>by rw[z,O]at Y;cases Y
  have nrx:∀b∈rs,b≠x:=λb p z=>by have h:=(J b p).1;rw[z,O]at h;cases h
  have apq:=uY (v:=.ref D)<|AK (x:=ap8) (v:=.int tn) qq1 dk
  have JR:∀b xs,H4 b=a_ (.tup xs)->db H4 x (.ins C G<|aN "queues" (.ref D) (aN ap8 (.int tn) I)) b=a_ (.tup xs):=λb xs e=>by
   rw[ah (λz=>by rw[z,EN]at e;cases e)];exact e
  refine vr xz (k _ x D rs ⟨⟨G,_,ai,AK (AK k1 dk) dk,AK Xv dk,Xv,λm hm=>?_,wu⟩,?_,wo,nd,xv,λi b p=>?_,T.wf⟩ ?_ λb p=>?_)
  .have h1:m ≠ "queues":=λz=>by subst z;exact eo hm dk
   have h2:m ≠ ap8:=λz=>by subst z;exact eo hm dk
   exact AK (AK (ms1 m hm) h2) h1
  .rw[ah nlx];exact hlq
  .refine aJ (S i b p) λus h1 h2=>?_;refine au us ?_<|tG (λ_ _ z=>z.keep (F:=[]) λb xs e=>JR _ _<|y _ _ e) h2;rw[ah<|nrx b<|cH p];exact y _ _ h1
  .exact Vi (s2.fC ED) nx
  .obtain z|z:=a9.mp p
   .rw[z];exact nx
   .obtain z|z:=a9.mp z
    .rw[z];exact s2.free Y
    .exact s2.free (J b z).1
end
end TL
namespace TL
open PySem.SeqAt L2 L3 L4
variable{P:l_}{w:k_}{K:u_}{mg:cw->Option f_}{fK:j_}
noncomputable def tv(t:Tl):List V:=.str t.1::t.2.map λ(n:Nat)=>V.int (n:Int)
def gv(H:Hp)(v:V)(t:Tl):Prop:=∃a,v=.ref a/\H a=a_ (.tup<|tv t)
def IsPart(H:Hp)(v:V)(p:Pt):Prop:=∃a vs,v=.ref a/\H a=a_ (.tup vs)/\bL (gv H) vs p
def jh(H:Hp)(v:V)(ps:List Pt):Prop:=∃a vs,v=.ref a/\H a=a_ (.tup vs)/\bL (IsPart H) vs ps
def gv.keep(k:∀b xs,H b=a_ (.tup xs)->H' b=a_ (.tup xs))(h:gv H v t):gv H' v t:=by
 exact aJ h λa e h=>au a e<|k _ _ h
def IsPart.keep(k:∀b xs,H b=a_ (.tup xs)->H' b=a_ (.tup xs))(h:IsPart H v p):IsPart H' v p:=by
 exact gf h λa vs e h r=>dG a vs e (k _ _ h) (Paired.cq r λ_ _ q=>q.keep k)
def jh.keep(k:∀b xs,H b=a_ (.tup xs)->H' b=a_ (.tup xs))(h:jh H v p):jh H' v p:=by
 exact gf h λa vs e h r=>dG a vs e (k _ _ h) (Paired.cq r λ_ _ q=>q.keep k)
def Qb(b:Bool):Sp:=λvs H Q _=>∃a,vs=[.ref a]/\Q (.bl b) H
def agw:bc g0 g0 (aR HC):=bx
def adh:bc g0 g0 (aR F8):=bx
def acY:bc g0 g0 (aR FT):=bx
def CP(F:aW K R_ "Step.empties" HC f fd):aE P w K mg fK aL 1 f fd g0 (Qb d_):=by
 refine F.ok agw λaI A _ s H vs Q E c h=>?_
 .refine aJ h λa b k=>?_;clear h;subst b;exact rQ (aB<|aU lj) k
def acZ(F:aW K R_ "Swap.empties" F8 f fd):aE P w K mg fK aL 1 f fd g0 (Qb c_):=by
 refine F.ok adh λaI A _ s H vs Q E c h=>?_
 .refine aJ h λa b k=>?_;clear h;subst b;exact rQ (aB<|aU lj) k
def acK(F:aW K R_ "Clear.empties" FT f fd):aE P w K mg fK aL 1 f fd g0 (Qb c_):=by
 refine F.ok acY λaI A _ s H vs Q E c h=>?_
 .refine aJ h λa b k=>?_;clear h;subst b;exact rQ (aB<|aU lj) k
structure C6(K:u_)(c:e_)(t:bj)(QJ QK QI P0 PY PZ:Bool):Prop where
 cl:w_ K (.ref c) "__class__"=a_ (a_<|.builtin ap3)
 mr:A_ K c (.type "object")=a_ c_
 al6:v_ K (.ref c) (.ref t.lV)=a_ QJ
 al7:v_ K (.ref c) (.ref t.lW)=a_ QK
 al5:v_ K (.ref c) (.ref t.kh)=a_ QI
 aks:v_ K (.ref c) (.ref t.lz)=a_ P0
 akq:v_ K (.ref c) (.ref t.lu)=a_ PY
 wO:v_ K (.ref c) (.ref t.gJ)=a_ PZ
structure qF where
 (BG ZN ZO:e_)
 (Qk OH OI:ir)
structure Bp(K:u_)(mg:cw->Option f_)(t:bj)(u:qF):Prop where
 st:qk K mg t
 Ef:aW K R_ "Step.empties" HC u.BG u.Qk
 zk:dt K u.Qk g0 []
 aiY:aW K R_ "Swap.empties" F8 u.ZN u.OH
 PK:dt K u.OH g0 []
 ai0:aW K R_ "Clear.empties" FT u.ZO u.OI
 PL:dt K u.OI g0 []
 gt:W.specialIn K (.builtin ap3) "__get__"=a_ (a_<|.builtin "getset_descriptor.__get__")
 tk:W.takesIn K (.builtin ap3)=a_ c_
 akN:Meth K t.lV R_ u.BG
 akO:Meth K t.lW R_ u.BG
 akM:Meth K t.kh R_ u.BG
 ai9:Meth K t.lz R_ u.BG
 ai7:Meth K t.lu R_ u.ZN
 ahC:Meth K t.rA R_ u.ZO
 ai8:Meth K t.gJ R_ u.BG
 Be:C6 K t.lV t c_ d_ d_ d_ d_ d_
 Bf:C6 K t.lW t d_ c_ d_ d_ d_ d_
 Bd:C6 K t.kh t d_ d_ c_ d_ d_ d_
 A3:C6 K t.lz t d_ d_ d_ c_ d_ d_
 AZ:C6 K t.lu t d_ d_ d_ d_ c_ d_
 AS:C6 K t.rA t d_ d_ d_ d_ d_ d_
 A0:C6 K t.gJ t d_ d_ d_ d_ d_ c_
def t7(t:bj)(H:Hp)(v:V)(s:Tl):Prop:=∃z a dx,v=.ref z/\H z=a_ (.ins (dR t s.1) dx<|hX (.ref a) s.1<|s.2.map λ(n:Nat)=>V.int (n:Int))
def t7.keep(k:∀b C dx fs,H b=a_ (.ins C dx fs)->v=.ref b->H' b=a_ (.ins C dx fs))(h:t7 t H v s):t7 t H' v s:=by
 exact rE h λz a dx c h=>⟨z,a,dx,c,(k _ _ _ _ h c)⟩
def C7(m:cw)(h:∀f∈(["number",O_,K_,aq7,H_,ac2]:List cw),m≠f)(v:V)(x:cw)(ps:List V):(hX v x ps).lookup m=none:=by
 have h1:=h "number" (by simp);have h2:=h O_ (by simp);have h3:=h K_ (by simp);have h4:=h aq7 (by simp);have h5:=h H_ (by simp);have a:=h ac2 (by simp);unfold hX
 repeat (first | (split;(simp only[fJ,ei h1,ei h2,ei h3,ei h4,ei h5,ei a];rfl)) | (simp only[fJ,ei h1,ei h2,ei h3,ei h4,ei h5,ei a];rfl))
def tV(s:Tl):Bool:=decide (s.1 = I_)||decide (s.1 = N_)
def NJ(t:bj):dR t S_ = t.lV:=by kernel_rfl
def afI(ns:List Nat):tV (S_,ns)=false:=by show (decide ((S_ : cw) = I_)||decide ((S_ : cw) = N_))=_;decide +kernel
def NK(t:bj):dR t Q_ = t.lW:=by kernel_rfl
def afJ(ns:List Nat):tV (Q_,ns)=false:=by show (decide ((Q_ : cw) = I_)||decide ((Q_ : cw) = N_))=_;decide +kernel
def NI(t:bj):dR t U_ = t.kh:=by kernel_rfl
def afH(ns:List Nat):tV (U_,ns)=false:=by show (decide ((U_ : cw) = I_)||decide ((U_ : cw) = N_))=_;decide +kernel
def Nf(t:bj):dR t L_ = t.lz:=by kernel_rfl
def aek(ns:List Nat):tV (L_,ns)=false:=by show (decide ((L_ : cw) = I_)||decide ((L_ : cw) = N_))=_;decide +kernel
def Nc(t:bj):dR t I_ = t.lu:=by kernel_rfl
def aei(ns:List Nat):tV (I_,ns)=true:=by show (decide ((I_ : cw) = I_)||decide ((I_ : cw) = N_))=_;decide +kernel
def VM(t:bj):dR t N_ = t.rA:=by kernel_rfl
def adE(ns:List Nat):tV (N_,ns)=true:=by show (decide ((N_ : cw) = I_)||decide ((N_ : cw) = N_))=_;decide +kernel
def Nd(t:bj):dR t J_ = t.gJ:=by kernel_rfl
def aej(ns:List Nat):tV (J_,ns)=false:=by show (decide ((J_ : cw) = I_)||decide ((J_ : cw) = N_))=_;decide +kernel
def ai6(T:Bp K mg t u){sz:Nat}(g:dq sz s)(b:H z=a_ (.ins (dR t s.1) dx<|hX (.ref a) s.1<|s.2.map λ(n:Nat)=>V.int (n:Int))):∃C f fd pn sp,H z=a_ (.ins C dx<|hX (.ref a) s.1<|s.2.map λ(n:Nat)=>V.int (n:Int))/\eO K C/\Meth K C R_ f/\aE P w K mg fK aL 1 f fd pn sp/\dt K fd pn []/\∀(Q:VK)(E:XK),Q (.bl<|tV s) H->sp [.ref z] H Q E:=by
 cases g with
 | put r m h1 h2=>
  rw[afI];have b:H z=a_ (.ins (dR t S_) dx _):=b;rw[NJ]at b;exact qe _ _ _ _ _ b T.st.vA T.akN (CP T.Ef) T.zk λQ E q=>⟨z,xz,q⟩
 | add r m h1 h2=>
  rw[afJ];have b:H z=a_ (.ins (dR t Q_) dx _):=b;rw[NK]at b;exact qe _ _ _ _ _ b T.st.tZ T.akO (CP T.Ef) T.zk λQ E q=>⟨z,xz,q⟩
 | set r m h1 h2=>
  rw[afH];have b:H z=a_ (.ins (dR t U_) dx _):=b;rw[NI]at b;exact qe _ _ _ _ _ b T.st.rF T.akM (CP T.Ef) T.zk λQ E q=>⟨z,xz,q⟩
 | look r m h1 h2=>
  rw[aek];have b:H z=a_ (.ins (dR t L_) dx _):=b;rw[Nf]at b;exact qe _ _ _ _ _ b T.st.rq T.ai9 (CP T.Ef) T.zk λQ E q=>⟨z,xz,q⟩
 | swap r m h1 h2=>
  rw[aei];have b:H z=a_ (.ins (dR t I_) dx _):=b;rw[Nc]at b;exact qe _ _ _ _ _ b T.st.qj T.ai7 (acZ T.aiY) T.PK λQ E q=>⟨z,xz,q⟩
 | clear=>
  rw[adE];have b:H z=a_ (.ins (dR t N_) dx _):=b;rw[VM]at b;exact qe _ _ _ _ _ b T.st.yt T.ahC (acK T.ai0) T.PL λQ E q=>⟨z,xz,q⟩
 | skip r m h1 h2 h3=>
  rw[aej];have b:H z=a_ (.ins (dR t J_) dx _):=b;rw[Nd]at b;exact qe _ _ _ _ _ b T.st.tO T.ai8 (CP T.Ef) T.zk λQ E q=>⟨z,xz,q⟩
def YH(T:Bp K mg t u){sz:Nat}(g:dq sz s)(b:H z=a_ (.ins (dR t s.1) dx<|hX (.ref a) s.1<|s.2.map λ(n:Nat)=>V.int (n:Int))):∃C:e_,i3 K H (.ref z) (.ref C)/\C6 K C t (decide<|s.1 = S_) (decide<|s.1 = Q_) (decide<|s.1 = U_) (decide<|s.1 = L_) (decide<|s.1 = I_) (decide<|s.1 = J_):=by
 cases g with
 | put r m h1 h2=>
  have b:H z=a_ (.ins (dR t S_) dx _):=b;rw[NJ]at b;exact au _ (i3.ins b T.st.vA T.Be.cl T.gt T.tk T.Be.mr) T.Be
 | add r m h1 h2=>
  have b:H z=a_ (.ins (dR t Q_) dx _):=b;rw[NK]at b;exact au _ (i3.ins b T.st.tZ T.Bf.cl T.gt T.tk T.Bf.mr) T.Bf
 | set r m h1 h2=>
  have b:H z=a_ (.ins (dR t U_) dx _):=b;rw[NI]at b;exact au _ (i3.ins b T.st.rF T.Bd.cl T.gt T.tk T.Bd.mr) T.Bd
 | look r m h1 h2=>
  have b:H z=a_ (.ins (dR t L_) dx _):=b;rw[Nf]at b;exact au _ (i3.ins b T.st.rq T.A3.cl T.gt T.tk T.A3.mr) T.A3
 | swap r m h1 h2=>
  have b:H z=a_ (.ins (dR t I_) dx _):=b;rw[Nc]at b;exact au _ (i3.ins b T.st.qj T.AZ.cl T.gt T.tk T.AZ.mr) T.AZ
 | clear=>
  have b:H z=a_ (.ins (dR t N_) dx _):=b;rw[VM]at b;exact au _ (i3.ins b T.st.yt T.AS.cl T.gt T.tk T.AS.mr) T.AS
 | skip r m h1 h2 h3=>
  have b:H z=a_ (.ins (dR t J_) dx _):=b;rw[Nd]at b;exact au _ (i3.ins b T.st.tO T.A0.cl T.gt T.tk T.A0.mr) T.A0
structure ku where
 (k:cw) (c n:Nat) (got gave seen:Option Int)
noncomputable def oV:Option Int->V
 | none=>.aH
 | some i=>.int i
def amg(a:ku):List V:=[.str a.k,.int (a.c:Nat),.int (a.n:Nat),oV a.got,oV a.gave,oV a.seen]
def D5(H:Hp)(v:V)(a:ku):Prop:=∃p,v=.ref p/\H p=a_ (.tup<|amg a)
structure Ck where
 (pl ct:Nat) (rg:List Int) (tn:Int) (es:List gl)
structure Mc where
 (kd:cw) (ps:List Pt) (ck:List Ck) (bd:List Int) (ac:List ku) (ov:List (List Int))
structure MA where
 (lt:e_) (ts:List (e_×e_×List e_)) (pg st pl ct rg:e_) (rs:List e_) (ce ac cm:e_) (cs:List e_)
noncomputable def jM:List cw:=["at_end","may_do","carries","moves","do","do_step","do_set","do_look","do_swap","carry","come","on_board","settle","ended","where","steps_done","registers","waiting","board","deeds","deeds_done","deed_at","over","twin"]
structure xj(fs:List (cw×V))(A:MA)(S:Mc):Prop where
 gc:fs.lookup ("trays":cw)=a_ (.ref A.lt)
 program:fs.lookup ("program":cw)=a_ (.ref A.pg)
 kind:fs.lookup (T_ : cw)=a_ (.str S.kd)
 steps:fs.lookup ("steps":cw)=a_ (.ref A.st)
 places:fs.lookup ("places":cw)=a_ (.ref A.pl)
 counts:fs.lookup ("counts":cw)=a_ (.ref A.ct)
 eL:fs.lookup ("regs":cw)=a_ (.ref A.rg)
 cells:fs.lookup ("cells":cw)=a_ (.ref A.ce)
 jl:fs.lookup ("acts":cw)=a_ (.ref A.ac)
 lR:fs.lookup ("comers":cw)=a_ (.ref A.cm)
 ms:∀m∈jM,fs.lookup m=b_
 xA:fs.length<=20
abbrev Jr(CT:e_)(kd:cw)(H:Hp)(x:e_×e_×List e_)(k:Ck):Prop:=dQ H x.1 CT kd k.tn k.es x.2.1 x.2.2
def AL(t:bj)(H:Hp)(v:V)(p:Pt):Prop:=∃b us,v=.ref b/\H b=a_ (.tup us)/\bL (t7 t H) us p
structure bb(t:bj)(C CT:e_)(H:Hp)(m:e_)(A:MA)(S:Mc):Prop where
 obj:∃dx fs,H m=a_ (.ins C dx fs)/\xj fs A S
 lt:H A.lt=a_ (.lst<|A.ts.map λx=>V.ref x.1)
 ts:bL (Jr CT S.kd H) A.ts S.ck
 pg:jh H (.ref A.pg) S.ps
 st:∃vs,H A.st=a_ (.tup vs)/\bL (AL t H) vs S.ps
 pl:H A.pl=a_ (.lst<|S.ck.map λk=>V.int (k.pl:Nat))
 ct:H A.ct=a_ (.lst<|S.ck.map λk=>V.int (k.ct:Nat))
 rg:H A.rg=a_ (.lst<|A.rs.map V.ref)
 rs:bL (λa(k:Ck)=>H a=a_ (.lst<|k.rg.map V.int)) A.rs S.ck
 ce:H A.ce=a_ (.lst<|S.bd.map V.int)
 ac:∃vs,H A.ac=a_ (.lst vs)/\bL (D5 H) vs S.ac
 cm:H A.cm=a_ (.lst<|A.cs.map V.ref)
 cs:bL (λa(o:List Int)=>H a=a_ (.lst<|o.map V.int)) A.cs S.ov
structure lE(fT:e_->Nat)(m:e_)(A:MA):Prop where
 m:fT m=2
 lt:fT A.lt=4
 pl:fT A.pl=6
 ct:fT A.ct=8
 rg:fT A.rg=10
 ce:fT A.ce=12
 ac:fT A.ac=14
 cm:fT A.cm=16
 rs:∀i a,A.rs[i]?=a_ a->fT a=24+6*i
 cs:∀i a,A.cs[i]?=a_ a->fT a=26+6*i
 ts:∀i x,A.ts[i]?=a_ x->∀b∈x.1::x.2.1::x.2.2,fT b=28+6*i
inductive cY (m:e_) (A:MA):e_->Prop
 | m:cY m A m
 | lt:cY m A A.lt
 | pl:cY m A A.pl
 | ct:cY m A A.ct
 | rg:cY m A A.rg
 | ce:cY m A A.ce
 | ac:cY m A A.ac
 | cm:cY m A A.cm
 | rs {a:e_}:a∈A.rs->cY m A a
 | cs {a:e_}:a∈A.cs->cY m A a
 | ts {x:e_×e_×List e_} {b:e_}:x∈A.ts->b∈x.1::x.2.1::x.2.2->cY m A b
structure aA(F:e_->Prop)(H H':Hp):Prop where
 k:∀b o,¬F b->(∀ps,o≠.gg ps)->H b=a_ o->H' b=a_ o
 t:∀b,H' b=b_->H b=b_
def aA.of(s:af H H'):aA F H H':=⟨λb o _ _ e=>s b o e,λb h=>s.free h⟩
def aA.refl(H:Hp):aA F H H:=⟨λ_ _ _ _ e=>e,λ_ h=>h⟩
def aA.fC(a:aA F H H1)(b:aA F H1 H2):aA F H H2:=⟨λc o h1 h2 e=>b.k c o h1 h2<|a.k c o h1 h2 e,λc h=>a.t c<|b.t c h⟩
def aA.mono(a:aA F H H')(h:∀b,F b->G b):aA G H H':=⟨λc o h1 h2 e=>a.k c o (λz=>h1<|h c z) h2 e,a.t⟩
def aA.QU(a:iP F H H')(h:∀b∈F,G b):aA G H H':=⟨λc o h1 h2 e=>a.k c o (λz=>h1<|h c z) h2 e,a.t⟩
def aA.db(h:F x):aA F H (db H x o):=⟨λb q n _ e=>by rw[ah λz=>n (by rw[z];exact h)];exact e,λb e=>by
 by_cases z:b=x
 .rw[z,ai]at e;cases e
 .rwa[ah z]at e⟩
def iP.ofA(k:D3 (a::q::qr) H H')(T:dQ H' a C kd tn es q qr):iP (a::q::qr) H H':=
 ⟨λc o h1 _ e=>k c o h1 e,λc h=>by
  by_cases z:c∈a::q::qr
  .refine oE (T.there c z) λo e=>?_;rw[e]at h;cases h
  .cases e:H c with
   | none=>rfl
   | some o=>rw[k c o z e]at h;cases h⟩
def eD:e_->Prop:=λ_=>False
theorem iZ{c d:Type}{F:c->d->Prop}{G:c->d->Prop}:∀{l:List c}{r:List d},bL F l r->(∀(i:Nat)a b,l[i]?=a_ a->r[i]?=a_ b->F a b->G a b)->bL G l r
 | _,_,.nil,_=>.nil
 | _,_,.cons h t,k=>.cons (k 0 _ _ xz xz h) (iZ t λi a b e f q=>k (i+1) a b (by simpa using e) (by simpa using f) q)
def AL.keep(c:∀b xs,H b=a_ (.tup xs)->H' b=a_ (.tup xs))(d:∀b C dx fs,H b=a_ (.ins C dx fs)->(∃x ps v,C=dR t x/\fs=hX v x ps)->H' b=a_ (.ins C dx fs))(h:AL t H v p):AL t H' v p:=by
 exact gf h λb us e h1 h2=>dG b us e (c _ _ h1) (Paired.cq h2 λv s q=>rE q λz a dx f q=>⟨z,a,dx,f,(d _ _ _ _ q<|BC _ _<|au _ xz xz)⟩)
def D5.keep(k:∀b xs,H b=a_ (.tup xs)->H' b=a_ (.tup xs))(h:D5 H v a):D5 H' v a:=by
 exact aJ h λp e h=>au p e<|k _ _ h
theorem sZ{b a:Type}{F:b->a->Prop}:∀{l:List b}{r:List a}{i:Nat}{y:a},bL F l r->r[i]?=a_ y->∃x,l[i]?=a_ x/\F x y
 | _,_,_,_,.nil,e=>by simp at e
 | _,_,0,_,.cons h _,e=>by simp at e;subst e;exact⟨_,xz,h⟩
 | _,_,i+1,x,.cons _ t,e=>by
  exact aJ (sZ (i:=i) t<|by simpa using e) λy h1 h2=>au y (by simpa using h1) h2
theorem LR{a b:Type}{F:a->b->Prop}{c:List a}{d:List b}(h':bL F c d):∀{l:List a}{r:List b},bL F l r->bL F (l++c) (r++d)
 | _,_,.nil=>h'
 | _,_,.cons g t=>.cons g<|LR h' t
theorem oH{a c:Type}{F:a->c->Prop}:∀{l:List a}{m:List c}{b:a},bL F l m->b∈l->∃y,y∈m/\F b y
 | _,_,_,.nil,h=>by simp at h
 | _,_,_,.cons h t,e=>by
  obtain z|z:=a9.mp e
  .subst z;exact⟨_,by simp,h⟩
  .exact aJ (oH t z) λy d q=>au y (cu _ d) q
def bb.keep(M:bb t C CT H m A S)(k:∀b,cY m A b->∀o,H b=a_ o->H' b=a_ o)(a:∀b xs,H b=a_ (.tup xs)->H' b=a_ (.tup xs))(f:∀b C dx fs,H b=a_ (.ins C dx fs)->H' b=a_ (.ins C dx fs)):bb t C CT H' m A S:=by
 obtain⟨⟨dx,fs,h1,h2⟩,lt,ts,pg,⟨vs,s1,s2⟩,pl,ct,rg,rs,ce,⟨us,g,h⟩,cm,cs⟩:=M;exact⟨⟨dx,fs,k _ .m _ h1,h2⟩,k _ .lt _ lt,iZ ts λi x c d _ q=>q.keep (λb j o e=>k b (.ts (cH d) j) o e) a,pg.keep a,⟨vs,a _ _ s1,Paired.cq s2 λ_ _ q=>q.keep a λb C dx fs e _=>f b C dx fs e⟩,k _ .pl _ pl,k _ .ct _ ct,k _ .rg _ rg,iZ rs λi x c d _ q=>k x (.rs<|cH d) _ q,k _ .ce _ ce,⟨us,k _ .ac _ g,Paired.cq h λ_ _ q=>q.keep a⟩,k _ .cm _ cm,iZ cs λi x c d _ q=>k x (.cs<|cH d) _ q⟩
def bb.akD{F:e_->Prop}(M:bb t C CT H m A S)(k:aA F H H')(d:∀b,F b->¬cY m A b/\∀o,H b=a_ o->∃xs,o=.lst xs):bb t C CT H' m A S:=by
 have f:∀b o,cY m A b->H b=a_ o->∀ps,o≠.gg ps:=by
  intro b o a e ps z;subst z;cases a with
  | m=>obtain⟨dx,fs,h,_⟩:=M.obj;rw[h]at e;cases e
  | lt=>rw[M.lt]at e;cases e
  | pl=>rw[M.pl]at e;cases e
  | ct=>rw[M.ct]at e;cases e
  | rg=>rw[M.rg]at e;cases e
  | ce=>rw[M.ce]at e;cases e
  | ac=>obtain⟨vs,h,_⟩:=M.ac;rw[h]at e;cases e
  | cm=>rw[M.cm]at e;cases e
  | rs h=>
   refine aJ (oH M.rs h) λc _ q=>?_;rw[q]at e;cases e
  | cs h=>
   refine aJ (oH M.cs h) λc _ q=>?_;rw[q]at e;cases e
  | ts h h2=>
   refine aJ (oH M.ts h) λc _ q=>?_;rcases q.kinds _ h2 _ e with ⟨_,_,_,z⟩ | ⟨_,z⟩ <;> cases z
 refine M.keep (λb a o e=>k.k b o (λz=>(d b z).1 a) (f b o a e) e) (λb xs e=>k.k b _ (λz=>?_) (λps z=>by cases z) e) λb C dx fs e=>k.k b _ (λz=>?_) (λps z=>by cases z) e
 .refine oE ((d b z).2 _ e) λys q=>?_;cases q
 .refine oE ((d b z).2 _ e) λys q=>?_;cases q
def bb.same(M:bb t C CT H m A S)(s:af H H'):bb t C CT H' m A S:=M.keep (λb _ o e=>s b o e) (λb xs e=>s b _ e) λb C dx fs e=>s b _ e
def bb.wQ(M:bb t C CT H m A S)(k:aA eD H H'):bb t C CT H' m A S:=M.akD k λb z=>z.elim
def iV{a b c m:Nat}(l:autoParam (a<b) ap):a≠b+m*c:=λh=>je a<|ff l<|h ▸ Lg b (m*c)
def qD{a b c m:Nat}(l:autoParam (a<b) ap):b+m*c≠a:=λe=>iV (l:=l) e.fF
def xw{a b i c m:Nat}(l:autoParam (a%m≠b%m) ap):a+m*i≠b+m*c:=λh=>l (by rw[<-abo a m i,h,abo])
def xv(h:autoParam (i≠c) ab):a+(b+1)*i≠a+(b+1)*c:=λe=>h<|Nat.eq_of_mul_eq_mul_left (Uo b)<|Nat.add_left_cancel e
def gL(n:autoParam (a≠b) ap):a≠b:=n
def bV(c:p=a)(d:q=b)(n:a≠b):p≠q:=λh=>n<|c.fF.fC<|h.fC d
def rS(b:p=a)(n:a≠q):p≠q:=λh=>n<|b.fF.fC h
def bU{fT:e_->Nat}(h:fT a≠fT b):a≠b:=λe=>h (by rw[e])
def An{a d:Type}{f:a->d}{r:List a}{c:Nat}{k k':a}(h:r[c]?=a_ k)(e:f k'=f k):(r.set c k').map f=r.map f:=by
 rw[FN,e];refine oE (dX.mp h) λb g=>?_;rw[<-g]
 exact abZ λi=>by
  rw[List.getElem?_set]
  split
  .rename_i hi
   subst hi
   split
   .rw[eX,a8 b];rfl
   .rename_i hn;rw[aS]at hn;exact eo b hn
  .rfl
theorem ym{f d:Type}{F:f->d->Prop}{g:d}:∀{l:List f}{r:List d}{c:Nat}{b:d},bL F l r->r[c]?=a_ b->(∀a,l[c]?=a_ a->F a b->F a g)->bL F l (r.set c g)
 | _,_,_,_,.nil,_,_=>.nil
 | _,_,0,b,.cons h t,e,k=>by
  simp only[List.getElem?_cons_zero,KY]at e;subst e;exact .cons (k _ xz h) t
 | _,_,c+1,b,.cons h t,e,k=>by
  rw[abu]at e;exact .cons h (ym t e λa ha=>k a<|by simpa using ha)
theorem FP{g f:Type}{F G:g->f->Prop}{j:f}:∀{l:List g}{r:List f}{c:Nat},bL F l r->(∀i a b,i≠c->l[i]?=a_ a->r[i]?=a_ b->F a b->G a b)->(∀a b,l[c]?=a_ a->r[c]?=a_ b->F a b->G a j)->bL G l (r.set c j)
 | _,_,_,.nil,_,_=>.nil
 | _,_,0,.cons h t,k,k'=>by
  refine .cons (k' _ _ xz xz h) (iZ t λi a b d e q=>k (i+1) a b li (by simpa using d) (by simpa using e) q)
 | _,_,c+1,.cons h t,k,k'=>by
  refine .cons (k 0 _ _ li xz xz h) (FP t (λi a b hi d e q=>k (i+1) a b li (by simpa using d) (by simpa using e) q) λa b d e q=>k' a b (by simpa using d) (by simpa using e) q)
theorem yj{c d:Type}{F:c->d->Prop}{a:c}{b:d}:∀{l:List c}{r:List d},bL F l r->F a b->bL F (l++[a]) (r++[b])
 | _,_,.nil,h=>.cons h .nil
 | _,_,.cons g t,h=>.cons g<|yj t h
section
variable{t:bj}{C CT:e_}{H:Hp}{m:e_}{A:MA}{S:Mc}{fT:e_->Nat}
def AH(a:H x=a_ (.lst xs)):∀b ys,H b=a_ (.tup ys)->db H x o b=a_ (.tup ys):=λb ys e=>by rw[ah<|hV e a (by intro z;cases z)];exact e
def AI(a:H x=a_ (.lst xs)):∀b C dx fs,H b=a_ (.ins C dx fs)->db H x o b=a_ (.ins C dx fs):=λb C dx fs e=>by rw[ah<|hV e a (by intro z;cases z)];exact e
def ahl{PT x:e_}(a:H x=a_ (.lst xs))(h:cx PT pos q H):cx PT pos q (db H x o):=
 Cz (F:=[x]) h (λb o' n e=>by rw[ah λz=>n (by rw[z];exact c7.mpr xz)];exact e) λb c o' e=>by rw[c7.mp c,a]at e;cases e;exact .inr ⟨_,xz⟩
def ajU(M:bb t C CT H m A S)(L:lE fT m A){c:Nat}(j:S.ck[c]?=a_ k)(v:Nat):bb t C CT (db H A.pl<|.lst<|(S.ck.map λk=>V.int (k.pl:Nat)).set c<|.int (v:Nat)) m A {S with ck:=S.ck.set c {k with pl:=v}}:=by
 obtain⟨⟨dx,fs,h1,h2⟩,lt,ts,pg,⟨vs,s1,s2⟩,pl,ct,rg,rs,ce,⟨us,l,n⟩,cm,cs⟩:=M;have d:=L.pl;have g:=AH (o:=.lst<|(S.ck.map λk=>V.int (k.pl:Nat)).set c<|.int (v:Nat)) pl;have p:=AI (o:=.lst<|(S.ck.map λk=>V.int (k.pl:Nat)).set c<|.int (v:Nat)) pl;have h2:xj fs A {S with ck:=S.ck.set c {k with pl:=v}}:=⟨h2.gc,h2.program,h2.kind,h2.steps,h2.places,h2.counts,h2.eL,h2.cells,h2.jl,h2.lR,h2.ms,h2.xA⟩
 exact⟨⟨dx,fs,(ah<|bU (fT:=fT)<|bV L.m d gL).fC h1,h2⟩,(ah<|bU (fT:=fT)<|bV L.lt d gL).fC lt,ym (iZ ts λi x c h _ q=>dQ.keep q (λb r o e=>(ah<|bU (fT:=fT)<|bV (L.ts i x h b r) d qD).fC e) g) j λa _ q=>q,pg.keep g,⟨vs,g _ _ s1,Paired.cq s2 λ_ _ q=>q.keep g λb C dx fs e _=>p b C dx fs e⟩,by
   show db H _ _ A.pl=a_ (.lst<|(S.ck.set c {k with pl:=v}).map λk=>V.int (k.pl:Nat));rw[ai,FN],by
   show db H _ _ A.ct=a_ (.lst<|(S.ck.set c {k with pl:=v}).map λk=>V.int (k.ct:Nat));rw[An (f:=λk:Ck=>V.int (k.ct:Nat)) (k':={k with pl:=v}) j rfl];exact(ah<|bU (fT:=fT)<|bV L.ct d gL).fC ct,(ah<|bU (fT:=fT)<|bV L.rg d gL).fC rg,ym (iZ rs λi x c h _ q=>(ah<|bU (fT:=fT)<|bV (L.rs i x h) d qD).fC q) j λa _ q=>q,(ah<|bU (fT:=fT)<|bV L.ce d gL).fC ce,⟨us,(ah<|bU (fT:=fT)<|bV L.ac d gL).fC l,Paired.cq n λ_ _ q=>q.keep g⟩,(ah<|bU (fT:=fT)<|bV L.cm d gL).fC cm,iZ cs λi x c h _ q=>(ah<|bU (fT:=fT)<|bV (L.cs i x h) d qD).fC q⟩
def ajW(M:bb t C CT H m A S)(L:lE fT m A){c:Nat}(j:S.ck[c]?=a_ k)(v:Nat):bb t C CT (db H A.ct<|.lst<|(S.ck.map λk=>V.int (k.ct:Nat)).set c<|.int (v:Nat)) m A {S with ck:=S.ck.set c {k with ct:=v}}:=by
 obtain⟨⟨dx,fs,h1,h2⟩,lt,ts,pg,⟨vs,s1,s2⟩,pl,ct,rg,rs,ce,⟨us,l,n⟩,cm,cs⟩:=M;have d:=L.ct;have g:=AH (o:=.lst<|(S.ck.map λk=>V.int (k.ct:Nat)).set c<|.int (v:Nat)) ct;have p:=AI (o:=.lst<|(S.ck.map λk=>V.int (k.ct:Nat)).set c<|.int (v:Nat)) ct;have h2:xj fs A {S with ck:=S.ck.set c {k with ct:=v}}:=⟨h2.gc,h2.program,h2.kind,h2.steps,h2.places,h2.counts,h2.eL,h2.cells,h2.jl,h2.lR,h2.ms,h2.xA⟩
 exact⟨⟨dx,fs,(ah<|bU (fT:=fT)<|bV L.m d gL).fC h1,h2⟩,(ah<|bU (fT:=fT)<|bV L.lt d gL).fC lt,ym (iZ ts λi x c h _ q=>dQ.keep q (λb r o e=>(ah<|bU (fT:=fT)<|bV (L.ts i x h b r) d qD).fC e) g) j λa _ q=>q,pg.keep g,⟨vs,g _ _ s1,Paired.cq s2 λ_ _ q=>q.keep g λb C dx fs e _=>p b C dx fs e⟩,by
   show db H _ _ A.pl=a_ (.lst<|(S.ck.set c {k with ct:=v}).map λk=>V.int (k.pl:Nat));rw[An (f:=λk:Ck=>V.int (k.pl:Nat)) (k':={k with ct:=v}) j rfl];exact(ah<|bU (fT:=fT)<|bV L.pl d gL).fC pl,by
   show db H _ _ A.ct=a_ (.lst<|(S.ck.set c {k with ct:=v}).map λk=>V.int (k.ct:Nat));rw[ai,FN],(ah<|bU (fT:=fT)<|bV L.rg d gL).fC rg,ym (iZ rs λi x c h _ q=>(ah<|bU (fT:=fT)<|bV (L.rs i x h) d qD).fC q) j λa _ q=>q,(ah<|bU (fT:=fT)<|bV L.ce d gL).fC ce,⟨us,(ah<|bU (fT:=fT)<|bV L.ac d gL).fC l,Paired.cq n λ_ _ q=>q.keep g⟩,(ah<|bU (fT:=fT)<|bV L.cm d gL).fC cm,iZ cs λi x c h _ q=>(ah<|bU (fT:=fT)<|bV (L.cs i x h) d qD).fC q⟩
def HQ(M:bb t C CT H m A S)(L:lE fT m A){c:Nat}(j:S.ck[c]?=a_ k)(ha:A.rs[c]?=a_ a)(r:Nat)(v:Int):bb t C CT (db H a<|.lst<|(k.rg.map V.int).set r<|.int v) m A {S with ck:=S.ck.set c {k with rg:=k.rg.set r v}}:=by
 obtain⟨⟨dx,fs,h1,h2⟩,lt,ts,pg,⟨vs,s1,s2⟩,pl,ct,rg,rs,ce,⟨us,s,u⟩,cm,cs⟩:=M
 have l:H a=a_ (.lst<|k.rg.map V.int):=by
  refine aJ (tf rs ha) λz n q=>?_;rw[j]at n;cases n;exact q
 have d:=L.rs c a ha;have h:=AH (o:=.lst<|(k.rg.map V.int).set r<|.int v) l;have y:=AI (o:=.lst<|(k.rg.map V.int).set r<|.int v) l;have h2:xj fs A {S with ck:=S.ck.set c {k with rg:=k.rg.set r v}}:=⟨h2.gc,h2.program,h2.kind,h2.steps,h2.places,h2.counts,h2.eL,h2.cells,h2.jl,h2.lR,h2.ms,h2.xA⟩
 exact⟨⟨dx,fs,(ah<|bU (fT:=fT)<|bV L.m d iV).fC h1,h2⟩,(ah<|bU (fT:=fT)<|bV L.lt d iV).fC lt,ym (iZ ts λi x c g _ q=>dQ.keep q (λb p o e=>(ah<|bU (fT:=fT)<|bV (L.ts i x g b p) d xw).fC e) h) j λa _ q=>q,pg.keep h,⟨vs,h _ _ s1,Paired.cq s2 λ_ _ q=>q.keep h λb C dx fs e _=>y b C dx fs e⟩,by
   show db H _ _ A.pl=a_ (.lst<|(S.ck.set c {k with rg:=k.rg.set r v}).map λk=>V.int (k.pl:Nat));rw[An (f:=λk:Ck=>V.int (k.pl:Nat)) (k':={k with rg:=k.rg.set r v}) j rfl];exact(ah<|bU (fT:=fT)<|bV L.pl d iV).fC pl,by
   show db H _ _ A.ct=a_ (.lst<|(S.ck.set c {k with rg:=k.rg.set r v}).map λk=>V.int (k.ct:Nat));rw[An (f:=λk:Ck=>V.int (k.ct:Nat)) (k':={k with rg:=k.rg.set r v}) j rfl];exact(ah<|bU (fT:=fT)<|bV L.ct d iV).fC ct,(ah<|bU (fT:=fT)<|bV L.rg d iV).fC rg,FP rs (λi x b hi g _ q=>(ah<|bU (fT:=fT)<|bV (L.rs i x g) d xv).fC q) λx b g p q=>by
   rw[ha]at g;cases g;show db H a _ a=a_ (.lst<|(k.rg.set r v).map V.int);rw[ai,FN],(ah<|bU (fT:=fT)<|bV L.ce d iV).fC ce,⟨us,(ah<|bU (fT:=fT)<|bV L.ac d iV).fC s,Paired.cq u λ_ _ q=>q.keep h⟩,(ah<|bU (fT:=fT)<|bV L.cm d iV).fC cm,iZ cs λi x c g _ q=>(ah<|bU (fT:=fT)<|bV (L.cs i x g) d xw).fC q⟩
def ajX(M:bb t C CT H m A S)(L:lE fT m A)(n:Nat)(v:Int):bb t C CT (db H A.ce<|.lst<|(S.bd.map V.int).set n<|.int v) m A {S with bd:=S.bd.set n v}:=by
 obtain⟨⟨dx,fs,h1,h2⟩,lt,ts,pg,⟨vs,s1,s2⟩,pl,ct,rg,rs,ce,⟨us,g,h⟩,cm,cs⟩:=M;have a:=L.ce;have d:=AH (o:=.lst<|(S.bd.map V.int).set n<|.int v) ce;have j:=AI (o:=.lst<|(S.bd.map V.int).set n<|.int v) ce;have h2:xj fs A {S with bd:=S.bd.set n v}:=⟨h2.gc,h2.program,h2.kind,h2.steps,h2.places,h2.counts,h2.eL,h2.cells,h2.jl,h2.lR,h2.ms,h2.xA⟩
 exact⟨⟨dx,fs,(ah<|bU (fT:=fT)<|bV L.m a gL).fC h1,h2⟩,(ah<|bU (fT:=fT)<|bV L.lt a gL).fC lt,iZ ts λi x c f _ q=>dQ.keep q (λb k o e=>(ah<|bU (fT:=fT)<|bV (L.ts i x f b k) a qD).fC e) d,pg.keep d,⟨vs,d _ _ s1,Paired.cq s2 λ_ _ q=>q.keep d λb C dx fs e _=>j b C dx fs e⟩,(ah<|bU (fT:=fT)<|bV L.pl a gL).fC pl,(ah<|bU (fT:=fT)<|bV L.ct a gL).fC ct,(ah<|bU (fT:=fT)<|bV L.rg a gL).fC rg,iZ rs λi x c f _ q=>(ah<|bU (fT:=fT)<|bV (L.rs i x f) a qD).fC q,by
   show db H _ _ A.ce=a_ (.lst<|(S.bd.set n v).map V.int);rw[ai,FN],⟨us,(ah<|bU (fT:=fT)<|bV L.ac a gL).fC g,Paired.cq h λ_ _ q=>q.keep d⟩,(ah<|bU (fT:=fT)<|bV L.cm a gL).fC cm,iZ cs λi x c f _ q=>(ah<|bU (fT:=fT)<|bV (L.cs i x f) a qD).fC q⟩
def OV(M:bb t C CT H m A S)(L:lE fT m A){ws:List V}(hw:H A.ac=a_ (.lst ws))(f:D5 H x a):bb t C CT (db H A.ac<|.lst<|ws++[x]) m A {S with ac:=S.ac++[a]}:=by
 obtain⟨⟨dx,fs,h1,h2⟩,lt,ts,pg,⟨vs,s1,s2⟩,pl,ct,rg,rs,ce,⟨us,h,j⟩,cm,cs⟩:=M;obtain rfl:ws=us:=by rw[hw]at h;cases h;rfl
 have d:=L.ac;have g:=AH (o:=.lst<|ws++[x]) hw;have k:=AI (o:=.lst<|ws++[x]) hw;have h2:xj fs A {S with ac:=S.ac++[a]}:=⟨h2.gc,h2.program,h2.kind,h2.steps,h2.places,h2.counts,h2.eL,h2.cells,h2.jl,h2.lR,h2.ms,h2.xA⟩;exact⟨⟨dx,fs,(ah<|bU (fT:=fT)<|bV L.m d gL).fC h1,h2⟩,(ah<|bU (fT:=fT)<|bV L.lt d gL).fC lt,iZ ts λi x c f _ q=>dQ.keep q (λb l o e=>(ah<|bU (fT:=fT)<|bV (L.ts i x f b l) d qD).fC e) g,pg.keep g,⟨vs,g _ _ s1,Paired.cq s2 λ_ _ q=>q.keep g λb C dx fs e _=>k b C dx fs e⟩,(ah<|bU (fT:=fT)<|bV L.pl d gL).fC pl,(ah<|bU (fT:=fT)<|bV L.ct d gL).fC ct,(ah<|bU (fT:=fT)<|bV L.rg d gL).fC rg,iZ rs λi x c f _ q=>(ah<|bU (fT:=fT)<|bV (L.rs i x f) d qD).fC q,(ah<|bU (fT:=fT)<|bV L.ce d gL).fC ce,⟨ws++[x],ai,yj (Paired.cq j λ_ _ q=>q.keep g)<|f.keep g⟩,(ah<|bU (fT:=fT)<|bV L.cm d gL).fC cm,iZ cs λi x c f _ q=>(ah<|bU (fT:=fT)<|bV (L.cs i x f) d qD).fC q⟩
def ajV(M:bb t C CT H m A S)(L:lE fT m A){n:Nat}(hn:S.ov[n]?=a_ ov)(ha:A.cs[n]?=a_ a)(d:Int):bb t C CT (db H a<|.lst<|ov.map V.int++[.int d]) m A {S with ov:=S.ov.set n (ov++[d])}:=by
 obtain⟨⟨dx,fs,h1,h2⟩,lt,ts,pg,⟨vs,s1,s2⟩,pl,ct,rg,rs,ce,⟨us,p,r⟩,cm,cs⟩:=M
 have j:H a=a_ (.lst<|ov.map V.int):=by
  refine aJ (tf cs ha) λo2 k q=>?_;rw[hn]at k;cases k;exact q
 have f:=L.cs n a ha;have h:=AH (o:=.lst<|ov.map V.int++[.int d]) j;have s:=AI (o:=.lst<|ov.map V.int++[.int d]) j;have h2:xj fs A {S with ov:=S.ov.set n (ov++[d])}:=⟨h2.gc,h2.program,h2.kind,h2.steps,h2.places,h2.counts,h2.eL,h2.cells,h2.jl,h2.lR,h2.ms,h2.xA⟩
 exact⟨⟨dx,fs,(ah<|bU (fT:=fT)<|bV L.m f iV).fC h1,h2⟩,(ah<|bU (fT:=fT)<|bV L.lt f iV).fC lt,iZ ts λi x c g _ q=>dQ.keep q (λb l o e=>(ah<|bU (fT:=fT)<|bV (L.ts i x g b l) f xw).fC e) h,pg.keep h,⟨vs,h _ _ s1,Paired.cq s2 λ_ _ q=>q.keep h λb C dx fs e _=>s b C dx fs e⟩,(ah<|bU (fT:=fT)<|bV L.pl f iV).fC pl,(ah<|bU (fT:=fT)<|bV L.ct f iV).fC ct,(ah<|bU (fT:=fT)<|bV L.rg f iV).fC rg,iZ rs λi x c g _ q=>(ah<|bU (fT:=fT)<|bV (L.rs i x g) f xw).fC q,(ah<|bU (fT:=fT)<|bV L.ce f iV).fC ce,⟨us,(ah<|bU (fT:=fT)<|bV L.ac f iV).fC p,Paired.cq r λ_ _ q=>q.keep h⟩,(ah<|bU (fT:=fT)<|bV L.cm f iV).fC cm,FP cs (λi x b hi g _ q=>(ah<|bU (fT:=fT)<|bV (L.cs i x g) f xv).fC q) λx b g l q=>by
   rw[ha]at g;cases g;rw[ai,fg];rfl⟩
def Ze{c:Nat}{x:e_×e_×List e_}{tn:Int}(M:bb t C CT H m A S)(L:lE fT m A)(p:S.ck[c]?=a_ k)(s:A.ts[c]?=a_ x)(kp:iP (x.1::x.2.1::x.2.2) H H')(T:dQ H' x.1 CT S.kd tn es x.2.1 x.2.2):bb t C CT H' m A {S with ck:=S.ck.set c {k with tn:=tn,es:=es}}:=by
 obtain⟨⟨dx,fs,h1,h2⟩,lt,ts,pg,⟨vs,s1,s2⟩,pl,ct,rg,rs,ce,⟨us,I,J⟩,cm,cs⟩:=M;refine aJ (tf ts s) λk0 E r=>?_;rw[p]at E;cases E;have N:=L.ts c x s;have d:∀b o,fT b≠28+6*c->(∀ps,o≠.gg ps)->H b=a_ o->H' b=a_ o:=λb o n z e=>kp.k b o (λj=>n<|N b j) z e;have l:∀b ys,H b=a_ (.tup ys)->H' b=a_ (.tup ys):=λb ys e=>kp.k b _ (λj=>by rcases r.kinds b j _ e with ⟨_,_,_,z⟩ | ⟨_,z⟩ <;> cases z) (λps z=>by cases z) e
 have O:∀b C dx fs,H b=a_ (.ins C dx fs)->(∃x ps v,C=dR t x/\fs=hX v x ps)->H' b=a_ (.ins C dx fs):=λb C dx fs e hs=>kp.k b _ (λj=>by
  refine rE hs λR ps v _ u=>?_;clear hs;subst u;obtain z|z:=a9.mp j
  .refine gf r.obj λU W B F _=>?_;rw[z,B]at e;cases e;rw[C7 T_ dk]at F;cases F
  .obtain z|z:=a9.mp z
   .rw[z,r.qs]at e;cases e
   .refine oE (x9 z) λi u=>oE u λhi Q=>?_;obtain⟨X,B,_⟩:=r.kl i b (by rw[<-Q];exact a8 hi);rw[B]at e;cases e) (λps z=>by cases z) e
 have g:∀ys:List V,∀ps,HO.lst ys≠.gg ps:=λys ps z=>by cases z
 have h2:xj fs A {S with ck:=S.ck.set c {k with tn:=tn,es:=es}}:=⟨h2.gc,h2.program,h2.kind,h2.steps,h2.places,h2.counts,h2.eL,h2.cells,h2.jl,h2.lR,h2.ms,h2.xA⟩;refine⟨⟨dx,fs,d _ _ (rS L.m iV) (λps z=>by cases z) h1,h2⟩,d _ _ (rS L.lt iV) (g _) lt,?_,pg.keep l,⟨vs,l _ _ s1,Paired.cq s2 λ_ _ q=>q.keep l O⟩,?_,?_,d _ _ (rS L.rg iV) (g _) rg,?_,d _ _ (rS L.ce iV) (g _) ce,⟨us,d _ _ (rS L.ac iV) (g _) I,Paired.cq J λ_ _ q=>q.keep l⟩,d _ _ (rS L.cm iV) (g _) cm,iZ cs λi y b h _ q=>d _ _ (rS (L.cs i y h) xw) (g _) q⟩
 .refine FP ts (λi y b hi h _ q=>dQ.keep q (λD G o e=>d D o (rS (L.ts i y h D G) xv) (λps z=>?_) e) l) λy b h j q=>?_
  .rcases q.kinds D G _ e with ⟨_,_,_,w⟩ | ⟨_,w⟩ <;> (rw[z]at w;cases w)
  .rw[s]at h;cases h;exact T
 .show H' A.pl=a_ (.lst<|(S.ck.set c {k with tn:=tn,es:=es}).map λk=>V.int (k.pl:Nat));rw[An (f:=λk:Ck=>V.int (k.pl:Nat)) (k':={k with tn:=tn,es:=es}) p rfl];exact d _ _ (rS L.pl iV) (g _) pl
 .show H' A.ct=a_ (.lst<|(S.ck.set c {k with tn:=tn,es:=es}).map λk=>V.int (k.ct:Nat));rw[An (f:=λk:Ck=>V.int (k.ct:Nat)) (k':={k with tn:=tn,es:=es}) p rfl];exact d _ _ (rS L.ct iV) (g _) ct
 .exact ym (iZ rs λi y b h _ q=>d _ _ (rS (L.rs i y h) xw) (g _) q) p λa _ q=>q
end
structure gC(K:u_)(C:e_):Prop where
 cl:eO K C
 gc:bp K C "trays"
 program:bp K C "program"
 kind:bp K C T_
 steps:bp K C "steps"
 places:bp K C "places"
 counts:bp K C "counts"
 eL:bp K C "regs"
 cells:bp K C "cells"
 jl:bp K C "acts"
 lR:bp K C "comers"
def jO{a:Type}{f:a->V}{r:List a}{c:Nat}{k:a}(h:r[c]?=a_ k):jS (r.map f) (c:Int)=a_ (f k):=eI (by rw[eX,h];rfl)
def Cy{l:List (e_×e_×List e_)}{c:Nat}{x:e_×e_×List e_}(h:l[c]?=a_ x):jS (l.map λx=>V.ref x.1) (c:Int)=a_ (.ref x.1):=jO (f:=λx:e_×e_×List e_=>V.ref x.1) h
structure i5(S:Mc):Prop where
 good:lB S.ps
 len:S.ck.length=S.ps.length
 bd:S.bd.length=12
 ov:S.ov.length=12
 rg:∀k∈S.ck,k.rg.length=4
 pl:∀(c:Nat)k p,S.ck[c]?=a_ k->S.ps[c]?=a_ p->k.pl<=p.length
 ac:S.ac.length<=15000
 es:∀k∈S.ck,k.es.length<=S.ac.length
section
variable{t:bj}{C CT:e_}{H:Hp}{m:e_}{A:MA}{S:Mc}
def bb.vC(M:bb t C CT H m A S){c:Nat}(h:S.ck[c]?=a_ k):∃x,A.ts[c]?=a_ x/\Jr CT S.kd H x k:=sZ M.ts h
def bb.eL(M:bb t C CT H m A S){c:Nat}(h:S.ck[c]?=a_ k):∃a,A.rs[c]?=a_ a/\H a=a_ (.lst<|k.rg.map V.int):=sZ (F:=λa(k:Ck)=>H a=a_ (.lst<|k.rg.map V.int)) M.rs h
def bb.over(M:bb t C CT H m A S){n:Nat}(h:S.ov[n]?=a_ o):∃a,A.cs[n]?=a_ a/\H a=a_ (.lst<|o.map V.int):=sZ (F:=λa(o:List Int)=>H a=a_ (.lst<|o.map V.int)) M.cs h
def bb.part(M:bb t C CT H m A S){c:Nat}(h:S.ps[c]?=a_ p):∃vs b us,H A.st=a_ (.tup vs)/\vs[c]?=a_ (.ref b)/\H b=a_ (.tup us)/\bL (t7 t H) us p:=by
 refine aJ M.st λvs h1 h2=>aJ (sZ h2 h) λv hv a=>gf a λb us a h3 h4=>?_;subst a;exact⟨vs,b,us,h1,hv,h3,h4⟩
end
section
variable{t:bj}{C CT:e_}
def Nr(t:bj)(C CT:e_):Sp:=λvs H Q _=>∃m A S c k p,vs=[.ref m,.int (c:Nat)]/\bb t C CT H m A S/\S.ck[c]?=a_ k/\S.ps[c]?=a_ p/\p.length<=1000/\Q (.bl<|decide<|k.pl=p.length) H
def agz:bc gr gr (aR Of):=bx
def Ho(a b:Nat):decide (V.int (a:Int)=V.int (b:Int))=decide (a=b):=decide_eq_decide.mpr ⟨λz=>by injection z with z;lia,λz=>by rw[z]⟩
def afr(F:aW K "at_end" "Machine.at_end" Of f fd)(e:mg "len"=b_)(a:gC K C):aE P w K mg fK aL 1 f fd gr (Nr t C CT):=by
 refine F.ok agz λaI A _ s H vs Q E l h=>?_
 .refine qV h λm A S c k p d M g i j=>?_;subst d;refine oA j λn q=>rQ (aB<|aU<|wH dm (aV cJ (ba (pv 0) xz)<|pv 1) (b9 gm xz e q_<|aa (aV dO (ba (pv 0) xz)<|pv 1) ag)<|bG _) (dC (id M.obj) λdx fs hm G=>jx (M.part i) λvs b us h1 h2 d=>oA d λh3 h4=>vF xz hm a.cl a.places G.places<|vr xz<|rL (aq.of M.pl) (jO (f:=λk:Ck=>V.int (k.pl:Nat)) g)<|vF xz hm a.cl a.steps G.steps<|vr xz<|rT (v:=.ref b) (az.of h1) (eI h2)<|rm b us xz (.inr<|az.of h3) xz ?_);rw[r_ h4,Ho];exact q
def Nm(t:bj)(C CT:e_)(g:Ck->Nat):Sp:=λvs H Q _=>∃m A S c k,vs=[.ref m,.int (c:Nat)]/\bb t C CT H m A S/\S.ck[c]?=a_ k/\Q (.int (g k:Nat)) H
def agp:bc gr gr (aR NY):=bx
def aff(F:aW K "where" "Machine.where" NY f fd)(b:gC K C):aE P w K mg fK aL 1 f fd gr (Nm t C CT Ck.pl):=by
 refine F.ok agp λaI A _ s H vs Q E e h=>?_
 .refine jw h λm A S c k a=>Iv a λa M d q=>?_;subst a;exact rQ (aB<|aU<|aV cJ (ba (pv 0) xz)<|pv 1) (dC (id M.obj) λdx fs hm G=>vF xz hm b.cl b.places G.places<|vr xz<|rL (aq.of M.pl) (jO (f:=λk:Ck=>V.int (k.pl:Nat)) d) q)
def Hu(t:bj)(C CT:e_):Sp:=λvs H Q _=>∃m A S c k,vs=[.ref m,.int (c:Nat)]/\bb t C CT H m A S/\S.ck[c]?=a_ k/\∀l,H l=b_->Q (.ref l) (db H l<|.lst<|k.rg.map V.int)
def acX:bc gr gr (aR LV):=bx
def acJ(F:aW K "registers" "Machine.registers" LV f fd)(e:mg "list"=b_)(d:gC K C):aE P w K mg fK aL 1 f fd gr (Hu t C CT):=by
 refine F.ok acX λaI A _ s H vs Q E j h=>?_
 .refine jw h λm A S c k b=>Iv b λb M g q=>?_;subst b;exact rQ (aB<|aU<|gu ye xz e wC<|aa (aV cJ (ba (pv 0) xz)<|pv 1) ag) (dC (id M.obj) λdx fs hm G=>aJ (M.eL g) λa ha i=>vF xz hm d.cl d.eL G.eL<|vr xz<|rL (v:=.ref a) (aq.of M.rg) (jO ha) ⟨a,⟨_,xz,.inl<|aq.of i,q⟩⟩)
def G'(t:bj)(C CT:e_):Sp:=λvs H Q _=>∃m A S,vs=[.ref m]/\bb t C CT H m A S/\∀l,H l=b_->Q (.ref l) (db H l<|.lst<|S.bd.map V.int)
def agy:bc g0 g0 (aR Oe):=bx
def afq(F:aW K "board" "Machine.board" Oe f fd)(b:mg "list"=b_)(a:gC K C):aE P w K mg fK aL 1 f fd g0 (G' t C CT):=by
 refine F.ok agy λaI A _ s H vs Q E d h=>?_
 .refine jx h λm A S c M q=>?_;clear h;subst c;exact rQ (aB<|aU<|gu ye xz b wC<|aa (ba (pv 0) xz) ag) (dC (id M.obj) λdx fs hm G=>vF xz hm a.cl a.cells G.cells ⟨A.ce,⟨_,xz,.inl<|aq.of M.ce,q⟩⟩)
def Md(t:bj)(C CT:e_):Sp:=λvs H Q _=>∃m A S c k,vs=[.ref m,.int (c:Nat)]/\bb t C CT H m A S/\S.ck[c]?=a_ k/\k.es.length<64/\∀H' l us,af H H'->H l=b_->H' l=a_ (.lst us)->bL (HM H') us k.es->Q (.ref l) H'
def adX:bc gr gr (aR MM):=bx
def adn(F:aW K "waiting" "Machine.waiting" MM f fd)(e:gC K C)(g:lA K CT)(a:Mt P w K mg fK CT 1 "listed" g0 (V4 CT)):aE P w K mg fK aL 2 f fd gr (Md t C CT):=by
 refine F.ok adX λaI A _ s H vs Q E i h=>?_
 .refine jw h λm A S c k d=>AX d λd M j l q=>?_;subst d;exact rQ (aB<|aU<|Gu (aV cJ (ba (pv 0) xz)<|pv 1) g.cl a.m a.G i a.b .nil cX) (dC (id M.obj) λdx fs hm G=>aJ (M.vC j) λx n T=>eY (id T.obj) λp r ea u y z o B=>vF xz hm e.cl e.gc G.gc<|vr xz<|rL (v:=.ref x.1) (aq.of M.lt) (Cy n)<|rM ea (o _ dk)<|⟨x.1,_,_,_,_,(⟨_,xz,T,l,q⟩)⟩)
end
abbrev Mv:=cw×List Int
noncomputable def pj(mv:Mv):List V:=.str mv.1::mv.2.map V.int
def rO(H:Hp)(v:V)(mv:Mv):Prop:=∃p,v=.ref p/\H p=a_ (.tup<|pj mv)
def rO.keep{mv:Mv}(k:∀b xs,H b=a_ (.tup xs)->H' b=a_ (.tup xs))(h:rO H v mv):rO H' v mv:=by
 exact aJ h λp e h=>au p e<|k _ _ h
def aA.tup(k:aA F H H')(h:∀b,F b->∀xs,H b≠a_ (.tup xs)):∀b xs,H b=a_ (.tup xs)->H' b=a_ (.tup xs):=λb xs e=>k.k b _ (λz=>h b z xs e) (λps z=>by cases z) e
def aA.P6(k:aA eD H H'):∀b xs,H b=a_ (.tup xs)->H' b=a_ (.tup xs):=k.tup λb z=>z.elim
def aA.vE(k:aA eD H H')(e:H b=a_ (.lst xs)):H' b=a_ (.lst xs):=k.k b _ (λz=>z) (λps z=>by cases z) e
def qy(k:Ck)(p:Pt):Bool:=match p[k.pl]? with
 | none=>d_
 | some s=>decide (k.es=[])||!tV s
def Ih(kd:cw)(x:Ck×Nat):List Mv:=(ju kd x.1.es).map λn=>(("carry":cw),[(x.2:Int),n])
def yO(kd:cw)(l:List (Ck×Nat)):List Mv:=l.flatMap<|Ih kd
def AE(S:Mc):List Mv:=yO S.kd S.ck.zipIdx
def jQ(S:Mc)(c:Nat):Bool:=match S.ck[c]?,S.ps[c]? with
 | some k,a_ p=>qy k p
 | _,_=>d_
def uf(S:Mc)(n:Nat):List Mv:=((List.range n).filter<|jQ S).map λ(c:Nat)=>(("do":cw),[(c:Int)])
def dE(S:Mc):List Mv:=uf S S.ck.length++AE S
noncomputable def xb(S:Mc)(c:Nat):Bool:=match S.ck[c]?,S.ps[c]? with
 | some k,a_ p=>decide (k.pl=p.length)&&decide (k.es=[])
 | _,_=>d_
def jy(S:Mc):Bool:=(List.range S.ck.length).all<|xb S
def UR(kd:cw)(es:List gl):(ju kd es).length<=12:=by
 unfold ju
 split
 .cases es.head? <;> simp
 .unfold nA;rw[aS];exact cQ (uP _ _) (by rw[wq];exact aD _)
theorem GO(kd:cw):∀l:List (Ck×Nat),(yO kd l).length<=12*l.length
 | []=>by simp[yO]
 | x::l=>by
  have h:=GO kd l;unfold yO at h ⊢;rw[Af,dg,gE];have h2:(Ih kd x).length<=12:=by unfold Ih;rw[aS];exact UR _ _
  lia
section
variable{t:bj}{C CT:e_}{u:qF}
def W0(t:bj)(C CT:e_):Sp:=λvs H Q _=>∃m A S c k p,vs=[.ref m,.int (c:Nat)]/\bb t C CT H m A S/\S.ck[c]?=a_ k/\S.ps[c]?=a_ p/\p.length<=1000/\k.pl<=p.length/\(∀s∈p,∃sz,dq sz s)/\∀H',af H H'->Q (.bl<|qy k p) H'
def W7:bc gW gr (aR N5):=bx
def afi(F:aW K "may_do" "Machine.may_do" N5 f fd)(g:gC K C)(J:lA K CT)(O:Bp K mg t u)(L:Mt P w K mg fK C 1 "at_end" gr (Nr t C CT))(o:Mt P w K mg fK CT 1 "is_empty" g0 (Np CT)):aE P w K mg fK aL 2 f fd gr (W0 t C CT):=by
 refine F.ok W7 λaI A _ s H vs Q E r h=>?_
 .refine qV h λm A S c k p j M y B N=>?_;subst j;obtain⟨R,hle,U,q⟩:=N;refine let d:TS:=_;⟨_,aw (br (gZ<|ji (pv 0) g.cl L r<|aa (pv 1) ag) (aB<|aU lj) bQ)<|pR d<|aw (bf (i:=2) W7.nd xz (aP xz)<|aV dO (aV dO (ba (pv 0) xz)<|pv 1)<|aV cJ (ba (pv 0) xz)<|pv 1)<|aB<|aU<|akf (Gu (aV cJ (ba (pv 0) xz)<|pv 1) J.cl o.m o.G r o.b .nil cX)<|Dj<|Oj<|ae' (k:=1) (CX:=aL) (E:=E0) (P:=P) (w:=w) (K:=K) (mg:=mg) (fK:=fK) (pv 2) r cX,?_⟩;refine dC (id M.obj) λdx fs hm G=>aJ (M.vC y) λx W T=>eY (id T.obj) λlM nQ ea e1 e2 e3 X el=>jx (M.part B) λvs b us h1 h2 j=>oA j λh3 h4=>vM xz hm (G.ms _ dk)<|vr xz<|⟨m,A,S,c,k,p,xz,M,y,B,R,(tk<|bq (λl=>?_) λl=>?_)⟩
  .have e:qy k p=false:=by unfold qy;rw[Cm li]
   have q:=q H<|af.refl H;rw[e]at q;exact q
  have D:k.pl<p.length:=li;have hs:p[k.pl]?=a_ p[k.pl]:=a8 D;refine aJ (sZ h4 hs) λv hv j=>rE j λz a Y j Z=>?_;subst j;refine oE (U _<|Ag D) λsz gs=>au _ xz<|dF m C dx fs<|jg _ xz hm g.cl g.steps G.steps<|vr xz<|rT (v:=.ref b) (az.of h1) (eI h2)<|vF xz hm g.cl g.places G.places<|vr xz<|rL (aq.of M.pl) (jO (f:=λk:Ck=>V.int (k.pl:Nat)) y)<|rT (v:=.ref z) (az.of h3) (eI hv)<|au _ xz<|dF m C dx fs<|jg _ xz hm g.cl g.gc G.gc<|vr xz<|rL (v:=.ref x.1) (aq.of M.lt) (Cy W)<|rM ea (X _ dk)<|⟨x.1,_,_,_,_,(dD _ xz T λI s1=>(tk<|bq (λl=>?_) λl=>?_))⟩
  .have e:qy k p=true:=by unfold qy;rw[hs];show (decide (k.es=[])||_)=c_;rw[eu l];rfl
   have q:=q I s1;rw[e]at q;exact q
  .have e:qy k p=!tV p[k.pl]:=by unfold qy;rw[hs];show (decide (k.es=[])||_)=_;rw[eT l];rfl
   have q:=q I s1;rw[e]at q;have no:=C7 R_ dk (.ref a) p[k.pl].1 (p[k.pl].2.map λ(n:Nat)=>V.int (n:Int));exact Ux (ai6 (P:=P) (w:=w) (fK:=fK) (mg:=mg) O gs<|s1 _ _ Z) λC1 f1 fd1 pn sp hc cl me G1 bi q1=>au _ xz<|⟨z,C1,Y,_,f1,fd1,pn,sp,xz,hc,no,cl,me,G1,⟨bi,(q1 _ _ ⟨_,xz,q⟩)⟩⟩
def Vd(t:bj)(C CT PT:e_):Sp:=λvs H Q _=>∃m A S,vs=[.ref m]/\bb t C CT H m A S/\S.ck.length<=4/\cx PT LP LQ H/\∀H' l vs,aA eD H H'->cx PT LP LQ H'->H l=b_->H' l=a_ (.lst vs)->bL (rO H') vs (AE S)->Q (.ref l) H'
def F7:bc [V_,"found",X_,"tray"] g0 (aR MS):=bx
def akx:([X_,H_]:List cw).Nodup:=dk
def adw{f PT:e_}(F:aW K "carries" "Machine.carries" MS f fd)(cM:gC K C)(cT:lA K CT)(vZ:mg "enumerate"=b_)(DF:Mt P w K mg fK CT 2 "fronts" g0 (MH CT PT)):aE P w K mg fK aL 3 f fd g0 (Vd t C CT PT):=by
 refine F.ok F7 λaI A _ s H vs Q E hr h=>?_
 .obtain⟨m,A,S,ae,M,h4,hL,q⟩:=h;subst ae
  refine let a:TS:=_;let d:TS:=_;⟨_,aw (bf (i:=1) F7.nd xz (aP xz)<|dh ag) (pR d (aw (tM uS xz (C5 (b:=c_) xz vZ<|aa (ba (pv 0) xz) ag) (wL xz<|mq (cW (i:=2) F7.nd xz<|yA xz)<|mq (cW (i:=3) F7.nd xz<|aP xz) wG) (pR a (aB (dY (lh m_ PySem.F.slot_list_extend PySem.F.type_list_extend Vq (pv 1) (aa (iu (N:=[X_,H_]) (idx:=[2]) xz (dJ.of<|by kernel_rfl) (iG<|aD _)
     (qY<|oh (pv 3) cT.cl DF hr) (λ_ _ _ _=>cW (i:=1) akx xz (aP xz)<|.inr xz) (λ_ _ _ _=>gY) λ_ _ _ _=>cp<|aa a7<|aa (pv 0)<|aa (pv 1) ag) ag))))))
   (aB<|aU<|pv 1))),?_⟩
  refine dC (id M.obj) λdx fs hm G=>⟨qc,λlw nw=>?_⟩;have J:af H (db H lw<|.lst []):=ax (af.refl _) nw;have hlen:=r_ M.ts;have RQ:(A.ts.map λx=>V.ref x.1).length=A.ts.length:=aS _;refine vF xz (J _ _ hm) cM.cl cM.gc G.gc ⟨A.lt,⟨_,xz,aq.of<|J _ _ M.lt,?_⟩⟩
  let W1:IV:=λi σ H'=>i<=A.ts.length/\∃c y vs,σ=[a_ (.ref m),a_<|.ref lw,c,y]/\aA eD H H'/\cx PT LP LQ H'/\H' lw=a_ (.lst vs)/\bL (rO H') vs (yO S.kd<|S.ck.zipIdx.take i)
  refine OE (n:=A.ts.length) W1 ⟨bJ _,b_,b_,[],xz,aA.of J,fA hL J,ai,.nil⟩ ?_ ?_ ?_ ?_
  .rintro i σ H' hi ⟨_,_,_,_,_,kp,_,_,_⟩;exact gw _ (V.ref A.ts[i].1) (aq.of<|kp.vE M.lt) (by rw[eX,a8 hi];rfl)
  .rintro σ H' ⟨_,_,_,_,_,kp,_,_,_⟩;exact au _ (aq.of<|kp.vE M.lt) (by rw[RQ];exact aD _)
  .rintro i σ p hi ⟨_,c,y,vs,rfl,kp,R,hw,D⟩ z H2 ⟨r,x,c9,ez,U,eZ⟩;subst ez;subst U;have qH:=eZ _<|aq.of<|kp.vE M.lt;rw[eX,a8 hi]at qH;cases qH;have s2:af p (db p r<|.tup [.int i,.ref A.ts[i].1]):=ax (af.refl _) c9;have W:=s2 _ _ hw;have aaG:=Paired.cq D λ_ _ q=>rO.keep (λb xs e=>s2 _ _ e) q;have sH:=fA R s2;have ER:db p r (.tup [.int i,.ref A.ts[i].1]) r=a_ (.tup [.int i,.ref A.ts[i].1]):=ai;generalize db p r (.tup [.int i,.ref A.ts[i].1])=H2 at s2 W aaG sH ER ⊢;have X:=kp.fC<|aA.of s2;have M2:=M.wQ X;have Kj:=wf;refine aJ (M2.vC<|a8 Kj) λx' EO T=>?_;rw[a8 hi]at EO;cases EO;refine eY (id T.obj) λlM nQ ea e1 e2 e3 em el=>⟨r,⟨_,xz,az.of ER,xz,.int i,[.ref A.ts[i].1],xz,.ref A.ts[i].1,[],xz,xz,vr xz ⟨.inl ⟨xz,_,aq.of W⟩,⟨_,xz,_,lM,nQ,xz,ea,em _ dk,_,_,_,_,_,_,xz,T,sH,λH3 lf k3 v5 nf L=>?_⟩⟩⟩⟩;have Y:aA eD H2 H3:=aA.QU k3 λb hb=>nomatch hb;refine dD lf xz ⟨_,aq.of L⟩ ?_;have B0:=UR S.kd S.ck[i].es;refine iH (n:=(ju S.kd S.ck[i].es).length) (λj ys g=>j<=(ju S.kd S.ck[i].es).length/\af H3 g/\bL (rO g) ys (((ju S.kd S.ck[i].es).take j).map λn=>(("carry":cw),[(i:Int),n]))) (cI<|cU w4) (gQ (bJ _) (af.refl _) .nil) ?_ ?_ ?_ ?_ ?_
   .rintro j ys g ⟨_,_,e⟩;rw[r_ e,aS,gX];exact xl
   .rintro j ys g I ⟨_,l,_⟩;exact gw _ (V.int (ju S.kd S.ck[i].es)[j]) (aq.of<|l _ _ L) (by rw[eX,a8 I];rfl)
   .rintro ys g ⟨_,l,_⟩;exact au _ (aq.of<|l _ _ L) (by rw[aS];exact aD _)
   .rintro j ys g I ⟨_,l,e⟩ v H5 ⟨U,RG⟩;subst U;have hv:=RG _<|aq.of<|l _ _ L;rw[eX,a8 I]at hv;cases hv;refine au _ xz<|vr xz ⟨(sl (n:=3)),(λtp ht=>⟨I,ax l ht,?_⟩)⟩;rw[kN,a8 I,fg];exact yj (Paired.cq e λ_ _ q=>q.keep λb xs e=>ax (af.refl _) ht _ _ e)<|au tp xz ai
   .rintro ys g ⟨_,l,e⟩;rw[jd<|aD _]at e;refine⟨by rw[r_ e,aS];exact cI<|cU li,λrl jT=>?_⟩;have O:=ax (o:=.lst ys) l jT;have Z:=O _ _<|Y.vE W;have cl:=GO S.kd<|S.ck.zipIdx.take i;rw[gX]at cl;have hvl:=r_ D;refine⟨lw,rl,vs,ys,xz,xz,Z,ai,?_,hi,(BC _ _<|i9 _ xz ?_ ?_ ai ?_)⟩
    .rw[hvl,r_ e,aS];exact cI<|cU li
    .have kk:=Y.fC<|aA.of O;refine⟨λb o nb nt B=>?_,λb B=>(X.fC kk).t b ?_⟩
     .have:b≠lw:=aQ B nw;rw[ah this];exact(X.fC kk).k b o nb nt B
     .by_cases z:b=lw
      .rw[z,ai]at B;cases B
      .rwa[ah z]at B
    .exact ahl Z (fA v5 O)
    .have et:S.ck.zipIdx.take (i+1)=S.ck.zipIdx.take i++[(S.ck[i],i)]:=by
      rw[kN,List.getElem?_zipIdx,a8 Kj];simp
     rw[et];unfold yO;rw[Fw,Af,aca,pZ];have JR:∀b xs,db g rl (.lst ys) b=a_ (.tup xs)->db (db g rl<|.lst ys) lw (.lst<|vs++ys) b=a_ (.tup xs):=λb xs e=>by rw[ah<|hV e Z (by intro z;cases z)];exact e
     exact LR (Paired.cq e λ_ _ q=>q.keep λb xs e=>JR b xs<|ax (af.refl _) jT _ _ e) (Paired.cq aaG λ_ _ q=>(q.keep Y.P6).keep λb xs e=>JR b xs<|O _ _ e)
  .rintro σ p ⟨_,c,y,vs,rfl,kp,R,hw,D⟩;rw[jd (by rw[Tt];lia)]at D;exact vr xz<|q p lw vs kp R nw hw D
end
def i5.four(w:i5 S):S.ck.length<=4:=by rw[w.len];exact w.good.le
def i5.part(w:i5 S){c:Nat}(h:S.ck[c]?=a_ k):∃p,S.ps[c]?=a_ p/\p.length<=120/\k.pl<=p.length/\∀s∈p,dq p.length s:=by
 refine oE (dX.mp h) λb _=>?_;have a:S.ps[c]?=a_ (S.ps[c]'(by rw[<-w.len];exact b)):=a8 _;exact oA (w.good.part _<|cH a) λd e=>⟨_,a,d,(w.pl c k _ h a),e⟩
def Xr(h:S.ck[c]?=a_ k)(h':S.ps[c]?=a_ p):jQ S c=qy k p:=by unfold jQ;rw[h,h']
def ahB(h:S.ck[c]?=a_ k)(h':S.ps[c]?=a_ p):xb S c=(decide (k.pl=p.length)&&decide (k.es=[])):=by unfold xb;rw[h,h']
def WJ(S:Mc)(n:Nat):(uf S n).length<=n:=by
 unfold uf;rw[aS];exact cQ (uP _ _) (by rw[wq];exact aD _)
def aex(S:Mc)(n:Nat):uf S (n+1)=uf S n++(if jQ S n=c_ then [(("do":cw),[(n:Int)])] else []):=by
 unfold uf;rw[sS,Ae,fg]
 congr 1
 cases h:jQ S n with
 | true=>simp[UB,h]
 | false=>simp[UB,h]
def akv:(gr:List cw).Nodup:=dk
def Yv:([V_,X_,"tray"]:List cw).Nodup:=dk
section
variable{t:bj}{C CT:e_}{u:qF}
def G8(t:bj)(C CT PT:e_):Sp:=λvs H Q _=>∃m A S,vs=[.ref m]/\bb t C CT H m A S/\i5 S/\cx PT LP LQ H/\∀H' l vs,aA eD H H'->cx PT LP LQ H'->H l=b_->H' l=a_ (.lst vs)->bL (rO H') vs (dE S)->Q (.ref l) H'
def aeZ:bc g0 g0 (aR Ny):=bx
def aea{f PT:e_}(F:aW K "moves" "Machine.moves" Ny f fd)(a:gC K C)(J:mg "len"=b_)(L:mg "range"=b_)(O:Mt P w K mg fK C 2 "may_do" gr (W0 t C CT))(R:Mt P w K mg fK C 3 "carries" g0 (Vd t C CT PT)):aE P w K mg fK aL 4 f fd g0 (G8 t C CT PT):=by
 refine F.ok aeZ λaI A _ s H vs Q E v h=>?_
 .obtain⟨m,A,S,T,M,W,U,q⟩:=h;subst T;have X:=v.mono (show 2<=3 by decide)
  refine⟨_,aB (aU (aG Om (iu (N:=[V_,X_]) (idx:=[0]) xz (dJ.of<|by kernel_rfl) (iG<|aD _) (oM xz L<|aa (b9 gm xz J q_<|aa (ba (pv 0) xz) ag) ag)
   (λ_ _ _ _=>cW (i:=1) akv xz (aP xz)<|.inr xz) (λ_ _ _ _=>Xg<|gZ<|ji (pv 0) a.cl O X<|aa (pv 1) ag) λ_ _ _ _=>cp<|aa a7<|aa (pv 1) ag)
   (oh (pv 0) a.cl R v))),?_⟩
  refine dC (id M.obj) λdx fs hm G=>?_;have hlen:=r_ M.ts;have h4:=W.four;refine vF xz hm a.cl a.gc G.gc ⟨A.lt,⟨_,xz,.inl<|aq.of M.lt,_,xz,by rw[aS];lia,by rw[aS];lia,?_⟩⟩;have Y:(((A.ts.map λx=>V.ref x.1).length:Int)).toNat=S.ck.length:=by rw[aS];lia
  rw[Y];refine iH (n:=S.ck.length) (λi ys H'=>i<=S.ck.length/\af H H'/\bL (rO H') ys (uf S i)) (cI<|cU w4) (gQ (bJ _) (af.refl _) .nil) ?_ ?_ ?_ ?_ ?_
  .rintro i ys H' ⟨_,_,e⟩;rw[r_ e];exact WJ S i
  .rintro i ys H' hi _;exact hi
  .rintro ys H' _;exact aD _
  .rintro i ys Z hi ⟨_,s1,e⟩ x H2 ⟨eH,ex⟩;subst eH;subst ex;have k:S.ck[i]?=a_ S.ck[i]:=a8 hi;refine eh (W.part k) λp y gi iX uA=>vM xz (s1 _ _ hm) (G.ms _ dk)<|vr xz<|⟨m,A,S,i,_,p,?_,(M.same s1),k,y,w4,iX,(λs hs=>⟨_,uA s hs⟩),(λc d=>(au _ xz ?_))⟩
   .show [V.ref m,V.int<|0+(i:Int)]=_;rw[LL]
   rw[aex,Xr k y];refine Ee (λl=>?_) λl=>?_
   .refine vr xz ⟨(sl (n:=2)),(λtp z=>⟨hi,s1.fC<|ax d z,?_⟩)⟩;rw[l,ek rfl];refine yj (Paired.cq e λ_ _ q=>q.keep λb xs e=>ax d z _ _ e)<|au tp xz ?_;rw[ai];show a_ (HO.tup [.str "do",V.int<|0+(i:Int)])=_;rw[LL];rfl
   .refine gQ hi (s1.fC d) ?_;rw[l,ei dS,pZ];exact Paired.cq e λ_ _ q=>q.keep λb xs e=>d _ _ e
  .rintro ys Z ⟨_,s1,e⟩;have hd:=WJ S S.ck.length;refine⟨by rw[r_ e];exact cI<|cU li,λr B=>?_⟩;have s2:=ax (o:=.lst ys) s1 B;refine vM xz (s2 _ _ hm) (G.ms _ dk) (oN m A S xz (M.same s2) h4 (fA U s2) λc lc us g v5 nc hc D=>?_);have cl:=GO S.kd S.ck.zipIdx;rw[Tt]at cl;have xQ:=r_ D
   have aph:us.length<=48:=by
    rw[xQ];unfold AE;lia
   refine kU r lc ys us xz xz (g.vE ai) hc ?_ λl3 j=>?_
   .rw[r_ e];exact cI<|cU li
   have k4:aA eD H (db c l3<|.lst<|ys++us):=((aA.of s2).fC g).fC<|aA.of<|ax (af.refl _) j;have hn:=((aA.of s2).fC g).t l3 j;refine q _ l3 _ k4 (fA v5<|ax (af.refl _) j) hn ai ?_;unfold dE;have I:∀b xs,c b=a_ (.tup xs)->db c l3 (.lst<|ys++us) b=a_ (.tup xs):=λb xs e=>ax (af.refl _) j _ _ e;exact LR (Paired.cq D λ_ _ q=>q.keep I) (Paired.cq e λ_ _ q=>(q.keep λb xs e=>g.P6 _ _<|ax (af.refl _) B _ _ e).keep I)
end
def KL(H H':Hp):Prop:=∀b o,(∀xs,o≠.lst xs)->H b=a_ o->H' b=a_ o
def KL.fC(a:KL H H1)(b:KL H1 H2):KL H H2:=λc o n e=>b c o n<|a c o n e
def KL.of(s:af H H'):KL H H':=λb o _ e=>s b o e
def KL.db(a:H x=a_ (.lst xs)):KL H (db H x o):=λb q n e=>by
 rw[ah λz=>?_]
 .exact e
 .rw[z,a]at e;cases e;exact n _ xz
def KL.lam(k:KL H H'){PT:e_}(h:cx PT pos q H):cx PT pos q H':=by
 refine aJ h λps b a=>au ps (k _ _ (λxs z=>by cases z) b) ?_;obtain e|⟨c,e,a⟩:=a
 .exact .inl e
 .exact .inr (au c e<|k _ _ (λxs z=>by unfold BI at z;cases z) a)
def KL.tup(k:KL H H'):∀b xs,H b=a_ (.tup xs)->H' b=a_ (.tup xs):=λb xs e=>k b _ (λys z=>by cases z) e
noncomputable def tJ(S:Mc)(n:Nat)(num d:Int):Mc:={S with bd:=S.bd.set n num,ov:=S.ov.set n (S.ov.getD n []++[d])}
def tP(S:Mc)(c n:Nat):Mc:=match S.ck[c]? with
 | none=>S
 | some k=>match (cD k.es n).head? with
  | none=>S
  | some e=>tJ {S with ck:=S.ck.set c {k with es:=tY k.es n}} n e.num e.d
def Dy(S:Mc)(n:Nat):List V:=[.int (n:Nat),.int<|S.bd.getD n 0,oV (S.ov.getD n []).getLast?]
def wJ{a:Type}{l:List a}{n:Nat}{x d:a}(h:l[n]?=a_ x):l.getD n d=x:=by rw[nS,h];rfl
section
variable{t:bj}{C CT:e_}{u:qF}
def Nn(t:bj)(C CT:e_):Sp:=λvs H Q _=>∃m A S,vs=[.ref m]/\bb t C CT H m A S/\i5 S/\∀H',af H H'->Q (.bl<|jy S) H'
def agu:bc g0 g0 (aR N9):=bx
def afm(F:aW K "ended" "Machine.ended" N9 f fd)(d:gC K C)(L:lA K CT)(O:mg "all"=b_)(R:mg "enumerate"=b_)(U:Mt P w K mg fK C 1 "at_end" gr (Nr t C CT))(X:Mt P w K mg fK CT 1 "is_empty" g0 (Np CT)):aE P w K mg fK aL 2 f fd g0 (Nn t C CT):=by
 refine F.ok agu λaI A _ s H vs Q E k h=>?_
 .obtain⟨m,A,S,Y,M,W,q⟩:=h;subst Y
  refine⟨_,aB (aU (b9 (CS xz) xz O GR (aa (iu (N:=[V_,X_,"tray"]) (idx:=[0]) xz (dJ.of<|by kernel_rfl) (FU (aD _)<|jf _) (C5 (b:=c_) xz R<|aa (ba (pv 0) xz) ag)
   (λ_ _ _ _=>wL xz<|mq (cW (i:=1) Yv xz (aP xz)<|.inr xz)<|mq (cW (i:=2) Yv xz (aP xz)<|.inr xz) wG) (λ_ _ _ _=>gY)
   λ_ _ _ _=>HD (ji (pv 0) d.cl U k<|aa (pv 1) ag)<|Dj<|oh (pv 2) L.cl X k) ag))),?_⟩
  refine dC (id M.obj) λdx fs hm G=>?_;have Z:A.ts.length=S.ck.length:=r_ M.ts;have h4:=W.four;have RQ:(A.ts.map λx=>V.ref x.1).length=A.ts.length:=aS _;refine vF xz hm d.cl d.gc G.gc ⟨A.lt,⟨_,xz,aq.of M.lt,?_⟩⟩;refine iH (n:=A.ts.length) (λi ys H'=>i<=A.ts.length/\af H H'/\ys=((List.range i).map<|xb S).map V.bl) ?_ ?_ ?_ ?_ ?_ ?_ ?_
  .exact cI (cU w8)
  .exact gQ (bJ _) (af.refl _) xz
  .rintro i ys H' ⟨_,_,e⟩;rw[e,aS,aS,wq];exact aD _
  .rintro i ys H' hi ⟨_,s1,_⟩;exact gw _ (V.ref A.ts[i].1) (aq.of<|s1 _ _ M.lt) (by rw[eX,a8 hi];rfl)
  .rintro ys H' ⟨_,s1,_⟩;exact au _ (aq.of<|s1 _ _ M.lt) (by rw[RQ];exact aD _)
  .rintro i ys a hi ⟨_,s1,e⟩ z H2 ⟨r,x,g,ez,eH,eZ⟩;subst ez;subst eH;have l:=eZ _<|aq.of<|s1 _ _ M.lt;rw[eX,a8 hi]at l;cases l;have s2:af H (db a r<|.tup [.int i,.ref A.ts[i].1]):=ax s1 g;have v:db a r (.tup [.int i,.ref A.ts[i].1]) r=a_ (.tup [.int i,.ref A.ts[i].1]):=ai;generalize db a r (.tup [.int i,.ref A.ts[i].1])=H2 at s2 v ⊢;have y:=M.same s2;have Kj:i<S.ck.length:=wf;have c:S.ck[i]?=a_ S.ck[i]:=a8 Kj;refine eh (W.part c) λp B gi iX uA=>?_;refine aJ (y.vC c) λx' D T=>?_;rw[a8 hi]at D;cases D;refine eY (id T.obj) λlM nQ ea e1 e2 e3 em el=>?_
   have I:∀b,xb S i=b->ys++[V.bl b]=((List.range<|i+1).map<|xb S).map V.bl:=λb hb=>by
    rw[sS,fg,fg,<-e,<-hb];rfl
   have J:=ahB c B;refine⟨r,⟨_,xz,az.of v,xz,.int i,[.ref A.ts[i].1],xz,.ref A.ts[i].1,[],xz,xz,?_⟩⟩;dsimp only[jz];rw[ek rfl];refine vM xz (s2 _ _ hm) (G.ms _ dk)<|vr xz<|⟨m,A,S,i,_,p,xz,y,c,B,w4,(tk<|bq (λj=>?_) λj=>?_)⟩
   .refine vM xz ea (em _ dk) (⟨_,_,_,_,_,(dD _ xz T λH3 s3=>(gQ hi (s2.fC s3)<|I _ ?_))⟩);rw[J,eu j,qb]
   .refine gQ hi s2 (I _ ?_);rw[J,eT j,qS]
  .rintro ys a ⟨_,s1,e⟩;refine⟨by rw[e,aS,aS,wq];exact cI<|cU w8,λr g=>?_⟩;refine dG r ((List.range A.ts.length).map<|xb S) xz (aq.of<|by rw[ai,e]) ?_;have q:=q _<|ax (o:=.lst ys) s1 g;unfold jy at q;rw[yh,Z];exact q
def NW(t:bj)(C CT:e_):Sp:=λvs H Q _=>∃m A S st n num d fT,vs=[.ref m,.ref st]/\bb t C CT H m A S/\lE fT m A/\H st=a_ (.tup [.int (n:Nat),.int num,.int d])/\n<12/\S.bd.length=12/\S.ov.length=12/\(∀o∈S.ov,o.length<=16000)/\
 ∀H',bb t C CT H' m A (tJ S n num d)->aA (cY m A) H H'->KL H H'->Q .aH H'
def Yp:bc [V_,aq5,H_] [V_,aq5] (aR Pj):=bx
def yC(h:j<n):rV n (j:Int)=a_ j:=by
 unfold rV
 first | (rw[ek om];simp;done) | (simp;exact w0)
def ag9(F:aW K "come" "Machine.come" Pj f fd)(g:gC K C):aE P w K mg fK aL 1 f fd [V_,aq5] (NW t C CT):=by
 refine F.ok Yp λaI A _ s H vs Q E J h=>?_
 .refine jw h λm A S st n c=>jx c λnum d fT c M p=>?_;subst c;refine rj p λL l hn r N c=>oA c λx q=>?_;refine let b:TS:=_;⟨_,aw (bf (i:=2) Yp.nd xz (aP xz)<|aV dO (pv 1) ao)<|pR b<|aw (yv (aV dO (pv 1) ao)<|AQ (ba (pv 0) xz) (pv 2) set_list)<|aB<|dY<|lh m_ n_ o_ nh (aV cJ (ba (pv 0) xz)<|pv 2)<|aa (aV dO (pv 1) ao) ag,?_⟩;refine dC (id M.obj) λdx fs hm G=>lF (j:=0) xz l xz<|lF (j:=1) xz l xz<|vF xz hm g.cl g.cells G.cells<|vr xz<|⟨A.ce,_,_,n,xz,xz,M.ce,(yC<|by rw[aS,r];exact hn),?_⟩;have e:=ajX M L n num;have k1:aA (cY m A) H (db H A.ce<|.lst<|(S.bd.map V.int).set n<|.int num):=aA.db .ce;have l1:KL H (db H A.ce<|.lst<|(S.bd.map V.int).set n<|.int num):=KL.db M.ce;generalize db H A.ce (.lst<|(S.bd.map V.int).set n<|.int num)=H1 at e k1 l1 ⊢;refine dC (id e.obj) λy z B D=>?_;have k:S.ov[n]?=a_ (S.ov[n]'wg):=a8 wg;refine aJ (e.over k) λa ha o=>au _ xz<|dF m C y z<|jg _ xz B g.cl g.lR D.lR<|vr xz<|rL (v:=.ref a) (aq.of e.cm) (jO ha) ⟨.inl ⟨xz,_,aq.of o⟩,(lF (j:=2) xz ((l1.tup _ _ l)) xz ?_)⟩;have O:=x _<|cH k;refine BC a _<|i9 _ xz xz o (by rw[aS,ij];exact wb) ?_;have I:=ajV e L k ha d;refine q _ ?_ (k1.fC<|aA.db<|.cs<|cH ha)<|l1.fC<|KL.db o;unfold tJ;rw[wJ k];exact I
def Mf(t:bj)(C CT:e_):Sp:=λvs H Q _=>∃m A S n,vs=[.ref m,.int (n:Nat)]/\bb t C CT H m A S/\n<12/\S.bd.length=12/\S.ov.length=12/\∀a,H a=b_->Q (.ref a) (db H a<|.tup<|Dy S n)
def Vh:bc [V_,H_,"comers"] gP (aR MR):=bx
def adu(F:aW K "on_board" "Machine.on_board" MR f fd)(c:gC K C)(x:mg "len"=b_):aE P w K mg fK aL 1 f fd gP (Mf t C CT):=by
 refine F.ok Vh λaI A _ s H vs Q E I h=>?_
 .obtain⟨m,A,S,n,y,M,hn,J,L,q⟩:=h;subst y;refine⟨_,aw (bf (i:=2) Vh.nd xz (aP xz)<|aV cJ (ba (pv 0) xz)<|pv 1)<|aB<|aU<|cp<|aa (pv 1)<|aa (aV cJ (ba (pv 0) xz)<|pv 1)<|aa (MW (bR dm (b9 gm xz x q_<|aa (pv 2) ag) ao<|bG _) qi<|aV cJ (pv 2)<|Zr X6 ao) ag,?_⟩;refine dC (id M.obj) λdx fs hm G=>?_;have g:S.ov[n]?=a_ (S.ov[n]'wg):=a8 wg;have p:S.bd[n]?=a_ (S.bd[n]'wg):=a8 wg;refine aJ (M.over g) λa ha j=>?_
  have k:∀v,oV (S.ov[n]'wg).getLast?=v->∀b,H b=b_->Q (.ref b) (db H b<|.tup [.int (n:Nat),.int<|S.bd[n]'wg,v]):=λv hv b B=>by
   have q:=q b B;unfold Dy at q;rw[wJ g,wJ p,hv]at q;exact q
  generalize S.ov[n]'wg=o at g j k;refine vF xz hm c.cl c.lR G.lR<|vr xz<|rL (v:=.ref a) (aq.of M.cm) (jO ha)<|au _ xz<|vF xz hm c.cl c.cells G.cells<|vr xz<|rL (aq.of M.ce) (jO p)<|vr xz ⟨a,⟨_,xz,.inl<|aq.of j,xz,_,xz,bq (λz=>?_) λz=>?_⟩⟩
  .have D:o=[]:=by
    have l:=z;injection l with l
    rw[aS]at l;exact Fq.mp om
   subst D;exact⟨(sl (n:=3)),k .aH xz⟩
  .have r:o≠[]:=λe=>z (by rw[e];rfl);obtain⟨o',d,rfl⟩:∃o' d,o=o'++[d]:=⟨o.dropLast,o.getLast r,(List.dropLast_concat_getLast r).fF⟩;refine vr xz<|au _ xz<|rL (v:=.int d) (aq.of j) (by rw[fg];exact WO _ _) ⟨(sl (n:=3)),(k (.int d) ?_)⟩;rw[List.getLast?_append];rfl
end
def VZ(e:H p=a_ (.tup xs))(a:xs.length<=1000)(b:∀x∈xs,OF x=c_):Told H (.ref p):=
 ⟨⟨_,va e⟩,λys q=>by rw[i0 e]at q;cases q;exact⟨a,b⟩⟩
def ahV(t:Tl):(tv t).length=(HN t).length:=by unfold tv HN;simp
def akT:cF S_ = a_ [4,dH]:=by unfold cF;rw[ek rfl]
def akU:cF Q_ = a_ [4,4]:=by unfold cF;rw[ei dk,ek rfl]
def akS:cF U_ = a_ [12,4]:=by unfold cF;rw[ei dk,ei dk,ek rfl]
def aji:cF L_ = a_ [4,12]:=by unfold cF;rw[ei dk,ei dk,ei dk,ek rfl]
def ajg:cF I_ = a_ [4,12]:=by unfold cF;rw[ei dk,ei dk,ei dk,ei dk,ek rfl]
def ahN:cF N_ = a_ []:=by unfold cF;rw[ei dk,ei dk,ei dk,ei dk,ei dk,ek rfl]
def ajh:cF J_ = a_ [4,121]:=by unfold cF;rw[ei dk,ei dk,ei dk,ei dk,ei dk,ei dk,ek rfl]
def AW{a b:Nat}{u v:Int}(e:cF x=a_ [u,v])(h1:(a:Int)<u)(h2:(b:Int)<v):stepOk [.str x,.int a,.int b]=true:=by
 show (match cF x with | none=>d_ | some bs=>decide ([V.int a,V.int b].length=bs.length)&&([V.int a,V.int b].zip bs).all λp=>mI p.1 p.2)=c_;rw[e];show (decide (2=2)&&((decide (0<=(a:Int))&&decide ((a:Int)<u))&&((decide (0<=(b:Int))&&decide ((b:Int)<v))&&c_)))=c_;rw[eu h1,eu h2,eu<|abL a,eu<|abL b];rfl
def top_lt{m:Nat}(h:m<10^60):(m:Int)<dH:=by
 have e:((10^60:Nat):Int)=dH:=dk;rw[<-e];exact Int.ofNat_lt.mpr h
def Vx{sz:Nat}(g:dq sz t):stepOk (tv t)=true:=by
 cases g with
 | put r m h1 h2=>exact AW akT li<|top_lt h2
 | add r m h1 h2=>exact AW akU om li
 | set r m h1 h2=>exact AW akS li om
 | look r m h1 h2=>exact AW aji om li
 | swap r m h1 h2=>exact AW ajg om om
 | clear=>
  show (match cF N_ with | none=>d_ | some bs=>decide (([]:List V).length=bs.length)&&(([]:List V).zip bs).all λp=>mI p.1 p.2)=c_;rw[ahN];rfl
 | skip r m h1 h2 h3=>exact AW ajh li li
def acT:∀w∈Hs,yg w=true:=by unfold Hs;decide +kernel
def gv.told{sz:Nat}(h:gv H v t)(g:dq sz t):Told H v:=by
 obtain⟨a,rfl,ha⟩:=h;refine VZ ha ?_ ?_
 .rw[ahV];have:=adL g;lia
 .intro x b;obtain e|h1:=a9.mp b
  .subst e;exact acT _ g.word
  .obtain⟨n,_,rfl⟩:=eR.mp h1;rfl
def gv.fits{sz i:Nat}(h:gv H v t)(g:dq sz t)(hi:i<120):gI H v i sz=true:=by
 obtain⟨a,rfl,ha⟩:=h;unfold gI nz vg;rw[i0 ha];show (stepOk (tv t)&&_)=c_;rw[Vx g,eu (show (i:Int)<120 by lia),qb,Bool.and_true];cases g with
 | skip r q h1 h2 h3=>
  show (!(decide (((J_ : cw)) = J_)&&decide ((sz:Int)<(q:Int))))=c_;rw[eT (show ¬(sz:Int)<(q:Int) by lia),Lr];rfl
 | clear=>rfl
 | put r m _ _=>show (!(decide ((("put":cw))="skip")&&_))=c_;rw[eT dk];rfl
 | add r m _ _=>show (!(decide ((("add":cw))="skip")&&_))=c_;rw[eT dk];rfl
 | set r m _ _=>show (!(decide ((("set":cw))="skip")&&_))=c_;rw[eT dk];rfl
 | look r m _ _=>show (!(decide ((("look":cw))="skip")&&_))=c_;rw[eT dk];rfl
 | swap r m _ _=>show (!(decide ((("swap":cw))="skip")&&_))=c_;rw[eT dk];rfl
theorem L7{sz:Nat}:∀{vs:List V}{p:Pt}{c:Nat},bL (gv H) vs p->(∀t∈p,dq sz t)->c+vs.length<=120->hY H sz c vs=b_
 | _,_,_,.nil,_,_=>rfl
 | _,_,c,.cons h t,g,hc=>by
  rw[gE]at hc;show (if gI H _ c sz=c_ then hY H sz (c+1) _ else a_ c)=b_;rw[ek<|h.fits (g _<|by simp) li];exact L7 t (λt a=>g t<|cu _ a) li
def IsPart.view(h:IsPart H v p):∃vs,cA H v=a_ vs/\bL (gv H) vs p:=by
 obtain⟨a,vs,rfl,ha,r⟩:=h;exact⟨vs,i0 ha,r⟩
theorem Lv:∀{vs:List V}{ps:List Pt}{c:Nat},bL (IsPart H) vs ps->(∀p∈ps,p.length<=120/\∀t∈p,dq p.length t)->gF H c vs=b_
 | _,_,_,.nil,_=>rfl
 | x::xs,p::ps,c,.cons h t,g=>by
  obtain⟨us,hv,r⟩:=h.view;obtain⟨f,a⟩:=g _<|cb ..;have b:=r_ r;unfold gF;have e:dZ H x=us:=by unfold dZ;rw[hv];rfl
  rw[e,b,L7 r a li];exact Lv t λp d=>g p<|cu _ d
def Ml(h:jh H v ps)(g:lB ps):qp H v/\ia H v=c_/\∀xs,cA H v=a_ xs->gF H 0 xs=none:=by
 obtain⟨a,vs,rfl,ha,r⟩:=h;have n:=r_ r;have o:=g.le;have s:=g.ne;refine⟨⟨⟨_,va ha⟩,λxs e=>?_⟩,?_,λxs e=>?_⟩
 .rw[i0 ha]at e;cases e;refine⟨li,λx c=>?_⟩;obtain⟨p,d,b,us,rfl,f,q⟩:=oH r c;obtain⟨u,i⟩:=g.part p d;have z:=r_ q;refine⟨⟨_,va f⟩,λys e=>?_⟩;rw[i0 f]at e;cases e;refine⟨li,λy j=>?_⟩;obtain⟨t,k,l⟩:=oH q j;exact l.told<|i t k
 .unfold ia;rw[i0 ha];show ((decide (1<=vs.length)&&decide (vs.length<=4))&&vs.all λx=>(cA H x).isSome)=c_;rw[eu li,eu li,qb,qb,kQ];intro x c;obtain⟨p,d,m⟩:=oH r c;obtain⟨us,e,_⟩:=m.view;rw[e];rfl
 .rw[i0 ha]at e;cases e;exact Lv r g.part
def afN{sz:Nat}(g:dq sz t):(t.2.map λ(n:Nat)=>V.int (n:Int)).length<=900:=by
 rw[aS];have:=g.len;exact w4
def ahp(l:List Nat):∀y∈l.map λ(n:Nat)=>V.int (n:Int),∃T,ec H y=a_ T:=λy a=>by
 refine aJ (eR.mp a) λn _ b=>?_;subst b;exact⟨_,xz⟩
structure gd(H0:Hp)(m:e_)(H:Hp)(R:e_->Nat->Prop):Prop where
 l:∃fT:e_->Nat,∀a v,R a v->fT a=v
 p:∀a v,R a v->H a≠b_
 f:∀a v,R a v->a=m\/H0 a=b_
 t:∀b,H b=b_->H0 b=b_
section
variable{H0 H H':Hp}{m:e_}{R R':e_->Nat->Prop}
def gd.keep(h:gd H0 m H R)(k:∀b,H' b=b_->H b=b_):gd H0 m H' R:=⟨h.l,λa v r z=>h.p a v r<|k a z,h.f,λb z=>h.t b<|k b z⟩
def gd.adds(h:gd H0 m H R)(k:∀b,H' b=b_->H b=b_){B:e_->Prop}{n:Nat}(c:∀b,B b->H b=b_)(d:∀b,B b->H' b≠b_):gd H0 m H' λa v=>R a v\/(B a/\v=n):=by
 obtain⟨⟨fT,h1⟩,h2,h3,h4⟩:=h
 classical
 refine⟨⟨λa=>if B a then n else fT a,λa v r=>?_⟩,λa v r=>?_,λa v r=>?_,λb z=>h4 b<|k b z⟩
 .obtain r|⟨r,rfl⟩:=r
  .show (if B a then n else fT a)=v;rw[ei λz=>h2 a v r<|c a z];exact h1 a v r
  .show (if B a then v else fT a)=v;rw[ek r]
 .obtain r|⟨r,rfl⟩:=r
  .exact λz=>h2 a v r<|k a z
  .exact d a r
 .obtain r|⟨r,rfl⟩:=r
  .exact h3 a v r
  .exact .inr (h4 a<|c a r)
def gd.add(h:gd H0 m H R)(k:∀b,H' b=b_->H b=b_)(d:H b=b_)(e:H' b≠b_):gd H0 m H' λa v=>R a v\/(a=b/\v=n):=
 h.adds k (B:=λa=>a=b) (λc z=>by rw[z];exact d) (λc z=>by rw[z];exact e)
def qX:∀b,db H x o b=b_->H b=none:=λb e=>by
 by_cases z:b=x
 .rw[z,ai]at e;cases e
 .rwa[ah z]at e
def gd.new(h:gd H0 m H R)(c:H b=b_):gd H0 m (db H b o) λa v=>R a v\/(a=b/\v=n):=h.add qX c (by rw[ai];intro z;cases z)
end
structure bu(m:e_)(H H':Hp):Prop where
 k:∀b o,b≠m->H b=a_ o->H' b=a_ o
 t:∀b,H' b=b_->H b=b_
def bu.of(s:af H H'):bu m H H':=⟨λb o _ e=>s b o e,λb h=>s.free h⟩
def bu.fC(a:bu m H H1)(b:bu m H1 H2):bu m H H2:=⟨λc o n e=>b.k c o n<|a.k c o n e,λc h=>a.t c<|b.t c h⟩
def bu.db:bu m H (db H m o):=⟨λb q n e=>by rw[ah n];exact e,qX⟩
section
variable{t:bj}{C CT:e_}{u:qF}
def t7.same(s':af H H')(h:t7 t H v s):t7 t H' v s:=h.keep λb C dx fs e _=>s' _ _ e
def Vc(t:bj):Sp:=λvs H Q _=>∃v p,vs=[v]/\IsPart H v p/\p.length<=120/\(∀s∈p,dq p.length s)/\∀H' b us,af H H'->H b=b_->H' b=a_ (.tup us)->bL (t7 t H') us p->Q (.ref b) H'
def adY:bc [ap7] [ap7] (aR MP):=bx
def ahb:([ap6]:List cw).Nodup:=dk
theorem LC{a b:Type}{F:a->b->Prop}{x:a}{y:b}(h:F x y):∀{l:List a}{r:List b},bL F l r->bL F (l++[x]) (r++[y])
 | _,_,.nil=>.cons h .nil
 | _,_,.cons g t=>.cons g<|LC h t
def ads(F:aW K "steps_of" "steps_of" MP f fd)(T:qk K mg t)(I:mg Z_ = b_):aE P w K mg fK aL 5 f fd [ap7] (Vc t):=by
 have J:aE P w K mg fK aL 4 t.fO t.yZ [ap6] (V3 t):=ad7 T;refine F.ok adY λaI A _ s H vs Q E L h=>?_
 .obtain⟨v,p,d,m,g,M⟩:=h;subst d;refine gf m λa vs d ha x=>?_;clear m;subst d;refine oA M λO k=>?_
  refine⟨_,aB (aU (gu kR xz I i8 (aa (iu (N:=[ap6]) (idx:=[]) xz (dJ.of<|by kernel_rfl) (iG<|bJ _) (vp<|pv 0)
   (λ_ _ _ _=>cW (i:=0) ahb xz (aP xz)<|.inr xz) (λ_ _ _ _=>gY) λ_ _ _ _=>oa J L xz T.mO T.Jm.kp T.bO .nil cX<|aa (pv 0) ag) ag))),?_⟩
  have hlen:=r_ x;refine au _ xz<|dD a xz ⟨_,az.of ha⟩<|iH (n:=vs.length) (λi ys H'=>i<=vs.length/\af H H'/\bL (t7 t H') ys (p.take i)) (cI<|cU w8) (gQ (bJ _) (af.refl _) .nil) ?_ ?_ ?_ ?_ ?_
  .intro i ys H' c;refine jm c λ_ _ e=>?_;rw[r_ e,gX];exact xl
  .intro i ys H' hi c;exact jm c λ_ s1 _=>gw _ _ (az.of<|s1 _ _ ha)<|a8 hi
  .intro ys H' c;exact jm c λ_ s1 _=>au _ (az.of<|s1 _ _ ha)<|aD _
  .intro i ys R hi c z S U;refine jm c λ_ s1 e=>oA U λV W=>?_;subst V;have X:=W _<|az.of<|s1 _ _ ha;refine aJ (tf x X) λst y Y=>?_;have B:=O st<|cH y;have D:gv S z st:=Y.keep λb xs e=>s1 _ _ e;refine aJ D λb d Z=>?_;clear D;subst d;dsimp only[jz,iO];rw[ek rfl];refine vr xz<|BC b st.1 (i9 _ xz Z (Vx B) ⟨afN B,ahp st.2⟩ λz dx H3 j JV JU=>(gQ hi (s1.fC j) ?_));rw[kN,y];exact LC ⟨z,b,dx,xz,JU⟩ (Paired.cq e λ_ _ q=>q.same j)
  .intro ys R c;refine jm c λ_ s1 e=>?_;have hle:=r_ e;rw[gX]at hle;refine⟨cI<|cU li,λr G=>⟨r,ys,xz,.inl ⟨aq.of ai,λl g=>?_⟩⟩⟩;have s2:=ax (o:=.lst ys) s1 G;have j:=ax (o:=.tup ys) s2 g;rw[jd li]at e;exact k _ l ys j (s2.free g) ai (Paired.cq e λ_ _ q=>(q.same<|ax (af.refl _) G).same<|ax (af.refl _) g)
end
def YR{P:l_}{w:k_}{K:u_}{mg:cw->Option f_}{fK:j_}(F:aE P w K mg fK (eV P w) k f fd ps sp):aE P w K mg fK aL k f fd ps (λvs H Q _=>sp vs H Q λ_ _ _=>False):=
 ⟨λvs H Q E h=>F.len vs H Q _ h,λA outer s H args us vs Q E a b d hv hs=>yf (F.run A outer s H args us vs Q (λ_ _ _=>False) a b d hv hs) λr s' h=>by
  cases r with
  | error e=>
   obtain⟨ea,c,dd,T,H',_,_,_,_,_,g⟩:=h;refine rj g λ_ _ _ _ _ q=>?_;exact q.elim
  | ok fl=>cases fl <;> exact h⟩
def W2:Sp:=λvs H Q _=>∃v ps,vs=[v]/\jh H v ps/\lB ps/\∀H',af H H'->Q .aH H'
def aky{cC cP:e_}(a:aE P w K mg fK (eV P w) 6 f fd gy (NV cC cP)):aE P w K mg fK aL 6 f fd gy W2:=
 (YR a).imp λvs H Q E h=>by
  obtain⟨v,ps,e,b,g,k⟩:=h;obtain⟨d,i,j⟩:=Ml b g;exact⟨v,e,d,λy=>eo (i.fF.fC y) qc,λ_ xs l=>⟨λ_ m s1=>k m s1,λc p y=>eo ((j xs l).fF.fC y)<|by intro z;cases z⟩⟩
def ajY{CT cK:e_}(a:aE P w K mg fK (eV P w) 3 f fd [T_] (Me CT cK)):aE P w K mg fK aL 3 f fd [T_] (V2 CT):=
 (YR a).imp λvs H Q E h=>by
  obtain⟨kd,e,b,k⟩:=h;have c:V.str kd=.str ap9\/V.str kd=.str H_\/V.str kd=.str ap4:=by rcases b with rfl | rfl | rfl <;> simp
  exact⟨.str kd,"str",e,xz,λ_ g H' x q qr d=>by cases d;exact k H' x q qr,λz=>eo c z⟩
end TL
namespace L2
open PySem.SeqAt
noncomputable instance aoO:DecidableEq ci:=Classical.typeDecidableEq ci
noncomputable def b8:Nat->ci->Bool
 | _,.int _=>c_
 | n+1,.tuple xs=>xs.all<|b8 n
 | _,_=>d_
noncomputable def Ib:Nat->ci->Nat
 | n+1,.tuple xs=>(xs.map<|Ib n).sum+1
 | _,_=>1
def jJ(h:b8 n d=c_):(∃i,d=.int i)\/∃m xs,n=m+1/\d=.tuple xs/\∀x∈xs,b8 m x=true:=by
 cases d with
 | int i=>exact .inl ⟨i,xz⟩
 | tuple xs=>
  cases n with
  | zero=>exact nomatch h
  | succ m=>exact .inr ⟨m,xs,xz,xz,λx a=>kQ.mp h x a⟩
 | _=>cases n <;> exact nomatch h
def lN(r:Reads h v (.int i) as):∃t,v=.int i t:=by cases r with | int i t=>exact⟨t,rfl⟩
def ng(r:Reads h v (.tuple xs) as):∃(a:e_)(o:cB)(vs:Array f_)(n:Nat),v=.ref a/\h.get? a=a_ o/\o.cls=.type "tuple"/\o.data=.seq vs n/\CW h vs.toList xs as:=by
 cases r with
 | tuple e c d r=>exact⟨_,_,_,_,xz,e,c,d,r⟩
theorem nv:∀{vs:List f_}{ds:List ci}{a:List e_},CW h vs ds a->bL (λv d=>∃bs,Reads h v d bs) vs ds
 | _,_,_,.nil=>.nil
 | _,_,_,.cons r t=>.cons ⟨_,r⟩<|nv t
def Vj:∀{n m:Nat}{d e:ci}{v:f_}{c bs:List e_},b8 n d=c_->b8 m e=c_->Reads h v d c->Reads h v e bs->d=e:=by
  intro n
  induction n with
  | zero=>
   intro m d e v c bs h1 h2 f r2;obtain⟨i,rfl⟩|⟨k,xs,z,_⟩:=jJ h1
   .obtain⟨t,rfl⟩:=lN f;obtain⟨j,rfl⟩|⟨k,ys,rfl,rfl,_⟩:=jJ h2
    .obtain⟨u,e⟩:=lN r2;cases e;rfl
    .obtain⟨a,o,vs,n,e,_⟩:=ng r2;cases e
   .cases z
  | succ k ih=>
   intro m d e v c bs h1 h2 f r2;obtain⟨i,rfl⟩|⟨k',xs,z,rfl,A⟩:=jJ h1
   .obtain⟨t,rfl⟩:=lN f;obtain⟨j,rfl⟩|⟨k,ys,rfl,rfl,_⟩:=jJ h2
    .obtain⟨u,e⟩:=lN r2;cases e;rfl
    .obtain⟨a,o,vs,n,e,_⟩:=ng r2;cases e
   .cases z;obtain⟨a,o,vs,n,rfl,B,c1,d1,C⟩:=ng f;obtain⟨j,rfl⟩|⟨D,ys,rfl,rfl,E⟩:=jJ h2
    .obtain⟨u,e⟩:=lN r2;cases e
    .obtain⟨K,o',L,M,F,g,c2,r,G⟩:=ng r2;cases F;rw[B]at g;cases g;rw[d1]at r;cases r
     have H:∀{l:List f_}{xs ys:List ci},bL (λv d=>∃bs,Reads h v d bs) l xs->bL (λv d=>∃bs,Reads h v d bs) l ys->(∀x∈xs,b8 k x=c_)->(∀y∈ys,b8 D y=c_)->xs=ys:=by
      intro l
      induction l with
      | nil=>intro xs ys p q _ _;cases p;cases q;rfl
      | cons v l il=>
       intro xs ys p q s w;cases p with
       | cons a t=>
        cases q with
        | cons b u=>
         obtain⟨c,a⟩:=a;obtain⟨bs,b⟩:=b;rw[ih (s _ cb) (w _ cb) a b,il t u (λx I=>s x<|cu _ I) λy J=>w y<|cu _ J]
     rw[H (nv C) (nv G) A E]
def Ut(k:∀(b:e_)(o:cB)(vs:Array f_)(n:Nat),h.get? b=a_ o->o.data=.seq vs n->h'.get? b=a_ o):∀{n:Nat}{d:ci}{v:f_}{c:List e_},b8 n d=c_->Reads h v d c->∃bs,Reads h' v d bs:=by
  intro n
  induction n with
  | zero=>
   intro d v c g r;obtain⟨i,rfl⟩|⟨k,xs,z,_⟩:=jJ g
   .obtain⟨t,rfl⟩:=lN r;exact⟨_,.int i t⟩
   .cases z
  | succ m ih=>
   intro d v c g r;obtain⟨i,rfl⟩|⟨y,xs,z,rfl,f⟩:=jJ g
   .obtain⟨t,rfl⟩:=lN r;exact⟨_,.int i t⟩
   .cases z;obtain⟨a,o,vs,n,rfl,j,c1,d1,s⟩:=ng r
    have all:∀{l:List f_}{xs:List ci},bL (λv d=>∃bs,Reads h v d bs) l xs->(∀x∈xs,b8 m x=c_)->∃bs,CW h' l xs bs:=by
     intro l xs p
     induction p with
     | nil=>exact λ_=>⟨_,.nil⟩
     | cons a t it=>
      intro e;obtain⟨c,a⟩:=a;obtain⟨bs,q⟩:=ih (e _ cb) a;obtain⟨cs,u⟩:=it λx w=>e x<|cu _ w;exact⟨_,.cons q u⟩
    obtain⟨bs,q⟩:=all (nv s) f;exact⟨_,.tuple (k _ _ _ _ j d1) c1 d1 q⟩
section
variable{prog:l_}{w:k_}{E:f_->g_->Prop}
def aiV:∀{n:Nat}{d:ci}{v:f_}{c:List e_}{A:h_}{s:g_}{Q:Int->g_->Prop},b8 n d=c_->Reads s.heap v d c->A.units+n<cLine->Q (DQ n d) {heap:=s.heap,gens:=s.gens,drawn:=s.drawn,toks:=s.toks+Ib n d,os:=s.os}->bz (bK prog w) A (pyHash v) Q E s:=by
 intro n
 induction n with
 | zero=>
  intro d v c A s Q g r B q;obtain⟨i,rfl⟩|⟨k,xs,z,_⟩:=jJ g
  .obtain⟨t,rfl⟩:=lN r;exact Tz q
  .cases z
 | succ m ih=>
  intro d v c A s Q g r B q;obtain⟨i,rfl⟩|⟨H,xs,z,rfl,C⟩:=jJ g
  .obtain⟨t,rfl⟩:=lN r;exact Tz q
  .cases z;obtain⟨a,o,vs,n,rfl,u,c1,d1,D⟩:=ng r;have ty:s.TypeIs (.ref a) "tuple":=LK ⟨o,u,c1,n,d1⟩;show bz _ _ (pyHashByItsType<|.ref a) _ _ _;refine W.pyHash_slot ty F.slot_tuple_hash F.entry_tuple_hash (F.args_tuple_hash_1 _) xz (.inr li) ?_;unfold Builtin.«tuple.__hash__»;refine ak ?_;refine aO ?_;refine ak<|Tn u d1 ?_;refine ak ?_;rw[<-abM];refine Le _ (λl b s'=>∃done rest,xs=done++rest/\b.toList=done.map (DQ m)/\bL (λv d=>∃bs,Reads s.heap v d bs) l rest/\s'={heap:=s.heap,gens:=s.gens,drawn:=s.drawn,toks:=s.toks+(done.map<|Ib m).sum,os:=s.os}) _ ?_ ?_ _ _ ⟨[],xs,xz,xz,(nv D),xz⟩
   .rintro x rest b s' ⟨y,rs,e,f,p,es⟩;cases p with
    | @cons _ d2 _ ds j t=>
     obtain⟨bs,j⟩:=j;subst es;refine ak<|ih (C d2<|by rw[e];simp) j (by show A.units+1+m<cLine;lia) ?_;refine aO ⟨y++[d2],ds,by rw[e];simp,by simp[f],t,?_⟩;simp[Nat.add_assoc]
   .rintro b s' ⟨y,rs,e,f,p,es⟩;cases p;subst es;rw[pZ]at e;subst e;refine ik (wpAny_ret_mkInt (Q:=λv s2=>∃t,v=.int (SW b.toList) t/\Q (reduceHash<|SW b.toList) s2) ⟨_,xz,?_⟩) (λI s2⟨v,e,t,G,h⟩=>⟨_,t,by rw[e,G],h⟩) λ_ _ x=>x;rw[f];exact q
def ZP:∀{n m:Nat}{d e:ci},b8 n d=c_->b8 m e=c_->d.eqv e=decide (d=e):=by
 intro n
 induction n with
 | zero=>
  intro m d e h1 h2;obtain⟨i,rfl⟩|⟨k,xs,z,_⟩:=jJ h1
  .obtain⟨j,rfl⟩|⟨k,ys,rfl,rfl,_⟩:=jJ h2
   .rw[mm];by_cases z:i=j
    .subst z;simp
    .rw[eT λy=>z (by cases y;rfl)];exact fi.mpr z
   .rw[mm,eT (by intro z;cases z)] <;> (intros;simp_all)
  .cases z
 | succ k ih=>
  intro m d e h1 h2;obtain⟨i,rfl⟩|⟨k',xs,z,rfl,c⟩:=jJ h1
  .obtain⟨j,rfl⟩|⟨k,ys,rfl,rfl,_⟩:=jJ h2
   .rw[mm];by_cases z:i=j
    .subst z;simp
    .rw[eT λy=>z (by cases y;rfl)];exact fi.mpr z
   .rw[mm,eT (by intro z;cases z)] <;> (intros;simp_all)
  .cases z;obtain⟨j,rfl⟩|⟨f,ys,rfl,rfl,g⟩:=jJ h2
   .rw[mm,eT (by intro z;cases z)] <;> (intros;simp_all)
   .have h:∀{xs ys:List ci},(∀x∈xs,b8 k x=c_)->(∀y∈ys,b8 f y=c_)->uV xs ys=decide (xs=ys):=by
     intro xs
     induction xs with
     | nil=>intro ys _ _;cases ys <;> rw[uV] <;> simp
     | cons x xs il=>
      intro ys a b;cases ys with
      | nil=>rw[uV] <;> simp
      | cons y ys=>
       rw[uV,ih (a _ cb)<|b _ cb,il (λx l=>a x<|cu _ l) λy o=>b y<|cu _ o]
       by_cases z:x=y <;> by_cases p:xs=ys <;> simp[z,p]
    rw[mm,h c g]
    by_cases z:xs=ys
    .subst z;simp
    .rw[eT z,eT λy=>z (by cases y;rfl)]
def DJ:∀{n:Nat}{d:ci},b8 n d=c_->d.canLay0=c_/\d.depth<=n+1:=by
 intro n
 induction n with
 | zero=>
  intro d g;obtain⟨i,rfl⟩|⟨k,xs,z,_⟩:=jJ g
  .rw[wy,Ap];exact⟨xz,qc⟩
  .cases z
 | succ m ih=>
  intro d g;obtain⟨i,rfl⟩|⟨j,xs,z,rfl,f⟩:=jJ g
  .rw[wy,Ap];exact⟨xz,li⟩
  .cases z
   have all:∀{xs:List ci},(∀x∈xs,b8 m x=c_)->pX xs=c_/\sR xs<=m+1:=by
    intro xs
    induction xs with
    | nil=>intro _;rw[pX,sR];exact⟨xz,bJ _⟩
    | cons x xs il=>
     intro e;obtain⟨a,b⟩:=ih<|e _ cb;obtain⟨c,d⟩:=il λx h=>e x<|cu _ h;rw[pX,sR,a,c];exact⟨xz,li⟩
   obtain⟨a,b⟩:=all f;rw[wy,Ap];exact⟨a,li⟩
def agG:∀{n:Nat}{d:ci}{v:f_}{e:List e_}{A:h_}{s:g_}{Q:Bool->g_->Prop},b8 n d=c_->Reads s.heap v d e->Q c_ s->bz (bK prog w) A (eqIsQuiet n v) Q E s:=by
 intro n
 induction n with
 | zero=>
  intro d v e A s Q g r q;obtain⟨i,rfl⟩|⟨k,xs,z,_⟩:=jJ g
  .obtain⟨t,rfl⟩:=lN r;rw[eqIsQuiet_byValue _ rfl];exact aO q
  .cases z
 | succ m ih=>
  intro d v e A s Q g r q;obtain⟨i,rfl⟩|⟨y,xs,z,rfl,j⟩:=jJ g
  .obtain⟨t,rfl⟩:=lN r;rw[eqIsQuiet_byValue _ rfl];exact aO q
  .cases z;obtain⟨a,o,vs,n,rfl,f,c1,d1,u⟩:=ng r;have ty:s.TypeIs (.ref a) "tuple":=LK ⟨o,f,c1,n,d1⟩;rw[eqIsQuiet.eq_def];refine ak<|wpAny_specialOf ty F.slot_tuple_eq.lookup ?_;refine ak<|Ld ty aby ?_;refine ak<|sU f d1 ?_;refine ak ?_;rw[show (a_ vs:Option (Array f_)).getD #[]=vs from xz,<-abM];refine Le _ (λl b s'=>b=(b_,())/\s'=s/\∃rest,(∀x∈rest,b8 m x=c_)/\bL (λv d=>∃bs,Reads s.heap v d bs) l rest) _ ?_ ?_ _ _ ⟨xz,xz,xs,j,(nv u)⟩
   .rintro x rest b s' ⟨rfl,rfl,rs,h,p⟩;cases p with
    | cons c t=>
     obtain⟨bs,c⟩:=c;exact ak<|ih (h _ cb) c<|aO ⟨xz,xz,_,λx c=>h x<|cu _ c,t⟩
   .rintro b s' ⟨rfl,rfl,_⟩;exact aO q
def ZR{f bs:List e_}(h1:b8 n d=c_)(h2:b8 m e=c_)(c:Reads s.heap (.ref a) d f)(r2:Reads s.heap (.ref b) e bs)(g:A.units+n+1<cLine)(q:Q (decide<|d=e) s):bz (bK prog w) A (eqBool (.ref a)<|.ref b) Q E s:=by
 unfold eqBool;refine mj ?_
 by_cases z:a=b
 .subst z;rw[ek (by simp)];refine ak<|Ay<|aO ?_;rw[Vj h1 h2 c r2,eu rfl]at q;exact q
 .rw[ei (by simpa using z)];refine ak ?_;show bz (bK prog w) A (jL .Eq (.ref a)<|.ref b) _ E s;refine compareEq_reads c r2 (DJ h1).1 (DJ h2).1 ?_<|qO ?_
  .have:=(DJ h1).2;lia
  .rw[ZP h1 h2];exact q
end
noncomputable def YJ:ci->Bool
 | .tuple _=>c_
 | _=>d_
def nk(P:l_)(w:k_):HeapKind P w ci where
 is h k a:=YJ k=c_/\b8 8 k=c_/\∃i,Reads h (.ref a) k i
 hash:=DQ 8
 draws:=Ib 8
 room A:=A.units+9<cLine
 inj:=λ⟨_,h1,_,c⟩⟨_,h2,_,r2⟩=>Vj h1 h2 c r2
 keeps:=λ⟨t,h1,_,c⟩e d j=>⟨t,h1,Ut (λb o vs n f g=>(j.2 b λz=>by subst z;rw[e]at f;cases f;rw[d]at g;cases g).fC f) h1 c⟩
 pyHash:=λl⟨_,h1,_,c⟩q=>aiV h1 c li q
 eqBool:=λl⟨_,h1,_,c⟩⟨_,h2,_,r2⟩q=>ZR h1 h2 c r2 li q
 quiet:=λ⟨_,h1,_,c⟩q=>agG h1 c q
def A4(K:u_)(H:Hp)(x:ci×e_):Prop:=YJ x.1=c_/\b8 8 x.1=c_/\c8 K H (.ref x.2) x.1
def AV(K:u_)(H:Hp)(xs:List (ci×e_)):Prop:=∀x∈xs,A4 K H x
noncomputable abbrev qz(xs:List (ci×e_)):List (ci×e_×f_):=xs.map λx=>(x.1,x.2,oJ c_)
def Vv(xs:List (ci×e_)):(qz xs).map (λx=>x.1)=xs.map (·.1):=by unfold qz;rw[qU];rfl
def Xx(xs:List (ci×e_))(d:ci):(atKey (qz xs) d).isSome=decide (d∈xs.map (·.1)):=by
 induction xs with
 | nil=>rfl
 | cons x r ih=>
  unfold qz atKey at ih ⊢;rw[fu,List.find?_cons]
  by_cases e:x.1=d
  .simp[e]
  .have a:decide (x.1=d)=false:=eT e;have b:¬d=x.1:=λz=>e z.fF;simp only[a];rw[ih];simp[b]
section
variable{X:Cx}{p_:List (e_×cB)}{σ:St}{H:Hp}{s:g_}{a:e_}{xs:List (ci×e_)}{d:ci}{b:e_}
def Ga(I:dc X p_ σ H s)(k:A4 X.K H (d,b)):(nk X.prog X.w).is s.heap d b:=⟨k.1,k.2.1,c8.reads I k.2.2 xz⟩
def Pm(I:dc X p_ σ H s)(e:H a=a_ (.dT xs))(ks:AV X.K H xs):(a==CA)=d_/\xs.length<=aX/\s.heap.DictOfH (nk X.prog X.w) a (qz xs):=by
 obtain⟨h1,h2,o,es,c,h3,h4,h5,f,g⟩:=I.aM a _ e;refine⟨h1,h2,o,es,c,h3,h4,h5,by rw[f,qz,qU];rfl,λx h=>?_,by rw[Vv];exact g⟩;obtain⟨y,i,rfl⟩:=eR.mp h;exact Ga I<|ks y i
def Zw{P:l_}{w:k_}(h1:(a==CA)=d_)(h2:xs.length<=aX)(dd:h.DictOfH (nk P w) a (qz xs)):hZ P w H h a (.dT xs):=by
 obtain⟨o,es,e,h3,h4,h5,f,_,c⟩:=dd;rw[Vv]at c;exact⟨h1,h2,o,es,e,h3,h4,h5,by rw[f,qz,qU];rfl,c⟩
def Yw(I:dc X p_ σ H s)(e:H a=a_ (.dT xs))(h1:(a==CA)=d_)(c:xs.length<aX)(n:d∉xs.map (·.1))(dd:Heap.DictOfH (nk X.prog X.w) h' a (storedH (qz xs) d b<|.bool c_))(f:sX a s.heap h'):dc X p_ σ (db H a<|.dT<|xs++[(d,b)]) {s with heap:=h',toks:=t'}:=by
 have es:storedH (qz xs) d b (.bool c_)=qz (xs++[(d,b)]):=by
  unfold storedH;rw[Xx,eT n];simp[qz]
 rw[es]at dd;have g:∃q,h'.get? a=a_ q:=let ⟨q,_,_,hq,_⟩:=dd;⟨q,hq⟩
 refine I.write (x:=a) (e:=a) (by rw[e];exact nY) (.inl xz) (λb q h z=>(f.2 b h).fC z) g<|Zw h1 (by rw[dg];exact c) dd
end
def aeP(K:u_)(ty td:TE):TE:=λσ H Q=>ty σ H λy e=>td σ e λx c=>∃a xs b d,x=.ref a/\c a=a_ (.dT xs)/\AV K c xs/\y=.ref b/\A4 K c (d,b)/\Q (.bl<|!decide (d∈xs.map (·.1))) c
def aic(K:u_)(td ty tv:TE):TS:=λD σ H=>tv σ H λv e=>td σ e λx f=>ty σ f λy c=>∃a xs b d,v=.bl c_/\x=.ref a/\c a=a_ (.dT xs)/\AV K c xs/\y=.ref b/\A4 K c (d,b)/\
 xs.length<aX/\d∉xs.map (·.1)/\D.nx σ (db c a<|.dT<|xs++[(d,b)])
def ah1(K:u_)(ty tv:TE):TE:=λσ H Q=>∀p,H p=b_->ty σ (db H p<|.dT []) λy c=>tv σ c λv a=>∃b d,v=.bl c_/\a p=a_ (.dT [])/\y=.ref b/\A4 K a (d,b)/\Q (.ref p) (db a p<|.dT [(d,b)])
section
variable{X:Cx}{o i value:bT}{pos pos':Pos}{td ty tv:TE}
def UL(v:X.A.units+10<cLine)(hi:PE X i ty)(e:PE X o td):PC X .NotIn i o (aeP X.K ty td):=by
 intro p_ s σ H Q I h;refine aT (hi p_ s σ H _ I h) λf s1⟨y,j,k,l,m⟩=>aT (e p_ s1 σ j _ k m) λu s2⟨x,n,c,p,a,xs,b,d,ex,g,ks,q,r,t⟩=>?_;subst ex;subst q;obtain rfl:u=bN a:=p;obtain rfl:f=bN b:=l;obtain⟨hd,_,dd⟩:=Pm c g ks;refine wpAny_notIn_heap (show X.A.units+1+9<cLine by lia) (Ga c r) hd dd ?_;rw[Xx];exact⟨.bl _,n,c.tok _,xz,t⟩
def Wh(M:X.A.units+10<cLine)(e:PE X o td)(hi:PE X i ty)(hv:PE X value tv)(hs:AA value (a_<|.Subscript o i pos') pos.line X.env=pure d_):PS X (.Assign [.Subscript o i pos'] value pos) (aic X.K td ty tv):=by
 intro p_ s σ H D I h;refine wpAny_Assign_Subscript (aT (hv p_ s σ H _ I h) λr s1⟨v,f,j,k,l⟩=>aT (e p_ s1 σ f _ j l) λu s2⟨x,m,n,p,q⟩=>aT (hi p_ s2 σ m _ n q) λt N⟨y,O,c,w,a,xs,b,d,z,ex,g,ks,B,C,E,hn,F⟩=>?_) hs;subst z;subst ex;subst B;obtain rfl:u=bN a:=p;obtain rfl:t=bN b:=w;obtain rfl:r=oJ true:=k;obtain⟨hd,G,dd⟩:=Pm c g ks;refine wpAny_setItem_heap (hsz:=by rw[aS];exact G) (show X.A.units+1+9<cLine by lia) (Ga c C) dd λh' J L=>⟨σ,_,Yw c g hd E hn J L,F⟩
def Wi(M:X.A.units+10<cLine)(hi:PE X k ty)(hv:PE X v tv):PE X (.Dict [a_ k] [v] pos) (ah1 X.K ty tv):=by
 intro p_ s σ H Q I q;have hn:=I.aM.fresh<|aD s.heap.objs.size;have f:CA<s.heap.objs.size:=Nat.lt_trans qc (I.mod.glob.keeps I.bk).lt
 have j:=I.laid (a:=s.heap.objs.size) (o:=.dT []) (h':=s.heap.push {cls:=.type "dict",data:=.dict #[]}) (t':=s.toks) (λ_ _ q=>bo _ q) (aD _)
  (Zw (xs:=[]) (fi.mpr<|eJ<|fh f) (bJ _)<|Heap.DictOfH.new s.heap)
 refine wpAny_Dict_any xz xz (by simp) (show 1<=15 by decide)<|pairTrees_cons_walk (aT (hi p_ _ σ _ _ j<|q _ hn) λu s1⟨y,m,n,p,t⟩=>aT (hv p_ s1 σ m _ n t) λr s2⟨x,w,c,z,b,d,B,g,C,D,E⟩=>pairTrees_nil_walk ?_);subst B;subst C;obtain rfl:u=bN b:=p;obtain rfl:r=oJ true:=z;obtain⟨hd,N,dd⟩:=Pm c g (λx F=>nomatch F);show bz _ _ (storeAll s.heap.objs.size [(bN b,oJ c_)]) _ _ _;unfold storeAll;refine Le _ (λl _ s'=>(l=[(bN b,oJ c_)]/\s'=s2)\/(l=[]/\dc X p_ σ (db w s.heap.objs.size<|.dT<|[]++[(d,b)]) s')) _ ?_ ?_ _ _<|.inl ⟨xz,xz⟩
 .rintro x rest _ s' h;obtain⟨e,rfl⟩|⟨e,_⟩:=h
  .cases e;exact ak (wpAny_dictSet_heap (by show X.A.units+9<cLine;lia) (Ga c D) dd λh' G J=>aO<|.inr ⟨xz,Yw c g hd qc (by simp) G J⟩)
  .cases e
 .rintro _ s' h;obtain⟨e,_⟩|⟨_,L⟩:=h
  .cases e
  .exact⟨.ref _,_,L,xz,E⟩
end
end L2
namespace L2
open PySem.W PySem.SeqAt
noncomputable def alike:Nat->ci->ci->Bool
 | _,.int _,.int _=>c_
 | n+1,.tuple xs,.tuple ys=>decide (xs.length=ys.length)&&(xs.zip ys).all λp=>alike n p.1 p.2
 | _,_,_=>d_
noncomputable def da:Nat->ci->List Int
 | _,.int i=>[i]
 | n+1,.tuple xs=>xs.flatMap<|da n
 | _,_=>[]
def Ar(h:alike n d e=c_):(∃i j,d=.int i/\e=.int j)\/∃m xs ys,n=m+1/\d=.tuple xs/\e=.tuple ys/\bL (λx y=>alike m x y=c_) xs ys:=by
 have a:∀{m:Nat}{xs ys:List ci},xs.length=ys.length->(∀p∈xs.zip ys,alike m p.1 p.2=c_)->bL (λx y=>alike m x y=c_) xs ys:=by
  intro m xs
  induction xs with
  | nil=>intro ys h _;cases ys with
   | nil=>exact .nil
   | cons _ _=>cases h
  | cons x xs ih=>intro ys h k;cases ys with
   | nil=>cases h
   | cons y ys=>exact .cons (k (x,y) cb) (ih (Cw h) λp b=>k p<|cu _ b)
 cases d with
 | int i=>cases e with
  | int j=>exact .inl ⟨i,j,xz,xz⟩
  | _=>cases n <;> exact nomatch h
 | tuple xs=>cases e with
  | tuple ys=>
   cases n with
   | zero=>exact nomatch h
   | succ m=>
    have h':(decide (xs.length=ys.length)&&(xs.zip ys).all λp=>alike m p.1 p.2)=true:=h;rw[fY]at h';exact .inr ⟨m,xs,ys,xz,xz,xz,a (er h'.1)<|kQ.mp h'.2⟩
  | _=>cases n <;> exact nomatch h
 | _=>cases n <;> cases e <;> exact nomatch h
def ajk{a c b d:List Int}(h:a.length=c.length):a++b<c++d↔a<c\/(a=c/\b<d):=by
 induction a generalizing c with
 | nil=>cases c with
  | nil=>simp
  | cons _ _=>cases h
 | cons x a ih=>cases c with
  | nil=>cases h
  | cons y c=>
   rw[TQ,TQ,KJ,KJ,ih<|Cw h]
   by_cases z:x=y
   .subst z;simp[Lz]
   .simp[z]
def M5:∀{n:Nat}{d e:ci},alike n d e=c_->(da n d).length=(da n e).length/\(da n d=da n e->d=e):=by
 intro n
 induction n with
 | zero=>
  intro d e h;obtain⟨i,j,rfl,rfl⟩|⟨m,_,_,z,_⟩:=Ar h
  .exact⟨xz,λz=>by rw[(wz z).1]⟩
  .cases z
 | succ m ih=>
  intro d e h;obtain⟨i,j,rfl,rfl⟩|⟨g,xs,ys,z,rfl,rfl,p⟩:=Ar h
  .exact⟨xz,λz=>by rw[(wz z).1]⟩
  .cases z
   have all:∀{xs ys:List ci},bL (λx y=>alike m x y=c_) xs ys->(xs.flatMap<|da m).length=(ys.flatMap<|da m).length/\(xs.flatMap (da m)=ys.flatMap (da m)->xs=ys):=by
    intro xs ys p
    induction p with
    | nil=>exact⟨xz,λ_=>rfl⟩
    | cons a t it=>
     obtain⟨l1,b⟩:=ih a;rw[Af,Af,dg,dg,l1,it.1];refine⟨xz,λz=>?_⟩;obtain⟨c,f⟩:=List.append_inj z l1;rw[b c,it.2 f]
   obtain⟨l,i⟩:=all p;exact⟨l,λz=>by rw[i z]⟩
def lX(d e:ci):Bool:=decide<|da 8 d<da 8 e
section
variable{prog:l_}{w:k_}{E:f_->g_->Prop}
def VL{m:Nat}{x y:ci}{xs ys:List ci}(h:alike m x y=c_):((x::xs).flatMap (da m)<(y::ys).flatMap (da m))↔(x≠y/\da m x<da m y)\/(x=y/\xs.flatMap (da m)<ys.flatMap (da m)):=by
 rw[Af,Af,ajk (M5 h).1];constructor
 .rintro(z | ⟨z,k⟩)
  .exact .inl ⟨λe=>(List.lt_irrefl _)<|e ▸ z,z⟩
  .exact .inr ⟨(M5 h).2 z,k⟩
 .rintro(⟨_,z⟩ | ⟨rfl,k⟩)
  .exact .inl z
  .exact .inr ⟨xz,k⟩
def ZQ{c bs:List e_}(h1:b8 n d=c_)(h2:b8 m e=c_)(f:alike n d e=c_)(b:Reads s.heap u d c)(r2:Reads s.heap v e bs)(g:A.units+n+1<cLine)(q:Q (decide<|d=e) s):bz (bK prog w) A (eqBool u v) Q E s:=by
 obtain⟨i,j,rfl,rfl⟩|⟨k,xs,ys,_,rfl,rfl,_⟩:=Ar f
 .obtain⟨t,rfl⟩:=lN b;obtain⟨t',rfl⟩:=lN r2;refine TF ?_;rw[show (i==j)=decide (oK i=oK j) by by_cases z:i=j <;> simp[z]];exact q
 .obtain⟨a,o,vs,n,rfl,_⟩:=ng b;obtain⟨h,o',l,p,rfl,_⟩:=ng r2;exact ZR h1 h2 b r2 g q
def ama:∀{n:Nat}{d e:ci}{u v:f_}{L bs:List e_}{A:h_}{s:g_}{Q:f_->g_->Prop},b8 n d=c_->b8 n e=c_->alike n d e=c_->Reads s.heap u d L->Reads s.heap v e bs->A.units+2*n+2<cLine->Q (.bool<|decide<|da n d<da n e) s->bz (bK prog w) A (jL .Lt u v) Q E s:=by
 intro n
 induction n with
 | zero=>
  intro d e u v L bs A s Q P R M C r2 Z q;obtain⟨i,j,rfl,rfl⟩|⟨k,xs,ys,z,_⟩:=Ar M
  .obtain⟨t,rfl⟩:=lN C;obtain⟨t',rfl⟩:=lN r2;refine wpAny_lt_int ?_;rw[show decide (i<j)=decide (da 0 (.int i)<da 0 (.int j)) by simp[da,KJ]];exact q
  .cases z
 | succ m ih=>
  intro d e u v L bs A s Q P R M C r2 Z q;obtain⟨i,j,rfl,rfl⟩|⟨m',xs,ys,z,rfl,rfl,p⟩:=Ar M
  .obtain⟨t,rfl⟩:=lN C;obtain⟨t',rfl⟩:=lN r2;refine wpAny_lt_int ?_;rw[show decide (i<j)=decide (da (m+1) (.int i)<da (m+1) (.int j)) by simp[da,KJ]];exact q
  .cases z;obtain⟨a,o,vs,n1,rfl,S,c1,d1,T⟩:=ng C;obtain⟨b,o',N,n2,rfl,U,c2,V,W⟩:=ng r2;have h1:∀x∈xs,b8 m x=true:=kQ.mp P;have h2:∀x∈ys,b8 m x=true:=kQ.mp R;have X:s.TypeIs (.ref a) "tuple":=LK ⟨o,S,c1,n1,d1⟩;have Y:s.TypeIs (.ref b) "tuple":=LK ⟨o',U,c2,n2,V⟩;show bz _ _ (richCompare .Lt (.ref a)<|.ref b) _ _ _;refine wpAny_richCompare_same_room X Y F.slot_tuple_lt (wx F.slot_tuple_lt X F.entry_tuple_lt ?_<|F.args_tuple_lt_2 _ _) li;rw[show Builtin.«tuple.__lt__» = Builtin.«tuple.__lt__» from rfl];unfold Builtin.«tuple.__lt__»;refine ak<|aO ?_;refine ak<|Ld Y aby ?_;refine ak<|Tn S d1<|ak<|Tn U V<|ak ?_;refine Le _ (λl b s'=>b=(b_,())/\s'=s/\∃us ws c f,l=us.zip ws/\bL (λv d=>∃bs,Reads s.heap v d bs) us c/\bL (λv d=>∃bs,Reads s.heap v d bs) ws f/\bL (λx y=>alike m x y=c_) c f/\(∀x∈c,b8 m x=c_)/\(∀y∈f,b8 m y=c_)/\Q (.bool<|decide<|c.flatMap (da m)<f.flatMap (da m)) s) _ ?_ ?_ _ _ ⟨xz,xz,_,_,xs,ys,xz,nv T,nv W,p,h1,h2,q⟩
   .rintro x rest b' s' ⟨rfl,rfl,us,ws,c,f,D,g,r,h,k1,G,H⟩;cases h with
    | nil=>cases g;cases D
    | @cons I J c f pQ h=>
     cases g with
     | @cons u1 _ us _ B g=>
      cases r with
      | @cons w1 _ ws _ K r=>
       cases D;obtain⟨pG,B⟩:=B;obtain⟨bs1,K⟩:=K;have cf:=VL (xs:=c) (ys:=f) pQ;refine ak<|ZQ (k1 _ cb) (G _ cb) pQ B K (by show A.units+1+m+1<cLine;lia) ?_
       by_cases z:I=J
       .rw[eu z];refine aO ⟨xz,xz,us,ws,c,f,xz,g,r,h,λx O=>k1 x<|cu _ O,λx O=>G x<|cu _ O,?_⟩;rw[show decide (c.flatMap (da m)<f.flatMap (da m))=decide ((I::c).flatMap (da m)<(J::f).flatMap (da m)) from decide_eq_decide.mpr (by rw[cf];simp[z])];exact H
       .rw[eT z];refine ak<|Ay<|ak ?_;show bz _ _ (jL .Lt u1 w1) _ _ _;refine ih (k1 _ cb) (G _ cb) pQ B K (by show A.units+1+2*m+2<cLine;lia) ?_;refine ak<|aO<|aO ?_;refine aO ?_;refine⟨_,xz,⟨λz=>(by cases z),?_⟩⟩;rw[show decide (da m I<da m J)=decide ((I::c).flatMap (da m)<(J::f).flatMap (da m)) from decide_eq_decide.mpr (by rw[cf];simp[z])];exact H
   .rintro b' s' ⟨rfl,rfl,us,ws,c,f,D,g,r,h,k1,G,H⟩;have l1:=r_<|nv T;have l2:=r_<|nv W;have l3:=r_ p;refine aO ?_;refine⟨_,xz,⟨λz=>(by cases z),?_⟩⟩;cases g with
    | nil=>
     cases h;have es:vs.size=N.size:=by rw[<-v8,<-v8,l1,l2,l3]
     show Q (.bool<|decide<|vs.size<N.size) s';rw[eT (show ¬vs.size<N.size by lia)];simpa using H
    | cons B g=>
     cases h with
     | cons _ h=>
      cases r with
      | cons _ r=>cases D
end
section
variable{prog:l_}{w:k_}
def akz(n:A.units+2*m+4<cLine):∀{us ws:List f_}{a b:List ci}{i:Nat},bL (λv d=>∃bs,Reads s.heap v d bs) us a->bL (λv d=>∃bs,Reads s.heap v d bs) ws b->bL (λx y=>alike m x y=c_) a b->(∀x∈a,b8 m x=c_)->(∀y∈b,b8 m y=c_)->Q (decide<|a.flatMap (da m)<b.flatMap (da m)) s->KatLex prog w A d_ d_ Q (us.zip ws) i s:=by
 intro us ws a b i c h l
 induction l generalizing us ws i with
 | nil=>
  intro _ _ q;cases c;rw[List.zip_nil_left,KatLex.eq_def];simpa using q
 | @cons d e a b pQ l ih=>
  intro k1 j q;cases c with
  | cons f c=>
   cases h with
   | cons g h=>
    obtain⟨pG,f⟩:=f;obtain⟨o,g⟩:=g;have cf:=VL (xs:=a) (ys:=b) pQ;rw[Tq];refine kat_cons<|ZQ (k1 _ cb) (j _ cb) pQ f g li ?_
    by_cases z:d=e
    .rw[eu z];refine ih c h (λx k=>k1 x<|cu _ k) (λx k=>j x<|cu _ k) ?_;rw[show decide (a.flatMap (da m)<b.flatMap (da m))=decide ((d::a).flatMap (da m)<(e::b).flatMap (da m)) from decide_eq_decide.mpr (by rw[cf];simp[z])];exact q
    .rw[eT z];refine kat_no<|kat_one _ _<|ama (k1 _ cb) (j _ cb) pQ f g li ?_;show Q _ s;rw[show decide (da m d<da m e)=decide ((d::a).flatMap (da m)<(e::b).flatMap (da m)) from decide_eq_decide.mpr (by rw[cf];simp[z])];exact q
end
def Xu(d:ci):lX d d=false:=eT<|List.lt_irrefl _
def Vs(h1:lX a b=c_)(h2:lX b c=c_):lX a c=true:=eu<|List.lt_trans (er h1)<|er h2
def Xs(h:alike 8 a b=c_)(n:a≠b)(h1:lX a b=d_):lX b a=true:=by
 refine eu ?_;have h1:=f' h1;refine oF λz=>n<|(M5 h).2<|List.le_antisymm (List.not_lt.mp z)<|List.not_lt.mp h1
def yV(ds:List ci)(d:ci):Nat:=ds.countP λe=>lX e d
theorem WK:∀{l:List ci},(∀y∈l,p y=c_->q y=c_)->x∈l->p x=d_->q x=c_->l.countP p<l.countP q
 | y::l,h,hx,hp,hq=>by
  have h':∀y∈l,p y=c_->q y=true:=λz a=>h z<|cu _ a;have le:l.countP p<=l.countP q:=List.countP_mono_left h';rw[acb,acb];obtain e|e:=a9.mp hx
  .subst e;rw[hp,hq];simp;lia
  .have:=WK h' e hp hq
   by_cases c:p y=c_
   .rw[ek c,ek<|h y cb c];lia
   .rw[ei c]
    by_cases c2:q y=c_
    .rw[ek c2];lia
    .rw[ei c2];lia
def Zn(hd:d∈ds)(h:lX d e=c_):yV ds d<yV ds e:=WK (λy _ a=>Vs a h) hd (Xu d) h
def aih(hd:d∈ds)(a:e∈ds)(b:alike 8 d e=c_)(n:d≠e):decide ((yV ds d:Int)<yV ds e)=lX d e:=by
 cases h:lX d e with
 | true=>exact eu<|Int.ofNat_lt.mpr<|Zn hd h
 | false=>
  have:=Zn a<|Xs b n h;exact eT li
theorem Us:∀{l c:List ci},l.Perm c->l.Pairwise (λa b=>lX a b=c_)->c.Pairwise (λa b=>lX a b=c_)->l=c
 | [],c,p,_,_=>(List.nil_perm.mp p).fF ▸ xz
 | a::l,[],p,_,_=>eo p.length_eq (by simp)
 | a::l,b::c,p,h1,h2=>by
  obtain⟨d,k1⟩:=Tr.mp h1;obtain⟨f,g⟩:=Tr.mp h2
  have e:a=b:=by
   rcases a9.mp (p.mem_iff.mp<|cb (a:=a))with z | z
   .exact z
   .rcases a9.mp (p.mem_iff.mpr<|cb (a:=b))with y | y
    .exact y.fF
    .have:=Vs (d b y)<|f a z;rw[Xu]at this;cases this
  subst e;rw[Us ((List.perm_cons a).mp p) k1 g]
theorem LO{b c:Type}{F:b->c->Prop}{ys:List b}{ds:List c}{x:b}{d:c}(r:bL F ys ds):∀l:List Nat,(∀i∈l,i<ds.length)->bL F (l.map λi=>ys.getD i x) (l.map λi=>ds.getD i d)
 | [],_=>.nil
 | i::l,h=>by
  have f:=r_ r;have hi:=h i cb
  have at':∀{ys:List b}{ds:List c},bL F ys ds->∀i,i<ds.length->F (ys.getD i x) (ds.getD i d):=by
   intro ys ds r
   induction r with
   | nil=>exact λi h=>eo h<|TX _
   | cons a t ih=>
    intro i h;cases i with
    | zero=>exact a
    | succ i=>exact ih i<|Nat.lt_of_succ_lt_succ h
  exact .cons (at' r i hi) (LO r l λj e=>h j<|cu _ e)
section
variable{X:Cx}
def aij(K:u_):List V->Hp->VK->Prop:=λxs H Q=>∃(p:e_)(vs:List V)(ds:List ci),xs=[.ref p]/\aq K H p vs/\ds.length<64/\bL (c8 K H) vs ds/\(∀d∈ds,b8 8 d=c_/\∃us r,d=.tuple (.tuple us::r))/\
 (∀d∈ds,∀e∈ds,alike 8 d e=c_)/\ds.Nodup/\∀l c es,H l=b_->bL (c8 K H) c es->es.Perm ds->es.Pairwise (λa b=>lX a b=c_)->Q (.ref l) (db H l<|.lst c)
def Ui(hu:X.A.units+30<cLine):my X (.builtin "sorted") (aij X.K):=by
 intro p_ s σ H xs us Q I r h;obtain⟨p,vs,ds,rfl,hl,h64,O,hd,P,nd,q⟩:=h;obtain⟨u,rfl,rx⟩:=vals1 r;cases rx;obtain⟨y,R,pl,hz⟩:=I.list hl;have hvd:=r_ O;have hlen:=R.length;refine Ve (H:=H)<|collect_list pl.isList ?_ (by rw[ij];lia)
 have kp:∀b o,s.heap.get? b=a_ o->((s.heap.push<|d6 "list" #[] 0).update s.heap.objs.size<|qf (· ++ y.toArray)).get? b=a_ o:=λb o e=>by
  rw[KP _ _ _ _<|fh<|bP e];exact bo _ e
 have nL:∀b o,s.heap.get? b=a_ o->(∃vs n,o.data=.seq vs n)->b≠X.env.locals:=λb o e d z=>by
  obtain⟨m,F⟩:=I.fr;obtain⟨o',es,ep,J,d',_⟩:=F.ns;rw[z,J]at e;cases e;obtain⟨vs,n,d⟩:=d;rw[d']at d;cases d
 have amm:∀i,i<ds.length->∃D,Reads s.heap (y.getD i gq) (ds.getD i .none) D:=λi hi=>by
  obtain⟨x,Z⟩:∃x,vs[i]?=a_ x:=⟨vs[i]' li,a8 _⟩;obtain⟨u,S,ru⟩:=R.get Z
  have hdx:c8 X.K H x (ds.getD i .none):=by
   have:=LO (x:=.aH) (d:=UA) O [i] (λj f=>by rw[c7.mp f];exact hi);cases this with
   | cons a _=>dsimp only at a;rw[nS,Z]at a;exact a
  obtain⟨D,q⟩:=c8.reads I hdx ru;exact⟨D,by rw[show y.getD i gq=u by rw[nS,S];rfl];exact q⟩
 have w:∀i,i<ds.length->ds.getD i .none∈ds:=λi hi=>by simp[hi]
 have neD:∀i j,i<ds.length->j<ds.length->i≠j->ds.getD i .none≠ds.getD j .none:=λi j hi f n e=>by
  have J:ds[i]=ds[j]:=by simpa[hi,f]using e
  obtain z|z:=To n
  .exact mZ.mp nd i j hi f z J
  .exact mZ.mp nd j i f hi z J.fF
 have L:∀i j,i<ds.length->j<ds.length->i≠j->decide ((yV ds (ds.getD i .none):Int)<yV ds (ds.getD j .none))=lX (ds.getD i .none) (ds.getD j .none):=λi j hi f n=>aih (w i hi) (w j f) (P _ (w i hi) _<|w j f)<|neD i j hi f n;refine⟨vs,λi=>(yV ds (ds.getD i .none):Int),I.kept kp,R,⟨li,λi j hi f e=>?_,λh2=>?_⟩,λl zs hn so=>?_⟩
 .refine oF λn=>?_;have h1:=L i j li li n;have h2:=L j i li li λz=>n z.fF;rw[e,eT<|Lz _]at h1;rw[e,eT<|Lz _]at h2;have:=Xs (P _ (w i li) _<|w j li) (neD i j li li n) h1.fF;rw[<-h2]at this;cases this
 .have frd:∀{s':g_},(∀b o,b≠X.env.locals->((s.heap.push<|d6 "list" #[] 0).update s.heap.objs.size<|qf (· ++ y.toArray)).get? b=a_ o->s'.heap.get? b=a_ o)->∀i,i<ds.length->∃D,Reads s'.heap (y.getD i gq) (ds.getD i .none) D:=λk i hi=>by
   obtain⟨D,q⟩:=amm i hi;exact Ut (λb o vs n e d=>k b o (nL b o e ⟨vs,n,d⟩)<|kp b o e) (hd _<|w i hi).1 q
  refine⟨tuples' d_,λs' k=>?_⟩;have at':=frd k;constructor
  .intro Q' hQ
   have kt:∀m,m<=ds.length->∃fs:List f_,fs.length=m/\KatTups s'.heap (y.drop<|ds.length-m) fs/\∀v∈fs,∃a items,v=bN a/\IsTup s'.heap a items:=λm=>by
    induction m with
    | zero=>
     intro _;refine⟨[],xz,?_,λv hv=>nomatch hv⟩;rw[Te li];exact .nil
    | succ m ih=>
     intro hm;obtain⟨fs,h1,h2,h3⟩:=ih li;obtain⟨D,q⟩:=at' (ds.length-(m+1)) om;obtain⟨_,us,rr,U⟩:=hd _<|w (ds.length-(m+1)) om;rw[U]at q;obtain⟨a,o,ws,n,V,W,e3,e4,e5⟩:=ng q
     have hdp:y.drop (ds.length-(m+1))=.ref a::y.drop (ds.length-m):=by
      rw[SV om,show ds.length-(m+1)+1=ds.length-m by lia]
      congr 1
      rw[<-V];simp[show ds.length-(m+1)<y.length by omega]
     rw[hdp];have p5:=nv e5;generalize zI:ws.toList=wl at p5;cases p5 with
     | cons Y t=>
      obtain⟨bs,Y⟩:=Y;obtain⟨b,o2,zu,n2,rfl,f2,f3,f4,_⟩:=ng Y;refine⟨.ref b::fs,by rw[gE,h1],.cons W e3 e4 ?_ h2,λv hv=>?_⟩
      .rw[<-Tf,zI];rfl
      .obtain z|z:=a9.mp hv
       .exact⟨b,zu,z,o2,f2,f3,n2,f4⟩
       .exact h3 v z
   obtain⟨fs,h1,h2,h3⟩:=kt ds.length<|aD _;rw[LI,Lq]at h2;refine kat_kind (T:=.type "tuple") h2 li (λv hv=>?_) qc (by rw[show (nX "tuple" != nX "tuple")=d_ by decide];exact hQ);obtain⟨a,items,e,it⟩:=h3 v hv;rw[e];exact λA Q E s' k q=>LH (by obtain⟨o,e,c,n,d⟩:=it;exact⟨o,k _ _ e,c⟩) q
  .intro i j C hi f ne c;have M:i<ds.length:=li;have N:j<ds.length:=li;obtain⟨D,q1⟩:=at' i M;obtain⟨bs,q2⟩:=at' j N;obtain⟨g1,us,rr,U⟩:=hd _<|w i M;obtain⟨g2,us',rr',ed'⟩:=hd _<|w j N;have al:=P _ (w i M) _<|w j N;rw[L i j M N ne]at c;unfold kas_ask;obtain⟨_,_,z,_⟩|⟨m,xs,ys,z,ex,ey,pa⟩:=Ar al
   .rw[U]at z;cases z
   .cases z;rw[ex]at q1 g1 c;rw[ey]at q2 g2 c;obtain⟨a,o,zw,n1,S,V,_,d1,r1⟩:=ng q1;obtain⟨b,o',Jx,n2,ew,W,_,d2,r2⟩:=ng q2;rw[S,ew];refine kat_lt V d1 W d2 ?_;have l1:=r_<|nv r1;have l2:=r_<|nv r2;have l3:=r_ pa;rw[v8]at l1 l2;rw[eT (show ¬zw.size<Jx.size by lia)];exact akz (by show X.A.units+1+1+2*7+4<cLine;lia) (nv r1) (nv r2) pa (kQ.mp g1) (kQ.mp g2) c
 .obtain⟨B,g,ri,rfl⟩:=so;rw[hvd]at g ri;have gp:=SS.mp g;have aoS:=Mo g;have hsz:=g.size
  have hm:∀i∈B.toList,i<ds.length:=λi hi=>by
   have:=gp.mem_iff.mp hi;simpa using this
  refine q l _ (B.toList.map λi=>ds.getD i .none) hn (LO O _ hm) ?_ ?_
  .have:=gp.map λi=>ds.getD i UA
   rw[show ((List.range ds.length).toArray.toList.map λi=>ds.getD i UA)=ds by
    apply TN
    .simp
    .intro i h1 h2;simp[h2]]at this
   exact this
  .rw[mZ];intro i j hi f mf;rw[aS]at hi f;have:=ri i j mf li;unfold rk at this;simp only[ab',Array.getElem_toList];have e:∀k(G:k<B.size),B.getD k 0=B[k]:=λk G=>by simp[Mb,G]
   rw[e i li,e j li]at this;have mi:∀k(G:k<B.size),B[k]<ds.length:=λk G=>hm _<|Array.getElem_mem_toList G;have ne:B[i]≠B[j]:=λz=>by rw[z]at this;exact eo this (Lz _)
   rw[<-L _ _ (mi i li) (mi j li) ne];exact eu this
end
end L2
namespace TL
open PySem.SeqAt L2 L3 L4
def i5.bounds(w:i5 S){c:Nat}(h:S.ck[c]?=a_ k):k.es.length<=15000:=cQ (w.es k<|cH h) w.ac
def zo(S:Mc):Prop:=∀o∈S.ov,o.length<=16000
def adj(h:(cD es n).head?=a_ e):e.n=(n:Int):=by
 have hm:=List.mem_of_mem_head? h;unfold cD at hm;have:=(pY.mp hm).2;simpa using this
noncomputable def jR(S:Mc)(a:ku):Mc:={S with ac:=S.ac++[a]}
noncomputable def Bn(S:Mc)(c n:Nat)(k:Ck)(g:Int):Mc:={S with ck:=S.ck.set c {k with tn:=k.tn+1,es:=k.es++[⟨k.tn,n,g,S.ac.length⟩]}}
def setM(S:Mc)(c n r:Nat):Mc:=match S.ck[c]? with
 | none=>S
 | some k=>
  let g:=k.rg.getD r 0
  let S':=jR (Bn S c n k g) ⟨U_,c,n,b_,a_ g,b_⟩
  if S.kd = ap4 then tP S' c n else S'
noncomputable def jA(S:Mc)(c r:Nat)(v:Int):Mc:=match S.ck[c]? with
 | none=>S
 | some k=>{S with ck:=S.ck.set c {k with rg:=k.rg.set r v}}
def eK(S:Mc)(k:Ck)(n:Nat):Int×Option Int:=match Hg k.es n with
 | some e=>(e.num,a_ e.d)
 | none=>(S.bd.getD n 0,(S.ov.getD n []).getLast?)
def tU(S:Mc)(c r n:Nat):Mc:=match S.ck[c]? with
 | none=>S
 | some k=>jA (jR S ⟨"look",c,n,a_ (eK S k n).1,b_,(eK S k n).2⟩) c r (eK S k n).1
def vw(S:Mc)(c r n:Nat):Mc:=match S.ck[c]? with
 | none=>S
 | some k=>
  let g:=k.rg.getD r 0
  jA (jR (tJ S n g S.ac.length) ⟨I_,c,n,a_<|S.bd.getD n 0,a_ g,(S.ov.getD n []).getLast?⟩) c r (S.bd.getD n 0)
section
variable{P:l_}{w:k_}{K:u_}{mg:cw->Option f_}{fK:j_}{t:bj}{C CT:e_}{u:qF}
def Nq(t:bj)(C CT PT:e_):Sp:=λvs H Q _=>∃m A S c k n fT,vs=[.ref m,.int (c:Nat),.int (n:Nat)]/\bb t C CT H m A S/\lE fT m A/\cx PT LP LQ H/\S.ck[c]?=a_ k/\(n:Int)∈ju S.kd k.es/\n<12/\S.bd.length=12/\S.ov.length=12/\zo S/\
 ∀H',bb t C CT H' m A (tP S c n)->aA (cY m A) H H'->cx PT LP LQ H'->Q .aH H'
def agx:bc hJ hJ (aR Od):=bx
def afp{f PT:e_}(F:aW K "carry" "Machine.carry" Od f fd)(a:gC K C)(z:lA K CT)(g:Mt P w K mg fK CT 3 "take" gP (Ye CT PT))(B:Mt P w K mg fK C 1 "come" [V_,aq5] (NW t C CT)):aE P w K mg fK aL 4 f fd hJ (Nq t C CT PT):=by
 refine F.ok agx λaI A _ s H vs Q E r h=>?_
 .obtain⟨m,A,S,c,k,n,fT,i,M,L,D⟩:=h;subst i;refine rj D λI j J hn l i=>jm i λN O q=>?_;have R:=r.mono (show 1<=3 by decide);refine rQ (aB<|dY<|ji (pv 0) a.cl B R<|aa (He (aV cJ (ba (pv 0) xz)<|pv 1) z.cl g.m g.G r g.b .nil cX<|aa (pv 2) ag) ag) (dC (id M.obj) λdx fs hm G=>aJ (M.vC j) λx o T=>eY (id T.obj) λlM nQ ea e1 e2 e3 U el=>vM xz hm (G.ms _ dk)<|vF xz hm a.cl a.gc G.gc<|vr xz<|rL (v:=.ref x.1) (aq.of M.lt) (Cy o)<|rM ea (U _ dk)<|vr xz<|⟨x.1,n,_,_,_,_,(i9 _ xz T I J λH1 e st p V k1 W y=>?_)⟩);rw[mh]at p;have X:=adj p;rw[X]at y;have Y:=Ze M L j o k1 V;refine⟨m,A,_,st,n,e.num,e.d,fT,xz,Y,L,y,hn,l,(gQ N O λZ M2 k2 l2=>q Z ?_ ((aA.QU k1 λb l=>.ts (cH o) l).fC k2)<|l2.lam W)⟩;unfold tP;rw[j];dsimp only;rw[p];exact M2
def ahw(a:e_)(n r:Nat):hX (.ref a) U_ ([n,r].map λ(n:Nat)=>V.int (n:Int))=aN O_ (.int (r:Nat)) (aN H_ (.int (n:Nat))<|aN K_ (.ref a) []):=by kernel_rfl
def adN{n:Nat}(hn:n<12)(a:e.n=(n:Int)):(n:Int)∈nA (es++[e]):=by
 refine CG.mpr (dD n hn xz λz=>?_);rw[Xe,ek a]at z;simp at z
def W4(t:bj)(C CT PT:e_):Sp:=λvs H Q _=>∃m A S c k z b a n r fT,vs=[.ref m,.int (c:Nat),.ref z]/\bb t C CT H m A S/\lE fT m A/\i5 S/\zo S/\cx PT LP LQ H/\S.ck[c]?=a_ k/\H z=a_ (.ins t.kh b<|hX (.ref a) U_<|[n,r].map λ(n:Nat)=>V.int (n:Int))/\n<12/\r<4/\
 ∀H',bb t C CT H' m A (setM S c n r)->aA (cY m A) H H'->cx PT LP LQ H'->Q .aH H'
def Xa:bc [V_,X_,"step","gave"] gW (aR Ob):=bx
def afo{f PT:e_}(F:aW K "do_set" "Machine.do_set" Ob f fd)(l:gC K C)(cT:lA K CT)(jF:mg "len"=b_)(D:qk K mg t)(Z:Mt P w K mg fK CT 1 Q_ iv (Zl CT))(DC:Mt P w K mg fK C 4 "carry" hJ (Nq t C CT PT)):aE P w K mg fK aL 5 f fd gW (W4 t C CT PT):=by
 refine F.ok Xa λaI A _ s H vs Q E hr h=>?_
 .refine qd h λm A S c k z dz a n r I=>Oq I λfT I M L W bg=>?_;subst I;refine rj bg λiD hL J p hn I=>oA I λpL q=>?_;have fb:=hr.mono (show 1<=4 by decide);refine let d:TS:=_;let j:TS:=_;⟨_,aw (bf (i:=3) Xa.nd xz (aP xz)<|aV cJ (aV cJ (ba (pv 0) xz)<|pv 1)<|ba (pv 2) xz)<|pR j<|aw (dY<|He (aV cJ (ba (pv 0) xz)<|pv 1) cT.cl Z.m Z.G fb Z.b .nil cX<|aa (ba (pv 2) xz)<|aa (pv 3)<|aa (b9 gm xz jF q_<|aa (ba (pv 0) xz) ag) ag)<|pR d<|aw (dY<|lh m_ n_ o_ nh (ba (pv 0) xz)<|aa (cp<|aa a7<|aa (pv 1)<|aa (ba (pv 2) xz)<|aa qi<|aa (pv 3)<|aa qi ag) ag)<|aB<|br (bR dm (ba (pv 0) xz) a7<|bG _) (aB<|dY<|ji (pv 0) l.cl DC hr<|aa (pv 1)<|aa (ba (pv 2) xz) ag) bQ,?_⟩;rw[ahw]at p;refine dC (id M.obj) λdx fs hm G=>aJ (M.eL J) λra jE jT=>aJ (M.vC J) λx hx T=>eY (id T.obj) λlM nQ ea e1 e2 e3 em el=>aJ M.ac λws sG zI=>?_;have vV:=r_ zI;have aaU:=W.ac;have anf:=W.bounds J;have jD:=W.rg k (cH J)
  have Rp:∀(nm:cw),(aN O_ (.int (r:Nat))<|aN H_ (.int (n:Nat))<|aN K_ (.ref a) []).lookup nm=if nm = O_ then a_ (.int (r:Nat)) else if nm = H_ then a_ (.int (n:Nat)) else if nm = K_ then a_ (.ref a) else none:=λnm=>by
   rw[fJ,fJ,fJ];rfl
  have lr:(aN O_ (.int (r:Nat))<|aN H_ (.int (n:Nat))<|aN K_ (.ref a) []).lookup (O_ : cw)=a_ (V.int (r:Nat)):=by rw[Rp,ek rfl]
  have ln:(aN O_ (.int (r:Nat))<|aN H_ (.int (n:Nat))<|aN K_ (.ref a) []).lookup (H_ : cw)=a_ (V.int (n:Nat)):=by rw[Rp,ei dk,ek rfl]
  have hg:k.rg[r]?=a_ (k.rg[r]'wg):=a8 wg;have eg:k.rg.getD r 0=k.rg[r]'wg:=wJ hg;refine vF xz hm l.cl l.eL G.eL<|vr xz<|rL (v:=.ref ra) (aq.of M.rg) (jO jE)<|vF xz p D.rF D.Po lr<|rL (aq.of jT) (jO hg) ?_;generalize hgv:k.rg[r]'wg=g at eg;refine au _ xz<|dF m C dx fs<|jg _ xz hm l.cl l.gc G.gc<|vr xz<|rL (v:=.ref x.1) (aq.of M.lt) (Cy hx)<|rM ea (em _ dk)<|vF xz p D.rF D.DI ln<|vr xz<|vF xz hm l.cl l.jl G.jl<|dG A.ac ws xz (.inl<|aq.of sG)<|⟨x.1,n,g,_,_,_,_,_,(jg _ xz T li li w4 λN T1 k1=>?_)⟩;have kf:=iP.ofA k1 T1;have O:=Ze M L J hx kf T1;have ew:((ws.length:Nat):Int)=((S.ac.length:Nat):Int):=by rw[vV]
  rw[ew]at O T1
  have eE:N z=a_ (.ins t.kh dz<|aN O_ (.int (r:Nat))<|aN H_ (.int (n:Nat))<|aN K_ (.ref a) []):=k1 _ _ (λzb=>by
   obtain y|y:=a9.mp zb
   .rw[y,ea]at p;cases p;rw[Rp,ei dk,ei dk,ei dk]at e1;cases e1
   .obtain⟨_,_,_,_⟩|⟨_,y2⟩:=T.kinds z zb _ p
    .obtain y|y:=a9.mp y
     .rw[y,T.qs]at p;cases p
     .refine oE (x9 y) λi I=>oE I λhi ez=>?_;obtain⟨kr,e',_⟩:=T.kl i z (by rw[<-ez];exact a8 hi);rw[e']at p;cases p
    .cases y2) p
  have sI:=Cz hL k1 T.kinds;have kp1:aA (cY m A) H N:=aA.QU kf λb hb=>.ts (cH hx) hb;refine dC (id O.obj) λkJ kG uG G1=>aJ O.ac λR U amO=>au _ xz<|dF m C kJ kG<|⟨_,xz,uG,l.cl,l.jl,G1.jl,(.inl ⟨xz,_,aq.of U⟩),(au _ xz<|vF xz eE D.rF D.DI ln<|vr xz ⟨(sl (n:=6)),(λB ht=>?_)⟩)⟩;have s2:=ax (o:=.tup [.str U_,.int (c:Nat),.int (n:Nat),.aH,.int g,.aH]) (af.refl N) ht;have amQ:=r_ amO;refine oN A.ac R (.ref B) xz xz (s2 _ _ U) (by rw[amQ,ij];show S.ac.length<_;exact wb) ?_;have X:=OV (O.same s2) L (s2 _ _ U) (x:=.ref B) (a:=⟨U_,c,n,b_,a_ g,b_⟩) ⟨B,xz,ai⟩;have ux:aA (cY m A) H (db (db N B<|.tup [.str U_,.int (c:Nat),.int (n:Nat),.aH,.int g,.aH]) A.ac<|.lst<|R++[.ref B]):=kp1.fC<|(aA.of s2).fC<|aA.db .ac;have l2:KL N (db (db N B<|.tup [.str U_,.int (c:Nat),.int (n:Nat),.aH,.int g,.aH]) A.ac<|.lst<|R++[.ref B]):=(KL.of s2).fC<|KL.db<|s2 _ _ U;have sH:=l2.lam sI;have sk:=l2 _ _ (λxs z=>by cases z) eE;generalize db (db N B<|.tup [.str U_,.int (c:Nat),.int (n:Nat),.aH,.int g,.aH]) A.ac (.lst<|R++[.ref B])=H2 at X ux l2 sH sk ⊢;refine dC (id X.obj) λzZ nH mY G3=>?_
  have eS:setM S c n r=if S.kd = ap4 then tP (jR (Bn S c n k g) ⟨U_,c,n,b_,a_ g,b_⟩) c n else jR (Bn S c n k g) ⟨U_,c,n,b_,a_ g,b_⟩:=by
   unfold setM;rw[J];dsimp only;rw[eg]
  rw[eS]at q;refine au _ xz<|dF m C zZ nH<|jg _ xz mY l.cl l.kind G3.kind ⟨xz,⟨_,xz,bq (λjq=>?_) λjq=>?_⟩⟩
  .have Y:S.kd = ap4:=Iq jq;rw[ek Y]at q;have uJ:c<S.ck.length:=(dX.mp J).1;refine vM xz mY (G3.ms _ dk)<|vr xz<|vF xz sk D.rF D.DI ln<|⟨m,A,(jR (Bn S c n k g) ⟨U_,c,n,b_,a_ g,b_⟩),c,({k with tn:=k.tn+1,es:=k.es++[⟨k.tn,n,g,S.ac.length⟩]}),n,fT,xz,X,L,sH,?_,?_,hn,(⟨W.bd,W.ov,iD,(λH3 M3 k3 v5=>q H3 M3 (ux.fC k3) v5)⟩)⟩
   .show (S.ck.set c _)[c]?=a_ _;rw[nU uJ]
   .show (n:Int)∈ju S.kd (k.es++[⟨k.tn,n,g,S.ac.length⟩]);unfold ju;rw[Y,ei dk];exact adN hn xz
  .have Y:¬S.kd = ap4:=λe=>jq (by rw[e]);rw[ei Y]at q;exact q H2 X ux sH
end
end TL
namespace L2
open PySem.SeqAt
def afQ:mo X (λx y H Q=>∃p xs,∃i:Nat,∃v,x=.ref p/\y=.int (i:Nat)/\H p=a_ (.lst xs)/\xs[i]?=a_ v/\Q v H):=by
 intro p_ s σ H o i ov k Q I c r2 h;obtain⟨p,xs,j,z,a,d⟩:=h;subst a;obtain⟨a,e,b,q⟩:=d;subst a;cases c;refine oE r2 λt a=>?_;clear r2;subst a;refine aZ (I.list<|aq.of e) λl r pl m=>aJ (r.get b) λw f g=>?_;have n:=r.length;have hn:=Dt;have u:j<xs.length:=(dX.mp b).1;exact wpAny_getItem_list pl.isList li li (by rw[mh];simpa using f) ⟨z,H,I,g,q⟩
end L2
namespace TL
open PySem.SeqAt L2 L3 L4
def ahx(a:e_)(r n:Nat):hX (.ref a) S_ ([r,n].map λ(n:Nat)=>V.int (n:Int))=aN "number" (.int (n:Nat)) (aN O_ (.int (r:Nat))<|aN K_ (.ref a) []):=by kernel_rfl
def ahy(a:e_)(r n:Nat):hX (.ref a) Q_ ([r,n].map λ(n:Nat)=>V.int (n:Int))=aN aq7 (.int (n:Nat)) (aN O_ (.int (r:Nat))<|aN K_ (.ref a) []):=by kernel_rfl
def afY(a:e_)(r n:Nat):hX (.ref a) J_ ([r,n].map λ(n:Nat)=>V.int (n:Int))=aN ac2 (.int (n:Nat)) (aN O_ (.int (r:Nat))<|aN K_ (.ref a) []):=by kernel_rfl
def Ox:(aN x v<|aN y u<|aN K_ (.ref a) []).lookup x=a_ v:=by rw[fJ,ek rfl]
def HJ(h:y≠x):(aN x v<|aN y u<|aN K_ (.ref a) []).lookup y=a_ u:=by rw[fJ,ei h,fJ,ek rfl]
def jv(s:Tl)(rg:List Int)(pl:Nat):Nat:=if s.1 = J_/\rg.getD (s.2.getD 0 0) 0=0 then s.2.getD 1 0 else pl+1
def dv(S:Mc)(c:Nat)(s:Tl):Mc:=
 if s.1 = S_ then jA S c (s.2.getD 0 0) (s.2.getD 1 0:Nat)
 else if s.1 = Q_ then (match S.ck[c]? with
  | none=>S
  | some k=>jA S c (s.2.getD 0 0)<|(k.rg.getD (s.2.getD 0 0) 0+k.rg.getD (s.2.getD 1 0) 0)%dH)
 else if s.1 = U_ then setM S c (s.2.getD 0 0) (s.2.getD 1 0)
 else if s.1 = L_ then tU S c (s.2.getD 0 0) (s.2.getD 1 0)
 else if s.1 = I_ then vw S c (s.2.getD 0 0) (s.2.getD 1 0)
 else S
def yJ(S:Mc)(c:Nat)(s:Tl):Mc:=match S.ck[c]? with
 | none=>S
 | some k=>{S with ck:=S.ck.set c {k with pl:=jv s k.rg k.pl,ct:=k.ct+1}}
def zg(S:Mc)(c:Nat):Mc:=match S.ck[c]?,S.ps[c]? with
 | some k,a_ p=>(match p[k.pl]? with
  | some s=>yJ (dv S c s) c s
  | none=>S)
 | _,_=>S
section
variable{t:bj}{C CT:e_}{H:Hp}{m:e_}{A:MA}{S:Mc}
def bb.agk(M:bb t C CT H m A S)(b:H z=a_ (.ins cz dz<|hX (.ref a) x ps)):¬cY m A z:=by
 intro f;cases f with
 | m=>
  refine dC M.obj λdx fs h G=>?_;rw[h]at b;cases b;have e:=G.gc;rw[C7 "trays" dk]at e;cases e
 | lt=>rw[M.lt]at b;cases b
 | pl=>rw[M.pl]at b;cases b
 | ct=>rw[M.ct]at b;cases b
 | rg=>rw[M.rg]at b;cases b
 | ce=>rw[M.ce]at b;cases b
 | ac=>obtain⟨vs,h,_⟩:=M.ac;rw[h]at b;cases b
 | cm=>rw[M.cm]at b;cases b
 | rs h=>
  refine aJ (oH M.rs h) λc _ q=>?_;rw[q]at b;cases b
 | cs h=>
  refine aJ (oH M.cs h) λc _ q=>?_;rw[q]at b;cases b
 | ts h h2=>
  refine aJ (oH M.ts h) λc _ T=>eY (id T.obj) λl n ea d o p r s=>?_;obtain y|y:=a9.mp h2
  .rw[y,ea]at b;cases b;rw[C7 _ dk]at d;cases d
  .obtain y|y:=a9.mp y
   .rw[y,T.qs]at b;cases b
   .refine oE (x9 y) λi g=>oE g λhi j=>?_;obtain⟨u,k,_⟩:=T.kl i z (by rw[<-j];exact a8 hi);rw[k]at b;cases b
end
section
variable{P:l_}{w:k_}{K:u_}{mg:cw->Option f_}{fK:j_}{t:bj}{C CT:e_}{u:qF}
def TZ(t:bj):Sp:=λvs H Q _=>∃z a c s sz b rg,∃pl:Nat,vs=[.ref z,.int (pl:Nat),.ref b]/\H z=a_ (.ins (dR t s.1) c<|hX (.ref a) s.1<|s.2.map λ(n:Nat)=>V.int (n:Int))/\dq sz s/\H b=a_ (.lst<|rg.map V.int)/\rg.length=4/\Q (.int (jv s rg pl:Nat)) H
def acy:bc ic ic (aR LA):=bx
def acp(F:aW K "place_behind" "place_behind" LA f fd)(O:Bp K mg t u):aE P w K mg fK aL 1 f fd ic (TZ t):=by
 refine F.ok acy λaI A _ s H vs Q E x h=>?_
 .refine jw h λz a k s sz c=>jx c λy rg pl c b l=>?_;subst c;obtain⟨g,m,B,q⟩:=l;refine⟨_,aw (br (PW.pt<|pw_and (gZ<|b9 kY xz O.st.bl.km jI<|aa (pv 0)<|aa (gG (v:=.ref t.gJ) xz O.st.HH xz) ag)<|pw_and1<|bR dm (aV cJ (pv 2)<|ba (pv 0) xz) ao<|bG _) (aB<|aU<|ba (pv 0) xz) bQ)<|aB<|aU<|aG fQ (pv 1) ao,?_⟩;refine aJ (YH O g b) λD ty o=>vr xz<|dF _ (.ref t.gJ) _ (.ref t.gJ)<|i9 _ xz ty xz o.wO<|tk (bq (λhs=>?_) λhs=>?_)
  .cases g with
   | skip r p h1 h2 h3=>
    have b:H z=a_ (.ins (dR t J_) k<|hX (.ref a) J_<|[r,p].map λ(n:Nat)=>V.int (n:Int)):=b;rw[Nd,afY]at b;have i:rg[r]?=a_ (rg[r]'wg):=a8 wg;have j:rg.getD r 0=rg[r]'wg:=wJ i;refine vr xz<|vF xz b O.st.tO O.st.Ot (HJ dk)<|rL (aq.of m) (jO i) ⟨xz,⟨_,xz,bq (λd=>?_) λd=>?_⟩⟩
    .have e:jv (J_,[r,p]) rg pl=p:=by
      unfold jv;rw[ek ⟨xz,by show rg.getD r 0=0;rw[j];injection d⟩];rfl
     rw[e]at q;exact vF xz b O.st.tO O.st.HF Ox q
    .have e:jv (J_,[r,p]) rg pl=pl+1:=by
      unfold jv;rw[ei λh=>d (by have:=h.2;rw[<-show rg.getD r 0=rg[r]'wg from j];show V.int (rg.getD r 0)=_;rw[show rg.getD r 0=0 from this])]
     rw[e]at q;exact au _ xz ⟨_,⟨_,xz,xz,q⟩⟩
   | put=>exact eo (show ("put":cw)="skip" from hs) dk
   | add=>exact eo (show ("add":cw)="skip" from hs) dk
   | set=>exact eo (show ("set":cw)="skip" from hs) dk
   | look=>exact eo (show ("look":cw)="skip" from hs) dk
   | swap=>exact eo (show ("swap":cw)="skip" from hs) dk
   | clear=>exact eo (show ("clear":cw)="skip" from hs) dk
  .have e:jv s rg pl=pl+1:=by
    unfold jv;rw[ei λh=>hs h.1]
   rw[e]at q;exact au _ xz ⟨_,⟨_,xz,xz,q⟩⟩
end
end TL
namespace L2
def dM.aao(h:dM X ss t)(hi:∀D σ H,t' D σ H->t D σ H):dM X ss t':=λp_ s σ H D I q=>h p_ s σ H D I<|hi D σ H q
end L2
namespace TL
open PySem.SeqAt L2 L3 L4
variable{P:l_}{w:k_}{K:u_}{mg:cw->Option f_}{fK:j_}
def WE(a:e_)(r n:Nat):hX (.ref a) L_ ([r,n].map λ(n:Nat)=>V.int (n:Int))=aN H_ (.int (n:Nat)) (aN O_ (.int (r:Nat))<|aN K_ (.ref a) []):=by kernel_rfl
def afX(a:e_)(r n:Nat):hX (.ref a) I_ ([r,n].map λ(n:Nat)=>V.int (n:Int))=aN H_ (.int (n:Nat)) (aN O_ (.int (r:Nat))<|aN K_ (.ref a) []):=by kernel_rfl
def AJ(n r:Nat)(a:e_):(aN H_ (.int (n:Nat))<|aN O_ (.int (r:Nat))<|aN K_ (.ref a) []).lookup (H_ : cw)=a_ (V.int (n:Nat)):=by rw[fJ,ek rfl]
def Oy(n r:Nat)(a:e_):(aN H_ (.int (n:Nat))<|aN O_ (.int (r:Nat))<|aN K_ (.ref a) []).lookup (O_ : cw)=a_ (V.int (r:Nat)):=by rw[fJ,ei dk,fJ,ek rfl]
section
variable{t:bj}{C CT:e_}{u:qF}
def V8(t:bj)(C CT:e_):Sp:=λvs H Q _=>∃m A S c k z b a r n fT,vs=[.ref m,.int (c:Nat),.ref z]/\bb t C CT H m A S/\lE fT m A/\i5 S/\S.ck[c]?=a_ k/\H z=a_ (.ins t.lz b<|hX (.ref a) L_<|[r,n].map λ(n:Nat)=>V.int (n:Int))/\r<4/\n<12/\
 ∀H',bb t C CT H' m A (tU S c r n)->aA (cY m A) H H'->KL H H'->Q .aH H'
def ML:bc [V_,X_,"step",aq5] gW (aR NB):=bx
def aed(F:aW K "do_look" "Machine.do_look" NB f fd)(J:gC K C)(cT:lA K CT)(B:qk K mg t)(V:Mt P w K mg fK CT 1 "latest" gP (V5 CT))(DB:Mt P w K mg fK C 1 "on_board" gP (Mf t C CT)):aE P w K mg fK aL 2 f fd gW (V8 t C CT):=by
 refine F.ok ML λaI A _ s H vs Q E hr h=>?_
 .refine qd h λm A S c k z dz a r n X=>Oq X λfT X M L W bg=>?_;subst X;obtain⟨N,Y,pL,hn,q⟩:=bg;refine let g:TS:=_;let l:TS:=_;⟨_,aw (bf (i:=3) ML.nd xz (aP xz)<|He (aV cJ (ba (pv 0) xz)<|pv 1) cT.cl V.m V.G hr V.b .nil cX<|aa (ba (pv 2) xz) ag)<|pR l<|aw (br (bR Yu (pv 3) qi<|bG _) (aB<|bf (i:=3) ML.nd xz (aP xz)<|ji (pv 0) J.cl DB hr<|aa (ba (pv 2) xz) ag) bQ)<|dM.aao (t':=λD σ I=>∃st x,σ=[a_ (.ref m),a_<|.int (c:Nat),a_<|.ref z,a_<|.ref st]/\I st=a_ (.tup [x,.int (eK S k n).1,oV (eK S k n).2])/\af H I/\∀Z H',bb t C CT H' m A (tU S c r n)->aA (cY m A) H H'->KL H H'->D.nx Z H') (pR g<|aw (dY<|lh m_ n_ o_ nh (ba (pv 0) xz)<|aa (cp<|aa a7<|aa (pv 1)<|aa (ba (pv 2) xz)<|aa (aV dO (pv 3) ao)<|aa qi<|aa (aV dO (pv 3) ao) ag) ag)<|aB<|yv (aV dO (pv 3) ao)<|AQ (aV cJ (ba (pv 0) xz)<|pv 1) (ba (pv 2) xz) set_list) ?tl,?_⟩
  case tl=>
   rintro D σ I ⟨st,x,rfl,O,s1,q⟩;rw[WE]at Y;have M1:=M.same s1;refine dC (id M1.obj) λdx fs hm G=>aJ M1.ac λws U zI=>?_;have eE:=s1 _ _ Y;refine vF xz hm J.cl J.jl G.jl ⟨.inl ⟨xz,_,aq.of U⟩,au _ xz<|vF xz eE B.rq B.Ds (AJ n r a)<|lF (j:=1) xz O xz<|lF (j:=2) xz O xz ⟨(sl (n:=6)),(λp ht=>?_)⟩⟩;have s2:=ax (o:=.tup [.str L_,.int (c:Nat),.int (n:Nat),.int (eK S k n).1,.aH,oV (eK S k n).2]) (af.refl I) ht;have vV:=r_ zI;have aaU:=W.ac;refine oN A.ac ws (.ref p) xz xz (s2 _ _ U) (by rw[vV,ij];exact wb) ?_;have R:=OV (M1.same s2) L (s2 _ _ U) (x:=.ref p) (a:=⟨L_,c,n,a_ (eK S k n).1,b_,(eK S k n).2⟩) ⟨p,xz,ai⟩;have ux:aA (cY m A) H (db (db I p<|.tup [.str L_,.int (c:Nat),.int (n:Nat),.int (eK S k n).1,.aH,oV (eK S k n).2]) A.ac<|.lst<|ws++[.ref p]):=(aA.of s1).fC<|(aA.of s2).fC<|aA.db .ac;have l2:KL I (db (db I p<|.tup [.str L_,.int (c:Nat),.int (n:Nat),.int (eK S k n).1,.aH,oV (eK S k n).2]) A.ac<|.lst<|ws++[.ref p]):=(KL.of s2).fC<|KL.db<|s2 _ _ U;have sk:=l2 _ _ (λxs z=>by cases z) eE;have Bs:=l2.tup _ _ O;generalize db (db I p<|.tup [.str L_,.int (c:Nat),.int (n:Nat),.int (eK S k n).1,.aH,oV (eK S k n).2]) A.ac (.lst<|ws++[.ref p])=H2 at R ux l2 sk Bs ⊢;refine dC (id R.obj) λzZ nH mY G3=>aJ (R.eL (k:=k) N) λra jE jT=>?_;have jD:=W.rg k<|cH N;refine lF (j:=1) xz Bs xz<|vF xz mY J.cl J.eL G3.eL<|vr xz<|rL (v:=.ref ra) (aq.of R.rg) (jO jE)<|vF xz sk B.rq B.Ou (Oy n r a)<|⟨ra,_,_,r,xz,xz,jT,(yC<|by rw[aS,jD];exact pL),?_⟩;have M3:=HQ R L (k:=k) N jE r (eK S k n).1;refine q _ _ ?_ (ux.fC<|aA.db<|.rs<|cH jE)<|(KL.of s1).fC<|l2.fC<|KL.db jT
   have e:tU S c r n={ (jR S ⟨L_,c,n,a_ (eK S k n).1,b_,(eK S k n).2⟩)with ck:=S.ck.set c {k with rg:=k.rg.set r (eK S k n).1}}:=by
    unfold tU;rw[N];dsimp only;unfold jA;rw[show (jR S ⟨L_,c,n,a_ (eK S k n).1,b_,(eK S k n).2⟩).ck[c]?=a_ k from N];rfl
   rw[e];exact M3
  refine dC (id M.obj) λdx fs hm G=>aJ (M.vC N) λx hx T=>eY (id T.obj) λlM nQ ea e1 e2 e3 em el=>?_;have anf:=W.bounds N;have JV:=Y;rw[WE]at JV;refine vF xz hm J.cl J.gc G.gc<|vr xz<|rL (v:=.ref x.1) (aq.of M.lt) (Cy hx)<|rM ea (em _ dk)<|vF xz JV B.rq B.Ds (AJ n r a)<|⟨x.1,n,_,_,_,_,(⟨_,xz,T,li,li,w4,(λlI=>?_),(λe st he O=>?_)⟩)⟩
  .rw[mh]at lI;refine au _ xz ⟨xz,⟨_,xz,bq (λ_=>?_) λy=>eo xz y⟩⟩;refine vM xz hm (G.ms _ dk)<|vF xz JV B.rq B.Ds (AJ n r a) (kU m A S n xz M hn W.bd W.ov λp ht=>?_);have es:eK S k n=(S.bd.getD n 0,(S.ov.getD n []).getLast?):=by unfold eK;rw[lI]
   refine rm p (.int (n:Nat)) xz ?_ (ax (af.refl H) ht) λZ H' h1 h2 h3=>q H' h1 h2 h3;rw[ai,es];rfl
  .rw[mh]at he;refine au _ xz ⟨xz,⟨_,xz,bq (λy=>by cases y) λ_=>?_⟩⟩;have es:eK S k n=(e.num,a_ e.d):=by unfold eK;rw[he]
   exact rm st (.int e.n) xz (by rw[es];exact O) (af.refl H) λZ H' h1 h2 h3=>q H' h1 h2 h3
def V6(t:bj)(C CT:e_):Sp:=λvs H Q _=>∃m A S c k z b a r n fT,vs=[.ref m,.int (c:Nat),.ref z]/\bb t C CT H m A S/\lE fT m A/\i5 S/\zo S/\S.ck[c]?=a_ k/\H z=a_ (.ins t.lu b<|hX (.ref a) I_<|[r,n].map λ(n:Nat)=>V.int (n:Int))/\r<4/\n<12/\
 ∀H',bb t C CT H' m A (vw S c r n)->aA (cY m A) H H'->KL H H'->Q .aH H'
def MJ:bc [V_,X_,"step","gave",aq5] gW (aR Nz):=bx
def aeb(F:aW K "do_swap" "Machine.do_swap" Nz f fd)(p:gC K C)(y:qk K mg t)(jF:mg "len"=b_)(DB:Mt P w K mg fK C 1 "on_board" gP (Mf t C CT))(DC:Mt P w K mg fK C 1 "come" [V_,aq5] (NW t C CT)):aE P w K mg fK aL 2 f fd gW (V6 t C CT):=by
 refine F.ok MJ λaI A _ s H vs Q E hr h=>?_
 .refine qd h λm A S c k z dz a r n U=>Oq U λfT U M L W bg=>?_;subst U;refine rj bg λiD D J pL hn q=>?_;refine let b:TS:=_;let d:TS:=_;let l:TS:=_;⟨_,aw (bf (i:=3) MJ.nd xz (aP xz)<|aV cJ (aV cJ (ba (pv 0) xz)<|pv 1)<|ba (pv 2) xz)<|pR l<|aw (bf (i:=4) MJ.nd xz (aP xz)<|ji (pv 0) p.cl DB hr<|aa (ba (pv 2) xz) ag)<|pR d<|aw (dY<|ji (pv 0) p.cl DC hr<|aa (cp<|aa (ba (pv 2) xz)<|aa (pv 3)<|aa (b9 gm xz jF q_<|aa (ba (pv 0) xz) ag) ag) ag)<|pR b<|aw (dY<|lh m_ n_ o_ nh (ba (pv 0) xz)<|aa (cp<|aa a7<|aa (pv 1)<|aa (ba (pv 2) xz)<|aa (aV dO (pv 4) ao)<|aa (pv 3)<|aa (aV dO (pv 4) ao) ag) ag)<|aB<|yv (aV dO (pv 4) ao)<|AQ (aV cJ (ba (pv 0) xz)<|pv 1) (ba (pv 2) xz) set_list,?_⟩;rw[afX]at J;refine dC (id M.obj) λdx fs hm G=>aJ (M.eL D) λra jE jT=>?_;have jD:=W.rg k<|cH D;have hg:k.rg[r]?=a_ (k.rg[r]'wg):=a8 wg;have eg:k.rg.getD r 0=k.rg[r]'wg:=wJ hg;refine vF xz hm p.cl p.eL G.eL<|vr xz<|rL (v:=.ref ra) (aq.of M.rg) (jO jE)<|vF xz J y.qj y.HG (Oy n r a)<|rL (aq.of jT) (jO hg) ?_;generalize k.rg[r]'wg=g at eg;refine vM xz hm (G.ms _ dk)<|vF xz J y.qj y.Dr (AJ n r a) (kU m A S n xz M hn W.bd W.ov λst amU=>?_);have s1:=ax (o:=.tup<|Dy S n) (af.refl H) amU;have cO:db H st (.tup<|Dy S n) st=a_ (.tup [.int (n:Nat),.int<|S.bd.getD n 0,oV (S.ov.getD n []).getLast?]):=ai;have V:=M.same s1;generalize db H st (.tup<|Dy S n)=H1 at s1 cO V ⊢;refine aJ V.ac λws sG zI=>?_;have vV:=r_ zI;have aaU:=W.ac;refine vM xz (s1 _ _ hm) (G.ms _ dk)<|vF xz (s1 _ _ J) y.qj y.Dr (AJ n r a)<|vr xz<|vF xz (s1 _ _ hm) p.cl p.jl G.jl (rm A.ac ws xz (.inl<|aq.of sG) (sl (n:=3)) λtp ht=>?_);have s2:=ax (o:=.tup [.int (n:Nat),.int g,.int (ws.length:Nat)]) (af.refl H1) ht;refine⟨m,A,S,tp,n,g,(ws.length:Nat),fT,xz,(V.same s2),L,ai,hn,W.bd,(gQ W.ov iD λN X k2 l2=>?_)⟩;have Y:=(KL.of s2).fC l2;have sk:=Y _ _ (λxs z=>by cases z)<|s1 _ _ J;have Z:=Y.tup _ _ cO;refine dC (id X.obj) λzZ nH mY G3=>aJ X.ac λO T amN=>?_;have amP:O.length=S.ac.length:=r_ amN;refine au _ xz<|dF m C zZ nH<|⟨_,xz,mY,p.cl,p.jl,G3.jl,(.inl ⟨xz,_,aq.of T⟩),(au _ xz<|vF xz sk y.qj y.Dr (AJ n r a)<|lF (j:=1) xz Z xz<|vr xz<|lF (j:=2) xz Z xz ⟨(sl (n:=6)),(λB hq=>?_)⟩)⟩;have I:=ax (o:=.tup [.str I_,.int (c:Nat),.int (n:Nat),.int<|S.bd.getD n 0,.int g,oV (S.ov.getD n []).getLast?]) (af.refl N) hq;refine oN A.ac O (.ref B) xz xz (I _ _ T) (by rw[amP,ij];exact wb) ?_;have R:=OV (X.same I) L (I _ _ T) (x:=.ref B) (a:=⟨I_,c,n,a_<|S.bd.getD n 0,a_ g,(S.ov.getD n []).getLast?⟩) ⟨B,xz,ai⟩;have kp3:aA (cY m A) H (db (db N B<|.tup [.str I_,.int (c:Nat),.int (n:Nat),.int<|S.bd.getD n 0,.int g,oV (S.ov.getD n []).getLast?]) A.ac<|.lst<|O++[.ref B]):=((aA.of s1).fC<|(aA.of s2).fC k2).fC<|(aA.of I).fC<|aA.db .ac;have l3:KL N (db (db N B<|.tup [.str I_,.int (c:Nat),.int (n:Nat),.int<|S.bd.getD n 0,.int g,oV (S.ov.getD n []).getLast?]) A.ac<|.lst<|O++[.ref B]):=(KL.of I).fC<|KL.db<|I _ _ T;have JU:=l3 _ _ (λxs z=>by cases z) sk;have aaI:=l3.tup _ _ Z;generalize db (db N B<|.tup [.str I_,.int (c:Nat),.int (n:Nat),.int<|S.bd.getD n 0,.int g,oV (S.ov.getD n []).getLast?]) A.ac (.lst<|O++[.ref B])=H3 at R kp3 l3 JU aaI ⊢;refine dC (id R.obj) λdx4 fs4 Kd G4=>aJ (R.eL (k:=k) D) λra4 Qv aaJ=>lF (j:=1) xz aaI xz<|vF xz Kd p.cl p.eL G4.eL<|vr xz<|rL (v:=.ref ra4) (aq.of R.rg) (jO Qv)<|vF xz JU y.qj y.HG (Oy n r a)<|⟨ra4,_,_,r,xz,xz,aaJ,(yC<|by rw[aS,jD];exact pL),?_⟩;have M4:=HQ R L (k:=k) D Qv r<|S.bd.getD n 0;refine q _ ?_ (kp3.fC<|aA.db<|.rs<|cH Qv) ((KL.of s1).fC<|Y.fC<|l3.fC<|KL.db aaJ)
  have e:vw S c r n={ (jR (tJ S n g (ws.length:Nat)) ⟨I_,c,n,a_<|S.bd.getD n 0,a_ g,(S.ov.getD n []).getLast?⟩)with ck:=S.ck.set c {k with rg:=k.rg.set r (S.bd.getD n 0)}}:=by
   unfold vw;rw[D];dsimp only;rw[eg,vV];unfold jA;rw[show (jR (tJ S n g (S.ac.length:Nat)) ⟨I_,c,n,a_<|S.bd.getD n 0,a_ g,(S.ov.getD n []).getLast?⟩).ck[c]?=a_ k from D];rfl
  rw[e];exact M4
end
section
variable{S:Mc}{c:Nat}{k:Ck}
structure lT(S S':Mc)(c:Nat)(k k':Ck):Prop where
 at':S'.ck[c]?=a_ k'
 pl:k'.pl=k.pl
 ct:k'.ct=k.ct
 rg:k'.rg.length=k.rg.length
def Hd(a:S.ck[c]?=a_ k):lT S (jA S c r v) c k {k with rg:=k.rg.set r v}:=by
 have e:jA S c r v={S with ck:=S.ck.set c {k with rg:=k.rg.set r v}}:=by unfold jA;rw[a]
 rw[e];exact⟨nU (dX.mp a).1,xz,xz,oG⟩
def ai'{sz:Nat}(g:dq sz s)(a:S.ck[c]?=a_ k):∃k',lT S (dv S c s) c k k':=by
 have b:c<S.ck.length:=(dX.mp a).1;cases g with
 | put r n h1 h2=>exact⟨_,Hd a⟩
 | add r o h1 h2=>
  have e:dv S c (Q_,[r,o])=jA S c r ((k.rg.getD r 0+k.rg.getD o 0)%dH):=by
   unfold dv;rw[ei (show ¬(Q_ : cw) = S_ from dk),ek xz,a];rfl
  rw[e];exact⟨_,Hd a⟩
 | set n r h1 h2=>
  have e:dv S c (U_,[n,r])=setM S c n r:=by kernel_rfl
  rw[e];unfold setM;rw[a];dsimp only
  split
  .unfold tP;rw[show (jR (Bn S c n k<|k.rg.getD r 0) ⟨U_,c,n,b_,a_<|k.rg.getD r 0,b_⟩).ck[c]?=a_ {k with tn:=k.tn+1,es:=k.es++[⟨k.tn,n,k.rg.getD r 0,S.ac.length⟩]} from nU b];dsimp only
   split
   .exact⟨_,⟨nU b,xz,xz,xz⟩⟩
   .exact⟨{k with tn:=k.tn+1,es:=tY (k.es++[⟨k.tn,n,k.rg.getD r 0,S.ac.length⟩]) n},⟨nU (by show c<(S.ck.set c _).length;rw[oG];exact b),xz,xz,xz⟩⟩
  .exact⟨_,⟨nU b,xz,xz,xz⟩⟩
 | look r n h1 h2=>
  have e:dv S c (L_,[r,n])=jA (jR S ⟨L_,c,n,a_ (eK S k n).1,b_,(eK S k n).2⟩) c r (eK S k n).1:=by
   unfold dv;rw[ei (show ¬(L_ : cw) = S_ from dk),ei (show ¬(L_ : cw) = Q_ from dk),ei (show ¬(L_ : cw) = U_ from dk),ek rfl];show tU S c r n=_;unfold tU;rw[a]
  rw[e];have r:=Hd (S:=jR S ⟨L_,c,n,a_ (eK S k n).1,b_,(eK S k n).2⟩) (r:=r) (v:=(eK S k n).1) a;exact⟨_,⟨r.at',r.pl,r.ct,r.rg⟩⟩
 | swap r n h1 h2=>
  have e:dv S c (I_,[r,n])=jA (jR (tJ S n (k.rg.getD r 0) S.ac.length) ⟨I_,c,n,a_<|S.bd.getD n 0,a_<|k.rg.getD r 0,(S.ov.getD n []).getLast?⟩) c r (S.bd.getD n 0):=by
   unfold dv;rw[ei (show ¬(I_ : cw) = S_ from dk),ei (show ¬(I_ : cw) = Q_ from dk),ei (show ¬(I_ : cw) = U_ from dk),ei (show ¬(I_ : cw) = L_ from dk),ek rfl];show vw S c r n=_;unfold vw;rw[a]
  rw[e];have r:=Hd (S:=jR (tJ S n (k.rg.getD r 0) S.ac.length) ⟨I_,c,n,a_<|S.bd.getD n 0,a_<|k.rg.getD r 0,(S.ov.getD n []).getLast?⟩) (r:=r) (v:=(S.bd.getD n 0)) a;exact⟨_,⟨r.at',r.pl,r.ct,r.rg⟩⟩
 | clear=>
  have e:dv S c (N_,[])=S:=by kernel_rfl
  rw[e];exact⟨k,⟨a,xz,xz,xz⟩⟩
 | skip r q h1 h2 h3=>
  have e:dv S c (J_,[r,q])=S:=by kernel_rfl
  rw[e];exact⟨k,⟨a,xz,xz,xz⟩⟩
end
section
variable{t:bj}{C CT:e_}{u:qF}
def V7(t:bj)(C CT PT:e_):Sp:=λvs H Q _=>∃m A S c k p s sz fT,vs=[.ref m,.int (c:Nat)]/\bb t C CT H m A S/\lE fT m A/\i5 S/\zo S/\cx PT LP LQ H/\S.ck[c]?=a_ k/\S.ps[c]?=a_ p/\p[k.pl]?=a_ s/\dq sz s/\
 ∀H',bb t C CT H' m A (zg S c)->aA (cY m A) H H'->cx PT LP LQ H'->Q .aH H'
def MK:bc [V_,X_,"step","regs"] gr (aR NA):=bx
def Oi(a:S.ck[c]?=a_ k):jA S c r v={S with ck:=S.ck.set c {k with rg:=k.rg.set r v}}:=by unfold jA;rw[a]
def aec{f PT:e_}(F:aW K "do_step" "Machine.do_step" NA f fd)(cM:gC K C)(O:Bp K mg t u)(DP:Dp P w K mg fK 1 "place_behind" ic (TZ t))(DS:Mt P w K mg fK C 5 "do_set" gW (W4 t C CT PT))(DL:Mt P w K mg fK C 2 "do_look" gW (V8 t C CT))(DW:Mt P w K mg fK C 2 "do_swap" gW (V6 t C CT)):aE P w K mg fK aL 6 f fd gr (V7 t C CT PT):=by
 refine aJ O.st.cn.top λuT mT rT=>F.ok MK λaI A _ s H vs Q E hr h=>?_
 .refine jw h λm A S c k ae=>Dn ae λp st sz fT ae bg=>?_;subst ae;refine rj bg λM L W iD hL ae=>AX ae λhk hp hs g q=>?_;have fb:=hr.mono (show 1<=5 by decide);have nM:=hr.mono (show 2<=5 by decide);refine aJ (M.eL hk) λra jE jT=>?_;have jD:=W.rg k<|cH hk;refine jx (M.part hp) λvs b us h1 h2 ae=>oA ae λh3 h4=>aJ (sZ h4 hs) λv hv ae=>rE ae λz a dz ae Z=>?_;subst ae;have Qx:=M.agk Z
  have hdo:zg S c=yJ (dv S c st) c st:=by
   unfold zg;rw[hk,hp];dsimp only;rw[hs]
  refine let d:TS:=_;let j:TS:=_;let l:TS:=_;let x:TS:=_;let B:TS:=_;let I:TS:=_;let J:TS:=_;let N:TS:=_;let R:TS:=_;let T:TS:=_;let U:TS:=_;let X:TS:=_;let Y:TS:=_;⟨_,aw (bf (i:=2) MK.nd xz (aP xz)<|aV dO (aV dO (ba (pv 0) xz)<|pv 1)<|aV cJ (ba (pv 0) xz)<|pv 1) (pR Y (aw (bf (i:=3) MK.nd xz (aP xz)<|aV cJ (ba (pv 0) xz)<|pv 1) (pR X (aw (br (gZ<|b9 kY xz O.st.bl.km jI<|aa (pv 2)<|aa (gG (v:=.ref t.lV) xz O.st.Pw xz) ag) (pR d<|aB<|yv (ba (pv 2) xz)<|AQ (pv 3) (ba (pv 2) xz) set_list) (pR R (aB (br (gZ<|b9 kY xz O.st.bl.km jI<|aa (pv 2)<|aa (gG (v:=.ref t.lW) xz O.st.Px xz) ag) (pR j<|aB<|yv (aG cV (aG fQ (aV cJ (pv 3)<|ba (pv 2) xz)<|aV cJ (pv 3)<|ba (pv 2) xz)<|gG xz mT rT)<|AQ (pv 3) (ba (pv 2) xz) set_list) (pR N (aB (br (gZ<|b9 kY xz O.st.bl.km jI<|aa (pv 2)<|aa (gG (v:=.ref t.kh) xz O.st.Pu xz) ag) (pR l<|aB<|dY<|ji (pv 0) cM.cl DS hr<|aa (pv 1)<|aa (pv 2) ag) (pR J (aB (br (gZ<|b9 kY xz O.st.bl.km jI<|aa (pv 2)<|aa (gG (v:=.ref t.lz) xz O.st.Ow xz) ag) (pR x<|aB<|dY<|ji (pv 0) cM.cl DL nM<|aa (pv 1)<|aa (pv 2) ag) (pR I (aB (br (gZ<|b9 kY xz O.st.bl.km jI<|aa (pv 2)<|aa (gG (v:=.ref t.lu) xz O.st.Ov xz) ag) (pR B<|aB<|dY<|ji (pv 0) cM.cl DW nM<|aa (pv 1)<|aa (pv 2) ag)
         bQ)))))))))))))
   (dM.aao (t':=λD σ H1=>σ=[a_ (.ref m),a_<|.int (c:Nat),a_<|.ref z,a_<|.ref ra]/\bb t C CT H1 m A (dv S c st)/\aA (cY m A) H H1/\cx PT LP LQ H1/\∀σ' H',bb t C CT H' m A (zg S c)->aA (cY m A) H H'->cx PT LP LQ H'->D.nx σ' H') (pR U<|aw (yv (dP DP fb xz<|aa (pv 2)<|aa (aV cJ (ba (pv 0) xz)<|pv 1)<|aa (pv 3) ag)<|AQ (ba (pv 0) xz) (pv 1) set_list)<|pR T<|aB<|agK (ba (pv 0) xz) (pv 1) afQ ao YK set_list) ?tl))))),?_⟩
  case tl=>
   rintro D σ H1 ⟨rfl,M1,k1,sI,q⟩;refine oE (ai' g hk) λk' ef=>dC (id M1.obj) λdx fs hm G=>?_;have eE:=k1.k z _ Qx (λps y=>by cases y) Z;refine aJ (M1.eL ef.at') λra' aaK amX=>?_;have era:ra'=ra:=by rw[jE]at aaK;exact(eG aaK).fF
   subst era;have hc:c<(dv S c st).ck.length:=(dX.mp ef.at').1;refine vr xz<|vF xz hm cM.cl cM.places G.places<|vr xz<|rL (aq.of M1.pl) (jO (f:=λk:Ck=>V.int (k.pl:Nat)) ef.at')<|vr xz<|⟨z,a,dz,st,sz,ra',k'.rg,k'.pl,xz,eE,g,amX,(by rw[ef.rg];exact jD),(vF xz hm cM.cl cM.places G.places<|vr xz<|⟨A.pl,_,_,c,xz,xz,M1.pl,(yC<|by rw[aS];exact hc),?_⟩)⟩;have M2:=ajU M1 L ef.at'<|jv st k'.rg k'.pl;have k2:aA (cY m A) H1 (db H1 A.pl<|.lst<|((dv S c st).ck.map λk=>V.int (k.pl:Nat)).set c<|.int (jv st k'.rg k'.pl:Nat)):=aA.db .pl;have l2:KL H1 (db H1 A.pl<|.lst<|((dv S c st).ck.map λk=>V.int (k.pl:Nat)).set c<|.int (jv st k'.rg k'.pl:Nat)):=KL.db M1.pl;generalize db H1 A.pl (.lst<|((dv S c st).ck.map λk=>V.int (k.pl:Nat)).set c<|.int (jv st k'.rg k'.pl:Nat))=H2 at M2 k2 l2 ⊢;refine dC (id M2.obj) λzZ nH mY G3=>?_;have e2:((dv S c st).ck.set c {k' with pl:=jv st k'.rg k'.pl})[c]?=a_ {k' with pl:=jv st k'.rg k'.pl}:=nU hc;refine au _ xz<|dF m C zZ nH<|jg _ xz mY cM.cl cM.counts G3.counts<|vr xz<|⟨A.ct,_,c,(.int (k'.ct:Nat)),xz,xz,M2.ct,(by rw[eX,e2];rfl),⟨_,_,xz,xz,A.ct,_,_,c,xz,xz,M2.ct,yC (by rw[aS,oG];exact hc),?_⟩⟩;have M3:=ajW M2 L e2<|k'.ct+1;refine q _ _ ?_ ((k1.fC k2).fC<|aA.db .ct)<|(l2.fC<|KL.db M2.ct).lam sI;rw[hdo]
   have e:yJ (dv S c st) c st={ (dv S c st)with ck:=((dv S c st).ck.set c {k' with pl:=jv st k'.rg k'.pl}).set c {k' with pl:=jv st k'.rg k'.pl,ct:=k'.ct+1}}:=by
    unfold yJ;rw[ef.at',LJ]
   rw[e];exact M3
  refine dC (id M.obj) λdx fs hm G=>vF xz hm cM.cl cM.steps G.steps<|vr xz<|⟨A.st,_,_,(.ref b),xz,xz,(az.of h1),(eI h2),(vF xz hm cM.cl cM.places G.places<|vr xz<|rL (aq.of M.pl) (jO (f:=λk:Ck=>V.int (k.pl:Nat)) hk)<|⟨b,_,_,(.ref z),xz,xz,(az.of h3),(eI hv),(au _ xz<|dF m C dx fs<|jg _ xz hm cM.cl cM.eL G.eL<|vr xz<|rL (v:=.ref ra) (aq.of M.rg) (jO jE)<|aJ (YH O g Z) λD ty c6=>vr xz<|dF _ (.ref t.lV) _ (.ref t.lV)<|i9 _ xz ty xz c6.al6<|tk<|bq (λh=>?_) λn1=>?_)⟩)⟩
  .cases g with
   | put r n g1 g2=>
    have Z:H z=a_ (.ins (dR t S_) dz<|hX (.ref a) S_<|[r,n].map λ(n:Nat)=>V.int (n:Int)):=Z;rw[NJ,ahx]at Z;refine vF xz Z O.st.vA O.st.Pp Ox<|vr xz<|vF xz Z O.st.vA O.st.Pr (HJ dk)<|⟨ra,_,_,r,xz,xz,jT,(yC<|by rw[aS,jD];exact g1),(⟨xz,?_,(aA.db<|.rs<|cH jE),((KL.db jT).lam hL),(λσ' H' h1 h2 h3=>q H' h1 h2 h3)⟩)⟩;have e:dv S c (S_,[r,n])=jA S c r (n:Nat):=rfl;rw[e,Oi hk];exact HQ M L hk jE r (n:Nat)
   | add=>exact eo (show ("add":cw)="put" from h) dk
   | set=>exact eo (show ("set":cw)="put" from h) dk
   | look=>exact eo (show ("look":cw)="put" from h) dk
   | swap=>exact eo (show ("swap":cw)="put" from h) dk
   | clear=>exact eo (show ("clear":cw)="put" from h) dk
   | skip=>exact eo (show ("skip":cw)="put" from h) dk
  refine vr xz<|dF _ (.ref t.lW) _ (.ref t.lW)<|i9 _ xz ty xz c6.al7<|tk (bq (λh=>?_) λn2=>?_)
  .cases g with
   | add r o g1 g2=>
    have Z:H z=a_ (.ins (dR t Q_) dz<|hX (.ref a) Q_<|[r,o].map λ(n:Nat)=>V.int (n:Int)):=Z;rw[NK,ahy]at Z;have hg1:k.rg[r]?=a_ (k.rg[r]'wg):=a8 wg;have hg2:k.rg[o]?=a_ (k.rg[o]'wg):=a8 wg;have eg1:k.rg.getD r 0=k.rg[r]'wg:=wJ hg1;have eg2:k.rg.getD o 0=k.rg[o]'wg:=wJ hg2;refine vr xz<|vF xz Z O.st.tZ O.st.HZ (HJ dk)<|rL (aq.of jT) (jO hg1)<|vr xz<|vF xz Z O.st.tZ O.st.Pq Ox<|rL (aq.of jT) (jO hg2) ⟨_,⟨_,xz,xz,_,_,xz,xz,by show (0:Int)<dH;decide +kernel,vr xz<|vF xz Z O.st.tZ O.st.HZ (HJ dk)<|⟨ra,_,_,r,xz,xz,jT,(yC<|by rw[aS,jD];exact g1),(⟨xz,?_,(aA.db<|.rs<|cH jE),((KL.db jT).lam hL),(λσ' H' h1 h2 h3=>q H' h1 h2 h3)⟩)⟩⟩⟩
    have e:dv S c (Q_,[r,o])=jA S c r ((k.rg[r]'wg+k.rg[o]'wg)%dH):=by
     unfold dv;rw[ei (show ¬(Q_ : cw) = S_ from dk),ek xz,hk];show jA S c r ((k.rg.getD r 0+k.rg.getD o 0)%dH)=_;rw[eg1,eg2]
    rw[e,Oi hk];exact HQ M L hk jE r _
   | put=>exact eo (show ("put":cw)="add" from h) dk
   | set=>exact eo (show ("set":cw)="add" from h) dk
   | look=>exact eo (show ("look":cw)="add" from h) dk
   | swap=>exact eo (show ("swap":cw)="add" from h) dk
   | clear=>exact eo (show ("clear":cw)="add" from h) dk
   | skip=>exact eo (show ("skip":cw)="add" from h) dk
  refine vr xz<|dF _ (.ref t.kh) _ (.ref t.kh)<|i9 _ xz ty xz c6.al5<|tk (bq (λh=>?_) λn3=>?_)
  .cases g with
   | set n r g1 g2=>
    have Z:H z=a_ (.ins (dR t U_) dz<|hX (.ref a) U_<|[n,r].map λ(n:Nat)=>V.int (n:Int)):=Z;rw[NI]at Z;refine vM xz hm (G.ms _ dk)<|vr xz<|vr xz ⟨m,⟨A,S,c,k,z,dz,a,n,r,fT,xz,M,L,W,iD,hL,hk,Z,g1,g2,λH1 M1 k1 sI=>⟨xz,?_,k1,sI,(λσ' H' h1 h2 h3=>q H' h1 h2 h3)⟩⟩⟩;have e:dv S c (U_,[n,r])=setM S c n r:=by kernel_rfl
    rw[e];exact M1
   | put=>exact eo (show ("put":cw)="set" from h) dk
   | add=>exact eo (show ("add":cw)="set" from h) dk
   | look=>exact eo (show ("look":cw)="set" from h) dk
   | swap=>exact eo (show ("swap":cw)="set" from h) dk
   | clear=>exact eo (show ("clear":cw)="set" from h) dk
   | skip=>exact eo (show ("skip":cw)="set" from h) dk
  refine vr xz<|dF _ (.ref t.lz) _ (.ref t.lz)<|i9 _ xz ty xz c6.aks<|tk (bq (λh=>?_) λn4=>?_)
  .cases g with
   | look r n g1 g2=>
    have Z:H z=a_ (.ins (dR t L_) dz<|hX (.ref a) L_<|[r,n].map λ(n:Nat)=>V.int (n:Int)):=Z;rw[Nf]at Z;refine vM xz hm (G.ms _ dk)<|vr xz<|vr xz ⟨m,⟨A,S,c,k,z,dz,a,r,n,fT,xz,M,L,W,hk,Z,g1,g2,λH1 M1 k1 l1=>⟨xz,?_,k1,(l1.lam hL),(λσ' H' h1 h2 h3=>q H' h1 h2 h3)⟩⟩⟩;have e:dv S c (L_,[r,n])=tU S c r n:=by kernel_rfl
    rw[e];exact M1
   | put=>exact eo (show ("put":cw)="look" from h) dk
   | add=>exact eo (show ("add":cw)="look" from h) dk
   | set=>exact eo (show ("set":cw)="look" from h) dk
   | swap=>exact eo (show ("swap":cw)="look" from h) dk
   | clear=>exact eo (show ("clear":cw)="look" from h) dk
   | skip=>exact eo (show ("skip":cw)="look" from h) dk
  refine vr xz<|dF _ (.ref t.lu) _ (.ref t.lu)<|i9 _ xz ty xz c6.akq<|tk (bq (λh=>?_) λn5=>?_)
  .cases g with
   | swap r n g1 g2=>
    have Z:H z=a_ (.ins (dR t I_) dz<|hX (.ref a) I_<|[r,n].map λ(n:Nat)=>V.int (n:Int)):=Z;rw[Nc]at Z;refine vM xz hm (G.ms _ dk)<|vr xz<|vr xz ⟨m,⟨A,S,c,k,z,dz,a,r,n,fT,xz,M,L,W,iD,hk,Z,g1,g2,λH1 M1 k1 l1=>⟨xz,?_,k1,(l1.lam hL),(λσ' H' h1 h2 h3=>q H' h1 h2 h3)⟩⟩⟩;have e:dv S c (I_,[r,n])=vw S c r n:=by kernel_rfl
    rw[e];exact M1
   | put=>exact eo (show ("put":cw)="swap" from h) dk
   | add=>exact eo (show ("add":cw)="swap" from h) dk
   | set=>exact eo (show ("set":cw)="swap" from h) dk
   | look=>exact eo (show ("look":cw)="swap" from h) dk
   | clear=>exact eo (show ("clear":cw)="swap" from h) dk
   | skip=>exact eo (show ("skip":cw)="swap" from h) dk
  have e:dv S c st=S:=by
   unfold dv;rw[ei n1,ei n2,ei n3,ei n4,ei n5]
  exact⟨xz,(by rw[e];exact M),(aA.refl H),hL,(λσ' H' h1 h2 h3=>q H' h1 h2 h3)⟩
end
def PD:List V->Bool
 | .str _::r=>r.all vK
 | _=>d_
theorem X1:∀a:List Int,(a.map V.int).all vK=c_
 | []=>rfl
 | i::a=>by rw[fu,yd,X1 a];rfl
def ahe(mv:Mv):PD (pj mv)=true:=X1 mv.2
noncomputable def vJ(mv:Mv):ci:=.tuple (.str mv.1::mv.2.map oK)
theorem WH:∀l m:List Int,uV (l.map oK) (m.map oK)=decide (l=m)
 | [],[]=>by simp[uV]
 | [],_::_=>by simp[uV]
 | _::_,[]=>by simp[uV]
 | a::l,b::m=>by
  rw[fu,fu];simp only[uV,mm];rw[WH l m]
  by_cases h1:a=b
  .subst h1
   by_cases h2:l=m
   .subst h2;simp
   .simp[h2]
  .simp[h1]
def ai4(a b:Mv):mm (vJ a) (vJ b)=decide (a=b):=by
 obtain⟨x,c⟩:=a;obtain⟨y,d⟩:=b;unfold vJ;simp only[mm,uV];rw[WH]
 by_cases h1:x=y
 .subst h1
  by_cases h2:c=d
  .subst h2;simp
  .simp[h2]
 .simp[h1]
def ajl(l:List Mv)(b:Mv):(l.map vJ).any (λd=>mm d<|vJ b)=decide (b∈l):=by
 induction l with
 | nil=>simp
 | cons a l ih=>
  rw[fu,Am,ih,ai4]
  by_cases h:a=b
  .subst h;simp
  .have h':¬b=a:=λz=>h z.fF;simp[h,h']
def Vp{mv:Mv}(h:yg mv.1=c_):shaped (vJ mv)=true:=by
 unfold vJ shaped;rw[fY];refine⟨?_,eu ?_⟩
 .simp only[wy,pX];rw[h,qb];exact U1 λa _=>rfl
 .have h:=VJ (f:=oK) (k:=1) (l:=mv.2) (λa _=>by simp[Ap]);simp only[Ap,sR];lia
theorem UZ{K:u_}:∀a:List Int,eU K H (a.map V.int)<|a.map oK
 | []=>.nil
 | i::a=>.cons (.int i)<|UZ a
def YA{K:u_}{mv:Mv}(h:H p=a_ (.tup<|pj mv)):c8 K H (.ref p) (vJ mv):=.tup (az.of h)<|.cons (.str mv.1)<|UZ mv.2
section
variable{t:bj}{C CT:e_}{u:qF}
def Yi:Sp:=λvs H Q _=>∃p xs,vs=[.ref p]/\H p=a_ (.tup xs)/\(∀x∈xs,∃T,ec H x=a_ T)/\xs.length<=1000/\∀H',af H H'->Q (.bl<|PD xs) H'
def ah':bc [aq3] [aq3] (aR Pg):=bx
def afy:([ap7]:List cw).Nodup:=dk
def ag6(F:aW K "has_form_of_move" "has_form_of_move" Pg f fd)(T:qk K mg t):aE P w K mg fK aL 2 f fd [aq3] Yi:=by
 have D:aE P w K mg fK aL 1 t.fW t.rX [aq6] Nl:=Wl T.Jk T.bl;refine F.ok ah' λaI A _ s H vs Q E G h=>?_
 .obtain⟨a,xs,I,ha,g,J,k⟩:=h;subst I;have B:=T.bl
  refine let b:TS:=_;⟨_,aw (br (PW.pt<|pw_or (og<|gZ<|b9 kY xz B.km jI<|aa (pv 0)<|aa (qZ (v:=.ty Z_) xz B.tuple i8 xz) ag)<|pw_or (bR dm (b9 gm xz B.len q_<|aa (pv 0) ag) ao<|bG _)<|pw_or1<|og<|gZ<|b9 kY xz B.km jI<|aa (aV dO (pv 0) ao)<|aa (qZ (v:=.ty "str") xz B.str boot_str xz) ag) (aB<|aU lj) bQ) (pR b (aB (aU (b9 (CS xz) xz B.all GR (aa (iu (N:=[ap7]) (idx:=[]) xz (dJ.of<|by kernel_rfl) (iG<|bJ _)
    (vp<|CO Hw (pv 0) (C3 ao) C4)
    (λ_ _ _ _=>cW (i:=0) afy xz (aP xz)<|.inr xz)
    (λ_ _ _ _=>gY)
    λ_ _ _ _=>oa D G xz T.mW T.Jk.kp T.bW .nil cX<|aa (pv 0) ag) ag))))),?_⟩
  have l:=va ha;refine vr xz<|dF _ _ _ _<|i9 _ xz (ph l) xz (pe l qc)<|au _ xz<|fq ?_;cases xs with
  | nil=>
   refine vr xz<|dG a ([]) xz (.inr<|az.of ha) ⟨xz,⟨_,xz,bq (λe=>?_) λm=>eo xz m⟩⟩;exact iQ<|k H<|af.refl H
  | cons y ps=>
   refine vr xz<|dG a (y::ps) xz (.inr<|az.of ha) ⟨xz,⟨_,xz,bq (λe=>?_) λm=>?_⟩⟩
   .injection e with e
    exact eo e (by simp only[gE];lia)
   refine oE (g y cb) λZ d=>lF (v:=y) (j:=0) xz ha xz<|dF _ _ _ _<|i9 _ xz (ph d) xz (pe d qc)<|au _ xz (DV (λh1=>?_) λh1=>?_)
   .have e:PD (y::ps)=false:=by
     cases y with
     | str x=>exact eo ((HL d).mpr ⟨x,xz⟩) (by rw[h1];exact dS)
     | _=>rfl
    have q:=k H<|af.refl H;rw[e]at q;exact q
   refine oE ((HL d).mp h1) λx0 L=>?_;subst L;have k:∀H',af H H'->Q (.bl<|ps.all vK) H':=k;refine au _ xz<|au 1 xz ⟨a,⟨_,xz,az.of ha,?_,λq M=>?_⟩⟩
   .intro z;have o:=z.1;rw[Qf]at o;cases o
   rw[mL];have s2:af H (db H q<|.tup ps):=ax (af.refl H) M;have c:db H q (.tup ps) q=a_ (.tup ps):=ai;generalize db H q (.tup ps)=H3 at s2 c ⊢;have nN:ps.length<=1000:=by rw[gE]at J;lia
   refine dD q xz ⟨_,az.of c⟩<|iH (n:=ps.length) (λi ys H'=>i<=ps.length/\H'=H3/\ys=(ps.take i).map λz=>V.bl<|vK z) (cI<|cU w0) (gQ (bJ _) xz xz) ?_ ?_ ?_ ?_ ?_
   .rintro i ys H' ⟨_,_,e⟩;rw[e,aS,gX];exact xl
   .rintro i ys H' hi ⟨_,rfl,_⟩;exact gw _ _ (az.of c)<|a8 hi
   .rintro ys H' ⟨_,rfl,_⟩;exact au _ (az.of c)<|aD _
   .rintro i ys H' hi ⟨_,rfl,e⟩ z gD ⟨O,R⟩;subst O;have p:=R _<|az.of c;refine oE (g z<|cu _<|cH p) λS U=>?_;have W:=sY s2 U;dsimp only[jz,iO];rw[ek rfl];refine vr xz<|⟨z,S,xz,W,hi,xz,?_⟩;rw[kN,p,fg,<-e];rfl
   .rintro ys H' ⟨_,rfl,e⟩;refine⟨?_,λr X=>?_⟩
    .rw[e,aS,gX];have:=cU (n:=ps.length) w0;lia
    have Y:ys=(ps.map vK).map V.bl:=by
     rw[e,jd<|aD _,qU];rfl
    refine dG r (ps.map vK) xz (aq.of<|by rw[ai,Y]) ?_;rw[yh];exact k _<|ax s2 X
end
def bA(S:Mc)(mv:Mv):Mc:=if mv.1="do" then zg S (mv.2.getD 0 0).toNat else tP S (mv.2.getD 0 0).toNat (mv.2.getD 1 0).toNat
def F9{mv:Mv}(h:mv∈dE S):(∃c:Nat,mv=(("do":cw),[(c:Int)])/\c<S.ck.length/\jQ S c=c_)\/(∃(c:Nat)(k:Ck)(n:Int),mv=(("carry":cw),[(c:Int),n])/\S.ck[c]?=a_ k/\n∈ju S.kd k.es):=by
 unfold dE at h;obtain h|h:=i6.mp h
 .left
  unfold uf at h;refine aJ (eR.mp h) λc b a=>?_;subst a;exact oA (pY.mp b) λh1 h2=>dD c xz (uU.mp h1) h2
 .right
  unfold AE yO at h;refine aJ (List.mem_flatMap.mp h) λa d hm=>?_;obtain⟨k,c⟩:=a;unfold Ih at hm;refine aJ (eR.mp hm) λn hn a=>?_;subst a;have b:S.ck[c]?=a_ k:=List.mem_zipIdx_iff_getElem?.mp d;exact⟨c,k,n,xz,b,hn⟩
def Vr{mv:Mv}(h:mv∈dE S):yg mv.1=true:=by
 obtain⟨c,rfl,_,_⟩|⟨c,k,n,rfl,_,_⟩:=F9 h
 .show yg "do"=c_;decide +kernel
 .show yg "carry"=c_;decide +kernel
def Wu(W:i5 S)(d:c<S.ck.length)(h:jQ S c=c_):∃k p s sz,S.ck[c]?=a_ k/\S.ps[c]?=a_ p/\p[k.pl]?=a_ s/\dq sz s:=by
 have a:S.ck[c]?=a_ S.ck[c]:=a8 d;refine eh (W.part a) λp b _ _ f=>?_;rw[Xr a b]at h;unfold qy at h;cases e:p[S.ck[c].pl]? with
 | none=>rw[e]at h;cases h
 | some s=>exact⟨_,p,s,_,a,b,e,f s<|cH e⟩
def aiJ(mv:Mv):∀x∈pj mv,∃T,ec H x=a_ T:=by
 intro x a;unfold pj at a;obtain e|e:=a9.mp a
 .rw[e];exact⟨_,xz⟩
 .refine aJ (eR.mp e) λi _ b=>?_;subst b;exact⟨_,xz⟩
def aiK{mv:Mv}(h:mv∈dE S):(pj mv).length<=1000:=by
 rcases F9 h with ⟨c,rfl,_⟩ | ⟨c,k,n,rfl,_⟩ <;> simp[pj]
section
variable{t:bj}{C CT:e_}{u:qF}
def Qa(t:bj)(C CT PT:e_):Sp:=λvs H Q _=>∃m A S p mv fT,vs=[.ref m,.ref p]/\bb t C CT H m A S/\lE fT m A/\i5 S/\zo S/\cx PT LP LQ H/\H p=a_ (.tup<|pj mv)/\mv∈dE S/\
 ∀H',bb t C CT H' m A (bA S mv)->aA (cY m A) H H'->cx PT LP LQ H'->Q .aH H'
def aj':bc [V_,aq3] [V_,aq3] (aR Qe):=bx
def tx(r:eM k A):A.units+65<cLine:=by have:=r.un;lia
def af7{K:u_}(h:bL (rO H) vs l):eU K H vs (l.map vJ):=Mz (F:=rO H) (λv a q=>by
 obtain⟨p,rfl,q⟩:=q;exact YA q) h
def aiD{f PT:e_}(F:aW K "do" "Machine.do" Qe f fd)(D:gC K C)
  (DF:Dp P w K mg fK 2 "has_form_of_move" [aq3] Yi)
  (DM:Mt P w K mg fK C 4 "moves" g0 (G8 t C CT PT))
  (DS:Mt P w K mg fK C 6 "do_step" gr (V7 t C CT PT))
  (DC:Mt P w K mg fK C 4 "carry" hJ (Nq t C CT PT)):aE P w K mg fK aL 7 f fd [V_,aq3] (Qa t C CT PT):=by
 refine F.ok aj' λaI A _ s H vs Q E r h=>?_
 .refine qV h λm A S p mv fT e M L W bg=>?_;subst e;obtain⟨X,yS,Y,v,q⟩:=bg;have nM:=r.mono (show 2<=6 by decide);have Z:=r.mono (show 4<=6 by decide);refine⟨_,aw (br (PW.pt<|pw_or (og<|gZ<|dP DF nM xz<|aa (pv 1) ag)<|pw_or1<|bR (Vm<|tx r) (pv 1) (oh (pv 0) D.cl DM Z) xz) Mj bQ)<|aB<|br (bR dm (aV dO (pv 1) ao) a7<|bG _) (aB<|dY<|ji (pv 0) D.cl DS r<|aa (aV dO (pv 1) ao) ag)<|aB<|dY<|ji (pv 0) D.cl DC Z<|aa (aV dO (pv 1) ao)<|aa (aV dO (pv 1) ao) ag,?_⟩;refine vr xz<|⟨p,_,xz,Y,(aiJ mv),(aiK v),(λH1 s1=>(au _ xz ?_))⟩;rw[ahe];have I:=M.same s1;refine dC (id I.obj) λdx fs hm G=>fq<|vr xz<|vM xz hm (G.ms _ dk) (oN m A S xz I W (fA yS s1) λH2 l vs J sH hn nN zJ=>?_);have o:=J.P6 _ _<|s1 _ _ Y;refine⟨l,vs,_,(⟨_,xz,(aq.of nN),(af7 zJ),(YA o),(Vp<|Vr v),(λd hd=>?_),(au _ xz ?_)⟩)⟩
  .refine aJ (eR.mp hd) λa ha e=>?_;subst e;exact Vp<|Vr ha
  rw[ek xz,ajl];have k02:=(aA.of s1).fC J
  .rw[eu v];refine fq ?_;have N:=I.wQ J;refine dC (id N.obj) λzZ nH mY G3=>?_;have kk:∀H',aA (cY m A) H2 H'->aA (cY m A) H H':=λH' k=>(k02.mono λb z=>z.elim).fC k;obtain⟨c,rfl,hc,QA⟩|⟨c,k,n,rfl,B,gV⟩:=F9 v
   .refine Dn (Wu W hc QA) λk pt st sz B e=>jm e λRO cO g=>lF (j:=0) xz o xz ⟨xz,⟨_,xz,bq (λ_=>?_) λy=>eo xz y⟩⟩;exact vM xz mY (G3.ms _ dk)<|lF (j:=1) xz o xz<|⟨m,A,S,c,k,pt,st,sz,fT,xz,N,L,W,X,(⟨sH,B,RO,cO,g,(λO R U V=>q O R (kk _ U) V)⟩)⟩
   .refine aJ (M.vC B) λx hx T=>aZ (Vy T.wf gV) λi hi e _=>?_;subst e;exact lF (j:=0) xz o xz ⟨xz,⟨_,xz,bq (λy=>eo (show ("carry":cw)="do" from Iq y) dk) λ_=>vM xz mY (G3.ms _ dk)<|lF (j:=1) xz o xz<|lF (j:=2) xz o xz<|⟨m,A,S,c,k,i,fT,xz,N,L,sH,B,gV,hi,(⟨W.bd,W.ov,X,(λO R U V=>q O R (kk _ U) V)⟩)⟩⟩⟩
end
structure xk(K:u_)(x qual:cw)(st:bM)(f:e_)(fd:ir)(d:cw):Prop where
 ex:∃(oc:f_)(od:Option e_)(T:e_)(kV doc pm:f_)(an:Option e_)(aI ct:f_)(jb:Array (Option f_))(c1:f_)(d1:Option e_)(n1:Nat)(uu:Array (Option f_))(tk:Nat),fd=B_ x qual (mw st) (fj st) (aR st) (.ref T) kV doc pm an aI ct/\K.lookup f=a_ ⟨oc,od,.func fd,jb⟩/\W.codeIn K aI qual=c_/\K.lookup T=a_ ⟨c1,d1,.seq #[.str d tk] n1,uu⟩
 kp:x_ K (.ref f)=c_
noncomputable def k0:Ck:=⟨0,0,[0,0,0,0],0,[]⟩
def eC(kd:cw)(ps:List Pt):Mc:=⟨kd,ps,ps.map λ_=>k0,dB 12 0,[],dB 12 []⟩
theorem LD{a b c:Type}{F:a->b->Prop}{y:b}:∀{l:List a}{r:List c},l.length=r.length->(∀x∈l,F x y)->bL F l (r.map λ_=>y)
 | [],[],_,_=>.nil
 | [],_::_,h,_=>by cases h
 | _::_,[],h,_=>by cases h
 | x::l,z::r,h,g=>.cons (g x<|by simp) (LD (by simpa using h) λx d=>g x<|cu _ d)
theorem UM{a b:Type}{F:a->b->Prop}{y:b}:∀{l:List a}{n:Nat},l.length=n->(∀x∈l,F x y)->bL F l (dB n y)
 | [],0,_,_=>.nil
 | [],_+1,h,_=>by cases h
 | _::_,0,h,_=>by cases h
 | x::l,n+1,h,g=>.cons (g x<|by simp) (UM (by simpa using h) λx c=>g x<|cu _ c)
def Zy:([T_,ap7]:List cw).Nodup:=dk
def HY:([ap7]:List cw).Nodup:=dk
def akw:([H_]:List cw).Nodup:=dk
def AD{a:Type}{l:List a}{x y:a}{i:Nat}(h:(l++[x])[i]?=a_ y):l[i]?=a_ y\/(i=l.length/\y=x):=by
 by_cases hi:i<l.length
 .left;rwa[Cj hi]at h
 .right
  rw[Cf li]at h
  by_cases e:i-l.length=0
  .rw[e]at h;simp at h;exact⟨li,h.fF⟩
  .rw[Cm (by simp;lia)]at h;cases h
def gd.nx(n:Nat)(h:gd H0 m H R)(d:H b=b_):∃c,gd H0 m (db H b o) c/\(∀a v,R a v->c a v)/\c b n:=⟨_,h.new (n:=n) d,λa v z=>.inl z,.inr ⟨xz,xz⟩⟩
def gd.nw(n:Nat)(h:gd H0 m H R)(d:H b=b_):∃H' c,H'=db H b o/\af H H'/\H' b=a_ o/\gd H0 m H' c/\(∀a v,R a v->c a v)/\c b n:=aZ (h.nx (o:=o) n d) λc a i r=>⟨_,c,xz,ax (af.refl _) d,ai,a,i,r⟩
def w9{fs:List (cw×V)}(x:cw)(v:V)(_:h m=a_ (.ins C dx fs))(a:fs.length<=k)(O:gd H m h R):∃f h',f=aN x v fs/\h'=db h m (.ins C dx f)/\f.length<=k+1/\bu m h h'/\h' m=a_ (.ins C dx f)/\gd H m h' R:=⟨_,_,xz,xz,cQ (qW x v fs)<|FA a,bu.db,ai,O.keep qX⟩
def gd.nxs(n:Nat)(B:e_->Prop)(h:gd H0 m H R)(k:∀b,H' b=b_->H b=b_)(d:∀b,B b->H b=b_)(e:∀b,B b->H' b≠b_):∃c,gd H0 m H' c/\(∀a v,R a v->c a v)/\∀b,B b->c b n:=⟨_,h.adds (n:=n) k d e,λa v z=>.inl z,λb z=>.inr ⟨z,xz⟩⟩
def bu.tup{fs:List (cw×V)}(k:bu m H H')(hm:H m=a_ (.ins C dx fs)):∀b xs,H b=a_ (.tup xs)->H' b=a_ (.tup xs):=λb xs e=>k.k b _ (λz=>by rw[z,hm]at e;cases e) e
def bu.lst{fs:List (cw×V)}(k:bu m H H')(hm:H m=a_ (.ins C dx fs))(e:H b=a_ (.lst xs)):H' b=a_ (.lst xs):=k.k b _ (λz=>by rw[z,hm]at e;cases e) e
def jN{fs a:List (cw×V)}(e:a=aN x v fs):a.lookup x=a_ v:=by rw[e,fJ,ek rfl]
def aF{fs a:List (cw×V)}(h:fs.lookup y=r)(e:a=aN x v fs)(n:y≠x):a.lookup y=r:=by rw[e,fJ,ei n];exact h
def WB{K:u_}{H h:Hp}{m C dx pg:e_}{fs:List (cw×V)}{c:cw}{d:List V}{ps:List Pt}{D:Ends}{σ:L2.St}{R:e_->Nat->Prop}{k:Nat}(n:Nat)(y:σ[0]?=a_ (a_<|.ref m))(A:σ[1]?=a_ (a_<|.ref pg))(f:h pg=a_ (.tup d))(M:d.length=ps.length)(h4:ps.length<=4)(hm:h m=a_ (.ins C dx fs))(cl:eO K C)(B:bp K C c)(N:fs.length<=k)(Q:k<900)(O:gd H m h R)(q:∀l h' g j,g=aN c (.ref l) fs->g.length<=k+1->h' m=a_ (.ins C dx g)->h' l=a_ (.lst<|ps.map λ_=>V.int 0)->bu m h h'->gd H m h' j->(∀a v,R a v->j a v)->j l n->D.nx σ h'):Qh K (nD 0) (OZ (ni K<|nD 1) (iO 0) jz (tC<|.int 0) [] 1) c D σ h:=by
 refine⟨_,A,pg,xz,⟨_,az.of f⟩,iH (n:=d.length) (λi ys H'=>i<=d.length/\H'=h/\ys=(ps.take i).map λ_=>V.int 0) (cI<|cU li) (gQ (bJ _) xz xz) ?_ ?_ ?_ ?_ ?_⟩
 .intro i ys H' b;obtain⟨_,_,e⟩:=b;rw[e,aS,gX];lia
 .intro i ys H' hi b;obtain⟨_,rfl,_⟩:=b;exact gw _ _ (az.of f)<|a8 hi
 .intro ys H' b;obtain⟨_,rfl,_⟩:=b;exact au _ (az.of f)<|aD _
 .intro i ys H' hi b z S E;obtain⟨_,rfl,e⟩:=b;obtain⟨F,T⟩:=E;subst F;dsimp only[jz,iO];rw[ek rfl];refine gQ hi xz ?_;rw[kN,a8 (show i<ps.length by lia),fg,<-e];rfl
 intro ys H' b;obtain⟨_,G,e⟩:=b;subst G;rw[jd li]at e;subst e;refine⟨by rw[aS];exact cI<|cU li,λl r=>?_⟩;have s1:af H' (db H' l<|.lst<|ps.map λ_=>V.int 0):=ax (af.refl _) r;have s:db H' l (.lst<|ps.map λ_=>V.int 0) l=a_ (.lst<|ps.map λ_=>V.int 0):=ai;obtain⟨I,t,J,L⟩:=O.nx (o:=.lst<|ps.map λ_=>V.int 0) n r;have p:=s1 _ _ hm;generalize db H' l (.lst<|ps.map λ_=>V.int 0)=v at s1 s t p ⊢;refine⟨_,y,m,C,dx,fs,xz,p,cl,B,li,?_⟩;have u:bu m v (db v m<|.ins C dx<|aN c (.ref l) fs):=bu.db;exact q l _ _ I xz (by have:=qW c (V.ref l) fs;lia) ai (u.lst p s) ((bu.of s1).fC u) (t.keep<|qX (H:=v) (x:=m)) J L
section
variable{t:bj}{C CT:e_}{u:qF}
def xk.ok{st:bM}{k:Nat}{sp:Sp}(F:xk K x qual st f fd d)(S:bc N ps (aR st))
  (b:∀(aI:f_)(A:h_)(outer:List Env)(s:g_)(H:Hp)(vs:List V)(Q:VK)(E:XK),eM k (A.deeper<|d8 qual (aR st) s.heap.objs.size f aI)->sp vs H Q E->
   ∃t,dM (gK aL P w K mg fK N qual (aR st) f aI A outer s H E).lH (fj st) t/\t {nx:=λ_ H'=>Q .aH H',rt:=Q} (start N vs) H) (len:∀vs H Q E,sp vs H Q E->vs.length=ps.length:=by intro _ _ _ _ h;(repeat obtain⟨_,h⟩:=h);subst_vars;rfl):aE P w K mg fK aL (k+1) f fd ps sp:=by
 refine qd F.ex λoc od T kV doc pm an aI ct jb a=>jw a λc1 d1 n1 uu tk a=>Iv a λa c e _=>?_;subst a;exact vy c e S len λA outer s H vs Q E g i=>aJ (b aI A outer s H vs Q E g i) λt h q=>au t h.lH q
def is3(h:us.length=3):∃a b c,us=[a,b,c]/\True:=by
 cases us with
 | nil=>cases h
 | cons a l=>
  cases l with
  | nil=>cases h
  | cons b l=>exact oE (Td.mp<|Cw<|Cw h) λc z=>⟨a,b,c,by rw[z],trivial⟩
def ahi(F:xk K M_ "Machine.__init__" Dg f fd ap9):dt K fd hA []:=by
 refine qd F.ex λoc od T kV doc pm an aI ct jb d=>jw d λc1 d1 n1 uu tk d=>Iv d λd i j g=>?_;subst d;intro s us h e;refine rE (is3<|by rw[pZ]at e;exact e) λa b c z _=>?_;subst z;exact W.binds_K h xz g xz xz xz
def G9(t:bj)(C CT:e_):Sp:=λvs H Q _=>∃m dx v ps kd,vs=[.ref m,v,.str kd]/\H m=a_ (.ins C dx [])/\jh H v ps/\lB ps/\(kd = ap9\/kd = H_\/kd = ap4)/\
 ∀H' A fT,bb t C CT H' m A (eC kd ps)->lE fT m A->v=.ref A.pg->bu m H H'->(∀b,cY m A b->b=m\/H b=b_)->Q .aH H'
def W9:bc hA hA (aR Dg):=bx
def afk{f:e_}{fd:ir}(F:xk K M_ "Machine.__init__" Dg f fd ap9)(r:gC K C)(T:qk K mg t)(vX:mg Z_ = b_)(jD:mg "range"=b_)(DK:Dp P w K mg fK 6 "look_over" gy W2)(DT:Dp P w K mg fK 3 "tray_of" [T_] (V2 CT))(DS:Dp P w K mg fK 5 "steps_of" [ap7] (Vc t)):aE P w K mg fK aL 7 f fd hA (G9 t C CT):=by
 refine aJ T.cn.names λuN mN rN=>aJ T.cn.eL λuR mR rR=>F.ok W9 λaI A _ s H vs Q E hr h=>?_
 .obtain⟨m,dx,v,ps,kd,ae,hm,hP,g,jq,q⟩:=h;subst ae;have qL:=hr.mono (show 3<=6 by decide);have hr5:=hr.mono (show 5<=6 by decide)
  refine let R1:TS:=_;let R2:TS:=_;let R3:TS:=_;let R4:TS:=_;let R5:TS:=_;let R6:TS:=_;let R7:TS:=_;let R8:TS:=_;let R9:TS:=_;let J:TS:=_;⟨_,aw (dY<|dP DK hr xz<|aa (pv 1) ag) (pR J (aw (dU (pv 0) (iu (N:=[T_,ap7]) (idx:=[2]) xz (dJ.of<|by kernel_rfl) (iG<|aD _) (vp<|pv 1) (λ_ _ _ _=>cW (i:=1) Zy xz (aP xz)<|.inr xz) (λ_ _ _ _=>gY)
     λ_ _ _ _=>dP DT qL xz<|aa (pv 0) ag) xz)
   (pR R9 (aw (dU (pv 0) (pv 1) xz) (pR R8 (aw (dU (pv 0) (pv 2) xz) (pR R7 (aw (dU (pv 0) (gu kR xz vX i8 (aa (iu (N:=[ap7]) (idx:=[]) xz (dJ.of<|by kernel_rfl) (iG<|bJ _) (vp<|pv 1) (λ_ _ _ _=>cW (i:=0) HY xz (aP xz)<|.inr xz) (λ_ _ _ _=>gY)
     λ_ _ _ _=>dP DS hr5 xz<|aa (pv 0) ag) ag)) xz)
   (pR R6 (aw (dU (pv 0) (iu (N:=[ap7]) (idx:=[]) xz (dJ.of<|by kernel_rfl) (iG<|bJ _) (vp<|pv 1) (λ_ _ _ _=>cW (i:=0) HY xz (aP xz)<|.inr xz) (λ_ _ _ _=>gY) λ_ _ _ _=>ao) xz)
   (pR R5 (aw (dU (pv 0) (iu (N:=[ap7]) (idx:=[]) xz (dJ.of<|by kernel_rfl) (iG<|bJ _) (vp<|pv 1) (λ_ _ _ _=>cW (i:=0) HY xz (aP xz)<|.inr xz) (λ_ _ _ _=>gY) λ_ _ _ _=>ao) xz)
   (pR R4 (aw (dU (pv 0) (iu (N:=[ap7]) (idx:=[]) xz (dJ.of<|by kernel_rfl) (iG<|bJ _) (vp<|pv 1) (λ_ _ _ _=>cW (i:=0) HY xz (aP xz)<|.inr xz) (λ_ _ _ _=>gY) λ_ _ _ _=>aG Yt (dh<|aa ao ag)<|gG xz mR rR) xz)
   (pR R3<|aw (dU (pv 0) (aG Yt (dh<|aa ao ag)<|gG xz mN rN) xz)<|pR R2<|aw (dU (pv 0) (dh ag) xz)<|pR R1<|aB<|dU (pv 0) (iu (N:=[H_]) (idx:=[]) xz (dJ.of<|by kernel_rfl) (iG<|bJ _) (oM xz jD<|aa (gG xz mN rN) ag) (λ_ _ _ _=>cW (i:=0) akw xz (aP xz)<|.inr xz) (λ_ _ _ _=>gY) λ_ _ _ _=>dh ag) xz))))))))))))))),?_⟩
  refine gf (id hP) λpg aY ae Y hpp=>?_;subst ae;refine vr xz (rm (.ref pg) ps xz hP g λH1 s1=>?_);have dA:=r_ hpp;have hle:=g.le;have npm:=hV Y hm (by intro z;cases z);have uG:=s1 _ _ hm;obtain⟨R0,o0,r0⟩:∃R,gd H m H1 R/\R m 2:=⟨λa v=>a=m/\v=2,⟨⟨λ_=>2,λa v z=>z.2.fF⟩,λa v z e=>(by rw[z.1,uG]at e;cases e),λa v z=>.inl z.1,λb z=>s1.free z⟩,xz,xz⟩
  have Em:V.str kd=.str ap9\/V.str kd=.str H_\/V.str kd=.str ap4:=by
   obtain e|e|e:=jq
   .exact .inl (by rw[e])
   .exact .inr (.inl<|by rw[e])
   .exact .inr (.inr<|by rw[e])
  refine au _ xz<|dD pg xz ⟨_,az.of<|s1 _ _ Y⟩<|iH (n:=aY.length) (λi ys H'=>i<=aY.length/\∃ts:List (e_×e_×List e_),ys=(ts.map λx=>V.ref x.1)/\ts.length=i/\af H1 H'/\(∀x∈ts,dQ H' x.1 CT kd 0 [] x.2.1 x.2.2)/\∃R,gd H m H' R/\(∀a v,R0 a v->R a v)/\∀j x,ts[j]?=a_ x->∀b∈x.1::x.2.1::x.2.2,R b<|28+6*j) (cI<|cU<|by exact w8) ⟨bJ _,⟨[],xz,xz,af.refl _,λx B=>(by cases B),R0,o0,λ_ _ z=>z,λj x z=>(by simp at z)⟩⟩ ?_ ?_ ?_ ?_ ?_
  .intro i ys H' c;obtain⟨_,ts,rfl,rfl,_⟩:=c;rw[aS];exact aD _
  .intro i ys H' hi c;obtain⟨_,ts,_,_,s2,_⟩:=c;exact gw _ _ (az.of<|(s1.fC s2) _ _ Y)<|a8 hi
  .intro ys H' c;obtain⟨_,ts,_,_,s2,_⟩:=c;exact au _ (az.of<|(s1.fC s2) _ _ Y)<|aD _
  .intro i ys H2 hi c z H3 r9;obtain⟨_,ts,rfl,rfl,s2,ht,R,o2,r2,r3⟩:=c;obtain⟨eH,eE⟩:=r9;subst eH;dsimp only[jz,iO];rw[ek rfl];refine vr xz (dD kd xz jq λH4 x q' qr T4 k4 gV=>?_);have s4:af H3 H4:=λb o e=>k4 b o (by simp) e
   obtain⟨R',o4,i4,n4⟩:=o2.nxs (28+6*ts.length) (λb=>b∈x::q'::qr) (λb z=>s4.free z) gV (λb D y=>by
    refine oE (T4.there b D) λo e=>?_;rw[e]at y;cases y)
   refine⟨hi,⟨ts++[(x,q',qr)],by rw[fg];rfl,by rw[dg];rfl,s2.fC s4,λy d=>?_,R',o4,λa v z=>i4 a v<|r2 a v z,λj y d b D=>?_⟩⟩
   .obtain d|d:=i6.mp d
    .exact(ht y d).keep (λb _ o e=>s4 b o e) λb xs e=>s4 b _ e
    .rw[c7.mp d];exact T4
   .obtain d|⟨e1,e2⟩:=AD d
    .exact i4 _ _ (r3 j y d b D)
    .subst e1;subst e2;exact n4 b D
  intro ys H2 c;obtain⟨_,ts,rfl,uz,s2,ht,R1,o2,i1,r1⟩:=c;refine⟨by rw[aS];exact cI<|cU (by exact wu),λlt JO=>eY (o2.nw (o:=.lst<|ts.map λx=>V.ref x.1) 4 JO) λH3 R2 e s3 eP o3 i2 r2=>?_⟩;rw[<-e];clear e;have mY:=s3 _ _<|s2 _ _ uG;have T3:=λx B=>(ht x B).keep (λb _ o e=>s3 b o e) λb xs e=>s3 b _ e;have K3:bu m H H3:=bu.of<|s1.fC<|s2.fC s3;refine vr xz<|kU m C dx ([]) xz mY r.cl r.gc qc (eY (w9 "trays" (V.ref lt) mY (aD 0) o3) λkG H4 lL e Sk k4 Kd o4=>?_);rw[<-lL,<-e];clear e;have K4:=K3.fC k4;refine au _ xz<|vr xz<|kU m C dx kG xz Kd r.cl r.program (by exact wb) (eY (w9 "program" (V.ref pg) Kd Sk o4) λnQ H5 kI e Sj k5 hm5 o5=>?_);rw[<-kI,<-e];clear e;have K5:=K4.fC k5;refine au _ xz<|vr xz<|kU m C dx nQ xz hm5 r.cl r.kind (by exact wb) (eY (w9 T_ (V.str kd) hm5 Sj o5) λnH H6 jW e Si k6 hm6 o6=>?_);rw[<-jW,<-e];clear e;have K6:=K5.fC k6;have IK:=K6.tup hm _ _ Y;refine au _ xz<|dD pg xz ⟨_,az.of IK⟩<|iH (n:=aY.length) (λi ys H'=>i<=aY.length/\af H6 H'/\bL (AL t H') ys (ps.take i)) (cI<|cU<|by exact w8) (gQ (bJ _) (af.refl _) .nil) ?_ ?_ ?_ ?_ ?_
  .intro i ys H' c;obtain⟨_,_,e⟩:=c;rw[r_ e,gX];exact xl
  .intro i ys H' hi c;obtain⟨_,s,_⟩:=c;exact gw _ _ (az.of<|s _ _ IK)<|a8 hi
  .intro ys H' c;obtain⟨_,s,_⟩:=c;exact au _ (az.of<|s _ _ IK)<|aD _
  .intro i ys H' hi c z U r9;obtain⟨_,s7,e⟩:=c;obtain⟨eH,eE⟩:=r9;subst eH;have hz:=eE _<|az.of<|s7 _ _ IK;refine aJ (tf hpp hz) λp hp hI=>oA (g.part p<|cH hp) λg1 g2=>?_;dsimp only[jz,iO];rw[ek rfl];refine vr xz<|⟨z,p,xz,((hI.keep<|K6.tup hm).keep λb xs e=>s7 _ _ e),g1,g2,(λH8 b us Z nb D BU=>⟨hi,s7.fC Z,?_⟩)⟩;rw[kN,hp];exact LC ⟨b,us,xz,D,BU⟩ (Paired.cq e λ_ _ q=>q.keep (λb xs e=>Z _ _ e) λb C dx fs e _=>Z _ _ e)
  intro ys H7 c;obtain⟨_,s7,e7⟩:=c;have am':=r_ e7;rw[gX]at am';rw[jd li]at e7;refine⟨cI<|cU li,λr7 nr7=>⟨r7,ys,xz,.inl ⟨aq.of ai,λst BP=>?_⟩⟩⟩;have Z:af H7 (db (db H7 r7<|.lst ys) st<|.tup ys):=ax (ax (af.refl _) nr7) BP;have cO:db (db H7 r7<|.lst ys) st (.tup ys) st=a_ (.tup ys):=ai;generalize db (db H7 r7<|.lst ys) st (.tup ys)=H8 at Z cO ⊢;have hs8:bL (AL t H8) ys ps:=Paired.cq e7 λ_ _ q=>q.keep (λb xs e=>Z _ _ e) λb C dx fs e _=>Z _ _ e;have JF:=s7.fC Z;have EW:=JF _ _ hm6;have o8:=o6.keep (λb z=>JF.free z);have K8:=K6.fC<|bu.of JF;refine vr xz<|kU m C dx nH xz EW r.cl r.steps (by exact wb) (eY (w9 "steps" (V.ref st) EW Si o8) λfs4 H9 lK e Sh k9 hm9 o9=>?_);rw[<-lK,<-e];clear e;have K9:=K8.fC k9;have am1:=K9.tup hm _ _ Y;refine WB (ps:=ps) 6 xz xz am1 dA hle hm9 r.cl r.places Sh qc o9 λpl H11 fs5 R3 lJ Sg aaS Sz k10 o11 i10 r10=>?_;have K11:=K9.fC k10;have alw:=K11.tup hm _ _ Y;refine WB (ps:=ps) 8 xz xz alw dA hle aaS r.cl r.counts Sg qc o11 λct H13 fs6 R4 jH Sf aaR hct k12 o13 i12 r12=>?_;have K13:=K11.fC k12;have PV:=K13.tup hm _ _ Y;refine au _ xz<|dD pg xz ⟨_,az.of PV⟩<|iH (n:=aY.length) (λi ys H'=>i<=aY.length/\∃rs:List e_,ys=rs.map V.ref/\rs.length=i/\af H13 H'/\(∀a∈rs,H' a=a_ (.lst<|([0,0,0,0]:List Int).map V.int))/\∃R,gd H m H' R/\(∀a v,R4 a v->R a v)/\∀(j:Nat)a,rs[j]?=a_ a->R a (24+6*j)) (cI<|cU<|by exact w8) ⟨bJ _,⟨[],xz,xz,af.refl _,λx B=>(by cases B),R4,o13,λ_ _ z=>z,λj x z=>(by simp at z)⟩⟩ ?_ ?_ ?_ ?_ ?_
  .intro i ys H' c;obtain⟨_,rs,rfl,rfl,_⟩:=c;rw[aS];exact aD _
  .intro i ys H' hi c;obtain⟨_,rs,_,_,s,_⟩:=c;exact gw _ _ (az.of<|s _ _ PV)<|a8 hi
  .intro ys H' c;obtain⟨_,rs,_,_,s,_⟩:=c;exact au _ (az.of<|s _ _ PV)<|aD _
  .intro i ys H' hi c z U r9;obtain⟨_,rs,rfl,rfl,s,pK,R,oR,iR,Rh⟩:=c;obtain⟨eH,eE⟩:=r9;subst eH;dsimp only[jz,iO];rw[ek rfl];refine⟨qc,λy ny=>⟨y,4,_,xz,xz,ai,qc,qc,qc,λx nx=>?_⟩⟩;have sy:af U (db U y<|.lst [.int 0]):=ax (af.refl _) ny;have oy:=oR.keep (λb z=>sy.free z);refine aZ (oy.nx (o:=.lst<|([0,0,0,0]:List Int).map V.int) (24+6*rs.length) nx) λR' o' i' r'=>?_;have sx:af U (db (db U y<|.lst [.int 0]) x<|.lst<|([0,0,0,0]:List Int).map V.int):=ax sy nx;have B:db (db U y<|.lst [.int 0]) x (.lst<|([0,0,0,0]:List Int).map V.int) x=a_ (.lst<|([0,0,0,0]:List Int).map V.int):=ai;refine⟨hi,⟨rs++[x],by rw[fg];rfl,by rw[dg];rfl,s.fC sx,λy d=>?_,R',o',λa v z=>i' a v<|iR a v z,λj y d=>?_⟩⟩
   .obtain d|d:=i6.mp d
    .exact sx _ _ (pK y d)
    .rw[c7.mp d];exact B
   .obtain d|⟨e1,e2⟩:=AD d
    .exact i' _ _ (Rh j y d)
    .subst e1;subst e2;exact r'
  intro ys H14 c;obtain⟨_,rs,rfl,am8,vQ,pK,R5,o14,i14,r14⟩:=c;refine⟨by rw[aS];exact cI<|cU (by exact wu),λrg JN=>eY (o14.nw (o:=.lst<|rs.map V.ref) 10 JN) λH15 R6 e JK jD o15 i15 r15=>?_⟩;rw[<-e];clear e;have IP:=JK _ _<|vQ _ _ aaR;have amW:=λa ha=>JK _ _<|pK a ha;have K15:=K13.fC<|bu.of<|vQ.fC JK;refine vr xz<|kU m C dx fs6 xz IP r.cl r.eL (by exact wb) (eY (w9 "regs" (V.ref rg) IP Sf o15) λfs7 Cd X e Se k16 am7 o16=>?_);rw[<-X,<-e];clear e;have K16:=K15.fC k16;refine⟨qc,λy ny=>⟨y,12,_,xz,xz,ai,qc,qc,qc,λce nce=>?_⟩⟩;have sy:af Cd (db Cd y<|.lst [.int 0]):=ax (af.refl _) ny;have oy:=o16.keep (λb z=>sy.free z);refine aZ (oy.nx (o:=.lst<|(dB 12 (0:Int)).map V.int) 12 nce) λR7 o17 i17 r17=>?_;have JJ:af Cd (db (db Cd y<|.lst [.int 0]) ce<|.lst<|(dB 12 (0:Int)).map V.int):=ax sy nce;have xT:db (db Cd y<|.lst [.int 0]) ce (.lst<|(dB 12 (0:Int)).map V.int) ce=a_ (.lst<|(dB 12 (0:Int)).map V.int):=ai;rw[show (dB (12:Int).toNat [V.int 0]).flatten=(dB 12 (0:Int)).map V.int from rfl];generalize db (db Cd y<|.lst [.int 0]) ce (.lst<|(dB 12 (0:Int)).map V.int)=H17 at JJ xT o17 ⊢;have QC:=JJ _ _ am7;have K17:=K16.fC<|bu.of JJ;refine vr xz<|kU m C dx fs7 xz QC r.cl r.cells (by exact wb) (eY (w9 "cells" (V.ref ce) QC Se o17) λfs8 H18 W e Sd k18 am6 o18=>?_);rw[<-W,<-e];clear e;have K18:=K17.fC k18;refine⟨qc,λac nac=>eY (o18.nw (o:=.lst []) 14 nac) λH19 R8 e Rb sG o19 i19 r19=>?_⟩;rw[<-e];clear e;have QB:=Rb _ _ am6;have K19:=K18.fC<|bu.of Rb;refine vr xz<|kU m C dx fs8 xz QB r.cl r.jl (by exact wb) (eY (w9 "acts" (V.ref ac) QB Sd o19) λfs9 H20 O e Sb k20 am5 o20=>?_);rw[<-O,<-e];clear e;have K20:=K19.fC k20;refine⟨12,xz,qc,qc,?_⟩;rw[show (12:Int).toNat=12 from rfl];refine iH (n:=12) (λi ys H'=>i<=12/\∃rs:List e_,ys=rs.map V.ref/\rs.length=i/\af H20 H'/\(∀a∈rs,H' a=a_ (.lst<|([]:List Int).map V.int))/\∃R,gd H m H' R/\(∀a v,R8 a v->R a v)/\∀(j:Nat)a,rs[j]?=a_ a->R a (26+6*j)) (cI<|cU li) ⟨bJ _,⟨[],xz,xz,af.refl _,λx B=>(by cases B),R8,o20,λ_ _ z=>z,λj x z=>(by simp at z)⟩⟩ ?_ ?_ ?_ ?_ ?_
  .intro i ys H' c;obtain⟨_,rs,rfl,rfl,_⟩:=c;rw[aS];exact aD _
  .intro i ys H' hi c;obtain⟨_,rs,_,_,s,_⟩:=c;exact hi
  .intro ys H' c;obtain⟨_,rs,_,_,s,_⟩:=c;exact aD _
  .intro i ys H' hi c z U r9;obtain⟨_,rs,rfl,rfl,s,pK,R,oR,iR,Rh⟩:=c;obtain⟨eH,eE⟩:=r9;subst eH;dsimp only[jz,iO];rw[ek rfl];refine⟨qc,λx nx=>aZ (oR.nx (o:=.lst<|([]:List Int).map V.int) (26+6*rs.length) nx) λR' o' i' r'=>?_⟩;have sx:af U (db U x<|.lst<|([]:List Int).map V.int):=ax (af.refl _) nx;have B:db U x (.lst<|([]:List Int).map V.int) x=a_ (.lst<|([]:List Int).map V.int):=ai;refine⟨hi,⟨rs++[x],by rw[fg];rfl,by rw[dg];rfl,s.fC sx,λy d=>?_,R',o',λa v z=>i' a v<|iR a v z,λj y d=>?_⟩⟩
   .obtain d|d:=i6.mp d
    .exact sx _ _ (pK y d)
    .rw[c7.mp d];exact B
   .obtain d|⟨e1,e2⟩:=AD d
    .exact i' _ _ (Rh j y d)
    .subst e1;subst e2;exact r'
  intro ys H21 c;obtain⟨_,cs,rfl,aaT,Ra,B',R9,o21,i21,r21⟩:=c;refine⟨by rw[aS];exact cI<|cU (by exact w6),λcm JP=>eY (o21.nw (o:=.lst<|cs.map V.ref) 16 JP) λH22 J e JI hcm o22 i22 r22=>?_⟩;rw[<-e];clear e;have IM:=JI _ _<|Ra _ _ am5;have ang:=λa ha=>JI _ _<|B' a ha;have K22:=K20.fC<|bu.of<|Ra.fC JI;refine vr xz<|kU m C dx fs9 xz IM r.cl r.lR (by exact wb) (eY (w9 "comers" (V.ref cm) IM Sb o22) λaaZ Kw G e apm JS am4 S=>?_);rw[<-G,<-e];clear e;have K23:=K22.fC JS;have n20:=(bu.of (m:=m)<|Ra.fC JI).fC JS;have n19:=k20.fC n20;have n18:=(bu.of (m:=m) Rb).fC n19;have n17:=k18.fC n18;have n16:=(bu.of (m:=m) JJ).fC n17;have EJ:=k16.fC n16;have n13:=(bu.of (m:=m)<|vQ.fC JK).fC EJ;have JQ:=k12.fC n13;have n9:=k10.fC JQ;have n8:=k9.fC n9;have n6:=(bu.of (m:=m) JF).fC n8;have n3:=k4.fC<|k5.fC<|k6.fC n6;have j9:=i22;have j8:∀a v,R8 a v->J a v:=λa v z=>j9 _ _<|i21 _ _ z;have j7:∀a v,R7 a v->J a v:=λa v z=>j8 _ _<|i19 _ _ z;have j6:∀a v,R6 a v->J a v:=λa v z=>j7 _ _<|i17 _ _ z;have j5:∀a v,R5 a v->J a v:=λa v z=>j6 _ _<|i15 _ _ z;have j4:∀a v,R4 a v->J a v:=λa v z=>j5 _ _<|i14 _ _ z;have j3:∀a v,R3 a v->J a v:=λa v z=>j4 _ _<|i12 _ _ z;have j2:∀a v,R2 a v->J a v:=λa v z=>j3 _ _<|i10 _ _ z;have j1:∀a v,R1 a v->J a v:=λa v z=>j2 _ _<|i2 _ _ z;have j0:∀a v,R0 a v->J a v:=λa v z=>j1 _ _<|i1 _ _ z;refine oE S.l λfT I=>?_;have lm:=I _ _<|j0 _ _ r0;have tk:=aF (aF (jN lL) kI dk) jW dk;have amS:ts.length=ps.length:=by exact wo
  have jT:rs.length=ps.length:=by exact wo
  have no:∀x∈jM,aaZ.lookup x=none:=by
   intro x B
   have n:∀y∈(["trays","program",T_,"steps","places","counts","regs","cells","acts","comers"]:List cw),x≠y:=by
    intro y d e;subst e
    revert B
    revert x
    decide +kernel
   have hn:([]:List (cw×V)).lookup x=none:=rfl;exact aF (aF (aF (aF (aF (aF (aF (aF (aF (aF hn lL<|n _<|by simp) kI<|n _<|by simp) jW<|n _<|by simp) lK<|n _<|by simp) lJ<|n _<|by simp) jH<|n _<|by simp) X<|n _<|by simp) W<|n _<|by simp) O<|n _<|by simp) G<|n _ (by simp)
  have M:bb t C CT Kw m ⟨lt,ts,pg,st,pl,ct,rg,rs,ce,ac,cm,cs⟩ (eC kd ps):=by
   refine⟨⟨dx,aaZ,am4,⟨aF (aF (aF (aF (aF (aF (aF (aF (aF (jN lL) kI dk) jW dk) lK dk) lJ dk) jH dk) X dk) W dk) O dk) G dk,aF (aF (aF (aF (aF (aF (aF (aF (jN kI) jW dk) lK dk) lJ dk) jH dk) X dk) W dk) O dk) G dk,aF (aF (aF (aF (aF (aF (aF (jN jW) lK dk) lJ dk) jH dk) X dk) W dk) O dk) G dk,aF (aF (aF (aF (aF (aF (jN lK) lJ dk) jH dk) X dk) W dk) O dk) G dk,aF (aF (aF (aF (aF (jN lJ) jH dk) X dk) W dk) O dk) G dk,aF (aF (aF (aF (jN jH) X dk) W dk) O dk) G dk,aF (aF (aF (jN X) W dk) O dk) G dk,aF (aF (jN W) O dk) G dk,aF (jN O) G dk,jN G,no,by exact w4⟩⟩,n3.lst mY eP,?_,hP.keep<|K23.tup hm,⟨ys,n8.tup EW _ _ cO,?_⟩,?_,?_,EJ.lst IP jD,?_,n17.lst QC xT,⟨[],n19.lst QB sG,.nil⟩,JS.lst IM hcm,?_⟩
   .refine LD amS λx B=>(T3 x B).keep (λb D o e=>n3.k b o (λz=>?_) e)<|n3.tup mY;refine oE (Ac B) λj hj=>?_;have:=I _ _<|j1 _ _<|r1 j x hj b D;rw[z,lm]at this;exact wk
   .refine Paired.cq hs8 λ_ _ q=>q.keep (n8.tup EW) λb C' Fo nR e h=>n8.k b _ (λz=>?_) e;refine rE h λx us v e1 e2=>?_;rw[z,EW]at e;cases e;rw[e2,C7 "trays" dk]at tk;cases tk
   .have h:=JQ.lst aaS Sz;rw[h];show _=a_ (HO.lst<|(ps.map λ_=>k0).map λk=>V.int (k.pl:Nat));rw[qU];rfl
   .have h:=n13.lst aaR hct;rw[h];show _=a_ (HO.lst<|(ps.map λ_=>k0).map λk=>V.int (k.ct:Nat));rw[qU];rfl
   .exact LD (F:=λa(k:Ck)=>Kw a=a_ (.lst<|k.rg.map V.int)) (y:=k0) jT λa ha=>EJ.lst IP<|amW a ha
   .exact UM (F:=λa(o:List Int)=>Kw a=a_ (.lst<|o.map V.int)) (y:=[]) aaT λa ha=>JS.lst IM<|ang a ha
  have L:lE fT m ⟨lt,ts,pg,st,pl,ct,rg,rs,ce,ac,cm,cs⟩:=⟨lm,I _ _<|j2 _ _ r2,I _ _<|j3 _ _ r10,I _ _<|j4 _ _ r12,I _ _<|j6 _ _ r15,I _ _<|j7 _ _ r17,I _ _<|j8 _ _ r19,I _ _ r22,λi a z=>I _ _<|j5 _ _<|r14 i a z,λi a z=>I _ _<|j9 _ _<|r21 i a z,λi x z b D=>I _ _<|j1 _ _<|r1 i x z b D⟩;refine q Kw _ fT M L xz K23 λb D=>?_;cases D with
  | m=>exact .inl xz
  | lt=>exact S.f _ _<|j2 _ _ r2
  | pl=>exact S.f _ _<|j3 _ _ r10
  | ct=>exact S.f _ _<|j4 _ _ r12
  | rg=>exact S.f _ _<|j6 _ _ r15
  | ce=>exact S.f _ _<|j7 _ _ r17
  | ac=>exact S.f _ _<|j8 _ _ r19
  | cm=>exact S.f _ _ r22
  | rs h=>
   refine oE (Ac h) λj hj=>?_;exact S.f _ _<|j5 _ _<|r14 j _ hj
  | cs h=>
   refine oE (Ac h) λj hj=>?_;exact S.f _ _<|j9 _ _<|r21 j _ hj
  | ts h h2=>
   refine oE (Ac h) λj hj=>?_;exact S.f _ _<|j1 _ _<|r1 j _ hj _ h2
end
structure oz(n:Nat)(S:Mc):Prop where
 wf:i5 S
 ac:S.ac.length<=n
 ov:∀o∈S.ov,o.length<=n
def oz.ovf(W:oz n S)(h:n<=16000):zo S:=λo a=>cQ (W.ov o a) h
structure rZ(n:Nat)(S S':Mc)(c:Nat)(k k':Ck):Prop where
 ck:S'.ck=S.ck.set c k'
 ps:S'.ps=S.ps
 kd:S'.kd=S.kd
 rg:k'.rg.length=k.rg.length
 bd:S'.bd.length=S.bd.length
 Jh:S'.ov.length=S.ov.length
 Jp:S.ac.length<=S'.ac.length
 Jo:S'.ac.length<=S.ac.length+1
 es:k'.es.length<=S'.ac.length
 ov:∀o∈S'.ov,o.length<=n+1
def agS(W:oz n S)(i:Nat):(S.ov.getD i []).length<=n:=by
 cases h:S.ov[i]? with
 | none=>rw[nS,h];exact bJ _
 | some o=>rw[nS,h];exact W.ov o<|cH h
def Ys(W:oz n S):∀o∈S.ov.set i (S.ov.getD i []++[d]),o.length<=n+1:=by
 intro o a;obtain h|h:=SU a
 .exact uQ (W.ov o h)
 .rw[h,dg];exact FA<|agS W i
def Pl(W:oz n S):∀o∈S.ov,o.length<=n+1:=λo a=>uQ<|W.ov o a
def af3(es:List gl)(n:Int):(tY es n).length<=es.length:=List.length_eraseP_le
def adV{a:Type}{l:List a}{c:Nat}{k:a}(h:l[c]?=a_ k):l.set c k=l:=by
 refine oE (dX.mp h) λb e=>?_;rw[<-e];exact List.set_getElem_self b
section
variable{S:Mc}{n c:Nat}{k:Ck}
def WD(W:oz n S)(a:S.ck[c]?=a_ k):rZ n S S c k k:=⟨(adV a).fF,xz,xz,xz,xz,xz,aD _,jf _,W.wf.es k<|cH a,Pl W⟩
def Hj(h:rZ n S S' c k k')(a:c<S.ck.length)(r:Nat)(v:Int):rZ n S (jA S' c r v) c k {k' with rg:=k'.rg.set r v}:=by
 have e:S'.ck[c]?=a_ k':=by rw[h.ck];exact nU a
 rw[Oi e];exact⟨by show S'.ck.set c _=_;rw[h.ck,LJ],h.ps,h.kd,by show (k'.rg.set r v).length=_;rw[oG];exact h.rg,h.bd,h.Jh,h.Jp,h.Jo,h.es,h.ov⟩
def Vz(W:oz n S)(h:rZ n S S' c k k')(b:S'.ov=S.ov)(f:c<S.ck.length)(i:Nat):∃a,rZ n S (tP S' c i) c k a/\a.pl=k'.pl/\a.ct=k'.ct:=by
 have e:S'.ck[c]?=a_ k':=by rw[h.ck];exact nU f
 unfold tP;rw[e];dsimp only;cases (cD k'.es i).head? with
 | none=>exact⟨k',h,xz,xz⟩
 | some x=>
  refine dD ({k' with es:=tY k'.es i}) ⟨by show S'.ck.set c _=_;rw[h.ck,LJ],h.ps,h.kd,h.rg,?_,?_,h.Jp,h.Jo,cQ (af3 _ _) h.es,?_⟩ xz xz
  .show (S'.bd.set i x.num).length=_;rw[oG];exact h.bd
  .show (S'.ov.set i<|S'.ov.getD i []++[x.d]).length=_;rw[oG];exact h.Jh
  .show ∀o∈S'.ov.set i (S'.ov.getD i []++[x.d]),o.length<=n+1;rw[b];exact Ys W
def ahD{sz:Nat}(W:oz n S)(g:dq sz s)(a:S.ck[c]?=a_ k):∃k',rZ n S (dv S c s) c k k'/\k'.pl=k.pl/\k'.ct=k.ct:=by
 have f:c<S.ck.length:=(dX.mp a).1;have b:=WD W a;cases g with
 | put r m h1 h2=>exact⟨_,Hj b f _ _,xz,xz⟩
 | add r o h1 h2=>
  have e:dv S c (Q_,[r,o])=jA S c r ((k.rg.getD r 0+k.rg.getD o 0)%dH):=by
   unfold dv;rw[ei (show ¬(Q_ : cw) = S_ from dk),ek xz,a];rfl
  rw[e];exact dD _ (Hj b f _ _) xz xz
 | set i r h1 h2=>
  have e:dv S c (U_,[i,r])=setM S c i r:=by kernel_rfl
  rw[e];unfold setM;rw[a];dsimp only
  have d:rZ n S (jR (Bn S c i k<|k.rg.getD r 0) ⟨U_,c,i,b_,a_<|k.rg.getD r 0,b_⟩) c k {k with tn:=k.tn+1,es:=k.es++[⟨k.tn,i,k.rg.getD r 0,S.ac.length⟩]}:=by
   refine⟨xz,xz,xz,xz,xz,xz,?_,?_,?_,λo h=>Pl W o h⟩
   .show S.ac.length<=(S.ac++[_]).length;rw[dg];exact Lg _ _
   .show (S.ac++[_]).length<=_;rw[dg];exact aD _
   .show (k.es++[_]).length<=(S.ac++[_]).length;rw[dg,dg];exact FA<|W.wf.es k<|cH a
  split
  .refine aZ (Vz W d xz f i) λj l p t=>?_;exact dD j l p t
  .exact dD _ d xz xz
 | look r i h1 h2=>
  have e:dv S c (L_,[r,i])=jA (jR S ⟨L_,c,i,a_ (eK S k i).1,b_,(eK S k i).2⟩) c r (eK S k i).1:=by
   unfold dv;rw[ei (show ¬(L_ : cw) = S_ from dk),ei (show ¬(L_ : cw) = Q_ from dk),ei (show ¬(L_ : cw) = U_ from dk),ek rfl];show tU S c r i=_;unfold tU;rw[a]
  rw[e]
  have d:rZ n S (jR S ⟨L_,c,i,a_ (eK S k i).1,b_,(eK S k i).2⟩) c k k:=by
   refine⟨b.ck,xz,xz,xz,xz,xz,?_,?_,?_,λo h=>Pl W o h⟩
   .show S.ac.length<=(S.ac++[_]).length;rw[dg];exact Lg _ _
   .show (S.ac++[_]).length<=_;rw[dg];exact aD _
   .show k.es.length<=(S.ac++[_]).length;rw[dg];exact uQ<|W.wf.es k<|cH a
  exact dD _ (Hj d f _ _) xz xz
 | swap r i h1 h2=>
  have e:dv S c (I_,[r,i])=jA (jR (tJ S i (k.rg.getD r 0) S.ac.length) ⟨I_,c,i,a_<|S.bd.getD i 0,a_<|k.rg.getD r 0,(S.ov.getD i []).getLast?⟩) c r (S.bd.getD i 0):=by
   unfold dv;rw[ei (show ¬(I_ : cw) = S_ from dk),ei (show ¬(I_ : cw) = Q_ from dk),ei (show ¬(I_ : cw) = U_ from dk),ei (show ¬(I_ : cw) = L_ from dk),ek rfl];show vw S c r i=_;unfold vw;rw[a]
  rw[e]
  have d:rZ n S (jR (tJ S i (k.rg.getD r 0) S.ac.length) ⟨I_,c,i,a_<|S.bd.getD i 0,a_<|k.rg.getD r 0,(S.ov.getD i []).getLast?⟩) c k k:=by
   refine⟨b.ck,xz,xz,xz,?_,?_,?_,?_,?_,?_⟩
   .show (S.bd.set i _).length=_;rw[oG]
   .show (S.ov.set i _).length=_;rw[oG]
   .show S.ac.length<=(S.ac++[_]).length;rw[dg];exact Lg _ _
   .show (S.ac++[_]).length<=_;rw[dg];exact aD _
   .show k.es.length<=(S.ac++[_]).length;rw[dg];exact uQ<|W.wf.es k<|cH a
   .exact Ys W
  exact dD _ (Hj d f _ _) xz xz
 | clear=>
  have e:dv S c (N_,[])=S:=by kernel_rfl
  rw[e];exact dD k b xz xz
 | skip r q h1 h2 h3=>
  have e:dv S c (J_,[r,q])=S:=by kernel_rfl
  rw[e];exact dD k b xz xz
def YM(W:oz n S)(hn:n<15000)(h:rZ n S S' c k k')(d:S.ck[c]?=a_ k)(f:∀p,S.ps[c]?=a_ p->k'.pl<=p.length):oz (n+1) S':=by
 have j:=W.ac;have h2:=h.Jo;have h1:=h.Jp;have g:c<S.ck.length:=(dX.mp d).1;refine⟨⟨by rw[h.ps];exact W.wf.good,by rw[h.ck,oG,h.ps];exact W.wf.len,by rw[h.bd];exact W.wf.bd,by rw[h.Jh];exact W.wf.ov,?_,?_,li,?_⟩,li,h.ov⟩
 .intro x a;rw[h.ck]at a;obtain y|y:=SU a
  .exact W.wf.rg x y
  .rw[y,h.rg];exact W.wf.rg k<|cH d
 .intro i x p a b;rw[h.ps]at b;rw[h.ck]at a
  by_cases e:c=i
  .subst e;rw[nU g]at a;cases a;exact f p b
  .rw[Cp e]at a;exact W.wf.pl i x p a b
 .intro x a;rw[h.ck]at a;obtain y|y:=SU a
  .exact cQ (W.wf.es x y) h1
  .rw[y];exact h.es
def aeC{s:Tl}{rg:List Int}{pl:Nat}{p:Pt}(g:dq p.length s)(h:pl<p.length):jv s rg pl<=p.length:=by
 unfold jv
 split
 .rename_i hs
  cases g with
  | skip r q h1 h2 h3=>exact h2
  | put=>exact eo (show ("put":cw)="skip" from hs.1) dk
  | add=>exact eo (show ("add":cw)="skip" from hs.1) dk
  | set=>exact eo (show ("set":cw)="skip" from hs.1) dk
  | look=>exact eo (show ("look":cw)="skip" from hs.1) dk
  | swap=>exact eo (show ("swap":cw)="skip" from hs.1) dk
  | clear=>exact eo (show ("clear":cw)="skip" from hs.1) dk
 .exact h
def ahh{mv:Mv}(W:oz n S)(hn:n<15000)(h:mv∈dE S):oz (n+1) (bA S mv)/\(bA S mv).kd=S.kd/\(bA S mv).ps=S.ps/\(bA S mv).ck.length=S.ck.length:=by
 obtain⟨c,rfl,d,r⟩|⟨c,k,i,rfl,a,z⟩:=F9 h
 .obtain⟨k,p,s,_,a,b,hs,_⟩:=Wu W.wf d r;refine eh (W.wf.part a) λl m _ _ t=>?_;have u:l=p:=by rw[b]at m;exact(eG m).fF
  subst u;have g:=t s<|cH hs;refine aZ (ahD W g a) λk' f j v=>?_
  have e:bA S ("do",[(c:Int)])=yJ (dv S c s) c s:=by
   unfold bA;rw[ek rfl];show zg S ((c:Int)).toNat=_;rw[mh];unfold zg;rw[a,b];dsimp only;rw[hs]
  rw[e];have x:(dv S c s).ck[c]?=a_ k':=by rw[f.ck];exact nU d
  have y:k.pl<l.length:=(dX.mp hs).1
  have F:rZ n S (yJ (dv S c s) c s) c k {k' with pl:=jv s k'.rg k'.pl,ct:=k'.ct+1}:=by
   unfold yJ;rw[x];exact⟨by show (dv S c s).ck.set c _=_;rw[f.ck,LJ],f.ps,f.kd,f.rg,f.bd,f.Jh,f.Jp,f.Jo,f.es,f.ov⟩
  refine⟨YM W hn F a λq o=>?_,F.kd,F.ps,by rw[F.ck,oG]⟩;rw[b]at o;cases o;exact aeC g (by rw[j];exact y)
 .have d:c<S.ck.length:=(dX.mp a).1
  have e:bA S ("carry",[(c:Int),i])=tP S c i.toNat:=by
   unfold bA;rw[ei (show ¬("carry":cw)="do" from dk)];show tP S ((c:Int)).toNat _=_;rw[mh];rfl
  rw[e];refine aZ (Vz W (WD W a) xz d i.toNat) λA f j v=>?_;exact⟨YM W hn f a λp b=>by rw[j];exact W.wf.pl c k p a b,f.kd,f.ps,by rw[f.ck,oG]⟩
end
def aiG(g:lB ps):oz 0 (eC kd ps):=by
 refine⟨⟨g,by show (ps.map _).length=_;rw[aS];rfl,by show (dB 12 (0:Int)).length=12;rfl,by show (dB 12 ([]:List Int)).length=12;rfl,?_,?_,bJ _,?_⟩,aD _,?_⟩
 .intro k a;refine aJ (eR.mp a) λ_ _ b=>?_;subst b;rfl
 .intro c k p a e;have:k∈(ps.map λ_=>k0):=cH a;refine aJ (eR.mp this) λ_ _ b=>?_;subst b;exact bJ _
 .intro k a;refine aJ (eR.mp a) λ_ _ b=>?_;subst b;exact aD _
 .intro o d;rw[abq d];exact aD _
noncomputable def jZ(k:Ck):Nat×List (Int×Int)×List Int:=(k.pl,k.es.map λe=>(e.n,e.num),k.rg)
def fo(S:Mc):List (Nat×List (Int×Int)×List Int)×List Int:=(S.ck.map jZ,S.bd)
def ja(L:List Mc)(S:Mc):List Mc:=if fo S∈L.map fo then L else L++[S]
def jB(S:Mc)(L:List Mc)(mvs:List Mv):List Mc:=mvs.foldl (λL mv=>ja L<|bA S mv) L
noncomputable def ay(S0:Mc):Nat->List Mc
 | 0=>[S0]
 | k+1=>match (ay S0 k)[k]? with
  | some S=>jB S (ay S0 k)<|dE S
  | none=>ay S0 k
def ae4(L:List Mc)(S:Mc):L <+: ja L S:=by
 unfold ja
 split
 .exact Lh _
 .exact List.prefix_append _ _
def _root_.List.IsPrefix.fC:=@List.IsPrefix.trans
theorem Hm:∀{mvs:List Mv}{L:List Mc},L <+: jB S L mvs
 | [],L=>Lh _
 | mv::mvs,L=>(ae4 L _).fC<|Hm (mvs:=mvs)
def yo(h:(ay S0 k)[k]?=a_ S):ay S0 (k+1)=jB S (ay S0 k) (dE S):=by
 rw[ay,h]
def F5(h:(ay S0 k).length<=k):ay S0 (k+1)=ay S0 k:=by
 rw[ay,Cm h]
def VW(S0:Mc)(k:Nat):ay S0 k <+: ay S0 (k+1):=by
 cases h:(ay S0 k)[k]? with
 | some S=>rw[yo h];exact Hm
 | none=>rw[F5<|Ci.mp h];exact Lh _
theorem WR(S0:Mc)(k:Nat):∀d,ay S0 k <+: ay S0 (k+d)
 | 0=>Lh _
 | d+1=>(WR S0 k d).fC<|VW S0<|k+d
def GV(S0:Mc)(h:j<=k):(ay S0 j).length<=(ay S0 k).length:=by
 have:=(WR S0 j<|k-j).length_le;rwa[Nat.add_sub_cancel' h]at this
theorem F2(h:(ay S0 k).length<=k):∀d,ay S0 (k+d)=ay S0 k
 | 0=>rfl
 | d+1=>by
  have ih:=F2 h d;show ay S0 (k+d+1)=_;rw[F5 (by rw[ih];lia),ih]
def aeJ(S0:Mc)(k:Nat):0<(ay S0 k).length:=GV S0<|bJ k
theorem XJ{b:Mc->Prop}:∀{mvs:List Mv}{L:List Mc},(∀T∈L,b T)->(∀mv∈mvs,b<|bA S mv)->∀T∈jB S L mvs,b T
 | [],L,h,_=>h
 | mv::mvs,L,h,k=>by
  refine XJ (mvs:=mvs) (L:=ja L<|bA S mv) (λT a=>?_) λm hm=>k m<|cu _ hm;unfold ja at a
  split at a
  .exact h T a
  .obtain z|z:=i6.mp a
   .exact h T z
   .rw[c7.mp z];exact k mv cb
theorem VX{a:Nat->Mc->Prop}(m:Nat)(b:a 0 S0)(hm:∀k S,a k S->a (k+1) S)(hs:∀k S mv,k<m->a k S->mv∈dE S->a (k+1) (bA S mv)):∀k,k<=m->∀S∈ay S0 k,a k S
 | 0,_,S,h=>by rw[c7.mp h];exact b
 | k+1,hk,S,h=>by
  have ih:=VX m b hm hs k<|abW hk;cases e:(ay S0 k)[k]? with
  | some T=>
   rw[yo e]at h;exact XJ (λU c=>hm k U<|ih U c) (λmv d=>hs k T mv hk (ih T<|cH e) d) S h
  | none=>
   rw[F5<|Ci.mp e]at h;exact hm k S<|ih S h
def agI(S:Mc)(h:(L.map fo).Nodup):((ja L S).map fo).Nodup:=by
 unfold ja
 split
 .exact h
 .next n=>
  rw[fg,La];refine⟨h,by simp,λa ha b c e=>n ?_⟩;rw[Ts,c7]at c;rw[<-c,<-e];exact ha
theorem YV:∀{mvs:List Mv}{L:List Mc},(L.map fo).Nodup->((jB S L mvs).map fo).Nodup
 | [],_,h=>h
 | mv::mvs,L,h=>YV (mvs:=mvs)<|agI _ h
theorem C0(S0:Mc):∀k,((ay S0 k).map fo).Nodup
 | 0=>by simp[ay]
 | k+1=>by
  cases h:(ay S0 k)[k]? with
  | some S=>rw[yo h];exact YV<|C0 S0 k
  | none=>rw[F5<|Ci.mp h];exact C0 S0 k
noncomputable def iz(k:Ck):ci:=.tuple<|k.rg.map .int
noncomputable def lS(k:Ck):ci:=.tuple (k.es.map λe=>.tuple [.int e.n,.int e.num])
noncomputable def rY(S:Mc):ci:=.tuple<|S.bd.map .int
def iT(S:Mc):ci:=.tuple [.tuple (S.ck.map iz),rY S]
def fk(S:Mc):ci:=.tuple [.tuple (S.ck.map λk=>.int (k.pl:Nat)),.tuple<|S.ck.map lS,iT S]
def fU(S:Mc):ci:=.tuple (rY S::S.ck.map λk=>.tuple [.int (k.pl:Nat),iz k,lS k])
def Gx{l a:List Int}(h:l.map oK=a.map oK):l=a:=(List.map_inj_right λx y e=>by cases e;rfl).mp h
def Oh{k k':Ck}(h:iz k=iz k'):k.rg=k'.rg:=Gx<|ab9 h
def VY(h:lS k=lS k'):(k.es.map λe=>(e.n,e.num))=k'.es.map λe=>(e.n,e.num):=by
 have h:=ab9 h
 have d:∀{l c:List gl},(l.map λe=>Cv [.int e.n,.int e.num])=(c.map λe=>Cv [.int e.n,.int e.num])->(l.map λe=>(e.n,e.num))=c.map λe=>(e.n,e.num):=by
  intro l
  induction l with
  | nil=>intro c h;cases c with
   | nil=>rfl
   | cons _ _=>cases h
  | cons x l ih=>intro c h;cases c with
   | nil=>cases h
   | cons y c=>
    rw[fu,fu]at h ⊢;obtain⟨h1,h2⟩:=wz h;rw[ih h2];injection h1 with h1
    injection h1 with a b
    injection a with a
    injection b with b _
    injection b with b
    rw[a,b]
 exact d h
theorem WS(b:∀k k',f k=f k'->jZ k=jZ k'):∀{l a:List Ck},l.map f=a.map f->l.map jZ=a.map jZ
 | [],[],_=>rfl
 | [],_::_,h=>by cases h
 | _::_,[],h=>by cases h
 | x::l,y::a,h=>by
  rw[fu,fu]at h ⊢;obtain⟨h1,h2⟩:=wz h;rw[b _ _ h1,WS b h2]
theorem nn{e i j k:Type}{f:e->i}{g:e->j}{h:e->k}:∀{l d:List e},l.map f=d.map f->l.map g=d.map g->l.map h=d.map h->(l.map λx=>(f x,g x,h x))=d.map λx=>(f x,g x,h x)
 | [],[],_,_,_=>rfl
 | [],_::_,h,_,_=>by cases h
 | _::_,[],h,_,_=>by cases h
 | x::l,y::d,a,b,c=>by
  rw[fu,fu]at a b c ⊢;obtain⟨m,n⟩:=wz a;obtain⟨b1,b2⟩:=wz b;obtain⟨c1,c2⟩:=wz c;rw[nn n b2 c2,m,b1,c1]
def ajS{pl wt rg:Ck->ci}{l d:List Ck}(h:(l.map λk=>(oK (k.pl:Nat),lS k,iz k))=d.map λk=>(oK (k.pl:Nat),lS k,iz k)):l.map jZ=d.map jZ:=by
 induction l generalizing d with
 | nil=>cases d with
  | nil=>rfl
  | cons _ _=>cases h
 | cons x l ih=>cases d with
  | nil=>cases h
  | cons y d=>
   rw[fu,fu]at h ⊢;obtain⟨h1,h2⟩:=wz h;rw[ih h2];injection h1 with a b
   injection b with b c
   injection a with a
   unfold jZ;rw[Int.ofNat_inj.mp a,VY b,Oh c]
def Gm{b:Type}{f:Ck->b}(c:∀k k',jZ k=jZ k'->f k=f k'){l a:List Ck}(h:l.map jZ=a.map jZ):l.map f=a.map f:=by
 induction l generalizing a with
 | nil=>cases a with
  | nil=>rfl
  | cons _ _=>cases h
 | cons x l ih=>cases a with
  | nil=>cases h
  | cons y a=>
   rw[fu,fu]at h ⊢;obtain⟨h1,h2⟩:=wz h;rw[c _ _ h1,ih h2]
def HP(h:jZ k=jZ k'):k.pl=k'.pl/\lS k=lS k'/\iz k=iz k':=by
 unfold jZ at h;injection h with a b
 injection b with b c
 unfold lS iz;rw[c,show (k.es.map λe=>Cv [.int e.n,.int e.num])=(k.es.map λe=>(e.n,e.num)).map λp=>Cv [.int p.1,.int p.2] by rw[qU];rfl,b,qU];exact⟨a,xz,xz⟩
def UE{S S':Mc}:fk S=fk S'↔fo S=fo S':=by
 constructor
 .intro h;unfold fk iT rY at h;injection h with h
  injection h with h1 h
  injection h with h2 h
  injection h with h3 _
  injection h1 with h1
  injection h2 with h2
  injection h3 with h3
  injection h3 with h3 h4
  injection h3 with h3
  injection h4 with h4 _
  injection h4 with h4
  unfold fo;rw[ajS (pl:=iz) (wt:=iz) (rg:=iz)<|nn h1 h2 h3,Gx h4]
 .intro h;unfold fo at h;injection h with h1 h2
  unfold fk iT rY;rw[h2,Gm (f:=λk=>oK (k.pl:Nat)) (λk k' e=>by rw[(HP e).1]) h1,Gm (f:=lS) (λk k' e=>(HP e).2.1) h1,Gm (f:=iz) (λk k' e=>(HP e).2.2) h1]
def Wz{S S':Mc}:fU S=fU S'↔fo S=fo S':=by
 constructor
 .intro h;unfold fU rY at h;injection h with h
  injection h with h1 h2
  injection h1 with h1
  unfold fo;rw[WS (λk k' e=>?_) h2,Gx h1];injection e with e
  injection e with a e
  injection e with b e
  injection e with c _
  injection a with a
  unfold jZ;rw[Int.ofNat_inj.mp a,Oh b,VY c]
 .intro h;unfold fo at h;injection h with h1 h2
  unfold fU rY;rw[h2,Gm (λk k' e=>?_) h1];obtain⟨a,b,c⟩:=HP e;rw[a,b,c]
def vx(n:Nat)(l:List Int):b8 (n+1) (.tuple<|l.map .int)=true:=kQ.mpr λx a=>by
 obtain⟨i,_,rfl⟩:=eR.mp a;cases n <;> rfl
def yI(h:∀x∈l,b8 n x=c_):b8 (n+1) (.tuple l)=true:=kQ.mpr h
def Ed{a:Type}{n:Nat}{f:a->ci}{l:List a}(h:∀x,b8 n (f x)=c_):b8 (n+1) (.tuple<|l.map f)=true:=yI λx b=>by
 obtain⟨i,_,rfl⟩:=eR.mp b;exact h i
def OB(n:Nat)(k:Ck):b8 (n+2) (lS k)=true:=Ed λe=>vx n [e.n,e.num]
def oj(n:Nat)(S:Mc):b8 (n+3) (iT S)=true:=yI λx a=>by
 obtain z|z:=a9.mp a
 .rw[z];exact Ed λk=>vx n k.rg
 .rw[c7.mp z];exact vx (n+1) S.bd
def yq(S:Mc):b8 8 (fk S)=true:=yI λx a=>by
 obtain z|z:=a9.mp a
 .rw[z];exact Ed λk=>rfl
 .obtain z|z:=a9.mp z
  .rw[z];exact Ed λk=>OB 4 k
  .rw[c7.mp z];exact oj 4 S
def wR(S:Mc):b8 8 (fU S)=true:=yI λx a=>by
 obtain z|z:=a9.mp a
 .rw[z];exact vx 6 S.bd
 .obtain⟨k,_,rfl⟩:=eR.mp z;refine yI λy b=>?_;obtain z|z:=a9.mp b
  .rw[z];rfl
  .obtain z|z:=a9.mp z
   .rw[z];exact vx 5 k.rg
   .rw[c7.mp z];exact OB 4 k
def di(L:List Mc):List ci:=(L.filter jy).map iT
def WI(W:i5 S)(h:jy S=c_):∀(c:Nat)(k:Ck)(p:Pt),S.ck[c]?=a_ k->S.ps[c]?=a_ p->k.pl=p.length/\k.es=[]:=by
 intro c k p a b;have:=kQ.mp h c<|uU.mpr (dX.mp a).1;unfold xb at this;rw[a,b]at this;simpa using this
def af2{S S':Mc}(W:i5 S)(f:i5 S')(ps:S.ps=S'.ps)(h:jy S=c_)(h':jy S'=c_)(e:iT S=iT S'):fo S=fo S':=by
 unfold iT rY at e;injection e with e
 injection e with h1 h2
 injection h1 with h1
 injection h2 with h2 _
 injection h2 with h2
 unfold fo;rw[Gx h2];have g:S.ck.length=S'.ck.length:=by have:=fw FR h1;simpa using this
 refine fw (·,S'.bd) (abZ λc=>?_);rw[eX,eX];cases a:S.ck[c]? with
 | none=>rw[Cm (by rw[<-g];exact Ci.mp a)]
 | some k=>
  have i:=(dX.mp a).1;obtain⟨k',b⟩:∃k',S'.ck[c]?=a_ k':=⟨_,a8 li⟩;obtain⟨p,d⟩:∃p,S.ps[c]?=a_ p:=⟨_,a8<|by rw[<-W.len];exact i⟩;obtain⟨j,l⟩:=WI W h c k p a d;obtain⟨b1,b2⟩:=WI f h' c k' p b (by rw[<-ps];exact d)
  have m:iz k=iz k':=by
   have:=fw (·[c]?) h1;simpa[a,b]using this
  rw[b];show a_ (jZ k)=a_ (jZ k');unfold jZ;rw[j,l,b1,b2,Oh m]
structure nJ(kd:cw)(ps:List Pt)(n:Nat)(S:Mc):Prop where
 W:oz n S
 kd:S.kd=kd
 ps:S.ps=ps
def nJ.up{kd:cw}{ps:List Pt}{n:Nat}{S:Mc}(h:nJ kd ps n S):nJ kd ps (n+1) S:=⟨⟨h.W.wf,uQ h.W.ac,λo a=>uQ<|h.W.ov o a⟩,h.kd,h.ps⟩
def nJ.mv{kd:cw}{ps:List Pt}{n:Nat}{S:Mc}(h:nJ kd ps n S)(hn:n<15000){mv:Mv}(hm:mv∈dE S):nJ kd ps (n+1) (bA S mv):=by
 obtain⟨a,b,c,_⟩:=ahh h.W hn hm;exact⟨a,b.fC h.kd,c.fC h.ps⟩
def AB{kd:cw}{ps:List Pt}(g:lB ps){k:Nat}(a:k<=15000):∀S∈ay (eC kd ps) k,nJ kd ps k S:=
 VX 15000 ⟨aiG g,xz,xz⟩ (λ_ _ h=>h.up) (λ_ _ _ h b hm=>b.mv h hm) k a
theorem Hn:∀{L:List Mc},(L.map fo).Nodup->(∀S∈L,nJ kd ps n S)->(di L).Nodup
 | [],_,_=>List.nodup_nil
 | S::L,h,f=>by
  rw[fu,Cs]at h;have ih:=Hn h.2 λT a=>f T<|cu _ a;unfold di at ih ⊢;rw[sQ]
  by_cases e:jy S=c_
  .rw[ek e,fu,Cs];refine⟨λz=>?_,ih⟩;obtain⟨T,a,d⟩:=eR.mp z;obtain⟨b,g⟩:=pY.mp a;have fS:=f S cb;have c:=f T<|cu _ b;exact h.1<|eR.mpr ⟨T,b,af2 c.W.wf fS.W.wf (c.ps.fC fS.ps.fF) g e d⟩
  .rw[ei e];exact ih
def U4(n:Nat){l c:List Int}(h:l.length=c.length):alike (n+1) (.tuple<|l.map .int) (.tuple<|c.map .int)=true:=by
 show (decide _&&List.all _ _)=c_;rw[fY];refine⟨eu (by simpa using h),kQ.mpr λp d=>?_⟩;obtain⟨a,b⟩:=p;have h1:=FG d;obtain⟨i,_,rfl⟩:=eR.mp h1.1;obtain⟨j,_,rfl⟩:=eR.mp h1.2;cases n <;> rfl
def UY{S S':Mc}(W:i5 S)(c:i5 S')(h:S.ck.length=S'.ck.length):alike 8 (iT S) (iT S')=true:=by
 unfold iT;show (decide (2=2)&&(alike 7 (.tuple<|S.ck.map iz) (.tuple<|S'.ck.map iz)&&(alike 7 (rY S) (rY S')&&c_)))=c_;rw[Bool.and_true,fY,fY];refine⟨xz,?_,U4 6<|by rw[W.bd,c.bd]⟩;show (decide _&&List.all _ _)=c_;rw[fY];refine⟨eu (by simpa using h),kQ.mpr λp d=>?_⟩;obtain⟨a,b⟩:=p;have h1:=FG d;obtain⟨k,e,rfl⟩:=eR.mp h1.1;obtain⟨k',f,rfl⟩:=eR.mp h1.2;exact U4 5 (by rw[W.rg k e,c.rg k' f])
def Yc{K:u_}(k:∀b o,(∃ys,o=.tup ys)\/(∃c ys,o=.lY c (.tup ys))->H b=a_ o->H' b=a_ o)(h:az K H a xs):az K H' a xs:=by
 obtain (h|⟨o,h⟩)|h:=h
 .exact .inl (.inl<|k _ _ (.inl ⟨_,xz⟩) h)
 .exact .inl (.inr ⟨o,k _ _ (.inr ⟨_,_,xz⟩) h⟩)
 .exact .inr h
def TK(H H':Hp):Prop:=∀b o,(∃ys,o=.tup ys)\/(∃a ys,o=.lY a (.tup ys))->H b=a_ o->H' b=a_ o
def TK.of(s:af H H'):TK H H':=λb o _ e=>s b o e
def TK.xu(k:aA eD H H'):TK H H':=λb o h e=>k.k b o (λz=>z) (λps z=>by subst z;rcases h with ⟨_,h⟩ | ⟨_,_,h⟩ <;> cases h) e
def X8(h:H a=a_ o)(n:¬((∃ys,o=.tup ys)\/(∃c ys,o=.lY c (.tup ys)))):TK H (db H a u):=λb o' h' e=>by
 rw[ah λz=>?_]
 .exact e
 .subst z;rw[h]at e;cases e;exact n h'
def lP{K:u_}(k:TK H H'):∀{n:Nat}{d:ci}{v:V},b8 n d=c_->c8 K H v d->c8 K H' v d:=by
 intro n
 induction n with
 | zero=>
  intro d v g h;obtain⟨i,rfl⟩|⟨m,xs,z,_⟩:=jJ g
  .cases h;exact .int i
  .cases z
 | succ m ih=>
  intro d v g h;obtain⟨i,rfl⟩|⟨f,xs,z,rfl,e⟩:=jJ g
  .cases h;exact .int i
  .cases z;cases h with
   | tup h1 h2=>
    refine .tup (Yc k h1) ?_
    have all:∀{vs:List V}{ds:List ci},(∀d∈ds,b8 m d=c_)->eU K H vs ds->eU K H' vs ds:=by
     intro vs
     induction vs with
     | nil=>intro ds _ h;cases h;exact .nil
     | cons v vs il=>
      intro ds c h;cases h with
      | cons a b=>exact .cons (ih (c _ cb) a)<|il (λd hd=>c d<|cu _ hd) b
    exact all e h2
theorem jK{K:u_}(k:TK H H'):∀{vs:List V}{ds:List ci},(∀d∈ds,b8 n d=c_)->eU K H vs ds->eU K H' vs ds
 | _,_,_,.nil=>.nil
 | _,_,g,.cons a b=>.cons (lP k (g _ cb) a)<|jK k (λd hd=>g d<|cu _ hd) b
theorem GG{K:u_}:∀{vs:List V}{ds:List ci},eU K H vs ds->c8 K H v d->eU K H (vs++[v]) (ds++[d])
 | _,_,.nil,h=>.cons h .nil
 | _,_,.cons a b,h=>.cons a<|GG b h
theorem tu{K:u_}:∀{vs:List V}{ds:List ci},eU K H vs ds->vs.length=ds.length
 | _,_,.nil=>rfl
 | _,_,.cons _ b=>fw (· + 1)<|tu b
theorem yN{K:u_}:∀l:List Int,eU K H (l.map V.int)<|l.map oK
 | []=>.nil
 | i::l=>.cons (.int i)<|yN l
def OW(K:u_)(h:autoParam (X.K=K) am):my X (.type Z_) (λxs H Q=>∃p ys,xs=[.ref p]/\((aq K H p ys/\∀l,H l=b_->Q (.ref l) (db H l<|.tup ys))\/(az K H p ys/\Q (.ref p) H))):=by subst h;exact kR
def GA{K:u_}(c:n=ds.length)(e:n<=1000)(g:∀d∈ds,b8 k d=c_)(f:∀(i:Nat)d a(Q:VK),ds[i]?=a_ d->af H a->(∀y b,af a b->c8 K b y d->Q y b)->te (σ0.set j<|a_<|.int (i:Nat)) a Q)(h:∀ys a,af H a->eU K a ys ds->Kf ys a):D4 (zt 0 n) (iO j) jz te σ0 H Kf:=by
 subst c;refine iH (n:=ds.length) (λi ys a=>i<=ds.length/\af H a/\eU K a ys (ds.take i)) (cI<|cU e) ⟨bJ _,af.refl _,.nil⟩ ?_ ?_ ?_ ?_ ?_
 .rintro i ys a ⟨hi,_,r⟩;rw[tu r,gX];exact xl
 .exact λi ys a hi _=>hi
 .exact λys a _=>aD _
 .rintro i ys a hi ⟨_,s1,r⟩ x b ⟨l,ex⟩;subst l;subst ex;have hd:=a8 hi;dsimp only[iO,jz];rw[ek xz,LL];refine f i _ b _ hd s1 λy o s2 m=>⟨hi,s1.fC s2,?_⟩;rw[kN,hd];exact GG (jK (TK.of s2) (λd hd=>g d<|Co hd) r) m
 .rintro ys a ⟨_,s1,r⟩;rw[jd<|aD _]at r;exact h ys a s1 r
def HI{a:Type}{f:a->ci}{l:List a}{i:Nat}(h:(l.map f)[i]?=a_ d):∃k,l[i]?=a_ k/\d=f k:=by
 rw[eX]at h;obtain⟨k,h1,h2⟩:=Fs.mp h;exact⟨k,h1,h2.fF⟩
section
variable{t:bj}{C CT:e_}
structure Bw(mg:cw->Option f_):Prop where
 tuple:mg Z_ = b_
 range:mg "range"=b_
 len:mg "len"=b_
 sorted:mg "sorted"=b_
def yu(K:u_)(t:bj)(C CT:e_)(f:Mc->ci):Sp:=λvs H Q _=>∃m A S,vs=[.ref m]/\bb t C CT H m A S/\i5 S/\(∀k∈S.ck,k.es.length<64)/\∀H' p,af H H'->c8 K H' (.ref p) (f S)->Q (.ref p) H'
def aeY:bc gx gx (aR Nx):=bx
def Pn:([aq1,X_]:List cw).Nodup:=dk
def MU(h:jh H v ps):∃a vs,v=.ref a/\H a=a_ (.tup vs)/\vs.length=ps.length:=by
 obtain⟨a,vs,e,ha,r⟩:=h;exact⟨a,vs,e,ha,r_ r⟩
def ad'(F:aW K "registers_of" "registers_of" Nx f fd)(B:Bw mg)(e:gC K C)(u:Mt P w K mg fK C 1 "registers" gr (Hu t C CT)):aE P w K mg fK aL 2 f fd gx (yu K t C CT λS=>.tuple<|S.ck.map iz):=by
 refine F.ok aeY λaI A _ s H vs Q E v h=>?_
 .obtain⟨m,A,S,rfl,M,W,_,q⟩:=h
  refine⟨_,aB (aU (gu kR xz B.tuple i8 (aa (iu (N:=[aq1,X_]) (idx:=[0]) xz (dJ.of<|by kernel_rfl) (iG<|aD _) (oM xz B.range<|aa (b9 gm xz B.len q_<|aa (ba (pv 0) xz) ag) ag)
   (λ_ _ _ _=>cW (i:=1) Pn xz (aP xz)<|.inr xz) (λ_ _ _ _=>gY) λ_ _ _ _=>gu (OW K) xz B.tuple i8<|aa (ji (pv 0) e.cl u v<|aa (pv 1) ag) ag) ag))),?_⟩
  obtain⟨dx,fs,hm,G⟩:=id M.obj;obtain⟨pg,g,x,a,b⟩:=MU M.pg;have h4:=W.four;have D:=W.len;cases x;have hn:((g.length:Nat):Int).toNat=(S.ck.map iz).length:=by rw[aS,mh];lia
  have j:∀{l:List Ck}{d:ci},d∈l.map iz->b8 5 d=true:=λh=>by obtain⟨k,_,rfl⟩:=eR.mp h;exact vx 4 k.rg
  refine vF xz hm e.cl e.program G.program ⟨A.pg,g,xz,.inr<|az.of a,_,xz,li,li,GA (K:=K) hn li (λd hd=>j hd) (λi d n Q hd s1 c=>?_) λys n s1 r=>?_⟩
  .obtain⟨k,y,rfl⟩:=HI hd;exact vM xz (s1 _ _ hm) (G.ms _ dk)<|vr xz ⟨m,A,S,i,k,xz,M.same s1,y,λl b=>⟨l,_,xz,.inl ⟨aq.of ai,λp a=>c _ _ (ax (ax (af.refl _) b) a)<|.tup (az.of ai)<|yN k.rg⟩⟩⟩
  .have b:=tu r;rw[aS]at b;refine⟨by rw[ij];lia,λl z=>⟨l,ys,xz,.inl ⟨aq.of ai,λp a=>?_⟩⟩⟩;have s2:=ax (o:=.tup ys) (ax (o:=.lst ys) (af.refl n) z) a;exact q _ p (s1.fC s2)<|.tup (az.of ai)<|jK (TK.of s2) (λd hd=>j hd) r
def agv:bc gx gx (aR N'):=bx
def afn(F:aW K "end_of" "end_of" N' f fd)(B:Bw mg)(i:gC K C)(j:Dp P w K mg fK 2 "registers_of" gx (yu K t C CT λS=>.tuple<|S.ck.map iz))(o:Mt P w K mg fK C 1 "board" g0 (G' t C CT)):aE P w K mg fK aL 3 f fd gx (yu K t C CT iT):=by
 refine F.ok agv λaI A _ s H vs Q E d h=>?_
 .obtain⟨m,A,S,rfl,M,W,u,q⟩:=h;refine⟨_,aB<|aU<|cp<|aa (dP j d xz<|aa (pv 0) ag)<|aa (gu kR xz B.tuple i8<|aa (oh (pv 0) i.cl o<|d.mono qc) ag) ag,?_⟩;obtain⟨dx,fs,hm,G⟩:=id M.obj;refine vr xz ⟨m,A,S,xz,M,W,u,λa p s1 v=>?_⟩;refine vM xz (s1 _ _ hm) (G.ms _ dk) ⟨m,A,S,xz,M.same s1,λl x=>⟨l,_,xz,.inl ⟨aq.of ai,λb y=>⟨sl (n:=2),λr e=>?_⟩⟩⟩⟩;have s2:af a (db (db a l<|.lst<|S.bd.map V.int) b<|.tup<|S.bd.map V.int):=ax (ax (af.refl _) x) y;have g:db (db a l<|.lst<|S.bd.map V.int) b (.tup<|S.bd.map V.int) b=a_ (.tup<|S.bd.map V.int):=ai;generalize db (db a l<|.lst<|S.bd.map V.int) b (.tup<|S.bd.map V.int)=H2 at s2 g e ⊢;have c:af H2 (db H2 r<|.tup [.ref p,.ref b]):=ax (af.refl _) e;exact q _ r (s1.fC<|s2.fC c)<|.tup (az.of ai)<|.cons (lP (TK.of<|s2.fC c) (n:=7) (Ed λk=>vx 5 k.rg) v)<|.cons (.tup (az.of<|c _ _ g)<|yN S.bd) .nil
def Mh:bc [aq1,"places","waiting"] gx (aR MQ):=bx
def Wk{K:u_}(r:bL (HM H) us es):eU K H us (es.map λe=>.tuple [.int e.n,.int e.num]):=Mz (λv e h=>by obtain⟨p,rfl,a⟩:=h;exact .tup (az.of a)<|.cons (.int _)<|.cons (.int _) .nil) r
def adt(F:aW K "stand_of" "stand_of" MQ f fd)(B:Bw mg)(u:gC K C)(DE:Dp P w K mg fK 3 "end_of" gx (yu K t C CT iT))(DW:Mt P w K mg fK C 1 "where" gr (Nm t C CT λk=>k.pl))(DT:Mt P w K mg fK C 2 "waiting" gr (Md t C CT)):aE P w K mg fK aL 4 f fd gx (yu K t C CT fk):=by
 refine F.ok Mh λaI A _ s H vs Q E T h=>?_
 .obtain⟨m,A,S,rfl,M,W,Z,q⟩:=h;have fb:=T.mono (show 1<=3 by decide);have nM:=T.mono (show 2<=3 by decide)
  refine let a:TS:=_;let b:TS:=_;⟨_,aw (bf (i:=1) Mh.nd xz (aP xz) (gu kR xz B.tuple i8 (aa (iu (N:=[aq1,X_]) (idx:=[0]) xz (dJ.of<|by kernel_rfl) (iG<|aD _) (oM xz B.range<|aa (b9 gm xz B.len q_<|aa (ba (pv 0) xz) ag) ag)
   (λ_ _ _ _=>cW (i:=1) Pn xz (aP xz)<|.inr xz) (λ_ _ _ _=>gY) λ_ _ _ _=>ji (pv 0) u.cl DW fb<|aa (pv 1) ag) ag)))
   (pR b (aw (bf (i:=2) Mh.nd xz (aP xz) (gu kR xz B.tuple i8 (aa (iu (N:=[aq1,X_]) (idx:=[0]) xz (dJ.of<|by kernel_rfl) (iG<|aD _) (oM xz B.range<|aa (b9 gm xz B.len q_<|aa (ba (pv 0) xz) ag) ag)
   (λ_ _ _ _=>cW (i:=1) Pn xz (aP xz)<|.inr xz) (λ_ _ _ _=>gY) λ_ _ _ _=>gu (OW K) xz B.tuple i8<|aa (ji (pv 0) u.cl DT nM<|aa (pv 1) ag) ag) ag)))
   (pR a<|aB<|aU<|cp<|aa (pv 1)<|aa (pv 2)<|aa (dP DE T xz<|aa (pv 0) ag) ag))),?_⟩
  obtain⟨dx,fs,hm,G⟩:=id M.obj;obtain⟨pg,U,e1,g,hl⟩:=MU M.pg;have h4:=W.four;have hlen:=W.len;cases e1;have hn:∀f:Ck->ci,((U.length:Nat):Int).toNat=(S.ck.map f).length:=λf=>by rw[aS,mh];lia
  have V:∀d∈S.ck.map λk=>oK (k.pl:Nat),b8 5 d=true:=λd h=>by obtain⟨k,_,rfl⟩:=eR.mp h;rfl
  have X:∀d∈S.ck.map lS,b8 5 d=true:=λd h=>by obtain⟨k,_,rfl⟩:=eR.mp h;exact OB 3 k
  refine vF xz hm u.cl u.program G.program ⟨A.pg,U,xz,.inr<|az.of g,_,xz,li,li,GA (K:=K) (hn λk=>.int (k.pl:Nat)) li V (λi d v Q hd s1 c=>?_) λys v s1 r=>?_⟩
  .obtain⟨k,I,rfl⟩:=HI hd;exact vM xz (s1 _ _ hm) (G.ms _ dk)<|vr xz ⟨m,A,S,i,k,xz,M.same s1,I,c _ _ (af.refl _)<|.int _⟩
  have J:=tu r;rw[aS]at J;refine⟨by rw[ij];lia,λl L=>⟨l,ys,xz,.inl ⟨aq.of ai,λy gi=>?_⟩⟩⟩;have s2:af v (db (db v l<|.lst ys) y<|.tup ys):=ax (ax (af.refl v) L) gi;have d1:c8 K (db (db v l<|.lst ys) y<|.tup ys) (.ref y) (.tuple<|S.ck.map λk=>.int (k.pl:Nat)):=.tup (az.of ai)<|jK (TK.of s2) V r;have j:=s1.fC s2;generalize db (db v l<|.lst ys) y (.tup ys)=H2 at j d1 ⊢;clear s1 s2 r J gi L;refine vF xz (j _ _ hm) u.cl u.program G.program ⟨A.pg,U,xz,.inr<|az.of<|j _ _ g,_,xz,li,li,GA (K:=K) (hn lS) li X (λi d x Q hd s1 c=>?_) λo x s1 r=>?_⟩
  .obtain⟨k,I,rfl⟩:=HI hd;exact vM xz (s1 _ _<|j _ _ hm) (G.ms _ dk)<|vr xz ⟨m,A,S,i,k,xz,M.same<|j.fC s1,I,Z k<|cH I,λH4 l us s4 _ hl hu=>⟨l,us,xz,.inl ⟨aq.of hl,λp g=>c _ _ (ax s4 g)<|.tup (az.of ai)<|Wk<|Paired.cq hu λ_ _ z=>by obtain⟨p,e,h⟩:=z;exact⟨p,e,(ax (af.refl _) g) _ _ h⟩⟩⟩⟩
  have J:=tu r;rw[aS]at J;refine⟨by rw[ij];lia,λl L=>⟨l,o,xz,.inl ⟨aq.of ai,λD iX=>?_⟩⟩⟩;have s2:af x (db (db x l<|.lst o) D<|.tup o):=ax (ax (af.refl x) L) iX;have d2:c8 K (db (db x l<|.lst o) D<|.tup o) (.ref D) (.tuple<|S.ck.map lS):=.tup (az.of ai)<|jK (TK.of s2) X r;have O:=s1.fC s2;generalize db (db x l<|.lst o) D (.tup o)=H4 at O d2 ⊢;refine au _ xz<|vr xz<|vr xz ?_;refine⟨m,A,S,xz,M.same<|j.fC O,W,Z,λH5 p Y g=>?_⟩;refine⟨sl (n:=3),λr c9=>?_⟩;have R:af H5 (db H5 r<|.tup [.ref y,.ref D,.ref p]):=ax (af.refl _) c9;exact q _ r (j.fC<|O.fC<|Y.fC R)<|.tup (az.of ai)<|.cons (lP (TK.of<|O.fC<|Y.fC R) (n:=6) (yI V) d1)<|.cons (lP (TK.of<|Y.fC R) (n:=6) (yI X) d2)<|.cons (lP (TK.of R) (n:=6) (oj 3 S) g) .nil
end
def afu:(["tray"]:List cw).Nodup:=dk
def afx:(["regs"]:List cw).Nodup:=dk
def adz:(["comers"]:List cw).Nodup:=dk
def afM:lB [[]]:=⟨qc,qc,λp a=>by
 rw[c7.mp a];exact⟨qc,λt z=>by cases z⟩⟩
def bu.ub{fs:List (cw×V)}(k:bu m H H')(hm:H m=a_ (.ins C dx fs))(e:H b=a_ (.lst xs)):H' b=a_ (.lst xs):=k.k b _ (λz=>by rw[z,hm]at e;cases e) e
def GY{K:u_}{fs f:List (cw×V)}(n:Nat)(r:σ[0]?=a_ (a_<|.ref m))(s:σ[1]?=a_ (a_<|.ref x))(hm:h m=a_ (.ins C dx fs))(cl:eO K C)(e:bp K C fld)(t:fs.lookup fld=a_ (.ref a))(ha:h a=a_ (.lst xs))(y:h x=a_ (.ins C de f))(z:f.length<=20)(O:gd H x h R)(A:f.lookup fld=a_ u)(q:∀l h' b c,b=aN fld (.ref l) f->b.length<=20->h' x=a_ (.ins C de b)->h' l=a_ (.lst xs)->bu x h h'->gd H x h' c->(∀a v,R a v->c a v)->c l n->D.nx σ h'):Qh K (nD 1) (QS (λxs H Q=>∃p ys,xs=[.ref p]/\(aq K H p ys\/az K H p ys)/\∀l,H l=b_->Q (.ref l) (db H l<|.lst ys))<|g9 (Ip K (nD 0) fld) oZ) fld D σ h:=by
 refine⟨_,r,m,C,dx,fs,_,xz,hm,cl,e,t,a,xs,xz,.inl<|aq.of ha,λl g=>?_⟩;have s1:af h (db h l<|.lst xs):=ax (af.refl _) g;have i:db h l (.lst xs) l=a_ (.lst xs):=ai;obtain⟨B,j,E,F⟩:=O.nx (o:=.lst xs) n g;have d:=s1 _ _ y;generalize db h l (.lst xs)=v at s1 i j d ⊢;refine⟨_,s,x,C,de,f,xz,d,cl,e,li,?_⟩;have k:bu x v (db v x<|.ins C de<|aN fld (.ref l) f):=bu.db;exact q l _ _ B xz (by rw[uY A];exact z) ai (k.ub d i) ((bu.of s1).fC k) (j.keep<|qX (H:=v) (x:=x)) E F
section
variable{t:bj}{C CT:e_}
def NU(t:bj)(C CT:e_):Sp:=λvs H Q _=>∃m A S,vs=[.ref m]/\bb t C CT H m A S/\(S.kd = ap9\/S.kd = H_\/S.kd = ap4)/\S.ck.length<=4/\S.ov.length<=12/\
 ∀H' x a fT,bb t C CT H' x a S->lE fT x a->af H H'->(∀b,cY x a b->H b=b_)->Q (.ref x) H'
def W8:bc [V_,aq7] g0 (aR N6):=bx
def afj(F:aW K "twin" "Machine.twin" N6 f fd)(L:gC K C)(cT:lA K CT)(jU:mg "list"=b_)(mk:Mk K C fI)(GI:aE P w K mg fK aL 7 fI dI hA (G9 t C CT))(yF:mg "Machine"=a_ (.ref C))(b3:dt K dI hA [])(DT:Mt P w K mg fK CT 3 "twin" g0 (WY CT)):aE P w K mg fK aL 9 f fd g0 (NU t C CT):=by
 refine F.ok W8 λaI A _ s H vs Q E hr h=>?_
 .obtain⟨m,A,S,ae,M,jq,h4,h12,q⟩:=h;subst ae;have qL:=hr.mono (show 3<=8 by decide)
  refine let c:TS:=_;let d:TS:=_;let g:TS:=_;let p:TS:=_;let r:TS:=_;let u:TS:=_;let B:TS:=_;let D:TS:=_;let I:TS:=_;⟨_,aw (bf (i:=1) W8.nd xz (aP xz)<|jY mk GI hr xz yF b3 .nil cX<|aa (cp<|aa (cp ag) ag)<|aa (ba (pv 0) xz) ag) (pR I (aw (dU (pv 1) (ba (pv 0) xz) xz) (pR D (aw (dU (pv 1) (ba (pv 0) xz) xz) (pR B (aw (dU (pv 1) (iu (N:=["tray"]) (idx:=[]) xz (dJ.of<|by kernel_rfl) (iG<|bJ _) (qY<|ba (pv 0) xz) (λ_ _ _ _=>cW (i:=0) afu xz (aP xz)<|.inr xz) (λ_ _ _ _=>gY) λ_ _ _ _=>oh (pv 0) cT.cl DT qL) xz)
   (pR u (aw (dU (pv 1) (gu ye xz jU wC<|aa (ba (pv 0) xz) ag) xz) (pR r (aw (dU (pv 1) (gu ye xz jU wC<|aa (ba (pv 0) xz) ag) xz) (pR p (aw (dU (pv 1) (iu (N:=["regs"]) (idx:=[]) xz (dJ.of<|by kernel_rfl) (iG<|bJ _) (qY<|ba (pv 0) xz) (λ_ _ _ _=>cW (i:=0) afx xz (aP xz)<|.inr xz) (λ_ _ _ _=>gY) λ_ _ _ _=>gu (Py K) xz jU wC<|aa (pv 0) ag) xz)
   (pR g (aw (dU (pv 1) (gu ye xz jU wC<|aa (ba (pv 0) xz) ag) xz) (pR d (aw (dU (pv 1) (gu ye xz jU wC<|aa (ba (pv 0) xz) ag) xz) (pR c (aw (dU (pv 1) (iu (N:=["comers"]) (idx:=[]) xz (dJ.of<|by kernel_rfl) (iG<|bJ _) (qY<|ba (pv 0) xz) (λ_ _ _ _=>cW (i:=0) adz xz (aP xz)<|.inr xz) (λ_ _ _ _=>gY) λ_ _ _ _=>gu (Py K) xz jU wC<|aa (pv 0) ag) xz)
   (aB<|aU<|pv 1))))))))))))))))))),?_⟩
  refine dC (id M.obj) λdx fs hm G=>?_;refine⟨qc,λp0 n0=>⟨by show 1<=aX;decide,λp1 n1=>?_⟩⟩;have s1:af H (db (db H p0<|.tup []) p1<|.tup [.ref p0]):=ax (ax (af.refl _) n0) n1;have gi:db (db H p0<|.tup []) p1 (.tup [.ref p0]) p1=a_ (.tup [.ref p0]):=ai;have hp0:db (db H p0<|.tup []) p1 (.tup [.ref p0]) p0=a_ (.tup []):=ax (af.refl _) n1 _ _ ai;generalize db (db H p0<|.tup []) p1 (.tup [.ref p0])=H1 at s1 gi hp0 ⊢;refine vF xz (s1 _ _ hm) L.cl L.kind G.kind λx kJ nx cG ne=>?_;have sb:af H1 (db (db H1 kJ<|.own x) x<|.ins C kJ []):=ax (ax (af.refl _) cG) (by rw[ah ne.fF];exact nx);have qI:db (db H1 kJ<|.own x) x (.ins C kJ []) x=a_ (.ins C kJ []):=ai;refine qe x kJ (.ref p1) ([[]]) S.kd xz qI ⟨p1,[.ref p0],xz,sb _ _ gi,.cons ⟨p0,[],xz,sb _ _ hp0,.nil⟩ .nil⟩ afM jq λW A2 aaD M2 L2' ev k2 fr2=>⟨xz,?_⟩;have qG:H x=none:=s1.free nx;have S0:af H W:=λb o e=>k2.k b o (aQ e qG)<|sb _ _<|s1 b o e;refine dC (id M2.obj) λJ f0 hx0 G0=>?_;obtain⟨R0,O0,r0⟩:∃R,gd H x W R/\R x 2:=⟨λa v=>a=x/\v=2,⟨⟨λ_=>2,λa v z=>z.2.fF⟩,λa v z e=>(by rw[z.1,hx0]at e;cases e),λa v z=>.inl z.1,λb z=>S0.free z⟩,xz,xz⟩;have hf0:=G0.xA;have K0:bu x W W:=⟨λb o _ e=>e,λb z=>z⟩;refine au _ xz<|dF m C dx fs<|jg _ xz (S0 _ _ hm) L.cl L.program G.program<|vr xz<|kU x C J f0 xz hx0 L.cl L.program wb ?_;obtain⟨f1,X⟩:∃f,f=aN "program" (.ref A.pg:V) f0:=⟨_,xz⟩;have Sk:f1.length<=20:=by rw[X,uY<|G0.program];exact hf0
  rw[<-X];have Rw:bu x W (db W x<|.ins C J f1):=bu.db;have eZ:db W x (.ins C J f1) x=a_ (.ins C J f1):=ai;have O1:=O0.keep<|qX (H:=W) (x:=x) (o:=.ins C J f1);obtain⟨R1,O1,j1⟩:∃R,gd H x (db W x<|.ins C J f1) R/\∀a v,R0 a v->R a v:=⟨_,O1,λ_ _ z=>z⟩;have K1:bu x W (db W x<|.ins C J f1):=K0.fC Rw;generalize db W x (.ins C J f1)=h1 at Rw eZ O1 K1 ⊢;have S1:af H h1:=λb o e=>K1.k b o (aQ e qG)<|S0 b o e;refine au _ xz<|dF m C dx fs<|jg _ xz (S1 _ _ hm) L.cl L.steps G.steps<|vr xz<|kU x C J f1 xz eZ L.cl L.steps wb ?_;obtain⟨f2,Y⟩:∃f,f=aN "steps" (.ref A.st:V) f1:=⟨_,xz⟩;have Sj:f2.length<=20:=by rw[Y,uY<|aF (G0.steps) X dk];exact Sk
  rw[<-Y];have Rv:bu x h1 (db h1 x<|.ins C J f2):=bu.db;have lZ:db h1 x (.ins C J f2) x=a_ (.ins C J f2):=ai;have O2:=O1.keep<|qX (H:=h1) (x:=x) (o:=.ins C J f2);obtain⟨R2,O2,j2⟩:∃R,gd H x (db h1 x<|.ins C J f2) R/\∀a v,R1 a v->R a v:=⟨_,O2,λ_ _ z=>z⟩;have K2:bu x W (db h1 x<|.ins C J f2):=K1.fC Rv;generalize db h1 x (.ins C J f2)=h2 at Rv lZ O2 K2 ⊢;have S2:af H h2:=λb o e=>K2.k b o (aQ e qG)<|S0 b o e;have htl:=r_ M.ts;refine au _ xz<|dF m C dx fs<|jg _ xz (S2 _ _ hm) L.cl L.gc G.gc<|dD A.lt xz ⟨_,aq.of<|S2 _ _ M.lt⟩ ?_;refine iH (n:=A.ts.length) (λi ys H'=>i<=A.ts.length/\∃ts:List (e_×e_×List e_),ys=(ts.map λx=>V.ref x.1)/\ts.length=i/\af h2 H'/\bL (Jr CT S.kd H') ts (S.ck.take i)/\∃R,gd H x H' R/\(∀a v,R2 a v->R a v)/\∀j y,ts[j]?=a_ y->∀b∈y.1::y.2.1::y.2.2,R b<|28+6*j) ?_ ?_ ?_ ?_ ?_ ?_ ?_
  .exact cI (cU w8)
  .exact⟨bJ _,⟨[],xz,xz,af.refl _,.nil,R2,O2,λ_ _ z=>z,λj y z=>(by simp at z)⟩⟩
  .rintro i ys H' ⟨_,ts,rfl,rfl,_⟩;rw[aS];exact aD _
  .rintro i ys H' hi ⟨_,ts,_,_,U,_⟩;exact gw _ _ (aq.of<|U _ _<|S2 _ _ M.lt)<|a8 (by rw[aS];exact hi)
  .rintro ys H' ⟨_,ts,_,_,U,_⟩;exact au _ (aq.of<|U _ _<|S2 _ _ M.lt) (by rw[aS];exact aD _)
  .rintro i ys H' hi ⟨_,ts,rfl,rfl,U,uz,R,oR,iR,rR⟩ z gD ⟨eH,eE⟩;subst eH;have hz:=eE _<|aq.of<|U _ _<|S2 _ _ M.lt;have hk:S.ck[ts.length]?=a_ (S.ck[ts.length]'wf):=a8 wf;refine aJ (M.vC hk) λy O T=>?_;rw[eX,O]at hz;have xO:z=V.ref y.1:=(eG hz).fF;subst xO;have sT:af H gD:=S2.fC U;have T2:Jr CT S.kd gD y S.ck[ts.length]:=T.keep (λb _ o e=>sT b o e) λb xs e=>sT b _ e;refine eY (id T2.obj) λdy fy hay _ _ _ hmy _=>?_;dsimp only[jz,iO];rw[ek rfl];refine vr xz (⟨y.1,dy,fy,xz,hay,(hmy _ dk),(⟨y.1,S.kd,_,_,y.2.1,y.2.2,xz,T2,(λH4 z q' qr T4 s4 fr4=>?_)⟩)⟩)
   obtain⟨R',o4,i4,n4⟩:=oR.nxs (28+6*ts.length) (λb=>b∈z::q'::qr) (λb z=>s4.free z) fr4 (λb hb y=>by
    refine oE (T4.there b hb) λo e=>?_;rw[e]at y;cases y)
   refine⟨hi,⟨ts++[(z,q',qr)],by rw[fg];rfl,by rw[dg];rfl,U.fC s4,?_,R',o4,λa v z=>i4 a v<|iR a v z,λj y O b hb=>?_⟩⟩
   .rw[kN,hk];exact yj (Paired.cq uz λ_ _ q=>q.keep (λb _ o e=>s4 b o e) λb xs e=>s4 b _ e) T4
   .obtain O|⟨e1,e2⟩:=AD O
    .exact i4 _ _ (rR j y O b hb)
    .subst e1;subst e2;exact n4 b hb
  rintro ys Km ⟨_,ts,rfl,uz,JE,vX,Rc3,Oc3,ic3,Rf⟩;rw[jd li]at vX;refine⟨by rw[aS];exact cI<|cU wu,λlt JO=>?_⟩;have t3:af Km (db Km lt<|.lst<|ts.map λx=>V.ref x.1):=ax (af.refl _) JO;have glt:db Km lt (.lst<|ts.map λx=>V.ref x.1) lt=a_ (.lst<|ts.map λx=>V.ref x.1):=ai;refine aZ (Oc3.nx (o:=.lst<|ts.map λx=>V.ref x.1) 4 JO) λRv3 Ov3 iv3 zB=>?_;generalize db Km lt (.lst<|ts.map λx=>V.ref x.1)=v3 at t3 glt Ov3 ⊢;refine vr xz<|kU x C J f2 xz (t3 _ _<|JE _ _ lZ) L.cl L.gc wb ?_;obtain⟨f3,Z⟩:∃f,f=aN "trays" (.ref lt:V) f2:=⟨_,xz⟩;have Si:f3.length<=20:=by rw[Z,uY<|aF (aF (G0.gc) X dk) Y dk];exact Sj
  rw[<-Z];have Ru:bu x v3 (db v3 x<|.ins C J f3):=bu.db;have hx3:db v3 x (.ins C J f3) x=a_ (.ins C J f3):=ai;obtain⟨R3,O3,j3,q3,Ri⟩:∃R,gd H x (db v3 x<|.ins C J f3) R/\(∀a v,R2 a v->R a v)/\(∀a v,Rv3 a v->R a v)/\(∀a v,Rc3 a v->R a v):=⟨_,Ov3.keep<|qX (H:=v3) (x:=x) (o:=.ins C J f3),λ_ _ z=>iv3 _ _<|ic3 _ _ z,λ_ _ z=>z,λ_ _ z=>iv3 _ _ z⟩;have K3:bu x W (db v3 x<|.ins C J f3):=K2.fC<|(bu.of<|JE.fC t3).fC Ru;generalize db v3 x (.ins C J f3)=h3 at Ru hx3 O3 K3 ⊢;have S3:af H h3:=λb o e=>K3.k b o (aQ e qG)<|S0 b o e;refine GY 6 xz xz (S3 _ _ hm) L.cl L.places G.places (S3 _ _ M.pl) hx3 Si O3 (aF (aF (aF (G0.places) X dk) Y dk) Z dk) λpl h4 f4 R4 lK Sh EN Sz k4 O4 j4 q4=>?_;have K4:=K3.fC k4;have S4:af H h4:=λb o e=>K4.k b o (aQ e qG)<|S0 b o e;refine GY 8 xz xz (S4 _ _ hm) L.cl L.counts G.counts (S4 _ _ M.ct) EN Sh O4 (aF (aF (aF (aF (G0.counts) X dk) Y dk) Z dk) lK dk) λct h5 f5 R5 lJ Sg RB gct k5 O5 j5 q5=>?_;have K5:=K4.fC k5;have S5:af H h5:=λb o e=>K5.k b o (aQ e qG)<|S0 b o e;have am8:=r_ M.rs;refine au _ xz<|dF m C dx fs<|jg _ xz (S5 _ _ hm) L.cl L.eL G.eL<|dD A.rg xz ⟨_,aq.of<|S5 _ _ M.rg⟩ ?_;refine iH (n:=A.rs.length) (λi ys H'=>i<=A.rs.length/\∃rs:List e_,ys=rs.map V.ref/\rs.length=i/\af h5 H'/\bL (λa(k:Ck)=>H' a=a_ (.lst<|k.rg.map V.int)) rs (S.ck.take i)/\∃R,gd H x H' R/\(∀a v,R5 a v->R a v)/\∀(j:Nat)a,rs[j]?=a_ a->R a (24+6*j)) ?_ ?_ ?_ ?_ ?_ ?_ ?_
  .exact cI (cU w8)
  .exact⟨bJ _,⟨[],xz,xz,af.refl _,.nil,R5,O5,λ_ _ z=>z,λj y z=>(by simp at z)⟩⟩
  .rintro i ys H' ⟨_,rs,rfl,rfl,_⟩;rw[aS];exact aD _
  .rintro i ys H' hi ⟨_,rs,_,_,U,_⟩;exact gw _ _ (aq.of<|U _ _<|S5 _ _ M.rg)<|a8 (by rw[aS];exact hi)
  .rintro ys H' ⟨_,rs,_,_,U,_⟩;exact au _ (aq.of<|U _ _<|S5 _ _ M.rg) (by rw[aS];exact aD _)
  .rintro i ys H' hi ⟨_,rs,rfl,rfl,U,pK,R,oR,iR,rR⟩ z gD ⟨eH,eE⟩;subst eH;have hz:=eE _<|aq.of<|U _ _<|S5 _ _ M.rg;have hk:S.ck[rs.length]?=a_ (S.ck[rs.length]'wf):=a8 wf;refine aJ (sZ M.rs hk) λy O EM=>?_;rw[eX,O]at hz;have xO:z=V.ref y:=(eG hz).fF;subst xO;dsimp only[jz,iO];rw[ek rfl];refine vr xz ⟨y,⟨_,xz,.inl<|aq.of<|U _ _<|S5 _ _ EM,λl nl=>?_⟩⟩;generalize S.ck[rs.length]'wf=k at hk EM;have s4:=ax (o:=.lst<|k.rg.map V.int) (af.refl gD) nl;refine aZ (oR.nx (o:=.lst<|k.rg.map V.int) (24+6*rs.length) nl) λR' o4 i4 n4=>?_;refine⟨hi,⟨rs++[l],by rw[fg];rfl,by rw[dg];rfl,U.fC s4,?_,R',o4,λa v z=>i4 a v<|iR a v z,λj y O=>?_⟩⟩
   .rw[kN,hk];exact yj (Paired.cq pK λ_ _ q=>s4 _ _ q) ai
   .obtain O|⟨e1,e2⟩:=AD O
    .exact i4 _ _ (rR j y O)
    .subst e1;subst e2;exact n4
  rintro ys Kl ⟨_,zC,rfl,aoR,JD,aaM,Rc6,Oc6,ic6,rc6⟩;rw[jd li]at aaM;refine⟨by rw[aS];exact cI<|cU wu,λrg JN=>?_⟩;have t6:af Kl (db Kl rg<|.lst<|zC.map V.ref):=ax (af.refl _) JN;have grg:db Kl rg (.lst<|zC.map V.ref) rg=a_ (.lst<|zC.map V.ref):=ai;refine aZ (Oc6.nx (o:=.lst<|zC.map V.ref) 10 JN) λRv6 Ov6 iv6 rv6=>?_;generalize db Kl rg (.lst<|zC.map V.ref)=v6 at t6 grg Ov6 ⊢;refine vr xz<|kU x C J f5 xz (t6 _ _<|JD _ _ RB) L.cl L.eL wb ?_;obtain⟨f6,jH⟩:∃f,f=aN "regs" (.ref rg:V) f5:=⟨_,xz⟩;have Sf:f6.length<=20:=by rw[jH,uY<|aF (aF (aF (aF (aF (G0.eL) X dk) Y dk) Z dk) lK dk) lJ dk];exact Sg
  rw[<-jH];have Rt:bu x v6 (db v6 x<|.ins C J f6):=bu.db;have hx6:db v6 x (.ins C J f6) x=a_ (.ins C J f6):=ai;obtain⟨R6,O6,j6,q6,qc6⟩:∃R,gd H x (db v6 x<|.ins C J f6) R/\(∀a v,R5 a v->R a v)/\(∀a v,Rv6 a v->R a v)/\(∀a v,Rc6 a v->R a v):=⟨_,Ov6.keep<|qX (H:=v6) (x:=x) (o:=.ins C J f6),λ_ _ z=>iv6 _ _<|ic6 _ _ z,λ_ _ z=>z,λ_ _ z=>iv6 _ _ z⟩;have K6:bu x W (db v6 x<|.ins C J f6):=K5.fC<|(bu.of<|JD.fC t6).fC Rt;generalize db v6 x (.ins C J f6)=h6 at Rt hx6 O6 K6 ⊢;have S6:af H h6:=λb o e=>K6.k b o (aQ e qG)<|S0 b o e;refine GY 12 xz xz (S6 _ _ hm) L.cl L.cells G.cells (S6 _ _ M.ce) hx6 Sf O6 (aF (aF (aF (aF (aF (aF (G0.cells) X dk) Y dk) Z dk) lK dk) lJ dk) jH dk) λce h7 f7 R7 jG Se hx7 gce k7 O7 j7 q7=>?_;have K7:=K6.fC k7;have S7:af H h7:=λb o e=>K7.k b o (aQ e qG)<|S0 b o e;refine aJ (id M.ac) λacs anq anr=>?_;refine GY 14 xz xz (S7 _ _ hm) L.cl L.jl G.jl (S7 _ _ anq) hx7 Se O7 (aF (aF (aF (aF (aF (aF (aF (G0.jl) X dk) Y dk) Z dk) lK dk) lJ dk) jH dk) jG dk) λac h8 f8 R8 jt Sd RA gac k8 O8 j8 q8=>?_;have K8:=K7.fC k8;have S8:af H h8:=λb o e=>K8.k b o (aQ e qG)<|S0 b o e;have aaT:=r_ M.cs;refine au _ xz<|dF m C dx fs<|jg _ xz (S8 _ _ hm) L.cl L.lR G.lR<|dD A.cm xz ⟨_,aq.of<|S8 _ _ M.cm⟩ ?_;refine iH (n:=A.cs.length) (λi ys H'=>i<=A.cs.length/\∃rs:List e_,ys=rs.map V.ref/\rs.length=i/\af h8 H'/\bL (λa(k:List Int)=>H' a=a_ (.lst<|k.map V.int)) rs (S.ov.take i)/\∃R,gd H x H' R/\(∀a v,R8 a v->R a v)/\∀(j:Nat)a,rs[j]?=a_ a->R a (26+6*j)) ?_ ?_ ?_ ?_ ?_ ?_ ?_
  .exact cI (cU w8)
  .exact⟨bJ _,⟨[],xz,xz,af.refl _,.nil,R8,O8,λ_ _ z=>z,λj y z=>(by simp at z)⟩⟩
  .rintro i ys H' ⟨_,rs,rfl,rfl,_⟩;rw[aS];exact aD _
  .rintro i ys H' hi ⟨_,rs,_,_,U,_⟩;exact gw _ _ (aq.of<|U _ _<|S8 _ _ M.cm)<|a8 (by rw[aS];exact hi)
  .rintro ys H' ⟨_,rs,_,_,U,_⟩;exact au _ (aq.of<|U _ _<|S8 _ _ M.cm) (by rw[aS];exact aD _)
  .rintro i ys H' hi ⟨_,rs,rfl,rfl,U,pK,R,oR,iR,rR⟩ z gD ⟨eH,eE⟩;subst eH;have hz:=eE _<|aq.of<|U _ _<|S8 _ _ M.cm;have hk:S.ov[rs.length]?=a_ (S.ov[rs.length]'wf):=a8 wf;refine aJ (sZ M.cs hk) λy O EM=>?_;rw[eX,O]at hz;have xO:z=V.ref y:=(eG hz).fF;subst xO;dsimp only[jz,iO];rw[ek rfl];refine vr xz ⟨y,⟨_,xz,.inl<|aq.of<|U _ _<|S8 _ _ EM,λl nl=>?_⟩⟩;generalize S.ov[rs.length]'wf=k at hk EM;have s4:=ax (o:=.lst<|k.map V.int) (af.refl gD) nl;refine aZ (oR.nx (o:=.lst<|k.map V.int) (26+6*rs.length) nl) λR' o4 i4 n4=>?_;refine⟨hi,⟨rs++[l],by rw[fg];rfl,by rw[dg];rfl,U.fC s4,?_,R',o4,λa v z=>i4 a v<|iR a v z,λj y O=>?_⟩⟩
   .rw[kN,hk];exact yj (Paired.cq pK λ_ _ q=>s4 _ _ q) ai
   .obtain O|⟨e1,e2⟩:=AD O
    .exact i4 _ _ (rR j y O)
    .subst e1;subst e2;exact n4
  rintro ys Kk ⟨_,z5,rfl,aoT,JC,aaO,Rc9,Oc9,ic9,rc9⟩;rw[jd li]at aaO;refine⟨by rw[aS];exact cI<|cU wu,λcm JP=>?_⟩;have t9:af Kk (db Kk cm<|.lst<|z5.map V.ref):=ax (af.refl _) JP;have gcm:db Kk cm (.lst<|z5.map V.ref) cm=a_ (.lst<|z5.map V.ref):=ai;refine aZ (Oc9.nx (o:=.lst<|z5.map V.ref) 16 JP) λRv9 Ov9 iv9 rv9=>?_;generalize db Kk cm (.lst<|z5.map V.ref)=v9 at t9 gcm Ov9 ⊢;refine vr xz<|kU x C J f8 xz (t9 _ _<|JC _ _ RA) L.cl L.lR wb ?_;obtain⟨f9,iY⟩:∃f,f=aN "comers" (.ref cm:V) f8:=⟨_,xz⟩;have Sb:f9.length<=20:=by rw[iY,uY<|aF (aF (aF (aF (aF (aF (aF (aF (G0.lR) X dk) Y dk) Z dk) lK dk) lJ dk) jH dk) jG dk) jt dk];exact Sd
  rw[<-iY];have Rr:bu x v9 (db v9 x<|.ins C J f9):=bu.db;have hx9:db v9 x (.ins C J f9) x=a_ (.ins C J f9):=ai;obtain⟨R9,O9,j9,q9,qc9⟩:∃R,gd H x (db v9 x<|.ins C J f9) R/\(∀a v,R8 a v->R a v)/\(∀a v,Rv9 a v->R a v)/\(∀a v,Rc9 a v->R a v):=⟨_,Ov9.keep<|qX (H:=v9) (x:=x) (o:=.ins C J f9),λ_ _ z=>iv9 _ _<|ic9 _ _ z,λ_ _ z=>z,λ_ _ z=>iv9 _ _ z⟩;have K9:bu x W (db v9 x<|.ins C J f9):=K8.fC<|(bu.of<|JC.fC t9).fC Rr;generalize db v9 x (.ins C J f9)=h9 at Rr hx9 O9 K9 ⊢;have S9:af H h9:=λb o e=>K9.k b o (aQ e qG)<|S0 b o e;refine vr xz ?_;have n9:bu x h9 h9:=⟨λb o _ e=>e,λb z=>z⟩;have J9:∀a v,R9 a v->R9 a v:=λ_ _ z=>z;have m9:bu x v9 h9:=Rr.fC n9;have y9:=(JC.fC t9) _ _ RA;have n8:bu x h8 h9:=(bu.of<|JC.fC t9).fC m9;have J8:∀a v,R8 a v->R9 a v:=λa v z=>J9 a v<|j9 a v z;have n7:=k8.fC n8;have J7:∀a v,R7 a v->R9 a v:=λa v z=>J8 a v<|j8 a v z;have n6:=k7.fC n7;have J6:∀a v,R6 a v->R9 a v:=λa v z=>J7 a v<|j7 a v z;have m6:bu x v6 h9:=Rt.fC n6;have y6:=(JD.fC t6) _ _ RB;have n5:bu x h5 h9:=(bu.of<|JD.fC t6).fC m6;have J5:∀a v,R5 a v->R9 a v:=λa v z=>J6 a v<|j6 a v z;have n4:=k5.fC n5;have J4:∀a v,R4 a v->R9 a v:=λa v z=>J5 a v<|j5 a v z;have n3:=k4.fC n4;have J3:∀a v,R3 a v->R9 a v:=λa v z=>J4 a v<|j4 a v z;have m3:bu x v3 h9:=Ru.fC n3;have y3:=(JE.fC t3) _ _ lZ;have n2:bu x h2 h9:=(bu.of<|JE.fC t3).fC m3;have J2:∀a v,R2 a v->R9 a v:=λa v z=>J3 a v<|j3 a v z;have n1:bu x h1 h9:=Rv.fC n2;have J1:∀a v,R1 a v->R9 a v:=λa v z=>J2 a v<|j2 a v z;have n0:bu x W h9:=Rw.fC n1;have J0:∀a v,R0 a v->R9 a v:=λa v z=>J1 a v<|j1 a v z;have nn1:∀y∈jM,y≠("program":cw):=by unfold jM;decide +kernel
  have nn2:∀y∈jM,y≠("steps":cw):=by unfold jM;decide +kernel
  have nn3:∀y∈jM,y≠("trays":cw):=by unfold jM;decide +kernel
  have nn4:∀y∈jM,y≠("places":cw):=by unfold jM;decide +kernel
  have nn5:∀y∈jM,y≠("counts":cw):=by unfold jM;decide +kernel
  have nn6:∀y∈jM,y≠("regs":cw):=by unfold jM;decide +kernel
  have nn7:∀y∈jM,y≠("cells":cw):=by unfold jM;decide +kernel
  have nn8:∀y∈jM,y≠("acts":cw):=by unfold jM;decide +kernel
  have nn9:∀y∈jM,y≠("comers":cw):=by unfold jM;decide +kernel
  refine oE O9.l λfT iU=>?_;have lx:=iU _ _<|J0 _ _ r0;refine aJ (id M.st) λsvs hs1 qJ=>?_;have kt:∀b xs,H b=a_ (.tup xs)->h9 b=a_ (.tup xs):=λb xs e=>S9 _ _ e
  have M9:bb t C CT h9 x ⟨lt,ts,A.pg,A.st,pl,ct,rg,zC,ce,ac,cm,z5⟩ S:=by
   refine⟨⟨J,f9,hx9,?_⟩,m3.ub y3 glt,?_,M.pg.keep kt,⟨svs,kt _ _ hs1,Paired.cq qJ λ_ _ q=>q.keep kt λb C dx fs e _=>S9 _ _ e⟩,n4.ub EN Sz,n5.ub RB gct,m6.ub y6 grg,Paired.cq aaM λa k q=>m6.ub y6<|t6 _ _ q,n7.ub hx7 gce,⟨acs,n8.ub RA gac,Paired.cq anr λ_ _ q=>q.keep kt⟩,m9.ub y9 gcm,Paired.cq aaO λa k q=>m9.ub y9<|t9 _ _ q⟩
   .exact⟨aF (aF (aF (aF (aF (aF (jN Z) lK dk) lJ dk) jH dk) jG dk) jt dk) iY dk,aF (aF (aF (aF (aF (aF (aF (aF (jN X) Y dk) Z dk) lK dk) lJ dk) jH dk) jG dk) jt dk) iY dk,aF (aF (aF (aF (aF (aF (aF (aF (aF (G0.kind) X dk) Y dk) Z dk) lK dk) lJ dk) jH dk) jG dk) jt dk) iY dk,aF (aF (aF (aF (aF (aF (aF (jN Y) Z dk) lK dk) lJ dk) jH dk) jG dk) jt dk) iY dk,aF (aF (aF (aF (aF (jN lK) lJ dk) jH dk) jG dk) jt dk) iY dk,aF (aF (aF (aF (jN lJ) jH dk) jG dk) jt dk) iY dk,aF (aF (aF (jN jH) jG dk) jt dk) iY dk,aF (aF (jN jG) jt dk) iY dk,aF (jN jt) iY dk,jN iY,λy O=>aF (aF (aF (aF (aF (aF (aF (aF (aF (G0.ms y O) X<|nn1 y O) Y<|nn2 y O) Z<|nn3 y O) lK<|nn4 y O) lJ<|nn5 y O) jH<|nn6 y O) jG<|nn7 y O) jt<|nn8 y O) iY<|nn9 y O,Sb⟩
   .refine iZ vX λj y k O _ T=>T.keep (λb hb o e=>m3.k b o (λz=>?_)<|t3 _ _ e) λb xs e=>m3.tup y3 _ _<|t3 _ _ e;have:=iU _ _<|J3 _ _<|Ri _ _<|Rf j y O b hb;rw[z,lx]at this;exact wk
  have L9:lE fT x ⟨lt,ts,A.pg,A.st,pl,ct,rg,zC,ce,ac,cm,z5⟩:=⟨lx,iU _ _<|J3 _ _<|q3 _ _ zB,iU _ _<|J4 _ _<|q4,iU _ _<|J5 _ _<|q5,iU _ _<|J6 _ _<|q6 _ _ rv6,iU _ _<|J7 _ _<|q7,iU _ _<|J8 _ _<|q8,iU _ _<|q9 _ _ rv9,λi a z=>iU _ _<|J6 _ _<|qc6 _ _<|rc6 i a z,λi a z=>iU _ _<|qc9 _ _<|rc9 i a z,λi y z b hb=>iU _ _<|J3 _ _<|Ri _ _<|Rf i y z b hb⟩
  have fr:∀a v,R9 a v->H a=none:=λa v z=>by
   obtain e|e:=O9.f a v z
   .rw[e];exact qG
   .exact e
  refine q h9 x _ fT M9 L9 S9 λb hb=>?_;cases hb with
  | m=>exact qG
  | lt=>exact fr _ _<|J3 _ _<|q3 _ _ zB
  | pl=>exact fr _ _<|J4 _ _<|q4
  | ct=>exact fr _ _<|J5 _ _<|q5
  | rg=>exact fr _ _<|J6 _ _<|q6 _ _ rv6
  | ce=>exact fr _ _<|J7 _ _<|q7
  | ac=>exact fr _ _<|J8 _ _<|q8
  | cm=>exact fr _ _<|q9 _ _ rv9
  | rs h=>
   refine oE (Ac h) λj hj=>?_;exact fr _ _<|J6 _ _<|qc6 _ _<|rc6 j _ hj
  | cs h=>
   refine oE (Ac h) λj hj=>?_;exact fr _ _<|qc9 _ _<|rc9 j _ hj
  | ts h h2=>
   refine oE (Ac h) λj hj=>?_;exact fr _ _<|J3 _ _<|Ri _ _<|Rf j _ hj _ h2
end
def Y7(s:af H H1)(fr:∀b,cY x A b->H b=b_)(k:aA (cY x A) H1 H2):aA eD H H2:=
 ⟨λb o _ hn e=>k.k b o (λz=>by rw[fr b z]at e;cases e) hn<|s b o e,λb z=>s.free<|k.t b z⟩
section
variable{t:bj}{C CT PT:e_}
def kindS(kd:cw):Prop:=kd = ap9\/kd = H_\/kd = ap4
def V'(t:bj)(C CT PT:e_):Sp:=λvs H Q _=>∃m A S p mv,vs=[.ref m,.ref p]/\bb t C CT H m A S/\i5 S/\zo S/\kindS S.kd/\cx PT LP LQ H/\H p=a_ (.tup<|pj mv)/\mv∈dE S/\
 ∀H' x a,bb t C CT H' x a (bA S mv)->(∀b,cY x a b->H b=b_)->aA eD H H'->cx PT LP LQ H'->Q (.ref x) H'
def Wc:bc [aq1,aq3,aq7] [aq1,aq3] (aR LN):=bx
def aee(F:aW K "behind_move" "behind_move" LN f fd)(b:gC K C)(g:Mt P w K mg fK C 9 "twin" g0 (NU t C CT))(j:Mt P w K mg fK C 7 "do" [V_,aq3] (Qa t C CT PT)):
  aE P w K mg fK aL 10 f fd [aq1,aq3] (V' t C CT PT):=by
 refine F.ok Wc λaI A _ s H vs Q E c h=>?_
 .obtain⟨m,A,S,p,mv,rfl,M,W,ov,kd,lam,k,l,q⟩:=h;refine let a:TS:=_;⟨_,aw (bf (i:=2) Wc.nd xz (aP xz)<|oh (pv 0) b.cl g c)<|pR a<|aw (dY<|ji (pv 2) b.cl j (c.mono qc)<|aa (pv 1) ag)<|aB<|aU<|pv 2,?_⟩;obtain⟨dx,fs,hm,G⟩:=id M.obj;refine vM xz hm (G.ms _ dk) ⟨m,A,S,xz,M,kd,W.four,m8 W.ov,λz x d fT e n s1 fr=>?_⟩;obtain⟨B,D,o,r⟩:=id e.obj;refine vM xz o (r.ms _ dk)<|vr xz ⟨x,d,S,p,mv,fT,xz,e,n,W,ov,fA lam s1,s1 _ _ k,l,λu v y l2=>?_⟩;exact vr xz<|q u x d v fr (Y7 s1 fr y) l2
end
def bb.AY(M:bb t C CT H m A S)(a:cY m A b):∃o,H b=a_ o/\((∃C dx fs,o=.ins C dx fs)\/∃xs,o=.lst xs):=by
 cases a with
 | m=>obtain⟨dx,fs,h,_⟩:=M.obj;exact⟨_,h,.inl ⟨_,_,_,xz⟩⟩
 | lt=>exact⟨_,M.lt,.inr ⟨_,xz⟩⟩
 | pl=>exact⟨_,M.pl,.inr ⟨_,xz⟩⟩
 | ct=>exact⟨_,M.ct,.inr ⟨_,xz⟩⟩
 | rg=>exact⟨_,M.rg,.inr ⟨_,xz⟩⟩
 | ce=>exact⟨_,M.ce,.inr ⟨_,xz⟩⟩
 | ac=>obtain⟨vs,h,_⟩:=M.ac;exact⟨_,h,.inr ⟨_,xz⟩⟩
 | cm=>exact⟨_,M.cm,.inr ⟨_,xz⟩⟩
 | rs h=>obtain⟨c,_,q⟩:=oH M.rs h;exact⟨_,q,.inr ⟨_,xz⟩⟩
 | cs h=>obtain⟨c,_,q⟩:=oH M.cs h;exact⟨_,q,.inr ⟨_,xz⟩⟩
 | ts h h2=>
  exact aJ (oH M.ts h) λc _ q=>oE (q.there _ h2) λo e=>⟨o,e,q.kinds _ h2 _ e⟩
def jn(t:bj)(C CT lm dk' fd:e_)(H:Hp)(v:V)(S:Mc):Prop:=∃m A,v=.ref m/\bb t C CT H m A S/\∀b,cY m A b->b≠lm/\b≠dk'/\b≠fd
def bb.up(M:bb t C CT H m A S)(a:H p=a_ o)(c:(∃xs,o=.lst xs)\/∃ks,o=.dT ks)(n:¬cY m A p):bb t C CT (db H p u) m A S:=by
 have d:∀b xs,H b=a_ (.tup xs)->b≠p:=λb xs e z=>by
  subst z;rw[a]at e;cases e;rcases c with ⟨_,z⟩ | ⟨_,z⟩ <;> cases z
 have f:∀b C dx fs,H b=a_ (.ins C dx fs)->b≠p:=λb C dx fs e z=>by
  subst z;rw[a]at e;cases e;rcases c with ⟨_,z⟩ | ⟨_,z⟩ <;> cases z
 exact M.keep (λb g o e=>by rw[ah λz=>n (by rw[<-z];exact g)];exact e) (λb xs e=>by rw[ah<|d b xs e];exact e) λb C dx fs e=>by rw[ah<|f b C dx fs e];exact e
def AR{PT p:e_}(h:cx PT LP LQ H)(d:H p=a_ o)(f:(∃xs,o=.lst xs)\/∃ks,o=.dT ks):cx PT LP LQ (db H p u):=by
 obtain⟨ps,h1,h2⟩:=h
 have n:∀b o',H b=a_ o'->(∀xs,o'≠.lst xs)->(∀ks,o'≠.dT ks)->b≠p:=λb o' e n1 g z=>by
  subst z;rw[d]at e;cases e;obtain⟨_,z⟩|⟨_,z⟩:=f
  .exact n1 _ z
  .exact g _ z
 refine⟨ps,by rw[ah (n _ _ h1 (λxs z=>by cases z) λks z=>by cases z)];exact h1,?_⟩;obtain e|⟨c,e,a⟩:=h2
 .exact .inl e
 .exact .inr ⟨c,e,by rw[ah (n _ _ a (λxs z=>by cases z) λks z=>by cases z)];exact a⟩
def Xw(k:aA eD H0 H)(n:H0 p=b_):aA eD H0 (db H p u):=
 ⟨λb o h1 h2 e=>by rw[ah (λz=>by rw[z,n]at e;cases e)];exact k.k b o h1 h2 e,λb e=>k.t b<|qX b e⟩
def AM(a:H p=a_ o)(b:(∃xs,o=.lst xs)\/∃ks,o=.dT ks):TK H (db H p u):=X8 a λz=>by
 rcases b with ⟨_,e⟩ | ⟨_,e⟩ <;> rcases z with ⟨_,z⟩ | ⟨_,_,z⟩ <;> rw[e]at z <;> cases z
structure BF(K:u_)(t:bj)(C CT PT:e_)(H:Hp)(lm dk' fd:e_)(L:List Mc)(G Fd:List ci):Prop where
 lst:∃ms,H lm=a_ (.lst ms)/\bL (jn t C CT lm dk' fd H) ms L
 uo:∃ks,H dk'=a_ (.dT ks)/\AV K H ks/\ks.map (·.1)=G
 BD:∃fs,H fd=a_ (.lst fs)/\eU K H fs Fd/\∀d∈Fd,b8 8 d=c_
 lam:cx PT LP LQ H
 ne:lm≠dk'/\lm≠fd/\dk'≠fd
def F'{K:u_}(k:TK H H')(h:AV K H ks):AV K H' ks:=λx a=>⟨(h x a).1,(h x a).2.1,lP k (h x a).2.1 (h x a).2.2⟩
section
variable{K:u_}{t:bj}{C CT PT:e_}{H H':Hp}{lm dk' fd:e_}{L:List Mc}{G Fd:List ci}
def BF.keep(h:BF K t C CT PT H lm dk' fd L G Fd)(k:aA eD H H')(l:cx PT LP LQ H'):BF K t C CT PT H' lm dk' fd L G Fd:=by
 obtain⟨⟨ms,a,b⟩,⟨ks,b1,b2,c⟩,⟨fs,c1,c2,c3⟩,_,n⟩:=h;have tk:=TK.xu k;exact⟨⟨ms,k.vE a,Paired.cq b λv S⟨m,A,e,M,f⟩=>⟨m,A,e,M.wQ k,f⟩⟩,⟨ks,k.k _ _ (λz=>z) (λps z=>by cases z) b1,F' tk b2,c⟩,⟨fs,k.vE c1,jK tk c3 c2,c3⟩,l,n⟩
def BF.same(h:BF K t C CT PT H lm dk' fd L G Fd)(s:af H H'):BF K t C CT PT H' lm dk' fd L G Fd:=h.keep (aA.of s)<|fA h.lam s
def BF.put(h:BF K t C CT PT H lm dk' fd L G Fd)(e:H dk'=a_ (.dT ks))(a:A4 K H (d,b)):BF K t C CT PT (db H dk'<|.dT<|ks++[(d,b)]) lm dk' fd L (G++[d]) Fd:=by
 obtain⟨⟨ms,c,g⟩,⟨l,b1,b2,i⟩,⟨fs,c1,c2,c3⟩,lam,n⟩:=h;rw[e]at b1;cases b1;have tk:TK H (db H dk'<|.dT<|ks++[(d,b)]):=AM e<|.inr ⟨_,xz⟩;refine⟨⟨ms,by rw[ah n.1];exact c,Paired.cq g λv S⟨m,A,j,M,f⟩=>⟨m,A,j,M.up e (.inr ⟨_,xz⟩) λz=>(f _ z).2.1 xz,f⟩⟩,⟨_,ai,λx k=>?_,by rw[fg,i];rfl⟩,⟨fs,by rw[ah n.2.2.fF];exact c1,jK tk c3 c2,c3⟩,AR lam e<|.inr ⟨_,xz⟩,n⟩;obtain z|z:=i6.mp k
 .exact F' tk b2 x z
 .rw[c7.mp z];exact⟨a.1,a.2.1,lP tk a.2.1 a.2.2⟩
def BF.app(h:BF K t C CT PT H lm dk' fd L G Fd)(e:H lm=a_ (.lst ms))(m:jn t C CT lm dk' fd H v S):BF K t C CT PT (db H lm<|.lst<|ms++[v]) lm dk' fd (L++[S]) G Fd:=by
 obtain⟨⟨i,b,d⟩,⟨ks,b1,b2,g⟩,⟨fs,c1,c2,c3⟩,lam,n⟩:=h;rw[e]at b;cases b;have tk:TK H (db H lm<|.lst<|ms++[v]):=AM e<|.inl ⟨_,xz⟩;have up:∀v S,jn t C CT lm dk' fd H v S->jn t C CT lm dk' fd (db H lm<|.lst<|ms++[v]) v S:=λv S⟨m,A,a,M,f⟩=>⟨m,A,a,M.up e (.inl ⟨_,xz⟩) λz=>(f _ z).1 xz,f⟩;have c:∀u S,jn t C CT lm dk' fd H u S->jn t C CT lm dk' fd (db H lm<|.lst<|ms++[v]) u S:=λv S⟨m,A,a,M,f⟩=>⟨m,A,a,M.up e (.inl ⟨_,xz⟩) λz=>(f _ z).1 xz,f⟩;exact⟨⟨_,ai,Paired.snoc (Paired.cq d c)<|c v S m⟩,⟨ks,by rw[ah n.1.fF];exact b1,F' tk b2,g⟩,⟨fs,by rw[ah n.2.1.fF];exact c1,jK tk c3 c2,c3⟩,AR lam e<|.inl ⟨_,xz⟩,n⟩
def BF.found(h:BF K t C CT PT H lm dk' fd L G Fd){fs:List V}(e:H fd=a_ (.lst fs))(g:b8 8 d=c_)(hd:c8 K H v d):BF K t C CT PT (db H fd<|.lst<|fs++[v]) lm dk' fd L G (Fd++[d]):=by
 obtain⟨⟨ms,a,b⟩,⟨ks,b1,b2,c⟩,⟨k,c1,c2,c3⟩,lam,n⟩:=h;rw[e]at c1;cases c1;have tk:TK H (db H fd<|.lst<|fs++[v]):=AM e<|.inl ⟨_,xz⟩;refine⟨⟨ms,by rw[ah n.2.1];exact a,Paired.cq b λv S⟨m,A,i,M,f⟩=>⟨m,A,i,M.up e (.inl ⟨_,xz⟩) λz=>(f _ z).2.2 xz,f⟩⟩,⟨ks,by rw[ah n.2.2];exact b1,F' tk b2,c⟩,⟨_,ai,GG (jK tk c3 c2)<|lP tk g hd,λx j=>?_⟩,AR lam e<|.inl ⟨_,xz⟩,n⟩;obtain z|z:=i6.mp j
 .exact c3 x z
 .rw[c7.mp z];exact g
def BF.at(h:BF K t C CT PT H lm dk' fd L G Fd){i:Nat}(e:L[i]?=a_ S):∃ms v m A,H lm=a_ (.lst ms)/\ms.length=L.length/\ms[i]?=a_ v/\v=.ref m/\bb t C CT H m A S/\∀b,cY m A b->b≠lm/\b≠dk'/\b≠fd:=by
 obtain⟨ms,c,a⟩:=h.lst;obtain⟨v,hv,m,A,d,M,f⟩:=sZ a e;exact⟨ms,v,m,A,c,r_ a,hv,d,M,f⟩
end
noncomputable def Zd:bM->List bM
 | .While _ b _ _=>b
 | _=>[]
noncomputable def fBody:bM->List bM
 | .For _ _ b _ _=>b
 | _=>[]
abbrev Q0:List bM:=Zd<|(fj tT).getD 4<|.Pass ⟨0,0,0,0⟩
def Na{S:Mc}{L:List Mc}{mvs:List Mv}{i:Nat}{mv:Mv}(h:mvs[i]?=a_ mv):jB S L (mvs.take<|i+1)=ja (jB S L<|mvs.take i) (bA S mv):=by
 unfold jB;rw[kN,h,abY];rfl
def Xp{κ:Mc->ci}(a:∀{S S'},κ S=κ S'↔fo S=fo S'){L:List Mc}:κ S∈L.map κ↔fo S∈L.map fo:=by
 rw[eR,eR];exact⟨λ⟨T,h,e⟩=>⟨T,h,a.mp e⟩,λ⟨T,h,e⟩=>⟨T,h,a.mpr e⟩⟩
def Xf{κ:Mc->ci}(a:∀{S S'},κ S=κ S'↔fo S=fo S'){L:List Mc}(h:κ S∈L.map κ):ja L S=L:=by
 unfold ja;rw[ek<|(Xp a).mp h]
def Wf{κ:Mc->ci}(a:∀{S S'},κ S=κ S'↔fo S=fo S'){L:List Mc}(h:κ S∉L.map κ):ja L S=L++[S]:=by
 unfold ja;rw[ei λz=>h<|(Xp a).mpr z]
theorem XI:∀{mvs:List Mv}{L:List Mc},(jB S L mvs).length<=L.length+mvs.length
 | [],L=>aD _
 | mv::mvs,L=>by
  have h:=XI (S:=S) (mvs:=mvs) (L:=ja L<|bA S mv)
  have h2:(ja L<|bA S mv).length<=L.length+1:=by
   unfold ja
   split
   .exact jf _
   .rw[dg];exact aD _
  rw[gE];show (jB S (ja L<|bA S mv) mvs).length<=_;lia
def aef(W:i5 S):(dE S).length<=60:=by
 unfold dE uf;rw[dg,aS];have h1:=uP (jQ S)<|List.range S.ck.length;rw[wq]at h1;have h2:(AE S).length<=12*S.ck.zipIdx.length:=GO _ _;rw[Tt]at h2;have h4:=W.four;lia
def tQ(S0:Mc)(n j:Nat):Prop:=(∀i,i<j->i<(ay S0 i).length/\(ay S0 i).length<=n)/\¬(j<(ay S0 j).length/\(ay S0 j).length<=n)
def tQ.le(h:tQ S0 n j):j<=n/\(j<=(ay S0 j).length):=by
 cases j with
 | zero=>exact⟨bJ _,bJ _⟩
 | succ i=>
  obtain⟨a,b⟩:=h.1 i<|sO i;exact⟨li,cQ a<|GV S0<|jf i⟩
def YG(k1:aA eD H H1)(hm:H m=b_)(k:bu m H1 H2):aA eD H H2:=⟨λb o n hn e=>k.k b o (λz=>by rw[z,hm]at e;cases e)<|k1.k b o n hn e,λb h=>k1.t b<|k.t b h⟩
def YF{PT m C dx:e_}{fs:List (cw×V)}(k:bu m H H')(hm:H m=a_ (.ins C dx fs))(h:cx PT LP LQ H):cx PT LP LQ H':=
 Cz (F:=[m]) h (λb o n e=>k.k b o (λz=>n<|by rw[z];exact c7.mpr xz) e) λb a o e=>by rw[c7.mp a,hm]at e;cases e;exact .inl ⟨_,_,_,xz⟩
theorem Gf{K:u_}:∀{vs:List V}{ds:List ci},eU K H vs ds->bL (c8 K H) vs ds
 | _,_,.nil=>.nil
 | _,_,.cons a b=>.cons a<|Gf b
theorem Mm{K:u_}:∀{vs:List V}{ds:List ci},(∀d∈ds,b8 8 d=c_)->TK H H'->bL (c8 K H) vs ds->eU K H' vs ds
 | _,_,_,_,.nil=>.nil
 | _,_,g,k,.cons a b=>.cons (lP k (g _ cb) a)<|Mm (λd hd=>g d<|cu _ hd) k b
section
variable{t:bj}{C CT PT:e_}
def oX(K:u_)(S0:Mc)(n j:Nat)(H H':Hp)(p:e_):Prop:=
 if n<(ay S0 j).length then H' p=a_ (.tup [.str aq8])
 else ∃l c es,H' p=a_ (.tup [.str W_,.ref l])/\H l=b_/\H' l=a_ (.lst c)/\eU K H' c es/\es.Perm (di<|ay S0 j)/\es.Pairwise λa b=>lX a b=c_
def mx(S:Mc):Prop:=∀c∈S.ck,c.es.length<64
def Hv(K:u_)(PT:e_):Sp:=λvs H Q _=>∃v ps kd n,vs=[v,.str kd,.int (n:Nat)]/\jh H v ps/\lB ps/\kindS kd/\n<=2000/\cx PT LP LQ H/\
 (∀k,k<=n->∀S∈ay (eC kd ps) k,mx S/\∀mv∈dE S,mx<|bA S mv)/\(∀k,k<=n->(ay (eC kd ps) k).length<=n->(di<|ay (eC kd ps) k).length<64)/\
 ∀j H' p,tQ (eC kd ps) n j->aA eD H H'->cx PT LP LQ H'->oX K (eC kd ps) n j H H' p->Q (.ref p) H'
abbrev Ew:List cw:=["program",T_,"most","machines","known","found",ac2,aq1,aq3,aq7,"stand"]
def qh:bc Ew hD (aR tT):=bx
def Ge(h:(ay S0 k)[k]?=a_ S):di ((ay S0<|k+1).take<|k+1)=di ((ay S0 k).take k)++if jy S=c_ then [iT S] else []:=by
 have a:=(dX.mp h).1;obtain⟨r,b⟩:=VW S0 k;rw[<-b,abd a,kN,h];unfold di;rw[Ae,fg]
 congr 1
 by_cases e:jy S=c_
 .rw[ek e];simp[e]
 .rw[ei e];simp[e]
structure FI(K:u_)(t:bj)(C CT PT:e_)(κ:Mc->ci)(H0 H:Hp)(lm dk' fd m:e_)(S:Mc)(L:List Mc)(Fd:List ci):Prop where
 b:BF K t C CT PT H lm dk' fd L (L.map κ) Fd
 m:jn t C CT lm dk' fd H (.ref m) S
 k:aA (λb=>b=lm\/b=dk') H0 H
def jn.keep(h:jn t C CT lm dk' fd H v S)(k:aA eD H H'):jn t C CT lm dk' fd H' v S:=by
 obtain⟨m,A,e,M,f⟩:=h;exact⟨m,A,e,M.wQ k,f⟩
def aA.Zt(k:aA F H0 H)(k':aA eD H H'):aA F H0 H':=k.fC (k'.mono λb z=>z.elim)
def ag8{f fI:e_}{fd dI:ir}(F:aW K W_ W_ tT f fd)(B:Bw mg)(cM:gC K C)(mk:Mk K C fI)(GI:aE P w K mg fK aL 7 fI dI hA (G9 t C CT))(yF:mg "Machine"=a_ (.ref C))(b3:dt K dI hA [])(DS:Dp P w K mg fK 4 "stand_of" gx (yu K t C CT fk))(DE:Dp P w K mg fK 3 "end_of" gx (yu K t C CT iT))(DN:Mt P w K mg fK C 2 "ended" g0 (Nn t C CT))(DM:Mt P w K mg fK C 4 "moves" g0 (G8 t C CT PT))(DB:Dp P w K mg fK 10 "behind_move" [aq1,aq3] (V' t C CT PT)):aE P w K mg fK aL 11 f fd hD (Hv K PT):=by
 refine F.ok qh λaI A outer s H vs Q E hr h=>?_
 .obtain⟨v,ps,kd,n,rfl,hP,hg,hk,hn,lam,hW,hE,q⟩:=h;have hu:=m7 (xZ (show 10<=65 by decide) _)<|tx hr;have RI:=m7 (xZ (show 30<=65 by decide) _)<|tx hr;have pL:=hr.mono (show 4<=10 by decide);have qL:=hr.mono (show 3<=10 by decide);have nM:=hr.mono (show 2<=10 by decide);have RM:=hr.mono (show 8<=10 by decide)
  obtain⟨tF,pF,uF⟩:∃tF,dM (gK aL P w K mg fK Ew W_ (aR tT) f aI A outer s H E).lH (fBody<|Q0.getD 2<|.Pass ⟨0,0,0,0⟩) tF/\∀(D:Ends)(σ:L2.St)(O H2:Hp)(lm dk' fd m p:e_)(k:Nat)(R U:Option V)(S:Mc)(L:List Mc)(Fd:List ci)(mv:Mv),σ=[a_ v,a_<|.str kd,a_<|.int (n:Nat),a_<|.ref lm,a_<|.ref dk',a_<|.ref fd,a_<|.int (k:Nat),a_<|.ref m,a_<|.ref p,R,U]->FI K t C CT PT fk O H2 lm dk' fd m S L Fd->nJ kd ps k S->k<14000->L.length<=15000->H2 p=a_ (.tup<|pj mv)->mv∈dE S->mx (bA S mv)->
    (∀H3 X Y,FI K t C CT PT fk O H3 lm dk' fd m S (ja L<|bA S mv) Fd->D.nx [a_ v,a_<|.str kd,a_<|.int (n:Nat),a_<|.ref lm,a_<|.ref dk',a_<|.ref fd,a_<|.int (k:Nat),a_<|.ref m,a_<|.ref p,X,Y] H3)->tF D σ H2:=by
   refine let a:TS:=_;let c:TS:=_;⟨_,aw (bf (i:=9) qh.nd xz (aP xz)<|dP DB hr xz<|aa (pv 7)<|aa (pv 8) ag)<|pR c<|aw (bf (i:=10) qh.nd xz (aP xz)<|dP DS pL xz<|aa (pv 9) ag)<|aB<|br (AO<|UL hu (pv 10)<|pv 4) (pR a<|aw (Wh hu (pv 4) (pv 10) lj xz)<|aB<|dY<|lh m_ n_ o_ nh (pv 3)<|aa (pv 9) ag) bQ,?_⟩;rintro D σ O H2 lm dk' fd m p k R U S L Fd mv rfl I gj apl hL hp jV xY nx;obtain⟨m',A,e,M,fM⟩:=I.m;cases e;refine vr xz<|vr xz ⟨m,A,S,p,mv,xz,M,gj.W.wf,gj.W.ovf li,by rw[gj.kd];exact hk,I.b.lam,hp,jV,λH3 x A' M3 fr k3 l3=>?_⟩;have Bu:=gj.mv li jV;refine vr xz ⟨x,A',bA S mv,xz,M3,Bu.W.wf,xY,λH4 sp s4 hd=>?_⟩;have k4:=k3.fC<|aA.of s4;have B4:=I.b.keep k4<|fA l3 s4;have m4:jn t C CT lm dk' fd H4 (.ref m) S:=jn.keep ⟨m,A,xz,M,fM⟩ k4;have kp4:=aA.Zt I.k k4;obtain⟨ks,d1,d2,d3⟩:=B4.uo;refine au _ xz<|au _ xz ?_;refine⟨dk',ks,sp,fk<|bA S mv,xz,d1,d2,xz,⟨xz,yq _,hd⟩,_,xz,wU (λpM=>?_) λhi=>?_⟩
   .rw[d3]at pM;obtain⟨ms,a1,a2⟩:=B4.lst;have la:=r_ a2;have lk:ks.length=L.length:=by have:=fw FR d3;simpa using this
    refine⟨_,xz,_,xz,dk',ks,sp,fk<|bA S mv,xz,xz,d1,d2,xz,⟨xz,yq _,hd⟩,by rw[ij];lia,by rw[d3];exact pM,?_⟩;have B5:=B4.put d1 (d:=fk<|bA S mv) (b:=sp) ⟨xz,yq _,hd⟩;have up5:∀v T,jn t C CT lm dk' fd H4 v T->jn t C CT lm dk' fd (db H4 dk'<|.dT<|ks++[(fk<|bA S mv,sp)]) v T:=λv T⟨m,A,e1,M,f⟩=>⟨m,A,e1,M.up d1 (.inr ⟨_,xz⟩) λz=>(f _ z).2.1 xz,f⟩;have BR:aA (λb=>b=lm\/b=dk') O (db H4 dk'<|.dT<|ks++[(fk<|bA S mv,sp)]):=kp4.fC<|aA.db<|.inr xz;have a5:db H4 dk' (.dT<|ks++[(fk<|bA S mv,sp)]) lm=a_ (.lst ms):=by rw[ah B4.ne.1];exact a1
    have nw:jn t C CT lm dk' fd H4 (.ref x) (bA S mv):=⟨x,A',xz,M3.same s4,λb hb=>by
     have oC:=fr b hb;obtain⟨Ro,c1,_⟩:=I.b.lst;obtain⟨ks0,c2,_⟩:=I.b.uo;obtain⟨fs0,c3,_⟩:=I.b.BD;exact⟨λz=>(by rw[z,c1]at oC;cases oC),λz=>(by rw[z,c2]at oC;cases oC),λz=>(by rw[z,c3]at oC;cases oC)⟩⟩
    have nw5:=up5 _ _ nw;have m5:=up5 _ _ m4;generalize db H4 dk' (.dT<|ks++[(fk<|bA S mv,sp)])=H5 at B5 BR a5 nw5 m5 ⊢;refine dD _ xz (.inl ⟨xz,_,aq.of a5⟩)<|vr xz<|oN lm ms (.ref x) xz xz a5 (by rw[ij];lia) ?_;refine nx _ _ _ ⟨?_,?_,BR.fC<|aA.db<|.inl xz⟩
    .rw[Wf UE pM,fg];exact B5.app a5 nw5
    .obtain⟨m',A,e1,M,f⟩:=m5;exact⟨m',A,e1,M.up a5 (.inl ⟨_,xz⟩) λz=>(f _ z).1 xz,f⟩
   .rw[d3]at hi;refine nx _ _ _ ⟨?_,m4,kp4⟩;rw[Xf UE hi];exact B4
  generalize xV:eC kd ps=S0 at *
  obtain⟨tR,pT,uR⟩:∃tR,dM (gK aL P w K mg fK Ew W_ (aR tT) f aI A outer s H E).lH (Q0.drop 2) tR/\∀(D:Ends)(σ:L2.St)(O:Hp)(lm dk' fd m:e_)(k:Nat)(Z R U:Option V)(S:Mc)(Fd:List ci),σ=[a_ v,a_<|.str kd,a_<|.int (n:Nat),a_<|.ref lm,a_<|.ref dk',a_<|.ref fd,a_<|.int (k:Nat),a_<|.ref m,Z,R,U]->BF K t C CT PT O lm dk' fd (ay S0 k) ((ay S0 k).map fk) Fd->jn t C CT lm dk' fd O (.ref m) S->(ay S0 k)[k]?=a_ S->nJ kd ps k S->(ay S0 k).length<=n->(∀mv∈dE S,mx<|bA S mv)->
    (∀H3 y8 X Y,BF K t C CT PT H3 lm dk' fd (ay S0<|k+1) ((ay S0<|k+1).map fk) Fd->aA (λb=>b=lm\/b=dk') O H3->D.nx [a_ v,a_<|.str kd,a_<|.int (n:Nat),a_<|.ref lm,a_<|.ref dk',a_<|.ref fd,a_<|.int ((k+1:Nat):Int),a_<|.ref m,y8,X,Y] H3)->tR D σ O:=by
   refine⟨_,aw (tM uS xz (qY<|oh (pv 7) cM.cl DM pL) (cW (i:=8) qh.nd xz<|aP xz) pF)<|aB<|ail (i:=6) qh.nd xz (aP xz) ao YK,?_⟩;rintro D σ O lm dk' fd m k Z R U S Fd rfl B1 m1 hS gj hL xY nx;obtain⟨m',A1,e,M,fM⟩:=id m1;cases e;have E1:=(dX.mp hS).1;obtain⟨dx,fs,hm,G⟩:=id M.obj;refine vM xz hm (G.ms _ dk) ⟨m,A1,S,xz,M,gj.W.wf,B1.lam,λH2 l us k2 l2 nl hl mV=>⟨l,xz,⟨_,aq.of hl⟩,?_⟩⟩;have B2:=B1.keep k2 l2;have m2:=jn.keep m1 k2;obtain⟨ms1,a1,_⟩:=B1.lst;obtain⟨ks1,b1,_⟩:=B1.uo;have sf:l≠lm:=λz=>by rw[z,a1]at nl;cases nl
   have BQ:l≠dk':=λz=>by rw[z,b1]at nl;cases nl
   have hlen:=r_ mV;have ml:=aef gj.W.wf;refine Gy (xs:=us) (λi σ H'=>∃y8 X Y,σ=[a_ v,a_<|.str kd,a_<|.int (n:Nat),a_<|.ref lm,a_<|.ref dk',a_<|.ref fd,a_<|.int (k:Nat),a_<|.ref m,y8,X,Y]/\FI K t C CT PT fk H2 H' lm dk' fd m S (jB S (ay S0 k)<|(dE S).take i) Fd) ⟨Z,R,U,xz,B2,m2,aA.refl _⟩ ?_ ?_ ?_
   .rintro i σ H' _ ⟨_,_,_,_,I⟩;exact aq.of<|I.k.k _ _ (λz=>z.elim sf BQ) (λps z=>by cases z) hl
   .rintro i x σ H' hx ⟨y8,X,Y,rfl,I⟩;obtain⟨mv,BX,p,rfl,hp⟩:=tf mV hx;have jV:=cH BX
    have uB:H' p=a_ (.tup<|pj mv):=I.k.tup (λb z xs e=>by
     obtain z|z:=z
     .rw[z,k2.vE a1]at e;cases e
     .rw[z,k2.k _ _ (λz=>z) (λps z=>by cases z) b1]at e;cases e) _ _ hp
    refine uF _ _ H2 H' lm dk' fd m p k X Y S _ Fd mv xz I gj li (by have h5:=XI (S:=S) (mvs:=(dE S).take i) (L:=ay S0 k);rw[gX]at h5;lia) uB jV (xY mv jV) λH3 u9 u10 I3=>?_;rw[<-Na BX]at I3;exact⟨_,_,_,xz,I3⟩
   .rintro σ H' ⟨y8,X,Y,rfl,I⟩;rw[hlen,jd<|aD _,<-yo hS]at I;refine⟨_,xz,(k:Int),1,xz,xz,?_⟩;exact nx H' y8 X Y I.b<|(k2.mono λb z=>z.elim).fC I.k
  obtain⟨tW,pW,uW⟩:∃tW,dM (gK aL P w K mg fK Ew W_ (aR tT) f aI A outer s H E).lH Q0 tW/\∀(D:Ends)(σ:L2.St)(O:Hp)(lm dk' fd:e_)(k:Nat)(z7 Z R U:Option V)(S:Mc),σ=[a_ v,a_<|.str kd,a_<|.int (n:Nat),a_<|.ref lm,a_<|.ref dk',a_<|.ref fd,a_<|.int (k:Nat),z7,Z,R,U]->BF K t C CT PT O lm dk' fd (ay S0 k) ((ay S0 k).map fk) (di<|(ay S0 k).take k)->(ay S0 k)[k]?=a_ S->nJ kd ps k S->(ay S0 k).length<=n->mx S->(∀mv∈dE S,mx<|bA S mv)->
    (∀H3 y7 y8 X Y,BF K t C CT PT H3 lm dk' fd (ay S0<|k+1) ((ay S0<|k+1).map fk) (di<|(ay S0<|k+1).take<|k+1)->aA (λb=>b=lm\/b=dk'\/b=fd) O H3->D.nx [a_ v,a_<|.str kd,a_<|.int (n:Nat),a_<|.ref lm,a_<|.ref dk',a_<|.ref fd,a_<|.int ((k+1:Nat):Int),y7,y8,X,Y] H3)->tW D σ O:=by
   refine let g:TS:=_;⟨_,aw (bf (i:=7) qh.nd xz (aP xz)<|aV cJ (pv 3)<|pv 6)<|pR g<|aw (br (gZ<|oh (pv 7) cM.cl DN nM) (aB<|dY<|lh m_ n_ o_ nh (pv 5)<|aa (dP DE qL xz<|aa (pv 7) ag) ag) bQ) pT,?_⟩;rintro D σ O lm dk' fd k z7 Z R U S rfl B1 hS gj hL xY aa0 nx;have E1:=(dX.mp hS).1;obtain⟨ms,v0,m,A1,a1,al,av,rfl,M,fM⟩:=B1.at hS;obtain⟨dx,fs,hm,G⟩:=id M.obj;have m1:jn t C CT lm dk' fd O (.ref m) S:=⟨m,A1,xz,M,fM⟩;refine vr xz<|vr xz<|rL (v:=.ref m) (aq.of a1) (eI av) ?_;refine vM xz hm (G.ms _ dk) ⟨m,A1,S,xz,M,gj.W.wf,λH2 s2=>⟨_,xz,Ee (λhe=>?_) λhe=>?_⟩⟩
   .obtain⟨nQ,c1,c2,c3⟩:=(B1.same s2).BD;refine dD _ xz (.inl ⟨xz,_,aq.of c1⟩)<|vr xz ⟨m,A1,S,xz,M.same s2,gj.W.wf,xY,λH3 p s3 hd=>?_⟩;have B3:=B1.same<|s2.fC s3;have Cc:=s3 _ _ c1;have B0:=tu c2
    have hel:(di<|(ay S0 k).take k).length<=k:=by
     unfold di;rw[aS];exact cQ (uP _ _) (by rw[gX];exact TY _ _)
    refine oN fd nQ (.ref p) xz xz Cc (by rw[ij];lia) ?_;have B4:=B3.found Cc (oj 5 S) hd;have m4:jn t C CT lm dk' fd (db H3 fd<|.lst<|nQ++[.ref p]) (.ref m) S:=⟨m,A1,xz,(M.same<|s2.fC s3).up Cc (.inl ⟨_,xz⟩) λz=>(fM _ z).2.2 xz,fM⟩;have k4:aA (λb=>b=lm\/b=dk'\/b=fd) O (db H3 fd<|.lst<|nQ++[.ref p]):=(aA.of<|s2.fC s3).fC<|aA.db<|.inr<|.inr xz;refine uR _ _ _ lm dk' fd m k Z R U S _ xz B4 m4 hS gj hL aa0 λH5 y8 X Y B5 k5=>?_;refine nx H5 _ y8 X Y ?_<|k4.fC (k5.mono λb z=>z.imp id .inl);rw[Ge hS,ek he];exact B5
   .refine uR _ _ _ lm dk' fd m k Z R U S _ xz (B1.same s2) (jn.keep m1<|aA.of s2) hS gj hL aa0 λH5 y8 X Y B5 k5=>?_;refine nx H5 _ y8 X Y ?_<|(aA.of s2).fC (k5.mono λb z=>z.imp id .inl);rw[Ge hS,ei (by rw[he];decide),pZ];exact B5
  obtain⟨t5,p5,u5⟩:∃t5,dM (gK aL P w K mg fK Ew W_ (aR tT) f aI A outer s H E).lH ((fj tT).drop 5) t5/\∀(D:Ends)(σ:L2.St)(O:Hp)(lm dk' fd:e_)(k:Nat)(z7 Z R U:Option V),σ=[a_ v,a_<|.str kd,a_<|.int (n:Nat),a_<|.ref lm,a_<|.ref dk',a_<|.ref fd,a_<|.int (k:Nat),z7,Z,R,U]->BF K t C CT PT O lm dk' fd (ay S0 k) ((ay S0 k).map fk) (di<|(ay S0 k).take k)->tQ S0 n k->aA eD H O->D.rt=Q->t5 D σ O:=by
   refine⟨_,aB<|aU<|MW (bR HX (b9 gm xz B.len q_<|aa (pv 3) ag) (pv 2)<|bG _) (cp<|aa a7 ag)<|cp<|aa a7<|aa (b9 (Ui RI) xz B.sorted boot_sorted<|aa (pv 5) ag) ag,?_⟩;rintro D σ O lm dk' fd k z7 Z R U rfl B1 he k1 rfl;obtain⟨ms,a1,a2⟩:=B1.lst;have al:=r_ a2;refine vr xz<|dG lm ms xz (.inl<|aq.of a1)<|au _ xz ⟨_,_,xz,xz,_,xz,bq (λh1=>?_) λh1=>?_⟩
   .refine⟨sl (n:=1),λp hp=>?_⟩;have s2:af O (db O p<|.tup [.str aq8]):=ax (af.refl _) hp;refine q k _ p he (k1.fC<|aA.of s2) (fA B1.lam s2) ?_;unfold oX;rw[ek li];exact ai
   .have RS:=he.le;have uh:(ay S0 k).take k=ay S0 k:=jd (by have:=he.2;lia);obtain⟨fs,c1,c2,c3⟩:=B1.BD;rw[uh]at c2 c3;have hf:=AB hg (kd:=kd) (k:=k) li;rw[xV]at hf;have SH:=hE k RS.1 li
    have mem:∀d∈di (ay S0 k),∃S∈ay S0 k,d=iT S:=λd hd=>by
     obtain⟨S,h1,h2⟩:=eR.mp hd;exact⟨S,(pY.mp h1).1,h2.fF⟩
    refine vr xz ⟨fd,fs,di<|ay S0 k,xz,aq.of c1,SH,Gf c2,λd hd=>?_,λd hd e zS=>?_,Hn (C0 S0 k) hf,λl zs es hl hz pm pw=>⟨sl (n:=2),λp hp=>?_⟩⟩
    .obtain⟨S,_,rfl⟩:=mem d hd;exact⟨oj 5 S,_,_,xz⟩
    .obtain⟨S,hS,rfl⟩:=mem d hd;obtain⟨T,hT,rfl⟩:=mem e zS;have f1:=hf S hS;have f2:=hf T hT;exact UY f1.W.wf f2.W.wf (by rw[f1.W.wf.len,f2.W.wf.len,f1.ps,f2.ps])
    .have s2:af O (db O l<|.lst zs):=ax (af.refl _) hl;have g2:db O l (.lst zs) l=a_ (.lst zs):=ai;generalize db O l (.lst zs)=H2 at s2 g2 hp ⊢;have s3:af H2 (db H2 p<|.tup [.str W_,.ref l]):=ax (af.refl _) hp;refine q k _ p he (k1.fC<|aA.of<|s2.fC s3) (fA B1.lam<|s2.fC s3) ?_;unfold oX;rw[ei li];refine⟨l,zs,es,ai,k1.t l hl,s3 _ _ g2,Mm (λd hd=>?_) (TK.of<|s2.fC s3) hz,pm,pw⟩;obtain⟨S,_,rfl⟩:=mem d<|pm.mem_iff.mp hd;exact oj 5 S
  refine let j:TS:=_;let r:TS:=_;let J:TS:=_;let N:TS:=_;⟨_,aw (bf (i:=3) qh.nd xz (aP xz)<|dh<|aa (jY mk GI RM xz yF b3 .nil cX<|aa (pv 0)<|aa (pv 1) ag) ag)<|pR N<|aw (bf (i:=4) qh.nd xz (aP xz)<|Wi hu (dP DS pL xz<|aa (aV cJ (pv 3) ao) ag) lj)<|pR J<|aw (bf (i:=5) qh.nd xz (aP xz)<|dh ag)<|pR r<|aw (bf (i:=6) qh.nd xz (aP xz) ao)<|pR j<|aw (Wg uS (PW.pt<|pw_and (bR wN (pv 6) (b9 gm xz B.len q_<|aa (pv 3) ag)<|bG _)<|pw_and1<|bR HW (b9 gm xz B.len q_<|aa (pv 3) ag) (pv 2)<|bG _) pW) p5,?_⟩;refine au _ xz (vr xz λx dx nx cG ne=>?_);have sb:af H (db (db H dx<|.own x) x<|.ins C dx []):=ax (ax (af.refl _) cG) (by rw[ah ne.fF];exact nx);have qI:db (db H dx<|.own x) x (.ins C dx []) x=a_ (.ins C dx []):=ai;generalize db (db H dx<|.own x) x (.ins C dx [])=Hb at sb qI ⊢;refine qe x dx v ps kd xz qI (hP.keep λb xs e=>sb b _ e) hg hk λh0 A2 aaD M2 L2' ev k2 fr2=>⟨xz,sl (n:=1),λlm sf=>?_⟩;rw[xV]at M2;have k0:aA eD H h0:=YG (aA.of sb) nx k2;have l0:=YF k2 qI<|fA lam sb;have s1:af h0 (db h0 lm<|.lst [.ref x]):=ax (af.refl _) sf;have g1:db h0 lm (.lst [.ref x]) lm=a_ (.lst [.ref x]):=ai;have amo:=k0.t _ sf
  have fx:∀b,cY x A2 b->b≠lm:=λb hb z=>by
   obtain⟨o,e,_⟩:=M2.AY hb;rw[z,sf]at e;cases e
  generalize db h0 lm (.lst [.ref x])=h1 at s1 g1 ⊢;have M3:=M2.same s1;have k1:=k0.fC<|aA.of s1;have l1:=fA l0 s1;refine λdk' vS=>?_;have s2:af h1 (db h1 dk'<|.dT []):=ax (af.refl _) vS;have g2:db h1 dk' (.dT []) dk'=a_ (.dT []):=ai;have Qs:=k1.t _ vS
  have Fh:∀b,cY x A2 b->b≠dk':=λb hb z=>by
   obtain⟨o,e,_⟩:=M3.AY hb;rw[z,vS]at e;cases e
  have EH:lm≠dk':=aQ g1 vS;generalize db h1 dk' (.dT [])=h2 at s2 g2 ⊢;have w0:=AB hg (kd:=kd) (k:=0) li (eC kd ps) (by rw[ay];exact c7.mpr xz);have z0:=hW 0 (bJ _) S0 (by rw[ay];exact c7.mpr xz);rw[xV]at w0;refine vr xz<|rL (v:=.ref x) (aq.of<|s2 _ _ g1) xz ⟨x,A2,S0,xz,M3.same s2,w0.W.wf,z0.1,λh3 p s3 hd=>⟨p,fk S0,xz,s3 _ _ g2,xz,⟨xz,yq _,hd⟩,?_⟩⟩;have yT:=s3 _ _ g2;have ky:=s2.fC s3;have tk:TK h3 (db h3 dk'<|.dT [(fk S0,p)]):=AM yT<|.inr ⟨_,xz⟩;have k4:aA eD H (db h3 dk'<|.dT [(fk S0,p)]):=Xw (k1.fC<|aA.of ky) Qs;have l4:cx PT LP LQ (db h3 dk'<|.dT [(fk S0,p)]):=AR (fA l1 ky) yT<|.inr ⟨_,xz⟩;have M4:=(M3.same ky).up (u:=.dT [(fk S0,p)]) yT (.inr ⟨_,xz⟩) λz=>Fh _ z rfl;have g4:db h3 dk' (.dT [(fk S0,p)]) dk'=a_ (.dT [(fk S0,p)]):=ai;have a4:db h3 dk' (.dT [(fk S0,p)]) lm=a_ (.lst [.ref x]):=by rw[ah EH];exact ky _ _ g1
  have d4:=lP tk (yq S0) hd;generalize db h3 dk' (.dT [(fk S0,p)])=h4 at k4 l4 M4 g4 a4 d4 ⊢;refine⟨qc,λfd si=>?_⟩;have s5:af h4 (db h4 fd<|.lst []):=ax (af.refl _) si;have g5:db h4 fd (.lst []) fd=a_ (.lst []):=ai;have amr:=k4.t _ si
  have SA:∀b,cY x A2 b->b≠fd:=λb hb z=>by
   obtain⟨o,e,_⟩:=M4.AY hb;rw[z,si]at e;cases e
  have n1:lm≠fd:=aQ a4 si;have n2:dk'≠fd:=aQ g4 si;generalize db h4 fd (.lst [])=h5 at s5 g5 ⊢;have B5:BF K t C CT PT h5 lm dk' fd (ay S0 0) ((ay S0 0).map fk) (di<|(ay S0 0).take 0):=⟨⟨_,s5 _ _ a4,.cons ⟨x,A2,xz,M4.same s5,λb hb=>⟨fx b hb,Fh b hb,SA b hb⟩⟩ .nil⟩,⟨_,s5 _ _ g4,λy hy=>(by rw[c7.mp hy];exact⟨xz,yq _,lP (TK.of s5) (yq S0) d4⟩),xz⟩,⟨[],g5,.nil,λd hd=>nomatch hd⟩,fA l4 s5,EH,n1,n2⟩;have k5:=k4.fC<|aA.of s5;refine⟨λμ σ H'=>∃k z7 Z R U,μ=n+1-k/\σ=[a_ v,a_<|.str kd,a_<|.int (n:Nat),a_<|.ref lm,a_<|.ref dk',a_<|.ref fd,a_<|.int (k:Nat),z7,Z,R,U]/\(∀i,i<k->i<(ay S0 i).length/\(ay S0 i).length<=n)/\BF K t C CT PT H' lm dk' fd (ay S0 k) ((ay S0 k).map fk) (di<|(ay S0 k).take k)/\aA eD H H',⟨_,0,b_,b_,b_,b_,xz,xz,(λi h=>eo h<|TX _),B5,k5⟩,?_⟩;rintro μ σ H6 ⟨k,z7,Z,R,U,rfl,rfl,hI,B6,k6⟩;obtain⟨ms,a1,a2⟩:=B6.lst;have al:=r_ a2;have fin:¬(k<(ay S0 k).length/\(ay S0 k).length<=n)->tQ S0 n k:=λh=>⟨hI,h⟩;refine au _ xz<|vr xz<|dG lm ms xz (.inl<|aq.of a1) ⟨_,_,xz,xz,_,xz,bq (λh1=>?_) λh1=>?_⟩
  .refine vr xz (dG lm ms xz (.inl<|aq.of a1)<|au _ xz ⟨_,_,xz,xz,_,xz,bq (λh2=>?_) λh2=>?_⟩)
   .have hk1:k<(ay S0 k).length:=li;have hS:(ay S0 k)[k]?=a_ ((ay S0 k)[k]'hk1):=a8 hk1;have EV:=Ag hk1;generalize (ay S0 k)[k]'hk1=S at hS EV;have hf:=AB hg (kd:=kd) (k:=k) li;rw[xV]at hf;have zW:=hW k li S EV;refine⟨_,λσ' H' z=>z,uW _ _ H6 lm dk' fd k z7 Z R U S xz B6 hS (hf S EV) li zW.1 zW.2 λH7 y7 y8 X Y B7 k7=>⟨n+1-(k+1),li,k+1,y7,y8,X,Y,xz,xz,λi hi=>?_,B7,?_⟩⟩
    .by_cases z:i=k
     .subst z;exact⟨hk1,li⟩
     .exact hI i li
    .exact⟨λb o h1 h2 e=>k7.k b o (λz=>by rcases z with z | z | z <;> rw[z]at e <;> simp_all) h2<|k6.k b o h1 h2 e,λb e=>k6.t b<|k7.t b e⟩
   .exact u5 _ _ H6 lm dk' fd k z7 Z R U xz B6 (fin li) k6 xz
  .exact fq (u5 _ _ H6 lm dk' fd k z7 Z R U xz B6 (fin li) k6 xz)
end
abbrev oU(H:Hp)(x:V):Prop:=(∃T,ec H x=a_ T)/\∀ys,cA H x=a_ ys->ys.length<=1000/\∀y∈ys,Told H y
def oU.same(s:af H H')(h:oU H x):oU H' x:=by
 refine oA h λc a=>?_;refine oE c λT b=>?_;refine⟨⟨T,sY s b⟩,λys e=>?_⟩;rw[vc s b]at e;refine oA (a ys e) λh1 h2=>?_;exact⟨h1,λy a=>(h2 y a).same s⟩
def qp.same(s:af H H')(h:qp H v):qp H' v:=by
 refine oA h λc a=>?_;refine oE c λT b=>?_;refine⟨⟨T,sY s b⟩,λxs e=>?_⟩;rw[vc s b]at e;refine oA (a xs e) λh1 h2=>?_;exact⟨h1,λx a=>oU.same s<|h2 x a⟩
theorem all_congr{a:Type}{f g:a->Bool}:∀{l:List a},(∀x∈l,f x=g x)->l.all f=l.all g
 | [],_=>rfl
 | x::r,h=>by rw[yd,yd,h x cb,all_congr λy b=>h y<|cu _ b]
def Gd(s:af H H')(h:qp H v):ia H' v=ia H v:=by
 refine oA h λa b=>?_;refine oE a λT c=>?_;unfold ia;rw[vc s c];cases e:cA H v with
 | none=>rfl
 | some xs=>
  show (_&&xs.all λx=>(cA H' x).isSome)=(_&&xs.all λx=>(cA H x).isSome);rw[all_congr λx d=>?_];refine oA ((b xs e).2 x d) λa _=>?_;refine oE a λU f=>?_;rw[vc s f]
theorem U3(s:af H H'):∀{l:List V}{p:Nat},(∀y∈l,Told H y)->hY H' n p l=hY H n p l
 | [],_,_=>rfl
 | v::r,p,h=>by
  show (if gI H' v p n=c_ then hY H' n (p+1) r else a_ p)=(if gI H v p n=c_ then hY H n (p+1) r else a_ p);rw[Ms s<|h v cb,U3 s λy a=>h y<|cu _ a]
theorem Lu(s:af H H'):∀{xs:List V}{c:Nat},(∀x∈xs,oU H x)->gF H' c xs=gF H c xs
 | [],_,_=>rfl
 | x::r,c,h=>by
  refine oA (h x cb) λd b=>?_;refine oE d λT f=>?_;have g:dZ H' x=dZ H x:=by unfold dZ;rw[vc s f]
  have i:∀y∈dZ H x,Told H y:=λy a=>by
   unfold dZ at a;cases e:cA H x with
   | none=>rw[e]at a;cases a
   | some ys=>rw[e]at a;exact(b ys e).2 y a
  show (match hY H' (dZ H' x).length 0 (dZ H' x)with | some p=>a_ (c,p) | none=>gF H' (c+1) r)=(match hY H (dZ H x).length 0 (dZ H x)with | some p=>a_ (c,p) | none=>gF H (c+1) r);rw[g,U3 s i,Lu s λy b=>h y<|cu _ b]
def YS(K:u_)(a:PE X e ta)(b:Cu e f X.env (eval e X.env)=eval e X.env)(h:autoParam (X.K=K) am):PE X (.Attribute e f pos) (Zg K ta f):=by subst h;exact agM a b
section
variable{t:bj}{C CT:e_}
def xk.BA{st:bM}{k:Nat}{sp:Sp}(F:xk K x qual st f fd d)(S:bc N ps (aR st))
  (b:∀(aI:f_)(A:h_)(outer:List Env)(s:g_)(H:Hp)(vs:List V)(Q:VK)(E:XK),eM k (A.deeper<|d8 qual (aR st) s.heap.objs.size f aI)->
   qt (gK (eV P w) P w K mg fK N qual (aR st) f aI A outer s H E) (λ_=>E)->OP (gK (eV P w) P w K mg fK N qual (aR st) f aI A outer s H E) (λ_=>E)->sp vs H Q E->
   ∃t,dM (gK (eV P w) P w K mg fK N qual (aR st) f aI A outer s H E) (fj st) t/\t {nx:=λ_ H'=>Q .aH H',rt:=Q} (start N vs) H) (len:∀vs H Q E,sp vs H Q E->vs.length=ps.length:=by intro _ _ _ _ h;(repeat obtain⟨_,h⟩:=h);subst_vars;rfl):aE P w K mg fK (eV P w) (k+1) f fd ps sp:=by
 refine qd F.ex λoc od T kV doc pm an aI ct jb a=>?_;obtain⟨c1,d1,n1,uu,tk,a,c,e,_⟩:=a;subst a;exact vy c e S len λA outer s H vs Q E g i=>b aI A outer s H vs Q E g Wx aeg i
def Ia(k:V):Prop:=k=.str ap9\/k=.str H_\/k=.str ap4
def Yg(C cC cP cK:e_):Sp:=λvs H Q E=>∃m dx v k T,vs=[.ref m,v,k]/\H m=a_ (.ins C dx [])/\qp H v/\ec H k=a_ T/\(ia H v=d_->∀H',af H H'->E (.ref cC) b_ H')/\
 (ia H v=c_->∀xs,cA H v=a_ xs->(∀c p,gF H 0 xs=a_ (c,p)->∀d H',af H H'->H' d=a_ (kj d [(X_,.int c),(ac2,.int p)])->E (.ref cP) (a_ d) H')/\ (gF H 0 xs=b_->¬Ia k/\∀H',af H H'->E (.ref cK) b_ H'))
def ag1{f j l cC cP r:e_}(F:xk K M_ "Machine.__init__" Dg f fd ap9)(cM:gC K C)(G:aE P w K mg fK (eV P w) 6 j fdK gy (NV cC cP))(J:x_ K (.ref j)=c_)(L:dt K fdK gy [])(mK:mg "look_over"=a_ (.ref j))(M:aE P w K mg fK (eV P w) 3 l fdT [T_] (Me CT r))(O:x_ K (.ref l)=c_)(R:dt K fdT [T_] [])(S:mg "tray_of"=a_ (.ref l)):aE P w K mg fK (eV P w) 7 f fd hA (Yg C cC cP r):=by
 refine F.BA W9 λaI A outer s H vs Q E y U V h=>?_
 .obtain⟨m,dx,v,k,T,o,hm,W,X,Y,B⟩:=h;subst o;have Z:=y.mono (show 3<=6 by decide)
  refine let b:TS:=_;⟨_,aw (dY<|Gv G y U xz mK J L .nil<|aa (pv 1) ag) (pR b (aw (dU (pv 0) (afb (N:=[T_,ap7]) (idx:=[2]) xz xz V xz (dJ.of<|by kernel_rfl) (iG<|aD _) (vp<|pv 1) (λ_ _ _ _ _=>cW (i:=1) Zy xz (aP xz)<|.inr xz) (λ_ _ _ _ _=>gY)
     λE0 _ _ _ _ _ q=>Gv M Z q xz S O R .nil<|aa (pv 0) ag) xz)
   (u:=λ_ _ _=>False) λp_ s σ H D I h=>h.elim)),?_⟩
  refine vr xz<|⟨v,xz,W,(λhf H' s'=>Y hf H' s'),(λe xs g=>⟨λhn H1 s1=>?_,λc p hc d H' s' hd=>(B e xs g).1 c p hc d H' s' hd⟩)⟩;refine oA ((B e xs g).2 hn) λhb qK=>?_;refine aJ (Az g) λa o ha=>?_;subst o
  have q:0<xs.length:=by
   unfold ia at e;rw[g]at e;have h':((decide (1<=xs.length)&&decide (xs.length<=4))&&xs.all λx=>(cA H x).isSome)=true:=e;rw[fY,fY]at h';exact er h'.1.1
  refine au _ xz<|dD a xz ⟨_,az.of<|s1 _ _ ha⟩ ?_;refine iH (n:=1) (λi ys H'=>i=0/\ys=[]/\H'=H1) qc ⟨xz,xz,xz⟩ ?_ ?_ ?_ ?_ ?_
  .rintro i ys H' ⟨rfl,rfl,_⟩;exact aD _
  .rintro i ys H' hi ⟨rfl,rfl,rfl⟩;exact gw _ _ (az.of<|s1 _ _ ha)<|a8 q
  .rintro ys H' ⟨z,_⟩;cases z
  .rintro i ys H' hi ⟨rfl,rfl,rfl⟩ x gD ⟨eH,_⟩;subst eH;dsimp only[jz,iO];rw[ek rfl];exact vr xz (rm k T xz (sY s1 X) (λz=>eo z hb) λ_=>qK _ s1)
  .rintro ys H' ⟨z,_⟩;cases z
def W3(cC cP cK:e_):Sp:=λvs H Q E=>∃v k n T,vs=[v,k,.int n]/\qp H v/\ec H k=a_ T/\(ia H v=d_->∀H',af H H'->E (.ref cC) b_ H')/\
 (ia H v=c_->∀xs,cA H v=a_ xs->(∀c p,gF H 0 xs=a_ (c,p)->∀d H',af H H'->H' d=a_ (kj d [(X_,.int c),(ac2,.int p)])->E (.ref cP) (a_ d) H')/\ (gF H 0 xs=b_->¬Ia k/\∀H',af H H'->E (.ref cK) b_ H'))
def afl{f fI cC cP cK:e_}(F:aW K W_ W_ tT f fd)(mk:Mk K C fI)(j:aE P w K mg fK (eV P w) 7 fI dI hA (Yg C cC cP cK))(l:mg "Machine"=a_ (.ref C))(m:dt K dI hA []):aE P w K mg fK (eV P w) 11 f fd hD (W3 cC cP cK):=by
 refine F.BA qh λaI A outer s H vs Q E o q U h=>?_
 .obtain⟨v,k,n,T,rfl,b,r,y,z⟩:=h;refine⟨_,aw (bf (i:=3) qh.nd xz (aP xz)<|dh<|aa (afa mk j (o.mono (show 8<=10 by decide)) q xz l m .nil<|aa (pv 0)<|aa (pv 1) ag) ag) (u:=λ_ _ _=>False) λp_ s σ H D I h=>h.elim,?_⟩;refine au _ xz (vr xz λx dx nx B ne=>?_);have a:af H (db (db H dx<|.own x) x<|.ins C dx []):=ax (ax (af.refl _) B) (by rw[ah ne.fF];exact nx);have e:db (db H dx<|.own x) x (.ins C dx []) x=a_ (.ins C dx []):=ai;generalize db (db H dx<|.own x) x (.ins C dx [])=Hb at a e ⊢;obtain⟨⟨V,G⟩,J⟩:=id b;refine⟨x,dx,v,k,T,xz,e,b.same a,sY a r,λL H' s'=>y (by rw[<-Gd a b];exact L) H'<|a.fC s',λM xs N=>?_⟩;have hv:cA H v=a_ xs:=by rw[<-vc a G];exact N
  have O:=Lu a (c:=0) (J xs hv).2;obtain⟨R,g⟩:=z (by rw[<-Gd a b];exact M) xs hv;rw[O];exact⟨λc p S d H' s' hd=>R c p S d H' (a.fC s') hd,λhn=>⟨(g hn).1,λH' s'=>(g hn).2 H'<|a.fC s'⟩⟩
end
def gv.same{H H':Hp}{v:V}{t:Tl}(s:af H H')(h:gv H v t):gv H' v t:=by
 obtain⟨a,e,h⟩:=h;exact⟨a,e,s _ _ h⟩
def IsPart.same{H H':Hp}{v:V}{p:Pt}(s:af H H')(h:IsPart H v p):IsPart H' v p:=by
 obtain⟨a,vs,e,h,r⟩:=h;exact⟨a,vs,e,s _ _ h,Paired.cq r λ_ _ q=>q.same s⟩
def jh.same{H H':Hp}{v:V}{p:List Pt}(s:af H H')(h:jh H v p):jh H' v p:=by
 obtain⟨a,vs,e,h,r⟩:=h;exact⟨a,vs,e,s _ _ h,Paired.cq r λ_ _ q=>q.same s⟩
noncomputable def kc(ns:List Int)(k:Int):Int:=ns.getD k.toNat 0
noncomputable def Ba(c k:Int):Int:=(c%2147483647+7919*k+1)*48271%2147483647
def yw(c k:Int):Int:=Ba c k*(Ba c k/1009+69621)%2147483647
def aiL(c k:Int):0<=Ba c k/\Ba c k<2147483647:=⟨qa _ qc,pV _ qc⟩
def afA(c k:Int):0<=yw c k/\yw c k<2147483647:=⟨qa _ qc,pV _ qc⟩
def Yk(K:u_):Sp:=λvs H Q _=>∃a ns k,vs=[.ref a,.int k]/\aq K H a (ns.map V.int)/\0<=k/\Q (.int<|kc ns k) H
def aia:bc ii ii (aR NC):=bx
def agW{f:e_}{fd:ir}(F:aW K "_law_cell_at" "_law_cell_at" NC f fd)(c:mg "len"=b_):aE P w K mg fK aL 1 f fd ii (Yk K):=by
 refine F.ok aia λaI A _ s H vs Q E d h=>?_
 .obtain⟨a,ns,j,rfl,ha,g,k⟩:=h;refine⟨_,aw (br (bR wN (pv 1) (b9 gm xz c q_<|aa (pv 0) ag)<|bG _) (aB<|aU<|aV cJ (pv 0)<|pv 1) bQ)<|aB<|aU ao,?_⟩;refine⟨_,xz,_,xz,a,_,xz,.inl ha,_,_,xz,xz,_,xz,bq (λh1=>?_) λh1=>?_⟩
  .rw[aS]at h1;have b:j.toNat<ns.length:=om;refine⟨_,xz,_,xz,a,_,j,.int<|kc ns j,xz,xz,ha,?_,k⟩;have e:j=(j.toNat:Int):=om;rw[e];refine eI ?_;rw[eX,a8 b];unfold kc;rw[mh,nS,a8 b];rfl
  .rw[aS]at h1
   have e:kc ns j=0:=by
    unfold kc;rw[nS,Cm om];rfl
   rw[e]at k;exact k
def Zi:Sp:=λvs H Q _=>∃c j,vs=[.int c,.int j]/\Q (.int<|yw c j) H
def Zm:bc [P_,"_law_k","_law_number"] hU (aR N2):=bx
def aiA{f:e_}{fd:ir}(F:aW K "_law_mixed" "_law_mixed" N2 f fd):aE P w K mg fK aL 1 f fd hU Zi:=by
 refine F.ok Zm λaI A _ s H vs Q E a h=>?_
 .obtain⟨c,j,rfl,k⟩:=h;refine⟨_,aw (bf (i:=2) Zm.nd xz (aP xz)<|aG cV (aG vq (aG fQ (aG fQ (aG cV (pv 0) ao)<|aG vq ao<|pv 1) ao) ao) ao)<|aB<|aU<|aG cV (aG vq (pv 2)<|aG fQ (aG fE (pv 2) ao) ao) ao,?_⟩;have b:=aiL c j;refine⟨_,xz,_,_,xz,xz,(by show (0:Int)<2147483647;decide),_,xz,_,_,xz,xz,.inl ⟨qc,qc⟩,_,_,xz,xz,_,_,xz,xz,_,_,xz,xz,.inr ⟨qc,qc⟩,_,_,xz,xz,(by show (0:Int)<2147483647;decide),?_⟩;refine⟨_,xz,_,xz,_,_,xz,xz,⟨qc,qc⟩,_,_,xz,xz,_,_,xz,xz,.inl ⟨?_,?_⟩,_,_,xz,xz,(by show (0:Int)<2147483647;decide),k⟩
  .show -(2^64)<Ba c j;omega
  .show Ba c j<2^64;omega
def OX:(10:Int)^(60:Int).toNat=dH:=dk
def ahf(d:Int){b:Nat}(a:0<b):∃k:Nat,k<b/\d%(b:Int)=(k:Int):=by
 have h1:0<=d%(b:Int):=qa _ om;have h2:d%(b:Int)<b:=pV _ om;exact⟨(d%(b:Int)).toNat,om,om⟩
def AU{xs:List V}{d:Int}{n:Nat}(h:xs.length=n)(hn:0<n):∃v,jS xs (d%(n:Int))=a_ v/\v∈xs:=by
 have b1:0<=d%(n:Int):=qa _ om;have b2:d%(n:Int)<n:=pV _ om;have e:d%(n:Int)=((d%(n:Int)).toNat:Int):=om;have a:(d%(n:Int)).toNat<xs.length:=om;refine⟨xs[(d%(n:Int)).toNat],?_,Ag a⟩;have q:=eI<|a8 a;rw[<-e]at q;exact q
def Bt(c:Int):Prop:=Fy c<=2^20
def Bt.sq{c:Int}(h:Bt c):IntMulOk c c:=by
 unfold IntMulOk Builtin.Int.intTooBig bitsLine;intro z;rw[fY,decide_eq_true_eq]at z;have h1:Fy c<=2^20:=h;have h2:=z.2;simp only[gt_iff_lt]at h2;omega
def agT{X:Cx}:fG X (oO .Mult) (rI IntMulOk λi j=>.int<|i*j):=Et λ_ _ _ _ _ _ _ a q=>mul_int q a
def Dz{H:Hp}{p:e_}{x:cw}{i j:Int}(hi:0<=i)(a:0<=j):gv (db H p<|.tup [.str x,.int i,.int j]) (.ref p) (x,[i.toNat,j.toNat]):=
 ⟨p,xz,by
  rw[ai];show a_ (HO.tup [.str x,V.int i,V.int j])=a_ (HO.tup [.str x,V.int (i.toNat:Int),V.int (j.toNat:Int)]);rw[KO hi,KO a]⟩
def Nk{i:Int}(h:i<dH):i.toNat<10^60:=by
 have e:((10^60:Nat):Int)=dH:=dk;omega
def nB(d:Int){b:Int}(h:0<b):0<=d%b/\d%b<b:=⟨qa _ om,pV _ h⟩
def Z':Sp:=λvs H Q _=>∃(d c sz nm:Int),vs=[.int d,.int c,.int sz,.int nm]/\0<=d/\d<2147483647/\Bt c/\0<=sz/\sz<=120/\2<=nm/\nm<=4/\∀v t H',af H H'->gv H' v t->dq sz.toNat t->Q v H'
def D9:bc ["_law_draw",P_,"_law_length",aq2,aq0,"_law_box","_law_name","_law_great"] iE (aR N7):=bx
def agh:(0:Int)<dH:=dk
def akn{f:e_}{fd:ir}(F:aW K "_law_step" "_law_step" N7 f fd):aE P w K mg fK aL 1 f fd iE Z':=by
 refine F.ok D9 λaI A _ s H vs Q E hr h=>?_
 .obtain⟨d,c,sz,nm,rfl,O,qM,hc,hs0,hs1,pN,Kb,k⟩:=h;have G:∀(x:cw)(i j:Int),0<=i->0<=j->dq sz.toNat (x,[i.toNat,j.toNat])->∀(B:Hp)(p:e_),af H B->B p=b_->Q (.ref p) (db B p<|.tup [.str x,.int i,.int j]):=λx i j hi hj g B p s1 z=>k _ _ _ (ax s1 z) (Dz hi hj) g;refine let a:TS:=_;let b:TS:=_;let e:TS:=_;let m:TS:=_;let q:TS:=_;let r:TS:=_;let t:TS:=_;let u:TS:=_;let y:TS:=_;⟨_,aw (bf (i:=4) D9.nd xz (aP xz)<|aG cV (pv 0) ao)<|pR y<|aw (bf (i:=5) D9.nd xz (aP xz)<|aG cV (aG fE (pv 0) ao) ao)<|pR u<|aw (bf (i:=6) D9.nd xz (aP xz)<|aG cV (aG fE (pv 0) ao)<|pv 3)<|pR t<|aw (bf (i:=7) D9.nd xz (aP xz)<|dh<|aa (aG cV (aG fE (pv 0) ao) ao)<|aa (aG cV (aG vq (aG vq (pv 0)<|pv 0)<|aG fQ ao<|aG agT (pv 1)<|pv 1)<|aG Dl ao ao)<|aa (aG Dk (aG Dk (aG Dl ao ao) ao)<|aG cV (pv 0) ao) ag)<|pR r<|aw (br (bR dm (pv 4) ao<|bG _) (aB<|aU<|cp<|aa a7<|aa (pv 5)<|aa (aV cJ (pv 7)<|aG cV (aG fE (pv 0) ao) ao) ag) bQ)<|pR q<|aw (br (bR dm (pv 4) ao<|bG _) (aB<|aU<|cp<|aa a7<|aa (pv 5)<|aa (aG cV (aG fE (pv 0) ao) ao) ag) bQ)<|pR m<|aw (br (bR wN (pv 4) ao<|bG _) (aB<|aU<|cp<|aa a7<|aa (pv 6)<|aa (pv 5) ag) bQ)<|pR e<|aw (br (bR wN (pv 4) ao<|bG _) (aB<|aU<|cp<|aa a7<|aa (pv 5)<|aa (pv 6) ag) bQ)<|pR b<|aw (br (bR dm (pv 4) ao<|bG _) (aB<|aU<|aV cJ (dh<|aa (cp<|aa a7<|aa (pv 5)<|aa (pv 6) ag)<|aa (cp<|aa a7 ag) ag)<|aG cV (aG fE (pv 0) ao) ao) bQ)<|pR a<|aw (br (bR dm (pv 4) ao<|bG _) (aB<|aU<|cp<|aa a7<|aa (pv 5)<|aa (aG cV (aG fE (pv 0) ao)<|aG fQ (pv 2) ao) ag) bQ)<|aB<|aU<|cp<|aa a7<|aa (pv 5)<|aa (aG fQ ao<|aG cV (aG fE (pv 0) ao) ao) ag,?_⟩;have dd0:0<=d*d:=Int.mul_nonneg O O;have dd1:d*d<=2147483647*2147483647:=Int.mul_le_mul om om O qc;have D:=nB (d/9) (show (0:Int)<2 by decide);have R:=nB (d/18) (show (0:Int)<nm by omega);have X:=agh;refine⟨_,xz,_,_,xz,xz,(by show (0:Int)<9;decide),?_⟩;refine⟨_,xz,_,_,xz,xz,⟨qc,qc⟩,_,_,xz,xz,(by show (0:Int)<2;decide),?_⟩;refine⟨_,xz,_,_,xz,xz,⟨qc,qc⟩,_,xz,_,_,xz,xz,(by show (0:Int)<nm;omega),?_⟩;refine⟨_,xz,_,_,xz,xz,⟨qc,qc⟩,_,_,xz,xz,(by show (0:Int)<3;decide),?_⟩;refine⟨_,xz,_,xz,_,_,xz,xz,.inl ⟨?_,?_⟩,_,xz,_,xz,_,_,xz,xz,hc.sq,_,_,xz,xz,_,_,xz,xz,.inl ⟨?_,?_⟩,_,_,xz,xz,⟨qc,qc,qc⟩,_,_,xz,xz,?_,?_⟩
  .show -(2^64)<d;omega
  .show d<2^64;omega
  .show -(2^64)<d*d;omega
  .show d*d<2^64;omega
  .show (0:Int)<10^(60:Int).toNat;rw[OX];exact X
  refine⟨_,_,xz,xz,⟨qc,qc,qc⟩,_,_,xz,xz,_,xz,_,_,xz,xz,(by show (0:Int)<3;decide),_,_,xz,xz,by show 3<=aX;decide,λI EX=>?_⟩;have C:=ax (o:=.lst [V.int (d/100%3),V.int<|d*d*(1+c*c)%10^(60:Int).toNat,V.int<|10^(60:Int).toNat-1-d%3]) (af.refl H) EX;have Y:db H I (.lst [V.int (d/100%3),V.int<|d*d*(1+c*c)%10^(60:Int).toNat,V.int<|10^(60:Int).toNat-1-d%3]) I=a_ (.lst [V.int (d/100%3),V.int<|d*d*(1+c*c)%10^(60:Int).toNat,V.int<|10^(60:Int).toNat-1-d%3]):=ai
  have hgr:∃L:List Int,L.length=3/\(∀g∈L,0<=g/\g<dH)/\db H I (.lst [V.int (d/100%3),V.int<|d*d*(1+c*c)%10^(60:Int).toNat,V.int<|10^(60:Int).toNat-1-d%3]) I=a_ (.lst<|L.map V.int):=by
   refine⟨[d/100%3,d*d*(1+c*c)%10^(60:Int).toNat,10^(60:Int).toNat-1-d%3],xz,λg M=>?_,Y⟩;have h3:(3:Int)<dH:=dk;have b1:=nB (d/100) (show (0:Int)<3 by decide);have b3:=nB d (show (0:Int)<3 by decide);rw[OX]at M;have b2:=nB (d*d*(1+c*c)) X;simp only[a9,qQ,or_false]at M;obtain rfl|rfl|rfl:=M
   .omega
   .exact b2
   .omega
  obtain⟨L,Kh,hgb,Z⟩:=hgr;clear Y;generalize db H I (.lst [V.int (d/100%3),V.int<|d*d*(1+c*c)%10^(60:Int).toNat,V.int<|10^(60:Int).toNat-1-d%3])=B at C Z;have e3:∀{i:Int},i%3=i%((3:Nat):Int):=rfl;refine⟨_,xz,xz,_,xz,bq (λ_=>?_) λ_=>?_⟩
  .obtain⟨v,hv,N⟩:=AU (xs:=L.map V.int) (d:=d/300) (n:=3) (by rw[aS];exact Kh) qc;obtain⟨g,M,rfl⟩:=eR.mp N;have gb:=hgb g M;refine⟨_,xz,_,xz,_,xz,_,_,xz,xz,⟨qc,qc⟩,_,_,xz,xz,(by show (0:Int)<3;decide),I,_,_,_,xz,xz,aq.of Z,hv,by show 3<=aX;decide,λp z=>?_⟩;exact G S_ (d/9%2) g D.1 gb.1 (.put _ _ om<|Nk gb.2) B p C z
  refine⟨_,xz,xz,_,xz,bq (λ_=>?_) λ_=>?_⟩
  .refine⟨_,xz,_,xz,_,_,xz,xz,⟨qc,qc⟩,_,_,xz,xz,(by show (0:Int)<2;decide),by show 3<=aX;decide,λp z=>?_⟩;have b1:=nB (d/100) (show (0:Int)<2 by decide);exact G Q_ (d/9%2) _ D.1 b1.1 (.add _ _ om om) B p C z
  refine⟨_,xz,_,_,xz,xz,_,xz,bq (λ_=>?_) λ_=>?_⟩
  .refine⟨_,xz,_,xz,by show 3<=aX;decide,λp z=>?_⟩;exact G U_ (d/18%nm) (d/9%2) R.1 D.1 (.set _ _ om om) B p C z
  refine⟨_,xz,_,_,xz,xz,_,xz,bq (λ_=>?_) λ_=>?_⟩
  .refine⟨_,xz,_,xz,by show 3<=aX;decide,λp z=>?_⟩;exact G L_ (d/9%2) (d/18%nm) D.1 R.1 (.look _ _ om om) B p C z
  refine⟨_,xz,xz,_,xz,bq (λ_=>?_) λ_=>?_⟩
  .refine⟨_,xz,_,xz,by show 3<=aX;decide,λp z=>⟨by show 1<=aX;decide,λJ iX=>⟨by show 2<=aX;decide,λl S=>?_⟩⟩⟩;have EC:=ax (o:=.tup [.str I_,.int<|d/9%2,.int<|d/18%nm]) (af.refl B) z;have t1:gv (db B p<|.tup [.str I_,.int<|d/9%2,.int<|d/18%nm]) (.ref p) (I_,[(d/9%2).toNat,(d/18%nm).toNat]):=Dz D.1 R.1;generalize db B p (.tup [.str I_,.int<|d/9%2,.int<|d/18%nm])=T at EC t1 iX S;have U:=ax (o:=.tup [.str N_]) (af.refl T) iX;have t2:gv (db T J<|.tup [.str N_]) (.ref J) (N_,[]):=⟨J,xz,ai⟩;generalize db T J (.tup [.str N_])=H3 at U t2 S;have W:=ax (o:=.lst [.ref p,.ref J]) (af.refl H3) S;obtain⟨v,hv,N⟩:=AU (xs:=[.ref p,.ref J]) (d:=d/100) (n:=2) xz qc;refine⟨_,xz,_,_,xz,xz,⟨qc,qc⟩,_,_,xz,xz,(by show (0:Int)<2;decide),l,_,_,v,xz,xz,aq.of ai,hv,?_⟩;have sA:=((C.fC EC).fC U).fC W;simp only[a9,qQ,or_false]at N;obtain rfl|rfl:=N
   .exact k _ _ _ sA ((t1.same U).same W) (.swap _ _ om om)
   .exact k _ _ _ sA (t2.same W) .clear
  refine⟨_,xz,xz,_,xz,bq (λ_=>?_) λ_=>?_⟩
  .refine⟨_,xz,_,xz,_,_,xz,xz,⟨qc,qc⟩,_,xz,_,_,xz,xz,_,_,xz,xz,(by show (0:Int)<sz+1;omega),by show 3<=aX;decide,λp z=>?_⟩;have b1:=nB (d/100) (show (0:Int)<sz+1 by omega);exact G J_ (d/9%2) _ D.1 b1.1 (.skip _ _ om om om) B p C z
  .refine⟨_,xz,_,xz,_,_,xz,xz,⟨qc,qc⟩,_,_,xz,xz,(by show (0:Int)<2;decide),_,_,xz,xz,by show 3<=aX;decide,λp z=>?_⟩;have b1:=nB (d/100) (show (0:Int)<2 by decide);have h3:(3:Int)<dH:=dk;exact G S_ (d/9%2) _ D.1 om (.put _ _ om<|Nk om) B p C z
def Wd{H H':Hp}{l:e_}{o:HO}(s:af H H')(h:H l=b_):af H (db H' l o):=λb u e=>by
 rw[ah<|aQ e h];exact s b u e
def PM{xs:List V}{j:Int}(b:0<=j)(h:j<xs.length):∃v,jS xs j=a_ v/\v∈xs:=by
 have e:j=(j.toNat:Int):=om;have a:j.toNat<xs.length:=om;refine⟨xs[j.toNat],?_,Ag a⟩;have q:=eI<|a8 a;rw[<-e]at q;exact q
def oW:Sp:=λvs H Q _=>∃(d k c cn nm:Int)(sz:Nat),vs=[.int d,.int k,.int c,.int cn,.int nm]/\0<=d/\d<2147483647/\0<=k/\0<=c/\c<4/\1<=cn/\cn<=4/\2<=nm/\nm<=4/\∀v t H',af H H'->gv H' v t->dq sz t->Q v H'
def ow:bc ["_law_draw","_law_k",ac1,ap5,aq2,"_law_name"] jc (aR Oc):=bx
def akp{f:e_}{fd:ir}(F:aW K "_law_crossing" "_law_crossing" Oc f fd):aE P w K mg fK aL 1 f fd jc oW:=by
 refine F.ok ow λaI A _ s H vs Q E Y h=>?_
 .obtain⟨d,j,c,cn,nm,sz,rfl,Z,qM,hk0,Kn,hc4,apo,apn,pN,Kb,k⟩:=h;have z:∀(x:cw)(a b:Int),0<=a->0<=b->dq sz (x,[a.toNat,b.toNat])->∀(C:Hp)(p:e_),af H C->C p=b_->Q (.ref p) (db C p<|.tup [.str x,.int a,.int b]):=λx a b ha X g C p s1 r=>k _ _ _ (ax s1 r) (Dz ha X) g;refine let e:TS:=_;let m:TS:=_;let q:TS:=_;⟨_,aw (bf (i:=5) ow.nd xz (aP xz)<|aG cV (aG fE (pv 0) ao)<|pv 4)<|pR q<|aw (br (bR dm (pv 1) ao<|bG _) (aB<|aU<|cp<|aa a7<|aa ao<|aa (aG fQ ao<|pv 2) ag) bQ)<|pR m<|aw (br (bR dm (aG cV (pv 0) ao) ao<|bG _) (aB<|aU<|aV cJ (dh<|aa (cp<|aa a7<|aa ao<|aa (pv 5) ag)<|aa (cp<|aa a7 ag)<|aa (cp<|aa a7<|aa ao<|aa ao ag) ag)<|aG cV (aG fE (pv 0) ao) ao) bQ)<|pR e<|aw (br (bR dm (aG cV (aG fQ (pv 1)<|aG fE (aG cV (pv 0) ao) ao) ao) ao<|bG _) (aB<|aU<|cp<|aa a7<|aa (aV cJ (dh<|aa (aG cV (pv 2)<|pv 4)<|aa (pv 5) ag)<|aG fE (aG cV (aG fE (pv 0) ao) ao) ao)<|aa ao ag) bQ)<|aB<|aU<|cp<|aa a7<|aa (aG fQ ao<|aG cV (aG fE (pv 1) ao) ao)<|aa (aV cJ (dh<|aa (aG cV (aG cV (aG fQ (pv 2) ao)<|pv 3)<|pv 4)<|aa (pv 5) ag)<|aG fE (aG cV (aG fE (pv 0) ao) ao) ao) ag,?_⟩;have J:=nB (d/18) (show (0:Int)<nm by omega);have ht:(9:Int)<dH:=dk;have D:0<=d/300%4/3/\d/300%4/3<2:=om;refine⟨_,xz,_,_,xz,xz,⟨qc,qc⟩,_,xz,_,_,xz,xz,(by show (0:Int)<nm;omega),?_⟩;refine⟨_,xz,xz,_,xz,bq (λ_=>?_) λ_=>?_⟩
  .refine⟨_,xz,_,_,xz,xz,by show 3<=aX;decide,λp r=>?_⟩;exact z S_ 0 (1+c) qc om (.put _ _ qc<|Nk om) H p (af.refl H) r
  refine⟨_,xz,_,_,xz,xz,(by show (0:Int)<7;decide),xz,_,xz,bq (λ_=>?_) λ_=>?_⟩
  .refine⟨_,xz,by show 3<=aX;decide,λp r=>⟨by show 1<=aX;decide,λy S=>⟨by show 3<=aX;decide,λB L=>⟨by show 3<=aX;decide,λl t=>?_⟩⟩⟩⟩;have T:=ax (o:=.tup [.str I_,.int 1,.int<|d/18%nm]) (af.refl H) r;have U:gv (db H p<|.tup [.str I_,.int 1,.int<|d/18%nm]) (.ref p) (I_,[(1:Int).toNat,(d/18%nm).toNat]):=Dz qc J.1;generalize db H p (.tup [.str I_,.int 1,.int<|d/18%nm])=M at T U S L t;have N:=ax (o:=.tup [.str N_]) (af.refl M) S;have V:gv (db M y<|.tup [.str N_]) (.ref y) (N_,[]):=⟨y,xz,ai⟩;generalize db M y (.tup [.str N_])=O at N V L t;have G:=ax (o:=.tup [.str Q_,.int 2,.int 1]) (af.refl O) L;have W:gv (db O B<|.tup [.str Q_,.int 2,.int 1]) (.ref B) (Q_,[(2:Int).toNat,(1:Int).toNat]):=Dz qc qc;generalize db O B (.tup [.str Q_,.int 2,.int 1])=H4 at G W t;have I:=ax (o:=.lst [.ref p,.ref y,.ref B]) (af.refl H4) t;obtain⟨v,hv,u⟩:=AU (xs:=[.ref p,.ref y,.ref B]) (d:=d/100) (n:=3) xz qc;refine⟨_,xz,_,_,xz,xz,⟨qc,qc⟩,_,_,xz,xz,(by show (0:Int)<3;decide),l,_,_,v,xz,xz,aq.of ai,hv,?_⟩;have R:=((T.fC N).fC G).fC I;simp only[a9,qQ,or_false]at u;obtain rfl|rfl|rfl:=u
   .exact k _ _ _ R (((U.same N).same G).same I) (.swap _ _ qc om)
   .exact k _ _ _ R ((V.same G).same I) .clear
   .exact k _ _ _ R (W.same I) (.add _ _ qc qc)
  refine⟨_,xz,_,xz,_,_,xz,xz,(by show (0:Int)<7;decide),_,_,xz,xz,⟨qc,qc⟩,_,_,xz,xz,_,_,xz,xz,(by show (0:Int)<2;decide),xz,_,xz,bq (λ_=>?_) λ_=>?_⟩
  .have b1:=nB c (show (0:Int)<nm by omega);refine⟨_,xz,_,xz,_,_,xz,xz,(by show (0:Int)<nm;omega),_,xz,by show 2<=aX;decide,λl t=>?_⟩;have s1:=ax (o:=.lst [.int (c%nm),.int<|d/18%nm]) (af.refl H) t;obtain⟨v,hv,u⟩:=PM (xs:=[.int (c%nm),.int<|d/18%nm]) D.1 (by show d/300%4/3<2;exact D.2);refine⟨_,xz,_,_,xz,xz,⟨qc,qc⟩,_,_,xz,xz,(by show (0:Int)<4;decide),_,_,xz,xz,⟨qc,qc⟩,l,_,_,v,xz,xz,aq.of ai,hv,by show 3<=aX;decide,λp r=>?_⟩;simp only[a9,qQ,or_false]at u;obtain rfl|rfl:=u
   .exact z U_ _ 0 b1.1 qc (.set _ _ om qc) _ p s1 r
   .exact z U_ _ 0 J.1 qc (.set _ _ om qc) _ p s1 r
  .have b1:=nB ((c+1)%cn) (show (0:Int)<nm by omega);have b2:=nB (j/2) (show (0:Int)<3 by decide);refine⟨_,xz,_,_,xz,xz,⟨qc,qc⟩,_,_,xz,xz,(by show (0:Int)<3;decide),_,_,xz,xz,?_⟩;refine⟨_,xz,_,_,xz,xz,_,xz,_,_,xz,xz,(by show (0:Int)<cn;omega),_,xz,_,_,xz,xz,(by show (0:Int)<nm;omega),_,xz,by show 2<=aX;decide,λl t=>?_⟩;have s1:=ax (o:=.lst [.int ((c+1)%cn%nm),.int<|d/18%nm]) (af.refl H) t;obtain⟨v,hv,u⟩:=PM (xs:=[.int ((c+1)%cn%nm),.int<|d/18%nm]) D.1 (by show d/300%4/3<2;exact D.2);refine⟨_,xz,_,_,xz,xz,⟨qc,qc⟩,_,_,xz,xz,(by show (0:Int)<4;decide),_,_,xz,xz,⟨qc,qc⟩,l,_,_,v,xz,xz,aq.of ai,hv,by show 3<=aX;decide,λp r=>?_⟩;simp only[a9,qQ,or_false]at u;obtain rfl|rfl:=u
   .exact z L_ (1+j/2%3) _ om b1.1 (.look _ _ om om) _ p s1 r
   .exact z L_ (1+j/2%3) _ om J.1 (.look _ _ om om) _ p s1 r
def pc:Sp:=λvs H Q _=>∃(c n:Int),vs=[.int c,.int n]/\0<=n/\n<=500/\∀(l:e_)(ds:List Int)(H':Hp),af H H'->H l=b_->H' l=a_ (.lst<|ds.map V.int)->ds.length=n.toNat->(∀d∈ds,0<=d/\d<2147483647)->Q (.ref l) H'
def A8:bc [P_,"_law_amount","_law_drawn","_law_rest","_law_k","_law_number"] io (aR Oa):=bx
def ako{f fM:e_}{fd v:ir}(F:aW K "_law_draws" "_law_draws" Oa f fd)(M:mg "range"=b_)(N:aE P w K mg fK aL 1 fM v hU Zi)(O:x_ K (.ref fM)=c_)(R:dt K v hU [])(S:mg "_law_mixed"=a_ (.ref fM)):aE P w K mg fK aL 2 f fd io pc:=by
 refine F.ok A8 λaI A _ s H vs Q E T h=>?_
 .obtain⟨c,n,rfl,hn0,Kc,k⟩:=h;refine let a:TS:=_;let b:TS:=_;let e:TS:=_;let g:TS:=_;⟨_,aw (bf (i:=2) A8.nd xz (aP xz)<|dh ag)<|pR g<|aw (bf (i:=3) A8.nd xz (aP xz)<|aG fE (pv 0) ao)<|pR e<|aw (tM uS xz (oM xz M<|aa (pv 1) ag) (cW (i:=4) A8.nd xz<|aP xz)<|aB<|br (PW.pt<|pw_or (bR dm (aG cV (pv 0) ao) ao<|bG _)<|pw_or1<|bR dm (aG cV (pv 0) ao) ao<|bG _) (pR a<|aw (dY<|lh m_ n_ o_ nh (pv 2)<|aa (aG cV (pv 3)<|aG Dl ao ao) ag)<|aB<|bf (i:=3) A8.nd xz (aP xz)<|aG fE (pv 3)<|aG Dl ao ao)<|pR b<|aw (bf (i:=5) A8.nd xz (aP xz)<|oa N T xz S O R .nil cX<|aa (pv 0)<|aa (pv 4) ag)<|aB<|dY<|lh m_ n_ o_ nh (pv 2)<|aa (aG cV (aG vq (pv 5)<|aG fQ (aG fE (pv 5) ao) ao) ao) ag)<|aB<|aU<|pv 2,?_⟩;refine⟨qc,λl p=>?_⟩;have y:=ax (o:=.lst []) (af.refl H) p;have B:db H l (.lst []) l=a_ (.lst<|([]:List Int).map V.int):=ai;generalize db H l (.lst [])=H0 at y B;refine⟨_,xz,_,_,xz,xz,⟨qc,qc⟩,_,xz,n,xz,om,om,?_⟩
  refine Mr (n:=n.toNat) (λi σ H'=>∃(rs:Int)(q r:Option V)(ds:List Int),σ=[a_ (.int c),a_<|.int n,a_<|.ref l,a_<|.int rs,q,r]/\af H H'/\H' l=a_ (.lst<|ds.map V.int)/\ds.length=i/\∀d∈ds,0<=d/\d<2147483647)
   ⟨_,b_,b_,[],xz,y,B,xz,λ_ z=>by cases z⟩ ?_ ?_
  .rintro i σ m hi ⟨rs,q,r,ds,rfl,s1,h1,t,u⟩
   have C:∀d:Int,0<=d->d<2147483647->af H (db m l<|.lst<|(ds.map V.int)++[.int d])/\db m l (.lst<|(ds.map V.int)++[.int d]) l=a_ (.lst<|(ds++[d]).map V.int)/\(ds++[d]).length=i+1/\∀x∈ds++[d],0<=x/\x<2147483647:=λd U d1=>by
    refine⟨Wd s1 p,by rw[ai,fg];rfl,by rw[dg,t];rfl,λx W=>?_⟩;obtain z|z:=i6.mp W
    .exact u x z
    .rw[c7.mp z];exact⟨U,d1⟩
   have ap1:∀(σ1:L2.St),True:=λ_=>trivial;have j:(0:Int)<10^(5:Int).toNat:=qc;have D:(10:Int)^(5:Int).toNat<1073741824:=qc;have ape:(10:Int)^(5:Int).toNat<2147483647:=qc;have X:=nB rs j;obtain⟨G,I,J,L⟩:=C (rs%10^(5:Int).toNat) X.1 om;have br1:∃us:List Int,us=ds++[rs%10^(5:Int).toNat]:=⟨_,xz⟩;refine⟨_,xz,_,_,xz,xz,(by show (0:Int)<4;decide),xz,_,xz,bq (λ_=>?_) λ_=>?_⟩
   .refine⟨_,xz,.inl ⟨xz,_,aq.of h1⟩,_,xz,_,_,xz,xz,⟨qc,qc,qc⟩,_,_,xz,xz,j,l,_,_,xz,xz,h1,cU (by rw[aS];omega),?_⟩;exact⟨_,xz,_,_,xz,xz,⟨qc,qc,qc⟩,_,_,xz,xz,⟨j,D⟩,_,_,_,_,xz,G,I,J,L⟩
   refine⟨_,xz,_,_,xz,xz,(by show (0:Int)<4;decide),xz,_,xz,bq (λ_=>?_) λ_=>?_⟩
   .refine⟨_,xz,.inl ⟨xz,_,aq.of h1⟩,_,xz,_,_,xz,xz,⟨qc,qc,qc⟩,_,_,xz,xz,j,l,_,_,xz,xz,h1,cU (by rw[aS];omega),?_⟩;exact⟨_,xz,_,_,xz,xz,⟨qc,qc,qc⟩,_,_,xz,xz,⟨j,D⟩,_,_,_,_,xz,G,I,J,L⟩
   .have hm:=afA c<|0+(i:Int);refine⟨_,xz,_,xz,c,0+(i:Int),xz,?_⟩;have Y:=nB (yw c (0+(i:Int))*(yw c (0+(i:Int))/613+40692)) (show (0:Int)<2147483399 by decide);obtain⟨Z,g2,g3,g4⟩:=C _ Y.1 om;refine⟨_,xz,.inl ⟨xz,_,aq.of h1⟩,_,xz,_,xz,_,_,xz,xz,⟨qc,qc⟩,_,_,xz,xz,_,_,xz,xz,.inl ⟨?_,?_⟩,_,_,xz,xz,(by show (0:Int)<2147483399;decide),l,_,_,xz,xz,h1,cU (by rw[aS];omega),_,_,_,_,xz,Z,g2,g3,g4⟩
    .show -(2^64)<yw c (0+(i:Int));omega
    .show yw c (0+(i:Int))<2^64;omega
  .rintro σ m ⟨rs,q,r,ds,rfl,s1,h1,t,u⟩;exact⟨_,xz,k l ds m s1 p h1 t u⟩
def Wj(h:IsPart H v p)(d:H l=a_ (.lst xs)):IsPart (db H l o) v p:=by
 obtain⟨a,vs,e,h,r⟩:=h;refine⟨a,vs,e,?_,Paired.cq r λ_ _ q=>?_⟩
 .rw[ah λz=>by rw[z,d]at h;cases h];exact h
 .obtain⟨b,e,c⟩:=q;refine⟨b,e,?_⟩;rw[ah λz=>by rw[z,d]at c;cases c];exact c
def Z8:Sp:=λvs H Q _=>∃(c ck len nm:Int),vs=[.int c,.int ck,.int len,.int nm]/\Bt c/\1<=ck/\ck<=4/\1<=len/\len<=60/\2<=nm/\nm<=4/\
 ∀(v:V)(ps:List Pt)(H':Hp),af H H'->jh H' v ps->lB ps->ps.length=ck.toNat->(∀p∈ps,p.length<=60)->Q v H'
def A7:bc [P_,ap5,"_law_length",aq2,"_law_parts","_law_draws_here",ac1,"_law_size","_law_some"] ki (aR N8):=bx
def aiI:(["_law_draws_here",ac1,"_law_k"]:List cw).Nodup:=dk
def afw:(["_law_some",ac1,ap5,aq2,"_law_k"]:List cw).Nodup:=dk
def afv:(["_law_some",P_,"_law_size",aq2,"_law_k"]:List cw).Nodup:=dk
def Ii{ds:List Int}{j:Int}(a:0<=j)(h:j<ds.length)(b:∀d∈ds,0<=d/\d<2147483647):∃d:Int,jS (ds.map V.int) j=a_ (.int d)/\0<=d/\d<2147483647:=by
 obtain⟨v,hv,hm⟩:=PM (xs:=ds.map V.int) a (by rw[aS];exact h);obtain⟨d,hd,rfl⟩:=eR.mp hm;exact⟨d,hv,b d hd⟩
def akl{f fD fS fX:e_}{fd fdD xB fdX:ir}(F:aW K "_law_program" "_law_program" N8 f fd)(B:Bl mg)(jD:mg "range"=b_)(GD:aE P w K mg fK aL 2 fD fdD io pc)(kD:x_ K (.ref fD)=c_)(bD:dt K fdD io [])(mD:mg "_law_draws"=a_ (.ref fD))(GS:aE P w K mg fK aL 1 fS xB iE Z')(kS:x_ K (.ref fS)=c_)(bS:dt K xB iE [])(mS:mg "_law_step"=a_ (.ref fS))(GX:aE P w K mg fK aL 1 fX fdX jc oW)(kX:x_ K (.ref fX)=c_)(bX:dt K fdX jc [])(mX:mg "_law_crossing"=a_ (.ref fX)):aE P w K mg fK aL 3 f fd ki Z8:=by
 refine F.ok A7 λaI A _ s H vs Q E hr h=>?_
 .obtain⟨c,ck,len,nm,rfl,E6,anj,ani,nO,apj,pN,Kb,kk⟩:=h;have O:=hr.mono (show 1<=2 by decide)
  refine let a:TS:=_;let b:TS:=_;let d:TS:=_;let k:TS:=_;let l:TS:=_;let m:TS:=_;let u:TS:=_;let C:TS:=_;⟨_,aw (bf (i:=4) A7.nd xz (aP xz)<|dh ag) (pR C (aw (bf (i:=5) A7.nd xz (yA xz)<|oa GD hr xz mD kD bD .nil cX<|aa (pv 0)<|aa (aG fQ ao<|aG vq ao<|pv 2) ag) (pR u (aw (tM uS xz (oM xz jD<|aa (pv 1) ag) (cW (i:=6) A7.nd xz<|yA xz) (pR l (aw (bf (i:=7) A7.nd xz (yA xz)<|aG cV (aV cJ (pv 5)<|pv 6)<|aG fQ (pv 2) ao) (pR k (aw (bf (i:=8) A7.nd xz (yA xz) (iu (N:=["_law_draws_here",ac1,"_law_k"]) (idx:=[5,6]) xz (dJ.of<|by kernel_rfl) (iG<|aD _) (oM xz jD<|aa (pv 2) ag)
     (λ_ _ _ _=>cW (i:=2) aiI xz (aP xz)<|.inr xz) (λ_ _ _ _=>gY) λ_ _ _ _=>aV (DU K) (pv 0)<|aG fQ (aG fQ ao<|aG vq ao<|pv 2)<|pv 1))
    (pR d (aB (br (bR dm (aG cV (pv 0) ao) ao<|bG _) (pR a (aB (dY (lh m_ n_ o_ nh (pv 4) (aa (gu kR xz B.tuple i8 (aa (iu (N:=["_law_some",ac1,ap5,aq2,"_law_k"]) (idx:=[8,6,1,3]) xz (dJ.of<|by kernel_rfl) (iG<|aD _) (oM xz jD<|aa (pv 2) ag)
      (λ_ _ _ _=>cW (i:=4) afw xz (aP xz)<|.inr xz) (λ_ _ _ _=>gY)
      λ_ _ _ _=>oa GX O xz mX kX bX .nil cX<|aa (aV (DU K) (pv 0)<|pv 4)<|aa (pv 4)<|aa (pv 1)<|aa (pv 2)<|aa (pv 3) ag) ag)) ag)))))
     (pR b (aB (dY (lh m_ n_ o_ nh (pv 4) (aa (gu kR xz B.tuple i8 (aa (iu (N:=["_law_some",P_,"_law_size",aq2,"_law_k"]) (idx:=[8,0,7,3]) xz (dJ.of<|by kernel_rfl) (iG<|aD _) (oM xz jD<|aa (pv 7) ag)
      (λ_ _ _ _=>cW (i:=4) afv xz (aP xz)<|.inr xz) (λ_ _ _ _=>gY)
      λ_ _ _ _=>oa GS O xz mS kS bS .nil cX<|aa (aV (DU K) (pv 0)<|pv 4)<|aa (pv 1)<|aa (pv 2)<|aa (pv 3) ag) ag)) ag)))))))))))))
   (pR m<|aB<|aU<|gu kR xz B.tuple i8<|aa (pv 4) ag))))),?_⟩
  refine⟨qc,λJ hlp=>?_⟩;have s0:=ax (o:=.lst []) (af.refl H) hlp;have h0:db H J (.lst []) J=a_ (.lst []):=ai;generalize db H J (.lst [])=H0 at s0 h0;refine⟨_,xz,_,xz,_,_,xz,xz,.inl ⟨qc,qc⟩,_,_,xz,xz,c,4+4*len,xz,om,om,λU ds H1 s1 BQ hld Ki kE=>?_⟩;have zz:=s0.fC s1;have amq:U≠J:=λz=>by rw[z,h0]at BQ;cases BQ
  refine⟨_,xz,ck,xz,om,om,?_⟩
  refine Mr (n:=ck.toNat) (λi σ H'=>∃(x6 x7 x8:Option V)(G:List V)(ps:List Pt),σ=[a_ (.int c),a_<|.int ck,a_<|.int len,a_<|.int nm,a_<|.ref J,a_<|.ref U,x6,x7,x8]/\af H H'/\H' U=a_ (.lst<|ds.map V.int)/\H' J=a_ (.lst G)/\bL (IsPart H') G ps/\ps.length=i/\∀p∈ps,p.length<=60/\∀t∈p,dq p.length t)
   ⟨b_,b_,b_,[],[],xz,zz,hld,s1 _ _ h0,.nil,xz,λ_ h=>by cases h⟩ ?_ ?_
  .rintro i σ H2 hi ⟨x6,x7,x8,G,ps,rfl,s2,hd2,iX,Ka,dA,Y⟩;have api:G.length=ps.length:=r_ Ka;obtain⟨W,B9,oC,uM⟩:=Ii (ds:=ds) (j:=0+(i:Int)) om om kE;have hsz:=nB W (show (0:Int)<len+1 by omega);refine⟨_,xz,_,xz,U,_,_,_,xz,xz,aq.of hd2,B9,_,xz,_,_,xz,xz,_,_,xz,xz,(by show (0:Int)<len+1;omega),?_⟩;refine⟨_,xz,len,xz,om,om,?_⟩;refine iH (n:=len.toNat) (λj ys H'=>H'=H2/\∃es:List Int,es.length=j/\(∀e∈es,0<=e/\e<2147483647)/\ys=es.map V.int) ?_ ?_ ?_ ?_ ?_ ?_ ?_
   .exact cI (cU om)
   .exact⟨xz,[],xz,λ_ z=>(by cases z),xz⟩
   .rintro j ys H' ⟨_,es,Z,_,X⟩;rw[X,aS,Z];exact aD _
   .rintro j ys H' M _;exact M
   .rintro ys H' _;exact aD _
   .rintro j ys H' M ⟨rfl,es,Z,X,e3⟩ x gD ⟨eH,ex⟩;subst eH;subst ex;obtain⟨e,he,hb⟩:=Ii (ds:=ds) (j:=4+4*(0+(j:Int))+(0+(i:Int))) om om kE;refine⟨_,xz,_,xz,_,_,xz,xz,.inl ⟨qc,qc⟩,_,_,xz,xz,_,xz,_,_,xz,xz,U,_,_,_,xz,xz,aq.of hd2,he,xz,es++[e],by rw[dg,Z];rfl,λy hy=>?_,by rw[e3,fg];rfl⟩;obtain z|z:=i6.mp hy
    .exact X y z
    .rw[c7.mp z];exact hb
   rintro ys H' ⟨rfl,es,Z,X,e3⟩;refine⟨by rw[e3,aS,Z];exact cI<|cU om,λls jU=>?_⟩;have R:=ax (o:=.lst ys) (af.refl H') jU;have RL:db H' ls (.lst ys) ls=a_ (.lst<|es.map V.int):=by rw[ai,e3]
   generalize db H' ls (.lst ys)=H3 at R RL;have ky:=s2.fC R;have uA:=R _ _ iX;have So:=R _ _ hd2;have am0:bL (IsPart H3) G ps:=Paired.cq Ka λ_ _ h=>h.same R
   have fin:∀(ys:List V)(p:Pt)(D:Hp),af H3 D->p.length<=60->bL (gv D) ys p->(∀t∈p,dq p.length t)->∀I,D I=b_->∀q,db D I (.lst ys) q=b_->
     af H (db (db (db D I<|.lst ys) q<|.tup ys) J<|.lst<|G++[.ref q])/\db (db (db D I<|.lst ys) q<|.tup ys) J (.lst<|G++[.ref q]) U=a_ (.lst<|ds.map V.int)/\db (db D I<|.lst ys) q (.tup ys) J=a_ (.lst G)/\
     bL (IsPart<|db (db (db D I<|.lst ys) q<|.tup ys) J<|.lst<|G++[.ref q]) (G++[.ref q]) (ps++[p])/\(ps++[p]).length=i+1/\∀p'∈ps++[p],p'.length<=60/\∀t∈p',dq p'.length t:=λys p D L hl r g I O q S=>by
    have s9:af D (db (db D I<|.lst ys) q<|.tup ys):=ax (ax (af.refl D) O) S;have hq9:db (db D I<|.lst ys) q (.tup ys) q=a_ (.tup ys):=ai;generalize db (db D I<|.lst ys) q (.tup ys)=H9 at s9 hq9;have JG:=L.fC s9;have EY:=JG _ _ uA;refine⟨Wd (ky.fC JG) hlp,?_,EY,?_,by rw[dg,dA];rfl,λp' uB=>?_⟩
    .rw[ah amq];exact JG _ _ So
    .exact Paired.snoc (Paired.cq am0 λ_ _ h=>Wj (h.same JG) EY) (Wj ⟨q,ys,xz,hq9,Paired.cq r λ_ _ h=>h.same s9⟩ EY)
    .obtain h|h:=i6.mp uB
     .exact Y p' h
     .rw[c7.mp h];exact⟨hl,g⟩
   refine⟨_,xz,_,_,xz,xz,(by show (0:Int)<2;decide),xz,_,xz,bq (λ_=>?_) λ_=>?_⟩
   .refine⟨_,xz,.inl ⟨xz,_,aq.of uA⟩,_,xz,len,xz,om,om,?_⟩;refine iH (n:=len.toNat) (λj ys D=>j<=len.toNat/\af H3 D/\∃p:Pt,p.length=j/\bL (gv D) ys p/\∀t∈p,dq len.toNat t) ?_ ?_ ?_ ?_ ?_ ?_ ?_
    .exact cI (cU om)
    .exact⟨bJ _,af.refl _,[],xz,.nil,λ_ h=>by cases h⟩
    .rintro j ys D ⟨_,_,p,e,r,_⟩;rw[r_ r,e];exact aD _
    .rintro j ys D M _;exact M
    .rintro ys D _;exact aD _
    .rintro j ys D M ⟨_,L,p,e,r,T⟩ x H5 ⟨eH,ex⟩;subst eH;subst ex;obtain⟨dj,Sm,ie,QF⟩:=Ii (ds:=es) (j:=0+(j:Int)) om om X;refine⟨_,xz,_,xz,ls,_,_,_,xz,xz,aq.of<|L _ _ RL,Sm,_,xz,_,xz,_,xz,_,xz,dj,0+(j:Int),0+(i:Int),ck,nm,len.toNat,xz,ie,QF,om,om,om,anj,ani,pN,Kb,λv t H6 s6 RF RZ=>⟨M,L.fC s6,p++[t],?_,Paired.snoc (Paired.cq r λ_ _ q=>q.same s6) RF,λy hy=>?_⟩⟩
     .rw[dg,e];rfl
     .obtain h|h:=i6.mp hy
      .exact T y h
      .rw[c7.mp h];exact RZ
    .rintro ys D ⟨_,L,p,e,r,T⟩;refine⟨by rw[r_ r,e];exact cI<|cU om,λI O=>⟨I,ys,xz,.inl ⟨aq.of ai,λq S=>?_⟩⟩⟩;obtain⟨c1,c2,c3,c4,c5,c6⟩:=fin ys p D L om r (by rw[e];exact T) I O q S;exact⟨J,G,.ref q,xz,xz,c3,cU om,_,_,_,G++[.ref q],ps++[p],xz,c1,c2,ai,c4,c5,c6⟩
   .refine⟨_,xz,.inl ⟨xz,_,aq.of uA⟩,_,xz,W%(len+1),xz,om,om,?_⟩;refine iH (n:=(W%(len+1)).toNat) (λj ys D=>j<=(W%(len+1)).toNat/\af H3 D/\∃p:Pt,p.length=j/\bL (gv D) ys p/\∀t∈p,dq (W%(len+1)).toNat t) ?_ ?_ ?_ ?_ ?_ ?_ ?_
    .exact cI (cU om)
    .exact⟨bJ _,af.refl _,[],xz,.nil,λ_ h=>by cases h⟩
    .rintro j ys D ⟨_,_,p,e,r,_⟩;rw[r_ r,e];exact aD _
    .rintro j ys D M _;exact M
    .rintro ys D _;exact aD _
    .rintro j ys D M ⟨_,L,p,e,r,T⟩ x H5 ⟨eH,ex⟩;subst eH;subst ex;obtain⟨dj,Sm,ie,QF⟩:=Ii (ds:=es) (j:=0+(j:Int)) om om X;refine⟨_,xz,_,xz,ls,_,_,_,xz,xz,aq.of<|L _ _ RL,Sm,_,xz,_,xz,_,xz,dj,c,W%(len+1),nm,xz,ie,QF,E6,hsz.1,om,pN,Kb,λv t H6 s6 RF RZ=>⟨M,L.fC s6,p++[t],?_,Paired.snoc (Paired.cq r λ_ _ q=>q.same s6) RF,λy hy=>?_⟩⟩
     .rw[dg,e];rfl
     .obtain h|h:=i6.mp hy
      .exact T y h
      .rw[c7.mp h];exact RZ
    .rintro ys D ⟨_,L,p,e,r,T⟩;refine⟨by rw[r_ r,e];exact cI<|cU om,λI O=>⟨I,ys,xz,.inl ⟨aq.of ai,λq S=>?_⟩⟩⟩;obtain⟨c1,c2,c3,c4,c5,c6⟩:=fin ys p D L om r (by rw[e];exact T) I O q S;exact⟨J,G,.ref q,xz,xz,c3,cU om,_,_,_,G++[.ref q],ps++[p],xz,c1,c2,ai,c4,c5,c6⟩
  .rintro σ H2 ⟨x6,x7,x8,G,ps,rfl,s2,hd2,iX,Ka,dA,Y⟩;refine⟨_,xz,J,G,xz,.inl ⟨aq.of iX,λq S=>?_⟩⟩;have R:=ax (o:=.tup G) (af.refl H2) S;exact kk _ ps _ (s2.fC R) ⟨q,G,xz,ai,Paired.cq Ka λ_ _ h=>h.same R⟩ ⟨om,om,λp hp=>⟨by have:=(Y p hp).1;omega,(Y p hp).2⟩⟩ dA λp hp=>(Y p hp).1
structure XW(K:u_)(x cE cP cC cS:e_)(isP isC isK:Bool):Prop where
 k1:Jq K x
 ce:y_ K (.ref x) (.ref cE)=a_ c_
 p:v_ K (.ref x) (.ref cP)=a_ isP
 c:v_ K (.ref x) (.ref cC)=a_ isC
 s:v_ K (.ref x) (.ref cS)=a_ isK
def Yd:Sp:=λvs H Q _=>∃v k T,vs=[v,k]/\qp H v/\ec H k=a_ T/\(ia H v=d_->∀q H',af H H'->H' q=a_ (.lst [.str "clerks"])->Q (.ref q) H')/\
 (ia H v=c_->∀xs,cA H v=a_ xs->(∀c p,gF H 0 xs=a_ (c,p)->∀q H',af H H'->H' q=a_ (.lst [.int (c:Nat),.int (p:Nat)])->Q (.ref q) H')/\ (gF H 0 xs=b_->¬Ia k/\∀q H',af H H'->H' q=a_ (.lst [.str T_])->Q (.ref q) H'))
def AN:bc ["_law_thing",aq0,"_law_word_here","e"] ["_law_thing",aq0] (aR Pc):=bx
def agY{f D cE cP cC cS:e_}(F:aW K "_law_word" "_law_word" Pc f fd)(G:mg "isinstance"=b_)(V:aE P w K mg fK (eV P w) 11 D fdL hD (W3 cC cP cS))(X:x_ K (.ref D)=c_)(Y:dt K fdL hD [])(Z:mg W_ = a_ (.ref D))(mE:mg "TrayError"=a_ (.ref cE))(bE:y_ K (.ref cE) (.type "BaseException")=a_ c_)(mP:mg "NoProgram"=a_ (.ref cP))(mC:mg "NoClerks"=a_ (.ref cC))(mS:mg "NoKind"=a_ (.ref cS))(m:XW K cC cE cP cC cS d_ c_ d_)(n:XW K cP cE cP cC cS c_ d_ d_)(q:XW K cS cE cP cC cS d_ d_ c_)(xf:XF K cP)(n1:bp K cP X_)(n2:bp K cP ac2):aE P w K mg fK aL 12 f fd ["_law_thing",aq0] Yd:=by
 refine F.ok AN λaI A _ s H vs Q E hr h=>?_
 .obtain⟨v,k,T,rfl,I,hk,kC,kP⟩:=h;refine let a:TS:=_;let b:TS:=_;⟨_,aw (bf (i:=2) AN.nd xz (aP xz)<|dh ag)<|pR b<|aw (ae6 (i:=3) xz xz xz AN.nd xz xz xz mE bE (λW pn E hL hp=>aB<|dY<|Gv V hr hL xz Z X Y .nil<|aa (pv 0)<|aa (pv 1)<|aa ao ag) λea pn=>aw (br (gZ<|b9 (OC K) xz G jI<|aa (pv 3)<|aa (gG (v:=.ref cP) xz mP xz) ag) (aB<|bf (i:=2) AN.nd xz (aP xz)<|dh<|aa (YS K (pv 3) xz)<|aa (YS K (pv 3) xz) ag) bQ)<|pR a<|aw (br (gZ<|b9 (OC K) xz G jI<|aa (pv 3)<|aa (gG (v:=.ref cC) xz mC xz) ag) (aB<|bf (i:=2) AN.nd xz (aP xz)<|aG Om (pv 2)<|dh<|aa a7 ag) bQ)<|aB<|br (gZ<|b9 (OC K) xz G jI<|aa (pv 3)<|aa (gG (v:=.ref cS) xz mS xz) ag) (aB<|bf (i:=2) AN.nd xz (aP xz)<|aG Om (pv 2)<|dh<|aa a7 ag) bQ)<|aB<|aU<|pv 2,?_⟩;refine⟨qc,λr n0=>?_⟩;have l:af H (db H r<|.lst []):=ax (af.refl H) n0;have N:db H r (.lst []) r=a_ (.lst []):=ai;have O:=Gd l I;have hP0:=I.same l;refine⟨_,xz,_,xz,v,k,5,T,xz,hP0,sY l hk,λR g s1=>⟨m.ce,λea t=>?_⟩,λS J hv0=>?_⟩
  .rw[O]at R;have u:=l.fC s1;have e:db g ea (ko ea (.ref cC) b_) ea=a_ (ko ea (.ref cC) b_):=ai;have s2:af g (db g ea<|ko ea (.ref cC) b_):=ax (af.refl _) t;have x:=s2 _ _<|s1 _ _ N;generalize db g ea (ko ea (.ref cC) b_)=H2 at e s2 x;have nd:∀d,(b_:Option e_)=a_ d->∃fs,H2 d=a_ (kj d fs):=λd z=>by cases z
   refine⟨_,xz,ea,cC,b_,.ref cP,_,_,xz,e,nd,m.k1,xz,m.p,_,xz,fq ?_⟩;refine⟨_,xz,ea,cC,b_,.ref cC,_,_,xz,e,nd,m.k1,xz,m.c,_,xz,iQ ?_⟩;refine⟨_,xz,by show 1<=aX;decide,λl1 y=>?_⟩;have j:af H2 (db H2 l1<|.lst [.str "clerks"]):=ax (af.refl _) y;refine⟨r,l1,[],[.str "clerks"],xz,xz,j _ _ x,ai,by show 1<=aX;decide,λl2 L=>?_⟩;have B:=j.fC<|ax (o:=.lst<|[]++[.str "clerks"]) (af.refl _) L;have he4:=B _ _ e;have nd4:∀(H:Hp)(d:e_),(b_:Option e_)=a_ d->∃fs,H d=a_ (kj d fs):=λH d z=>by cases z
   refine⟨_,xz,ea,cC,b_,.ref cS,_,_,xz,he4,nd4 _,m.k1,xz,m.s,_,xz,fq ?_⟩;exact⟨_,xz,kC R l2 _ (u.fC<|s2.fC B) ai⟩
  .rw[O]at S;obtain⟨⟨T,hT⟩,hx⟩:=I;have hv:cA H v=a_ J:=by rw[<-vc l hT];exact hv0
   have eF:=Lu l (c:=0) (hx J hv).2;obtain⟨kk,kn⟩:=kP S J hv;rw[eF];refine⟨λc p pP d g s1 hd=>⟨n.ce,λea t=>?_⟩,λhn=>⟨(kn hn).1,λg s1=>⟨q.ce,λea t=>?_⟩⟩⟩
   .have u:=l.fC s1;have e:db g ea (ko ea (.ref cP)<|a_ d) ea=a_ (ko ea (.ref cP)<|a_ d):=ai;have s2:af g (db g ea<|ko ea (.ref cP)<|a_ d):=ax (af.refl _) t;have C:=s2 _ _ hd;generalize db g ea (ko ea (.ref cP)<|a_ d)=H2 at e s2 C;have nd:∀M,af H2 M->∀d',(a_ d:Option e_)=a_ d'->∃fs,M d'=a_ (kj d' fs):=λM j d' z=>by cases z;exact⟨_,j _ _ C⟩
    have r2:=af.refl H2;refine⟨_,xz,ea,cP,a_ d,.ref cP,_,_,xz,e,nd _ r2,n.k1,xz,n.p,_,xz,iQ ?_⟩;refine⟨_,xz,ea,cP,d,_,.int c,xz,e,C,xf,n1,xz,_,xz,ea,cP,d,_,.int p,xz,e,C,xf,n2,xz,by show 2<=aX;decide,λl1 y=>?_⟩;have j:af H2 (db H2 l1<|.lst [.int c,.int p]):=ax (af.refl _) y;have U:=j _ _ e;refine⟨_,xz,ea,cP,a_ d,.ref cC,_,_,xz,U,nd _ j,n.k1,xz,n.c,_,xz,fq ?_⟩;refine⟨_,xz,ea,cP,a_ d,.ref cS,_,_,xz,U,nd _ j,n.k1,xz,n.s,_,xz,fq ?_⟩;exact⟨_,xz,kk c p pP l1 _ (u.fC<|s2.fC j) ai⟩
   .have u:=l.fC s1;have e:db g ea (ko ea (.ref cS) b_) ea=a_ (ko ea (.ref cS) b_):=ai;have s2:af g (db g ea<|ko ea (.ref cS) b_):=ax (af.refl _) t;have x:=s2 _ _<|s1 _ _ N;generalize db g ea (ko ea (.ref cS) b_)=H2 at e s2 x;have nd:∀d,(b_:Option e_)=a_ d->∃fs,H2 d=a_ (kj d fs):=λd z=>by cases z
    refine⟨_,xz,ea,cS,b_,.ref cP,_,_,xz,e,nd,q.k1,xz,q.p,_,xz,fq ?_⟩;refine⟨_,xz,ea,cS,b_,.ref cC,_,_,xz,e,nd,q.k1,xz,q.c,_,xz,fq ?_⟩;refine⟨_,xz,ea,cS,b_,.ref cS,_,_,xz,e,nd,q.k1,xz,q.s,_,xz,iQ ?_⟩;refine⟨_,xz,by show 1<=aX;decide,λl1 y=>?_⟩;have j:af H2 (db H2 l1<|.lst [.str T_]):=ax (af.refl _) y;refine⟨r,l1,[],[.str T_],xz,xz,j _ _ x,ai,by show 1<=aX;decide,λl2 L=>?_⟩;have B:=j.fC<|ax (o:=.lst<|[]++[.str T_]) (af.refl _) L;exact⟨_,xz,(kn hn).2 l2 _ (u.fC<|s2.fC B) ai⟩
section
variable{t:bj}{C CT:e_}
def G7(K:u_)(t:bj)(C CT:e_)(f:Mc->ci):Sp:=λvs H Q _=>∃m A S,vs=[.ref m,.int (S.ck.length:Nat)]/\bb t C CT H m A S/\i5 S/\mx S/\∀H' p,af H H'->c8 K H' (.ref p) (f S)->Q (.ref p) H'
def aiH:(["_law_machine",ac1]:List cw).Nodup:=dk
def Yn:bc ["_law_machine",ap5,"_law_registers"] hH (aR Pf):=bx
def ag4(F:aW K "_law_end" "_law_end" Pf f fd)(B:Bw mg)(z:gC K C)(R:Mt P w K mg fK C 1 "registers" gr (Hu t C CT))(T:Mt P w K mg fK C 1 "board" g0 (G' t C CT)):aE P w K mg fK aL 2 f fd hH (G7 K t C CT iT):=by
 refine F.ok Yn λaI A _ s H vs Q E D h=>?_
 .obtain⟨m,A,S,rfl,M,W,_,q⟩:=h
  refine let a:TS:=_;⟨_,aw (UK (i:=2) (N:=["_law_machine",ac1]) (idx:=[0]) Yn.nd xz xz xz (dJ.of<|by kernel_rfl) (iG<|aD _) (oM xz B.range<|aa (pv 1) ag)
   (λ_ _ _ _=>cW (i:=1) aiH xz (aP xz)<|.inr xz) (λ_ _ _ _=>gY) λ_ _ _ _=>gu (OW K) xz B.tuple i8<|aa (ji (pv 0) z.cl R D<|aa (pv 1) ag) ag)
   (pR a<|aB<|aU<|cp<|aa (gu kR xz B.tuple i8<|aa (pv 2) ag)<|aa (gu kR xz B.tuple i8<|aa (oh (pv 0) z.cl T D) ag) ag),?_⟩
  obtain⟨dx,fs,hm,G⟩:=id M.obj;have h4:=W.four;have hn:((S.ck.length:Nat):Int).toNat=(S.ck.map iz).length:=by rw[aS,mh]
  have u:∀{l:List Ck}{d:ci},d∈l.map iz->b8 5 d=true:=λh=>by obtain⟨k,_,rfl⟩:=eR.mp h;exact vx 4 k.rg
  refine vr xz ⟨_,xz,li,li,GA (K:=K) hn li (λd hd=>u hd) (λi d e Q hd s1 c=>?_) λys e s1 r=>?_⟩
  .obtain⟨k,U,rfl⟩:=HI hd;exact vM xz (s1 _ _ hm) (G.ms _ dk)<|vr xz ⟨m,A,S,i,k,xz,M.same s1,U,λl v=>⟨l,_,xz,.inl ⟨aq.of ai,λp x=>c _ _ (ax (ax (af.refl _) v) x)<|.tup (az.of ai)<|yN k.rg⟩⟩⟩
  .have v:=tu r;rw[aS]at v;refine⟨by rw[ij];lia,λl X=>?_⟩;refine au _ xz ⟨l,ys,xz,.inl ⟨aq.of ai,λp x=>?_⟩⟩;have s2:=ax (o:=.tup ys) (ax (o:=.lst ys) (af.refl e) X) x;have I:db (db e l<|.lst ys) p (.tup ys) p=a_ (.tup ys):=ai;have r2:=jK (TK.of s2) (λd hd=>u hd) r;generalize db (db e l<|.lst ys) p (.tup ys)=H2 at s2 I r2 ⊢;have y:=s1.fC s2;refine vM xz (y _ _ hm) (G.ms _ dk) ⟨m,A,S,xz,M.same y,λl2 Y=>⟨l2,_,xz,.inl ⟨aq.of ai,λb Z=>⟨sl (n:=2),λJ L=>?_⟩⟩⟩⟩;have g:af H2 (db (db H2 l2<|.lst<|S.bd.map V.int) b<|.tup<|S.bd.map V.int):=ax (ax (af.refl _) Y) Z;have O:db (db H2 l2<|.lst<|S.bd.map V.int) b (.tup<|S.bd.map V.int) b=a_ (.tup<|S.bd.map V.int):=ai;generalize db (db H2 l2<|.lst<|S.bd.map V.int) b (.tup<|S.bd.map V.int)=H3 at g O L ⊢;have j:af H3 (db H3 J<|.tup [.ref p,.ref b]):=ax (af.refl _) L;exact q _ J (y.fC<|g.fC j)<|.tup (az.of ai)<|.cons (.tup (az.of<|(g.fC j) _ _ I)<|jK (TK.of<|g.fC j) (λd hd=>u hd) r2)<|.cons (.tup (az.of<|j _ _ O)<|yN S.bd) .nil
def NX:bc ["_law_machine",ap5,"_law_got",ac1] hH (aR Pe):=bx
def ag3(F:aW K "_law_key" "_law_key" Pe f fd)(B:Bw mg)(I:gC K C)(DR:Mt P w K mg fK C 1 "registers" gr (Hu t C CT))(DB:Mt P w K mg fK C 1 "board" g0 (G' t C CT))(DW:Mt P w K mg fK C 1 "where" gr (Nm t C CT λk=>k.pl))(DT:Mt P w K mg fK C 2 "waiting" gr (Md t C CT)):aE P w K mg fK aL 3 f fd hH (G7 K t C CT fU):=by
 refine F.ok NX λaI A _ s H vs Q E Y h=>?_
 .obtain⟨m,A,S,rfl,M,W,BN,q⟩:=h;have U:=Y.mono (show 1<=2 by decide);refine let a:TS:=_;⟨_,aw (bf (i:=2) NX.nd xz (aP xz)<|dh<|aa (gu kR xz B.tuple i8<|aa (oh (pv 0) I.cl DB U) ag) ag)<|pR a<|aw (tM uS xz (oM xz B.range<|aa (pv 1) ag) (cW (i:=3) NX.nd xz<|aP xz)<|aB<|dY<|lh m_ n_ o_ nh (pv 2)<|aa (cp<|aa (ji (pv 0) I.cl DW U<|aa (pv 3) ag)<|aa (gu kR xz B.tuple i8<|aa (ji (pv 0) I.cl DR U<|aa (pv 3) ag) ag)<|aa (gu kR xz B.tuple i8<|aa (ji (pv 0) I.cl DT Y<|aa (pv 3) ag) ag) ag) ag)<|aB<|aU<|gu kR xz B.tuple i8<|aa (pv 2) ag,?_⟩;obtain⟨dx,fs,hm,G⟩:=id M.obj;have h4:=W.four;have J:∀y∈(["where","registers","waiting","board"]:List cw),fs.lookup y=none:=λy hy=>G.ms y (by revert y;decide +kernel)
  let ds:List ci:=rY S::S.ck.map λk=>.tuple [.int (k.pl:Nat),iz k,lS k]
  have L:∀d∈ds,b8 7 d=true:=kQ.mp<|wR S;have Z:ds.length=S.ck.length+1:=by show (_::_).length=_;rw[gE,aS]
  refine au _ xz ⟨m,dx,fs,xz,hm,J _ (by simp),m,A,S,xz,M,λl0 Kg=>⟨l0,_,xz,.inl ⟨aq.of ai,λb hb=>⟨sl (n:=1),λc X=>?_⟩⟩⟩⟩;have s1:af H (db (db H l0<|.lst<|S.bd.map V.int) b<|.tup<|S.bd.map V.int):=ax (ax (af.refl _) Kg) hb;have g1:db (db H l0<|.lst<|S.bd.map V.int) b (.tup<|S.bd.map V.int) b=a_ (.tup<|S.bd.map V.int):=ai;generalize db (db H l0<|.lst<|S.bd.map V.int) b (.tup<|S.bd.map V.int)=u at s1 g1 X ⊢;have s2:af u (db u c<|.lst [.ref b]):=ax (af.refl _) X;have nlg:=s1.free X;have g2:db u c (.lst [.ref b]) c=a_ (.lst [.ref b]):=ai;have r2:eU K (db u c<|.lst [.ref b]) [.ref b] (ds.take 1):=.cons (.tup (az.of<|s2 _ _ g1)<|yN S.bd) .nil;generalize db u c (.lst [.ref b])=H2 at s2 g2 r2 ⊢;have EF:=s1.fC s2;refine vr xz ⟨_,xz,li,li,?_⟩;refine Mr (n:=S.ck.length) (λi σ H'=>∃y,σ=[a_ (.ref m),a_<|.int (S.ck.length:Nat),a_<|.ref c,y]/\af H H'/\∃vs,H' c=a_ (.lst vs)/\eU K H' vs (ds.take<|i+1)) ⟨b_,xz,EF,_,g2,r2⟩ ?_ ?_
  .rintro i σ H' hi ⟨y,rfl,g,us,N,r⟩;obtain⟨k,v⟩:∃k,S.ck[i]?=a_ k:=⟨_,a8 hi⟩;have xQ:=tu r;rw[gX,Z]at xQ;refine dD _ xz (.inl ⟨xz,_,aq.of N⟩) ?_;rw[show ((0:Int)+(i:Nat))=(i:Int) from LL _];refine au _ xz ⟨m,dx,fs,xz,g _ _ hm,J _ (by simp),au _ xz ⟨m,A,S,i,k,xz,M.same g,v,?_⟩⟩;refine au _ xz ⟨m,dx,fs,xz,g _ _ hm,J _ (by simp),au _ xz ⟨m,A,S,i,k,xz,M.same g,v,λl1 nO=>⟨l1,_,xz,.inl ⟨aq.of ai,λb1 uM=>?_⟩⟩⟩⟩;have l:af H' (db (db H' l1<|.lst<|k.rg.map V.int) b1<|.tup<|k.rg.map V.int):=ax (ax (af.refl _) nO) uM;have g4:db (db H' l1<|.lst<|k.rg.map V.int) b1 (.tup<|k.rg.map V.int) b1=a_ (.tup<|k.rg.map V.int):=ai;generalize db (db H' l1<|.lst<|k.rg.map V.int) b1 (.tup<|k.rg.map V.int)=H4 at l g4 ⊢;have s34:=g.fC l;refine au _ xz ⟨m,dx,fs,xz,s34 _ _ hm,J _ (by simp),au _ xz ⟨m,A,S,i,k,xz,M.same s34,v,BN k<|cH v,λx l2 ws s5 _ nN hw=>⟨l2,ws,xz,.inl ⟨aq.of nN,λb2 Ko=>⟨sl (n:=3),λj c9=>?_⟩⟩⟩⟩⟩;have O:af x (db x b2<|.tup ws):=ax (af.refl _) Ko;have g6:db x b2 (.tup ws) b2=a_ (.tup ws):=ai;have dw:eU K (db x b2<|.tup ws) ws (k.es.map λe=>.tuple [.int e.n,.int e.num]):=Wk (Paired.cq hw λ_ _ z=>by obtain⟨p,e,h⟩:=z;exact⟨p,e,O _ _ h⟩);generalize db x b2 (.tup ws)=D at O g6 dw c9 ⊢;have R:af D (db D j<|.tup [.int (k.pl:Nat),.ref b1,.ref b2]):=ax (af.refl _) c9;have d7:c8 K (db D j<|.tup [.int (k.pl:Nat),.ref b1,.ref b2]) (.ref j) (.tuple [.int (k.pl:Nat),iz k,lS k]):=.tup (az.of ai)<|.cons (.int _)<|.cons (.tup (az.of<|(s5.fC<|O.fC R) _ _ g4)<|yN k.rg)<|.cons (.tup (az.of<|R _ _ g6)<|jK (TK.of R) (n:=7) (λd hd=>by obtain⟨e,_,rfl⟩:=eR.mp hd;exact vx 6 [e.n,e.num]) dw) .nil;have T:af H' (db D j<|.tup [.int (k.pl:Nat),.ref b1,.ref b2]):=l.fC<|s5.fC<|O.fC R;generalize db D j (.tup [.int (k.pl:Nat),.ref b1,.ref b2])=H7 at T d7 ⊢;have hg7:=T _ _ N;refine oN c us (.ref j) xz xz hg7 (by rw[ij];lia) ⟨_,xz,λb o e=>?_,_,ai,?_⟩
   .rw[ah<|aQ e nlg];exact(g.fC T) _ _ e
   .have tk:TK H7 (db H7 c<|.lst<|us++[.ref j]):=AM hg7 (.inl ⟨_,xz⟩)
    have hd:ds[i+1]?=a_ (.tuple [.int (k.pl:Nat),iz k,lS k]):=by
     show (rY S::S.ck.map _)[i+1]?=_;rw[abu,eX,v];rfl
    rw[kN,hd];exact GG (jK tk (λd hd=>L d<|Co hd)<|jK (TK.of T) (λd hd=>L d<|Co hd) r)<|lP tk (L _<|cH hd) d7
  .rintro σ H' ⟨y,rfl,g,us,N,r⟩;have xQ:=tu r;rw[jd<|m8 Z]at r;refine vr xz ⟨c,us,xz,.inl ⟨aq.of N,λp hp=>?_⟩⟩;have l:=ax (o:=.tup us) (af.refl H') hp;exact q _ p (g.fC l)<|.tup (az.of ai)<|jK (TK.of l) L r
end
abbrev QZ:List bM:=Zd<|(fj vn).getD 5<|.Pass ⟨0,0,0,0⟩
section
variable{t:bj}{C CT PT:e_}
def ZV(K:u_)(S0:Mc)(H':Hp)(p:e_):Prop:=
 (∃k l c es,(ay S0 k).length=k/\k<=30/\H' p=a_ (.tup [.int (k:Nat),.ref l])/\H' l=a_ (.lst c)/\eU K H' c es/\es.Perm (di<|ay S0 k)/\es.Pairwise λa b=>lX a b=c_)\/
 ∃k,k<(ay S0 k).length/\(ay S0 k).length<=30/\30<(ay S0<|k+1).length/\H' p=a_ (.tup [.int 30,.aH])
def Yh(K:u_)(PT:e_):Sp:=λvs H Q _=>∃v ps kd,vs=[v,.str kd]/\jh H v ps/\lB ps/\kindS kd/\cx PT LP LQ H/\
 ∀H' p,aA eD H H'->cx PT LP LQ H'->ZV K (eC kd ps) H' p->Q (.ref p) H'
abbrev Eu:List cw:=[an3,aq0,ap5,"_law_stands","_law_known","_law_over","_law_at","_law_move","_law_other","_law_key_here"]
def tK:bc Eu js (aR vn):=bx
structure GI(K:u_)(t:bj)(C CT PT:e_)(H0 H:Hp)(lm dk' fd:e_)(L:List Mc)(Fd:List ci):Prop where
 b:BF K t C CT PT H lm dk' fd L (L.map fU) Fd
 k:aA (λb=>b=lm\/b=dk') H0 H
def C8(h:nJ kd ps n S)(hn:n<64):mx S:=λc a=>m7 (cQ (h.W.wf.es c a) h.W.ac) hn
def ai2:jB S L (mvs.take i) <+: jB S L mvs:=by
 rw[show jB S L mvs=jB S (jB S L<|mvs.take i) (mvs.drop i) by unfold jB;rw[<-abY,Ft]];exact Hm
def Wa(h:b8 n d=c_)(hn:n<=60):shaped d=true:=by
 obtain⟨a,b⟩:=DJ h;show (d.canLay0&&decide (d.depth<=64))=c_;rw[a,eu li];rfl
def ahO{ds:List ci}(g:∀e∈ds,b8 8 e=c_)(b:b8 8 d=c_)(h:d∉ds):(ds.any λe=>mm e d)=false:=ab1.mpr λe a=>by
 rw[ZP (g e a) b];exact λz=>h (by rw[<-er z];exact a)
def ahA{n k:Nat}{L:List Mc}(nd:(L.map fo).Nodup)(a:∀S∈L,nJ kd ps n S)(b:L[k]?=a_ S)(c:jy S=c_):iT S∉di (L.take k):=by
 have h:=Hn (L:=L.take<|k+1) (kd:=kd) (ps:=ps) (n:=n) (nd.sublist<|(abX _ _).map fo) λT d=>a T<|Co d;rw[kN,b]at h;unfold di at h ⊢;rw[show (a_ S).toList=[S] from xz,Ae,fg,show UB jy [S]=[S] by simp[c]]at h;exact λz=>(La.mp h).2.2 _ z _ (c7.mpr xz) xz
def ag5(F:aW K ap2 ap2 vn f fd)(B:Bw mg)(cM:gC K C)
  (mk:Mk K C fI) (GI7:aE P w K mg fK aL 7 fI dI hA (G9 t C CT)) (yF:mg "Machine"=a_ (.ref C)) (b3:dt K dI hA [])
  (DK:Dp P w K mg fK 3 "_law_key" hH (G7 K t C CT fU)) (DE:Dp P w K mg fK 2 "_law_end" hH (G7 K t C CT iT)) (DN:Mt P w K mg fK C 2 "ended" g0 (Nn t C CT))
  (DM:Mt P w K mg fK C 4 "moves" g0 (G8 t C CT PT)) (DT:Mt P w K mg fK C 9 "twin" g0 (NU t C CT)) (DO:Mt P w K mg fK C 7 "do" [V_,aq3] (Qa t C CT PT)):aE P w K mg fK aL 10 f fd js (Yh K PT):=by
 refine F.ok tK λaI A outer s H vs Q E hr h=>?_
 .obtain⟨v,ps,kd,rfl,hP,hg,hk,lam,q⟩:=h;have hu:=m7 (xZ (show 10<=65 by decide) _)<|tx hr;have RI:=m7 (xZ (show 30<=65 by decide) _)<|tx hr;have nM:=hr.mono (show 2<=9 by decide);have qL:=hr.mono (show 3<=9 by decide);have pL:=hr.mono (show 4<=9 by decide);have hr7:=hr.mono (show 7<=9 by decide);have RM:=hr.mono (show 8<=9 by decide);obtain⟨pa,aY,ev,zK,dA⟩:=MU hP
  obtain⟨tF,pF,uF⟩:∃tF,dM (gK aL P w K mg fK Eu ap2 (aR vn) f aI A outer s H E).lH (fBody<|QZ.getD 1<|.Pass ⟨0,0,0,0⟩) tF/\∀(D:Ends)(σ:L2.St)(Y H2:Hp)(lm dk' fd p:e_)(k:Nat)(z8 z9:Option V)(S:Mc)(L:List Mc)(Fd:List ci)(mv:Mv),σ=[a_ v,a_<|.str kd,a_<|.int (ps.length:Nat),a_<|.ref lm,a_<|.ref dk',a_<|.ref fd,a_<|.int (k:Nat),a_<|.ref p,z8,z9]->GI K t C CT PT Y H2 lm dk' fd L Fd->L[k]?=a_ S->nJ kd ps k S->k<60->L.length<=30->H2 p=a_ (.tup<|pj mv)->mv∈dE S->
    (30<(ja L<|bA S mv).length->∀X r,aA (λb=>b=lm\/b=dk') Y X->cx PT LP LQ X->X r=a_ (.tup [.int 30,.aH])->D.rt (.ref r) X)->
    (∀X y8 y9,(ja L<|bA S mv).length<=30->GI K t C CT PT Y X lm dk' fd (ja L<|bA S mv) Fd->D.nx [a_ v,a_<|.str kd,a_<|.int (ps.length:Nat),a_<|.ref lm,a_<|.ref dk',a_<|.ref fd,a_<|.int (k:Nat),a_<|.ref p,y8,y9] X)->tF D σ H2:=by
   refine let a:TS:=_;let c:TS:=_;let g:TS:=_;let j:TS:=_;⟨_,aw (bf (i:=8) tK.nd xz (aP xz)<|oh (aV cJ (pv 3)<|pv 6) cM.cl DT hr)<|pR j<|aw (dY<|ji (pv 8) cM.cl DO hr7<|aa (pv 7) ag)<|pR g<|aw (bf (i:=9) tK.nd xz (aP xz)<|dP DK qL xz<|aa (pv 8)<|aa (pv 2) ag)<|aB<|br (AO<|UL hu (pv 9)<|pv 4) (pR c<|aw (br (bR dm (b9 gm xz B.len q_<|aa (pv 3) ag) ao<|bG _) (aB<|aU<|cp<|aa ao<|aa qi ag) bQ)<|pR a<|aw (Wh hu (pv 4) (pv 9) lj xz)<|aB<|dY<|lh m_ n_ o_ nh (pv 3)<|aa (pv 8) ag) bQ,?_⟩;rintro D σ Y H2 lm dk' fd p k z8 z9 S L Fd mv rfl I Z gj En hL hp jV cut nx;obtain⟨Ro,v0,m,A,a0,al0,SI,rfl,M,fM⟩:=I.b.at Z;obtain⟨dx,fs,hm,G⟩:=id M.obj;refine au _ xz<|vr xz<|rL (v:=.ref m) (aq.of a0) (eI SI)<|rM hm (G.ms _ dk) ⟨m,A,S,xz,M,by rw[gj.kd];exact hk,gj.W.wf.four,m8 gj.W.wf.ov,λX x A' fT M3 L3 s3 fr=>?_⟩;obtain⟨kJ,kG,hx,G1⟩:=id M3.obj;refine vM xz hx (G1.ms _ dk)<|vr xz ⟨x,A',S,p,mv,fT,xz,M3,L3,gj.W.wf,gj.W.ovf li,fA I.b.lam s3,s3 _ _ hp,jV,λH4 M4 k4 l4=>?_⟩;have k34:=Y7 s3 fr k4;have Bu:=gj.mv li jV;have Ke:(bA S mv).ck.length=ps.length:=by rw[Bu.W.wf.len,Bu.ps]
   refine au _ xz<|vr xz ?_;refine⟨x,A',bA S mv,by rw[Ke];rfl,M4,Bu.W.wf,C8 Bu li,λH5 sp s5 hd=>?_⟩;have k5:=k34.fC<|aA.of s5;have B5:=I.b.keep k5<|fA l4 s5;have BR:=aA.Zt I.k k5;obtain⟨ks,d1,d2,d3⟩:=B5.uo;refine au _ xz<|au _ xz ?_;refine⟨dk',ks,sp,fU<|bA S mv,xz,d1,d2,xz,⟨xz,wR _,hd⟩,_,xz,wU (λpM=>?_) λhi=>?_⟩
   .rw[d3]at pM;obtain⟨ms,a1,a2⟩:=B5.lst;have la:=r_ a2;have lk:ks.length=L.length:=by have:=fw FR d3;simpa using this
    have D8:=Wf Wz pM;have aa2:(ja L<|bA S mv).length=L.length+1:=by rw[D8,dg];rfl
    refine vr xz<|dG lm ms xz (.inl<|aq.of a1) ⟨xz,_,xz,bq (λpS=>?_) λpS=>?_⟩
    .have anu:ms.length=30:=by injection pS with pS;lia
     refine⟨sl (n:=2),λr c9=>?_⟩;have s6:af H5 (db H5 r<|.tup [.int 30,.aH]):=ax (af.refl _) c9;exact cut (by rw[aa2];lia) _ r (BR.fC<|aA.of s6) (fA B5.lam s6) ai
    .have anu:ms.length≠30:=λz=>pS (by rw[z];rfl);refine⟨_,xz,_,xz,dk',ks,sp,fU<|bA S mv,xz,xz,d1,d2,xz,⟨xz,wR _,hd⟩,by rw[ij];lia,by rw[d3];exact pM,?_⟩;have B6:=B5.put d1 (d:=fU<|bA S mv) (b:=sp) ⟨xz,wR _,hd⟩
     have nw:jn t C CT lm dk' fd H5 (.ref x) (bA S mv):=⟨x,A',xz,M4.same s5,λb hb=>by
      have oC:=fr b hb;obtain⟨Ro,c1,_⟩:=I.b.lst;obtain⟨ks0,c2,_⟩:=I.b.uo;obtain⟨fs0,c3,_⟩:=I.b.BD;exact⟨λz=>(by rw[z,c1]at oC;cases oC),λz=>(by rw[z,c2]at oC;cases oC),λz=>(by rw[z,c3]at oC;cases oC)⟩⟩
     have nw6:jn t C CT lm dk' fd (db H5 dk'<|.dT<|ks++[(fU<|bA S mv,sp)]) (.ref x) (bA S mv):=by
      obtain⟨m,A,e1,M,f⟩:=nw;exact⟨m,A,e1,M.up d1 (.inr ⟨_,xz⟩) λz=>(f _ z).2.1 xz,f⟩
     have kp6:aA (λb=>b=lm\/b=dk') Y (db H5 dk'<|.dT<|ks++[(fU<|bA S mv,sp)]):=BR.fC<|aA.db<|.inr xz;have a6:db H5 dk' (.dT<|ks++[(fU<|bA S mv,sp)]) lm=a_ (.lst ms):=by rw[ah B5.ne.1];exact a1
     generalize db H5 dk' (.dT<|ks++[(fU<|bA S mv,sp)])=H6 at B6 kp6 a6 nw6 ⊢;refine dD _ xz (.inl ⟨xz,_,aq.of a6⟩)<|vr xz<|oN lm ms (.ref x) xz xz a6 (by rw[ij];lia) ?_;refine nx _ _ _ (by rw[aa2];lia) ⟨?_,kp6.fC<|aA.db<|.inl xz⟩;rw[D8,fg];exact B6.app a6 nw6
   .rw[d3]at hi;have D8:=Xf Wz hi;refine nx _ _ _ (by rw[D8];exact hL) ⟨?_,BR⟩;rw[D8];exact B5
  generalize xV:eC kd ps=S0 at *;have IT:∀k,k<=60->∀S∈ay S0 k,nJ kd ps k S:=λk hk=>by rw[<-xV];exact AB hg li
  obtain⟨tR,pT,uR⟩:∃tR,dM (gK aL P w K mg fK Eu ap2 (aR vn) f aI A outer s H E).lH (QZ.drop 1) tR/\∀(D:Ends)(σ:L2.St)(Y:Hp)(lm dk' fd:e_)(k:Nat)(z7 z8 z9:Option V)(S:Mc)(Fd:List ci),σ=[a_ v,a_<|.str kd,a_<|.int (ps.length:Nat),a_<|.ref lm,a_<|.ref dk',a_<|.ref fd,a_<|.int (k:Nat),z7,z8,z9]->BF K t C CT PT Y lm dk' fd (ay S0 k) ((ay S0 k).map fU) Fd->(ay S0 k)[k]?=a_ S->k<60->(ay S0 k).length<=30->
    (30<(ay S0<|k+1).length->∀X r,aA (λb=>b=lm\/b=dk') Y X->cx PT LP LQ X->X r=a_ (.tup [.int 30,.aH])->D.rt (.ref r) X)->
    (∀X y7 y8 y9,(ay S0<|k+1).length<=30->BF K t C CT PT X lm dk' fd (ay S0<|k+1) ((ay S0<|k+1).map fU) Fd->aA (λb=>b=lm\/b=dk') Y X->D.nx [a_ v,a_<|.str kd,a_<|.int (ps.length:Nat),a_<|.ref lm,a_<|.ref dk',a_<|.ref fd,a_<|.int ((k+1:Nat):Int),y7,y8,y9] X)->tR D σ Y:=by
   refine⟨_,aw (tM uS xz (qY<|oh (aV cJ (pv 3)<|pv 6) cM.cl DM pL) (cW (i:=7) tK.nd xz<|aP xz) pF)<|aB<|bf (i:=6) tK.nd xz (aP xz)<|aG fQ (pv 6) ao,?_⟩;rintro D σ Y lm dk' fd k z7 z8 z9 S Fd rfl B1 Z En hL cut nx;have gj:=IT k li S<|cH Z;obtain⟨Ro,v0,m,A1,a0,al0,SI,rfl,M,fM⟩:=B1.at Z;obtain⟨dx,fs,hm,G⟩:=id M.obj;refine au _ xz<|vr xz<|rL (v:=.ref m) (aq.of a0) (eI SI)<|rM hm (G.ms _ dk) ?_;refine⟨m,A1,S,xz,M,gj.W.wf,B1.lam,λH2 l us k2 l2 nl hl mV=>⟨l,xz,⟨_,aq.of hl⟩,?_⟩⟩;have B2:=B1.keep k2 l2;obtain⟨ks1,b1,_⟩:=B1.uo;have sf:l≠lm:=λz=>by rw[z,a0]at nl;cases nl
   have BQ:l≠dk':=λz=>by rw[z,b1]at nl;cases nl
   have hlen:=r_ mV;have hex:jB S (ay S0 k) (dE S)=ay S0 (k+1):=(yo Z).fF;refine Gy (xs:=us) (λi σ H'=>∃y7 y8 y9,σ=[a_ v,a_<|.str kd,a_<|.int (ps.length:Nat),a_<|.ref lm,a_<|.ref dk',a_<|.ref fd,a_<|.int (k:Nat),y7,y8,y9]/\GI K t C CT PT H2 H' lm dk' fd (jB S (ay S0 k)<|(dE S).take i) Fd/\(jB S (ay S0 k)<|(dE S).take i).length<=30) ⟨z7,z8,z9,xz,⟨B2,aA.refl _⟩,hL⟩ ?_ ?_ ?_
   .rintro i σ H' _ ⟨_,_,_,_,I,_⟩;exact aq.of<|I.k.k _ _ (λz=>z.elim sf BQ) (λps z=>by cases z) hl
   .rintro i x σ H' hx ⟨y7,y8,y9,rfl,I,IQ⟩;obtain⟨mv,BX,p,rfl,hp⟩:=tf mV hx;have jV:=cH BX
    have uB:H' p=a_ (.tup<|pj mv):=I.k.tup (λb z xs e=>by
     obtain z|z:=z
     .rw[z,k2.vE a0]at e;cases e
     .rw[z,k2.k _ _ (λz=>z) (λps z=>by cases z) b1]at e;cases e) _ _ hp
    have hS':(jB S (ay S0 k)<|(dE S).take i)[k]?=a_ S:=by
     obtain⟨r,c9⟩:=Hm (S:=S) (mvs:=(dE S).take i) (L:=ay S0 k);rw[<-c9,Cj (dX.mp Z).1];exact Z
    refine uF _ _ H2 H' lm dk' fd p k y8 y9 S _ Fd mv xz I hS' gj En IQ uB jV (λhc X r k3 l3 c9=>?_) λX u8 u9 pS I3=>?_
    .refine cut ?_ X r ((k2.mono λb z=>z.elim).fC k3) l3 c9;rw[<-Na BX]at hc;rw[<-hex];exact ff hc ai2.length_le
    .rw[<-Na BX]at I3 pS;exact⟨_,_,_,xz,I3,pS⟩
   .rintro σ H' ⟨y7,y8,y9,rfl,I,IQ⟩;rw[hlen,jd<|aD _,hex]at I IQ;refine au _ xz ⟨_,_,xz,xz,?_⟩;exact nx H' y7 y8 y9 IQ I.b<|(k2.mono λb z=>z.elim).fC I.k
  have amR:=tx hr
  obtain⟨tW,pW,uW⟩:∃tW,dM (gK aL P w K mg fK Eu ap2 (aR vn) f aI A outer s H E).lH QZ tW/\∀(D:Ends)(σ:L2.St)(Y:Hp)(lm dk' fd:e_)(k:Nat)(z7 z8 z9:Option V)(S:Mc),σ=[a_ v,a_<|.str kd,a_<|.int (ps.length:Nat),a_<|.ref lm,a_<|.ref dk',a_<|.ref fd,a_<|.int (k:Nat),z7,z8,z9]->BF K t C CT PT Y lm dk' fd (ay S0 k) ((ay S0 k).map fU) (di<|(ay S0 k).take k)->(ay S0 k)[k]?=a_ S->k<60->(ay S0 k).length<=30->
    (30<(ay S0<|k+1).length->∀X r,aA (λb=>b=lm\/b=dk'\/b=fd) Y X->cx PT LP LQ X->X r=a_ (.tup [.int 30,.aH])->D.rt (.ref r) X)->
    (∀X y7 y8 y9,(ay S0<|k+1).length<=30->BF K t C CT PT X lm dk' fd (ay S0<|k+1) ((ay S0<|k+1).map fU) (di<|(ay S0<|k+1).take<|k+1)->aA (λb=>b=lm\/b=dk'\/b=fd) Y X->D.nx [a_ v,a_<|.str kd,a_<|.int (ps.length:Nat),a_<|.ref lm,a_<|.ref dk',a_<|.ref fd,a_<|.int ((k+1:Nat):Int),y7,y8,y9] X)->tW D σ Y:=by
   refine⟨_,aw (br (PW.pt<|pw_and (gZ<|oh (aV cJ (pv 3)<|pv 6) cM.cl DN nM)<|pw_and1<|bR (Vm amR) (dP DE nM xz<|aa (aV cJ (pv 3)<|pv 6)<|aa (pv 2) ag) (pv 5) xz) (aB<|dY<|lh m_ n_ o_ nh (pv 5)<|aa (dP DE nM xz<|aa (aV cJ (pv 3)<|pv 6)<|aa (pv 2) ag) ag) bQ) pT,?_⟩;rintro D σ Y lm dk' fd k z7 z8 z9 S rfl B1 Z En hL cut nx;have EV:=cH Z;have gj:=IT k li S EV;have xY:=C8 gj li;have Ke:S.ck.length=ps.length:=by rw[gj.W.wf.len,gj.ps]
   obtain⟨ms,v0,m,A1,a1,al,av,rfl,M,fM⟩:=B1.at Z;obtain⟨dx,fs,hm,G⟩:=id M.obj;refine au _ xz<|vr xz<|rL (v:=.ref m) (aq.of a1) (eI av)<|rM hm (G.ms _ dk) ?_;refine⟨m,A1,S,xz,M,gj.W.wf,λH2 s2=>⟨_,xz,Ee (λhe=>?_) λhe=>fq ?_⟩⟩
   .have B2:=B1.same s2;refine au _ xz<|vr xz<|rL (v:=.ref m) (aq.of<|s2 _ _ a1) (eI av)<|vr xz ?_;refine⟨m,A1,S,by rw[Ke];rfl,M.same s2,gj.W.wf,xY,λX p s3 hd=>?_⟩;have ky:=s2.fC s3;have B3:=B1.same ky;obtain⟨nH,c1,c2,c3⟩:=B3.BD;have Qx:=ahO c3 (oj 5 S)<|ahA (C0 S0 k) (IT k li) Z he;refine vr xz ⟨fd,nH,_,iT S,xz,aq.of c1,c2,hd,Wa (oj 5 S) qc,λd hd=>Wa (c3 d hd) qc,?_⟩;rw[ek xz,Qx];refine⟨_,xz,iQ ?_⟩;refine dD _ xz (.inl ⟨xz,_,aq.of c1⟩)<|au _ xz<|vr xz<|rL (v:=.ref m) (aq.of<|ky _ _ a1) (eI av)<|vr xz ?_;refine⟨m,A1,S,by rw[Ke];rfl,M.same ky,gj.W.wf,xY,λH4 p4 s4 hd4=>?_⟩;have ED:=ky.fC s4;have B4:=B1.same ED;have Cc:=s4 _ _ c1;have B0:=tu c2
    have hel:(di<|(ay S0 k).take k).length<=k:=by
     unfold di;rw[aS];exact cQ (uP _ _) (by rw[gX];exact TY _ _)
    refine oN fd nH (.ref p4) xz xz Cc (by rw[ij];lia) ?_;have B5:=B4.found Cc (oj 5 S) hd4;have k5:aA (λb=>b=lm\/b=dk'\/b=fd) Y (db H4 fd<|.lst<|nH++[.ref p4]):=(aA.of ED).fC<|aA.db<|.inr<|.inr xz;refine uR _ _ _ lm dk' fd k z7 z8 z9 S _ xz B5 Z En hL (λhc H6 r k6=>cut hc H6 r<|k5.fC<|k6.mono λb z=>z.imp id .inl) λH6 y7 y8 y9 pS B6 k6=>?_;refine nx H6 y7 y8 y9 pS ?_<|k5.fC (k6.mono λb z=>z.imp id .inl);rw[Ge Z,ek he];exact B6
   .have k2:aA (λb=>b=lm\/b=dk'\/b=fd) Y H2:=aA.of s2;refine uR _ _ _ lm dk' fd k z7 z8 z9 S _ xz (B1.same s2) Z En hL (λhc H6 r k6=>cut hc H6 r<|k2.fC<|k6.mono λb z=>z.imp id .inl) λH6 y7 y8 y9 pS B6 k6=>?_;refine nx H6 y7 y8 y9 pS ?_<|k2.fC (k6.mono λb z=>z.imp id .inl);rw[Ge Z,ei (by rw[he];decide),pZ];exact B6
  obtain⟨t6,p6,u6⟩:∃t6,dM (gK aL P w K mg fK Eu ap2 (aR vn) f aI A outer s H E).lH ((fj vn).drop 6) t6/\∀(D:Ends)(σ:L2.St)(Y:Hp)(lm dk' fd:e_)(k:Nat)(z7 z8 z9:Option V),σ=[a_ v,a_<|.str kd,a_<|.int (ps.length:Nat),a_<|.ref lm,a_<|.ref dk',a_<|.ref fd,a_<|.int (k:Nat),z7,z8,z9]->BF K t C CT PT Y lm dk' fd (ay S0 k) ((ay S0 k).map fU) (di<|(ay S0 k).take k)->(ay S0 k).length=k->k<=30->aA eD H Y->D.rt=Q->t6 D σ Y:=by
   refine⟨_,aB<|aU<|cp<|aa (b9 gm xz B.len q_<|aa (pv 3) ag)<|aa (b9 (Ui RI) xz B.sorted boot_sorted<|aa (pv 5) ag) ag,?_⟩;rintro D σ Y lm dk' fd k z7 z8 z9 rfl B1 E1 IS k1 rfl;obtain⟨ms,a1,a2⟩:=B1.lst;have al:=r_ a2;have hf:=IT k li;obtain⟨fs,c1,c2,c3⟩:=B1.BD;rw[jd<|m8 E1]at c2 c3
   have mem:∀d∈di (ay S0 k),∃S∈ay S0 k,d=iT S:=λd hd=>by
    obtain⟨S,h1,h2⟩:=eR.mp hd;exact⟨S,(pY.mp h1).1,h2.fF⟩
   have SH:(di<|ay S0 k).length<64:=by
    unfold di;rw[aS];have:=uP jy<|ay S0 k;lia
   refine au _ xz ⟨lm,ms,xz,.inl<|aq.of a1,vr xz ⟨fd,fs,di<|ay S0 k,xz,aq.of c1,SH,Gf c2,λd hd=>?_,λd hd e zS=>?_,Hn (C0 S0 k) hf,λl zs es hl hz pm pw=>⟨sl (n:=2),λp hp=>?_⟩⟩⟩
   .obtain⟨S,_,rfl⟩:=mem d hd;exact⟨oj 5 S,_,_,xz⟩
   .obtain⟨S,Z,rfl⟩:=mem d hd;obtain⟨T,hT,rfl⟩:=mem e zS;have f1:=hf S Z;have f2:=hf T hT;exact UY f1.W.wf f2.W.wf (by rw[f1.W.wf.len,f2.W.wf.len,f1.ps,f2.ps])
   .have s2:af Y (db Y l<|.lst zs):=ax (af.refl _) hl;have g2:db Y l (.lst zs) l=a_ (.lst zs):=ai;generalize db Y l (.lst zs)=H2 at s2 g2 hp ⊢;have s3:af H2 (db H2 p<|.tup [.int (ms.length:Nat),.ref l]):=ax (af.refl _) hp;refine q _ p (k1.fC<|aA.of<|s2.fC s3) (fA B1.lam<|s2.fC s3)<|.inl ⟨k,l,zs,es,E1,IS,by rw[ai,al,E1],s3 _ _ g2,Mm (λd hd=>?_) (TK.of<|s2.fC s3) hz,pm,pw⟩;obtain⟨S,_,rfl⟩:=mem d<|pm.mem_iff.mp hd;exact oj 5 S
  refine let J:TS:=_;let N:TS:=_;let O:TS:=_;let R:TS:=_;let U:TS:=_;⟨_,aw (bf (i:=2) tK.nd xz (aP xz)<|b9 gm xz B.len q_<|aa (pv 0) ag)<|pR U<|aw (bf (i:=3) tK.nd xz (aP xz)<|dh<|aa (jY mk GI7 RM xz yF b3 .nil cX<|aa (pv 0)<|aa (pv 1) ag) ag)<|pR R<|aw (bf (i:=4) tK.nd xz (aP xz)<|Wi hu (dP DK qL xz<|aa (aV cJ (pv 3) ao)<|aa (pv 2) ag) lj)<|pR O<|aw (bf (i:=5) tK.nd xz (aP xz)<|dh ag)<|pR N<|aw (bf (i:=6) tK.nd xz (aP xz) ao)<|pR J<|aw (Wg uS (bR wN (pv 6) (b9 gm xz B.len q_<|aa (pv 3) ag)<|bG _) pW) p6,?_⟩;refine vr xz ⟨pa,aY,by rw[ev],.inr<|az.of zK,?_⟩;rw[dA];refine au _ xz (vr xz λx dx nx cG ne=>?_);have sb:af H (db (db H dx<|.own x) x<|.ins C dx []):=ax (ax (af.refl _) cG) (by rw[ah ne.fF];exact nx);have qI:db (db H dx<|.own x) x (.ins C dx []) x=a_ (.ins C dx []):=ai;generalize db (db H dx<|.own x) x (.ins C dx [])=Hb at sb qI ⊢;refine qe x dx v ps kd xz qI (hP.keep λb xs e=>sb b _ e) hg hk λh0 A2 aaD M2 L2' ev k2 fr2=>⟨xz,sl (n:=1),λlm sf=>?_⟩;rw[xV]at M2;have k0:aA eD H h0:=YG (aA.of sb) nx k2;have l0:=YF k2 qI<|fA lam sb;have s1:af h0 (db h0 lm<|.lst [.ref x]):=ax (af.refl _) sf;have g1:db h0 lm (.lst [.ref x]) lm=a_ (.lst [.ref x]):=ai;have amo:=k0.t _ sf
  have fx:∀b,cY x A2 b->b≠lm:=λb hb z=>by
   obtain⟨o,e,_⟩:=M2.AY hb;rw[z,sf]at e;cases e
  generalize db h0 lm (.lst [.ref x])=h1 at s1 g1 ⊢;have M3:=M2.same s1;have k1:=k0.fC<|aA.of s1;have l1:=fA l0 s1;refine λdk' vS=>?_;have s2:af h1 (db h1 dk'<|.dT []):=ax (af.refl _) vS;have g2:db h1 dk' (.dT []) dk'=a_ (.dT []):=ai;have Qs:=k1.t _ vS
  have Fh:∀b,cY x A2 b->b≠dk':=λb hb z=>by
   obtain⟨o,e,_⟩:=M3.AY hb;rw[z,vS]at e;cases e
  have EH:lm≠dk':=aQ g1 vS;generalize db h1 dk' (.dT [])=h2 at s2 g2 ⊢;have w0:=AB hg (kd:=kd) (k:=0) li (eC kd ps) (by rw[ay];exact c7.mpr xz);rw[xV]at w0;have ana:S0.ck.length=ps.length:=by rw[w0.W.wf.len,w0.ps]
  refine au _ xz<|rL (v:=.ref x) (aq.of<|s2 _ _ g1) xz<|vr xz ?_;refine⟨x,A2,S0,by rw[ana];rfl,M3.same s2,w0.W.wf,C8 w0 qc,λh3 p s3 hd=>⟨p,fU S0,xz,s3 _ _ g2,xz,⟨xz,wR _,hd⟩,?_⟩⟩;have yT:=s3 _ _ g2;have ky:=s2.fC s3;have tk:TK h3 (db h3 dk'<|.dT [(fU S0,p)]):=AM yT<|.inr ⟨_,xz⟩;have k4:aA eD H (db h3 dk'<|.dT [(fU S0,p)]):=Xw (k1.fC<|aA.of ky) Qs;have l4:cx PT LP LQ (db h3 dk'<|.dT [(fU S0,p)]):=AR (fA l1 ky) yT<|.inr ⟨_,xz⟩;have M4:=(M3.same ky).up (u:=.dT [(fU S0,p)]) yT (.inr ⟨_,xz⟩) λz=>Fh _ z rfl;have g4:db h3 dk' (.dT [(fU S0,p)]) dk'=a_ (.dT [(fU S0,p)]):=ai;have a4:db h3 dk' (.dT [(fU S0,p)]) lm=a_ (.lst [.ref x]):=by rw[ah EH];exact ky _ _ g1
  have d4:=lP tk (wR S0) hd;generalize db h3 dk' (.dT [(fU S0,p)])=h4 at k4 l4 M4 g4 a4 d4 ⊢;refine⟨qc,λfd si=>?_⟩;have s5:af h4 (db h4 fd<|.lst []):=ax (af.refl _) si;have g5:db h4 fd (.lst []) fd=a_ (.lst []):=ai;have amr:=k4.t _ si
  have SA:∀b,cY x A2 b->b≠fd:=λb hb z=>by
   obtain⟨o,e,_⟩:=M4.AY hb;rw[z,si]at e;cases e
  have n1:lm≠fd:=aQ a4 si;have n2:dk'≠fd:=aQ g4 si;generalize db h4 fd (.lst [])=h5 at s5 g5 ⊢;have B5:BF K t C CT PT h5 lm dk' fd (ay S0 0) ((ay S0 0).map fU) (di<|(ay S0 0).take 0):=⟨⟨_,s5 _ _ a4,.cons ⟨x,A2,xz,M4.same s5,λb hb=>⟨fx b hb,Fh b hb,SA b hb⟩⟩ .nil⟩,⟨_,s5 _ _ g4,λy hy=>(by rw[c7.mp hy];exact⟨xz,wR _,lP (TK.of s5) (wR S0) d4⟩),xz⟩,⟨[],g5,.nil,λd hd=>nomatch hd⟩,fA l4 s5,EH,n1,n2⟩;have k5:=k4.fC<|aA.of s5;refine⟨λμ σ H'=>∃k z7 z8 z9,μ=31-k/\σ=[a_ v,a_<|.str kd,a_<|.int (ps.length:Nat),a_<|.ref lm,a_<|.ref dk',a_<|.ref fd,a_<|.int (k:Nat),z7,z8,z9]/\k<=(ay S0 k).length/\(ay S0 k).length<=30/\BF K t C CT PT H' lm dk' fd (ay S0 k) ((ay S0 k).map fU) (di<|(ay S0 k).take k)/\aA eD H H',⟨_,0,b_,b_,b_,xz,xz,bJ _,by show 1<=30;decide,B5,k5⟩,?_⟩;rintro μ σ H6 ⟨k,z7,z8,z9,rfl,rfl,hle,aaX,B6,k6⟩;obtain⟨ms,a1,a2⟩:=B6.lst;have al:=r_ a2;have kk:∀H7,aA (λb=>b=lm\/b=dk'\/b=fd) H6 H7->aA eD H H7:=λH7 k7=>⟨λb o h1 h2 e=>k7.k b o (λz=>by rcases z with z | z | z <;> rw[z]at e <;> simp_all) h2<|k6.k b o h1 h2 e,λb e=>k6.t b<|k7.t b e⟩;refine vr xz<|vr xz<|dG lm ms xz (.inl<|aq.of a1) ⟨_,_,xz,xz,_,xz,bq (λh1=>?_) λh1=>?_⟩
  .have hk1:k<(ay S0 k).length:=li;have Z:(ay S0 k)[k]?=a_ ((ay S0 k)[k]'hk1):=a8 hk1;generalize (ay S0 k)[k]'hk1=S at Z;refine⟨_,λσ' H' z=>z,uW _ _ H6 lm dk' fd k z7 z8 z9 S xz B6 Z li aaX (λhc H7 r k7 l7 c9=>q H7 r (kk H7 k7) l7<|.inr ⟨k,hk1,aaX,hc,c9⟩) λH7 y7 y8 y9 pS B7 k7=>⟨31-(k+1),li,k+1,y7,y8,y9,xz,xz,cQ hk1<|GV S0<|jf k,pS,B7,kk H7 k7⟩⟩
  .exact u6 _ _ H6 lm dk' fd k z7 z8 z9 xz B6 li li k6 xz
end
noncomputable abbrev iW:Mv:=(("do":cw),[(0:Int)])
noncomputable def bY(kd:cw)(ps:List Pt)(ct pl:Nat)(a b:Int):Mc:=⟨kd,ps,[⟨pl,ct,[a,b,0,0],0,[]⟩],dB 12 0,[],dB 12 []⟩
def XS(h:fo (bY kd ps ct pl a b)=fo (bY kd ps ct' JL a' b')):pl=JL/\a=a':=by
 have h1:=fw (λv=>v.1.map λx=>(x.1,x.2.2.getD 0 0)) h;have h2:[(pl,a)]=[(JL,a')]:=h1;injection h2 with h3
 injection h3 with h4 h5
 exact⟨h4,h5⟩
def tw:dE (bY kd ps ct pl a b)=if jQ (bY kd ps ct pl a b) 0=c_ then [iW] else []:=by
 have c:AE (bY kd ps ct pl a b)=[]:=by
  show (ju kd []).map _++[]=[];have:ju kd []=[]:=by unfold ju;split <;> rfl
  rw[this];rfl
 unfold dE;rw[c,pZ];unfold uf;show ((List.range 1).filter _).map _=_;rw[show List.range 1=[0] from xz,sQ]
 by_cases h:jQ (bY kd ps ct pl a b) 0=c_
 .rw[ek h,ek h];rfl
 .rw[ei h,ei h];rfl
theorem LU(a:S0=f 0)(hm:∀i,i<T->dE (f i)=[iW])(hs:∀i,i<T->bA (f i) iW=f (i+1))(hv:∀i j,i<j->j<=T->fo (f i)≠fo (f j)):∀k,k<=T->ay S0 k=(List.range<|k+1).map f
 | 0,_=>by rw[ay,a];rfl
 | k+1,hk=>by
  have ih:=LU a hm hs hv k<|abW hk;have e:(ay S0 k)[k]?=a_ (f k):=by rw[ih,eX,abI<|sO k];rfl
  rw[yo e,hm k hk];show ja (ay S0 k) (bA (f k) iW)=_;rw[hs k hk,ih];unfold ja;rw[ei,sS (n:=k+1),fg]
  .rfl
  .intro z;obtain⟨S,b,c⟩:=eR.mp z;obtain⟨i,hi,rfl⟩:=eR.mp b;exact hv i (k+1) (uU.mp hi) hk c
def CI(w:∀k,k<=T->ay S0 k=(List.range<|k+1).map f)(h:k<=T):(ay S0 k).length=k+1:=by rw[w k h,aS,wq]
abbrev cP(N:Nat):List Pt:=[[(S_,[0,N]),(S_,[1,1]),(Q_,[0,1]),(J_,[0,5]),(J_,[2,2])]]
def mJ(N:Nat)(j:Nat):Int:=((N:Int)+j+1)%dH
def cS(kd:cw)(N i:Nat):Mc:=
 if i=0 then bY kd (cP N) 0 0 0 0 else if i=1 then bY kd (cP N) 1 1 N 0
 else if (i-2)%3=0 then bY kd (cP N) i 2 ((N:Int)+((i-2)/3:Nat)) 1
 else if (i-2)%3=1 then bY kd (cP N) i 3 (mJ N<|(i-2)/3) 1
 else bY kd (cP N) i (if mJ N ((i-2)/3)=0 then 5 else 4) (mJ N<|(i-2)/3) 1
section
variable{kd:cw}{N:Nat}
def c0(ct:Nat)(a b:Int):bA (bY kd (cP N) ct 0 a b) iW=bY kd (cP N) (ct+1) 1 N b/\jQ (bY kd (cP N) ct 0 a b) 0=true:=⟨by kernel_rfl,by kernel_rfl⟩
def c1(ct:Nat)(a b:Int):bA (bY kd (cP N) ct 1 a b) iW=bY kd (cP N) (ct+1) 2 a 1/\jQ (bY kd (cP N) ct 1 a b) 0=true:=⟨by kernel_rfl,by kernel_rfl⟩
def c2(ct:Nat)(a b:Int):bA (bY kd (cP N) ct 2 a b) iW=bY kd (cP N) (ct+1) 3 ((a+b)%dH) b/\jQ (bY kd (cP N) ct 2 a b) 0=true:=⟨by kernel_rfl,by kernel_rfl⟩
def c3(ct:Nat)(a b:Int):bA (bY kd (cP N) ct 3 a b) iW=bY kd (cP N) (ct+1) (if a=0 then 5 else 4) a b/\jQ (bY kd (cP N) ct 3 a b) 0=true:=by
 refine⟨?_,by kernel_rfl⟩;have e:bA (bY kd (cP N) ct 3 a b) iW=bY kd (cP N) (ct+1) (jv (J_,[0,5]) [a,b,0,0] 3) a b:=by kernel_rfl
 rw[e]
 congr 1
 unfold jv
 by_cases z:a=0
 .rw[ek z,ek ⟨xz,z⟩];rfl
 .rw[ei z,ei λy=>z y.2]
def c4(ct:Nat)(a b:Int):bA (bY kd (cP N) ct 4 a b) iW=bY kd (cP N) (ct+1) 2 a b/\jQ (bY kd (cP N) ct 4 a b) 0=true:=⟨by kernel_rfl,by kernel_rfl⟩
def c5(ct:Nat)(a b:Int):jQ (bY kd (cP N) ct 5 a b) 0=d_/\jy (bY kd (cP N) ct 5 a b)=true:=⟨by kernel_rfl,by kernel_rfl⟩
def Bm(j:Nat):cS kd N (2+3*j)=bY kd (cP N) (2+3*j) 2 ((N:Int)+j) 1:=by
 unfold cS;rw[ei li,ei li,ek om,show (2+3*j-2)/3=j by omega]
def Eh(j:Nat):cS kd N (3+3*j)=bY kd (cP N) (3+3*j) 3 (mJ N j) 1:=by
 unfold cS;rw[ei li,ei li,ei om,ek om,show (3+3*j-2)/3=j by omega]
def Bk(j:Nat):cS kd N (4+3*j)=bY kd (cP N) (4+3*j) (if mJ N j=0 then 5 else 4) (mJ N j) 1:=by
 unfold cS;rw[ei li,ei li,ei om,ei om,show (4+3*j-2)/3=j by omega]
def Iz(i:Nat):i=0\/i=1\/∃j,i=2+3*j\/i=3+3*j\/i=4+3*j:=by
 by_cases a:i=0
 .exact .inl a
 .by_cases h1:i=1
  .exact .inr (.inl h1)
  .exact .inr (.inr ⟨(i-2)/3,om⟩)
def Dc{r j:Nat}(a:1<=r)(hN:(N:Int)+r=dH)(b:0<N)(c:j<r):mJ N j=if j+1=r then 0 else (N:Int)+j+1:=by
 unfold mJ
 by_cases z:j+1=r
 .rw[ek z,show (N:Int)+j+1=dH by lia];exact Int.emod_self
 .rw[ei z];exact ab3 li li
def ahH{r:Nat}(c:1<=r)(hN:(N:Int)+r=dH)(d:0<N):(∀i,i<3*r+1->dE (cS kd N i)=[iW])/\(∀i,i<3*r+1->bA (cS kd N i) iW=cS kd N (i+1))/\(∀k,k<=3*r+1->ay (eC kd<|cP N) k=(List.range<|k+1).map (cS kd N))/\dE (cS kd N<|3*r+1)=[]/\cS kd N (3*r+1)=bY kd (cP N) (3*r+1) 5 0 1:=by
 have f:cS kd N (3*r+1)=bY kd (cP N) (3*r+1) 5 0 1:=by
  have e:3*r+1=4+3*(r-1):=li;rw[e,Bk,Dc c hN d li,ek (show r-1+1=r by lia),ek rfl]
 have hm:∀i,i<3*r+1->dE (cS kd N i)=[iW]:=λi hi=>by
  obtain rfl|rfl|⟨j,rfl|rfl|rfl⟩:=Iz i
  .exact tw.fC (by rw[(c0 _ _ _).2];rfl)
  .exact tw.fC (by rw[(c1 _ _ _).2];rfl)
  .rw[Bm];exact tw.fC (by rw[(c2 _ _ _).2];rfl)
  .rw[Eh];exact tw.fC (by rw[(c3 _ _ _).2];rfl)
  .rw[Bk,Dc c hN d li,ei li,ei li];exact tw.fC (by rw[(c4 _ _ _).2];rfl)
 have hs:∀i,i<3*r+1->bA (cS kd N i) iW=cS kd N (i+1):=λi hi=>by
  obtain rfl|rfl|⟨j,rfl|rfl|rfl⟩:=Iz i
  .exact(c0 _ _ _).1
  .have:=Bm (kd:=kd) (N:=N) 0;show bA (bY kd (cP N) 1 1 N 0) iW=cS kd N 2;rw[(c1 _ _ _).1,show (2:Nat)=2+3*0 from xz,this];simp
  .rw[show 2+3*j+1=3+3*j by lia,Bm,Eh,(c2 _ _ _).1];unfold mJ
   congr 1
   lia
  .rw[show 3+3*j+1=4+3*j by lia,Eh,Bk,(c3 _ _ _).1]
   congr 1
   lia
  .rw[show 4+3*j+1=2+3*(j+1) by lia,Bm,Bk,Dc c hN d li,ei li,ei li,(c4 _ _ _).1]
   congr 1
   lia
 refine⟨hm,hs,LU xz hm hs λi j p l e=>?_,by rw[f,tw,(c5 _ _ _).1];rfl,f⟩
 .let g:Nat->Int->Int:=λpl a=>if pl=0 then 0 else if pl=1 then 1 else if pl=2 then 2+3*(a-N) else if pl=3 then 3+3*((if a=0 then dH else a)-N-1) else 4+3*((if a=0 then dH else a)-N-1)
  have h:∀i,i<=3*r+1->∃ct pl a b,cS kd N i=bY kd (cP N) ct pl a b/\g pl a=(i:Int):=λi hi=>by
   obtain rfl|rfl|⟨j,rfl|rfl|rfl⟩:=Iz i
   .exact⟨_,_,_,_,xz,xz⟩
   .exact⟨_,_,_,_,xz,xz⟩
   .exact⟨_,_,_,_,Bm j,by show 2+3*(((N:Int)+j)-N)=_;lia⟩
   .refine⟨_,_,_,_,Eh j,?_⟩;show 3+3*((if mJ N j=0 then dH else mJ N j)-N-1)=_;rw[Dc c hN d li]
    by_cases z:j+1=r
    .rw[ek z,ek rfl];lia
    .rw[ei z,ei li];lia
   .refine⟨_,_,_,_,Bk j,?_⟩
    have e:g (if mJ N j=0 then 5 else 4) (mJ N j)=4+3*((if mJ N j=0 then dH else mJ N j)-N-1):=by
     by_cases z:mJ N j=0
     .rw[ek z];rfl
     .rw[ei z];rfl
    rw[e,Dc c hN d li]
    by_cases z:j+1=r
    .rw[ek z,ek rfl];lia
    .rw[ei z,ei li];lia
  obtain⟨ct,pl,a,b,m,d1⟩:=h i li;obtain⟨q,s,t,u,n,o⟩:=h j l;rw[m,n]at e;obtain⟨h1,h2⟩:=XS e;rw[h1,h2,o]at d1;lia
end
abbrev oP:List Pt:=[[(S_,[1,1]),(Q_,[0,1]),(J_,[2,1])]]
def oS(kd:cw)(i:Nat):Mc:=if i=0 then bY kd oP 0 0 0 0 else if (i-1)%2=0 then bY kd oP i 1 ((i-1)/2:Nat) 1 else bY kd oP i 2 (((i-1)/2:Nat)+1) 1
section
variable{kd:cw}
def o0(ct:Nat)(a b:Int):bA (bY kd oP ct 0 a b) iW=bY kd oP (ct+1) 1 a 1/\jQ (bY kd oP ct 0 a b) 0=true:=⟨by kernel_rfl,by kernel_rfl⟩
def o1(ct:Nat)(a b:Int):bA (bY kd oP ct 1 a b) iW=bY kd oP (ct+1) 2 ((a+b)%dH) b/\jQ (bY kd oP ct 1 a b) 0=true:=⟨by kernel_rfl,by kernel_rfl⟩
def o2(ct:Nat)(a b:Int):bA (bY kd oP ct 2 a b) iW=bY kd oP (ct+1) 1 a b/\jQ (bY kd oP ct 2 a b) 0=true:=⟨by kernel_rfl,by kernel_rfl⟩
def Ec(j:Nat):oS kd (1+2*j)=bY kd oP (1+2*j) 1 (j:Nat) 1:=by
 unfold oS;rw[ei li,ek om,show (1+2*j-1)/2=j by omega]
def Eb(j:Nat):oS kd (2+2*j)=bY kd oP (2+2*j) 2 ((j:Nat)+1) 1:=by
 unfold oS;rw[ei li,ei om,show (2+2*j-1)/2=j by omega]
def Ht(i:Nat):i=0\/∃j,i=1+2*j\/i=2+2*j:=by
 by_cases a:i=0
 .exact .inl a
 .exact .inr ⟨(i-1)/2,om⟩
def ahG:(∀i,i<4000->dE (oS kd i)=[iW])/\(∀i,i<4000->bA (oS kd i) iW=oS kd (i+1))/\∀k,k<=4000->ay (eC kd oP) k=(List.range<|k+1).map (oS kd):=by
 have l:(5000:Int)<dH:=dk
 have hm:∀i,i<4000->dE (oS kd i)=[iW]:=λi hi=>by
  obtain rfl|⟨j,rfl|rfl⟩:=Ht i
  .exact tw.fC (by rw[(o0 _ _ _).2];rfl)
  .rw[Ec];exact tw.fC (by rw[(o1 _ _ _).2];rfl)
  .rw[Eb];exact tw.fC (by rw[(o2 _ _ _).2];rfl)
 have hs:∀i,i<4000->bA (oS kd i) iW=oS kd (i+1):=λi hi=>by
  obtain rfl|⟨j,rfl|rfl⟩:=Ht i
  .exact(o0 _ _ _).1
  .rw[show 1+2*j+1=2+2*j by lia,Ec,Eb,(o1 _ _ _).1,ab3 li li]
   congr 1
   lia
  .rw[show 2+2*j+1=1+2*(j+1) by lia,Ec,Eb,(o2 _ _ _).1]
   congr 1
   lia
 refine⟨hm,hs,LU xz hm hs λi j m n e=>?_⟩
 .let d:Nat->Int->Int:=λpl a=>if pl=0 then 0 else if pl=1 then 1+2*a else 2+2*(a-1)
  have c:∀i,∃ct pl a b,oS kd i=bY kd oP ct pl a b/\d pl a=(i:Int):=λi=>by
   obtain rfl|⟨j,rfl|rfl⟩:=Ht i
   .exact⟨_,_,_,_,xz,xz⟩
   .exact⟨_,_,_,_,Ec j,by show 1+2*(j:Int)=_;lia⟩
   .exact⟨_,_,_,_,Eb j,by show 2+2*(((j:Int)+1)-1)=_;lia⟩
  obtain⟨ct,pl,a,b,f,d1⟩:=c i;obtain⟨o,p,q,r,g,h⟩:=c j;rw[f,g]at e;obtain⟨h1,h2⟩:=XS e;rw[h1,h2,h]at d1;lia
end
theorem FV:∀{m:Nat},(∀i,i<m->jy (f i)=d_)->di ((List.range m).map f)=[]
 | 0,_=>rfl
 | m+1,h=>by
  have ih:=FV (m:=m) λi hi=>h i<|K' hi;unfold di at ih ⊢;rw[sS,fg,Ae,fg,ih,Ts,sQ,ei (by rw[h m<|sO m];decide)];rfl
def ahI(h:jQ (bY kd [p] ct pl a b) 0=c_):jy (bY kd [p] ct pl a b)=false:=by
 have e:jy (bY kd [p] ct pl a b)=decide (pl=p.length):=by
  show ((decide (pl=p.length)&&decide (([]:List gl)=[]))&&c_)=_;simp
 rw[e];refine eT λz=>?_;have h':qy ⟨pl,ct,[a,b,0,0],0,[]⟩ p=true:=h;unfold qy at h';rw[z,Cm<|aD _]at h';cases h'
def ajb:mx (bY kd ps ct pl a b):=λc d=>by
 rw[c7.mp d];exact Nat.zero_lt_succ _
def VH(w:∀k,k<=T->(ay S0 k).length=k+1)(hn:n<=T)(h:tQ S0 n j):n<(ay S0 j).length:=by
 have a:=h.le.1;have:=w j li;refine oF λz=>h.2 ⟨li,li⟩
def af1(w:∀k,k<=T->(ay S0 k).length=k+1)(hs:ay S0 (T+1)=ay S0 T)(hn:T<n)(h:tQ S0 n j):j=T+1:=by
 have h1:T<j:=oF λz=>h.2 ⟨by rw[w j li];lia,by rw[w j li];lia⟩;refine oF λz=>?_;have:=(h.1 (T+1) li).1;rw[hs,w T<|aD _]at this;lia
def akQ(i:Nat):∃ct pl a b,cS kd N i=bY kd (cP N) ct pl a b:=by
 obtain rfl|rfl|⟨j,rfl|rfl|rfl⟩:=Iz i
 .exact⟨_,_,_,_,xz⟩
 .exact⟨_,_,_,_,xz⟩
 .exact⟨_,_,_,_,Bm j⟩
 .exact⟨_,_,_,_,Eh j⟩
 .exact⟨_,_,_,_,Bk j⟩
def akr(i:Nat):∃ct pl a b,oS kd i=bY kd oP ct pl a b:=by
 obtain rfl|⟨j,rfl|rfl⟩:=Ht i
 .exact⟨_,_,_,_,xz⟩
 .exact⟨_,_,_,_,Ec j⟩
 .exact⟨_,_,_,_,Eb j⟩
def XT{f:Nat->Mc}(c:∀i,∃ct pl a b,f i=bY kd [p] ct pl a b){i:Nat}(h:dE (f i)=[iW]):jy (f i)=false:=by
 obtain⟨ct,pl,a,b,e⟩:=c i;rw[e]at h ⊢;refine ahI ?_;rw[tw]at h;refine oF λz=>?_;rw[ei z]at h;cases h
def OG{f:Nat->Mc}(g:∀i,∃ct pl a b,f i=bY kd [p] ct pl a b){T:Nat}(hm:∀i,i<T->dE (f i)=[iW])(hs:∀i,i<T->bA (f i) iW=f (i+1)){i:Nat}(hi:i<T\/dE (f i)=[]):mx (f i)/\∀mv∈dE (f i),mx (bA (f i) mv):=by
 have d:∀i,mx (f i):=λi=>by obtain⟨ct,pl,a,b,e⟩:=g i;rw[e];exact ajb
 refine⟨d i,λmv c=>?_⟩;obtain hi|hi:=hi
 .rw[hm i hi]at c;rw[c7.mp c,hs i hi];exact d _
 .rw[hi]at c;cases c
def aiX(h:N<10^60):lB (cP N):=⟨show 1<=1 by decide,show 1<=4 by decide,λp b=>by
 rw[c7.mp b];refine⟨show 5<=120 by decide,λt a=>?_⟩;simp only[a9,qQ,or_false]at a;obtain rfl|rfl|rfl|rfl|rfl:=a
 .exact .put _ _ qc h
 .exact .put _ _ qc qc
 .exact .add _ _ qc qc
 .exact .skip _ _ qc (show 5<=5 by decide) qc
 .exact .skip _ _ qc (show 2<=5 by decide) qc⟩
def aiW:lB oP:=⟨qc,qc,λp b=>by
 rw[c7.mp b];refine⟨qc,λt a=>?_⟩;simp only[a9,qQ,or_false]at a;obtain rfl|rfl|rfl:=a
 .exact .put _ _ qc qc
 .exact .add _ _ qc qc
 .exact .skip _ _ qc qc qc⟩
end TL
namespace L2
def PE.imp(h:PE X e t)(hi:∀σ H Q,t' σ H Q->t σ H Q):PE X e t':=λp_ s σ H Q I q=>h p_ s σ H Q I<|hi σ H Q q
noncomputable def yU:bM->bT
 | .Assign _ v _=>v
 | .Return (a_ v) _=>v
 | _=>.Name "" ⟨0,0,0,0⟩
end L2
namespace TL
open PySem.SeqAt L2 L3 L4
variable{P:l_}{w:k_}{K:u_}{mg:cw->Option f_}{fK:j_}
def three(c:Int):∃kd:cw,jS [V.str ap9,V.str H_,V.str ap4] (c%3)=a_ (.str kd)/\kindS kd:=by
 have h1:0<=c%3:=qa _ qc;have h2:c%3<3:=pV _ qc;have:c%3=0\/c%3=1\/c%3=2:=li;rcases this with e | e | e <;> rw[e]
 .exact au _ xz (.inl xz)
 .exact au _ xz (.inr<|.inl xz)
 .exact au _ xz (.inr<|.inr xz)
def Io:TE:=λ_ H Q=>∀l H',af H H'->H' l=a_ (.lst [.str ap9,.str H_,.str ap4])->Q (.ref l) H'
def WV:TE:=λσ H Q=>∃r N:Nat,σ[1]?=a_ (a_<|.int (r:Nat))/\(N:Int)+r=dH/\∀l us H',af H H'->H' l=a_ (.lst us)->bL (gv H') us ((cP N).getD 0 [])->Q (.ref l) H'
def X9(K:u_):TE:=λ_ H Q=>∀l v H',af H H'->H' l=a_ (.lst [v])->(∀kd N ct,c8 K H' v<|iT<|bY kd (cP N) ct 5 0 1)->Q (.ref l) H'
section
variable{t:bj}{C CT PT:e_}
def adR(h:oX K S0 n j H H' p)(hn:n<(ay S0 j).length):c8 K H' (.ref p) (.tuple [.str aq8]):=by
 unfold oX at h;rw[ek hn]at h;exact .tup (az.of h)<|.cons (.str _) .nil
def F6(PT:e_):Sp:=λvs H Q _=>∃c:Int,vs=[.int c]/\cx PT LP LQ H/\∀H',Q (.bl c_) H'
def yi:shaped (.tuple [.str aq8])=true:=dk
def Ym:bc [P_,an3] [P_] (aR yB):=bx
def Z7:TE:=λ_ H Q=>∀v H',af H H'->jh H' v oP->Q v H'
@[irreducible] def BH:bT:=yU<|(fj yB).getD 0<|.Pass ⟨0,0,0,0⟩
def ajd:∃a b,fj yB=[.Assign [.Name an3 a] BH b,(fj yB).getD 1<|.Pass ⟨0,0,0,0⟩]:=by
 unfold BH;exact⟨_,_,xz⟩
noncomputable def elts:bT->List bT
 | .Tuple es _ _=>es
 | .List es _=>es
 | _=>[]
abbrev vI:bT:=yU<|(fj yB).getD 0<|.Pass ⟨0,0,0,0⟩
@[irreducible] def yM:bT:=(elts<|(elts vI).getD 0 vI).getD 0 vI
@[irreducible] def yL:bT:=(elts<|(elts vI).getD 0 vI).getD 1 vI
@[irreducible] def yK:bT:=(elts<|(elts vI).getD 0 vI).getD 2 vI
def ahS:∃n1 a b c,BH=.Tuple [.Tuple [yM,yL,yK] n1 a] b c:=by
 unfold BH yM yL yK;exact⟨_,_,_,_,xz⟩
def agR:PE X yM (wZ<|g9 (tC<|.str S_)<|g9 (tC<|.int 1)<|g9 (tC<|.int 1) oZ):=by
 unfold yM;exact cp<|aa a7<|aa ao<|aa ao ag
def agQ:PE X yL (wZ<|g9 (tC<|.str Q_)<|g9 (tC<|.int 0)<|g9 (tC<|.int 1) oZ):=by
 unfold yL;exact cp<|aa a7<|aa ao<|aa ao ag
def agP:PE X yK (wZ<|g9 (tC<|.str J_)<|g9 (tC<|.int 2)<|g9 (tC<|.int 1) oZ):=by
 unfold yK;exact cp<|aa a7<|aa ao<|aa ao ag
def al4(h1:PE X yM x)(h2:PE X yL y)(h3:PE X yK z):PE X (.Tuple [yM,yL,yK] n1 p1) (wZ<|g9 x<|g9 y<|g9 z oZ):=
 cp (aa h1 (aa h2 (aa h3 ag (hs:=by unfold yK;rfl)) (hs:=by unfold yL;rfl)) (hs:=by unfold yM;rfl))
def ait:PE X BH Z7:=by
 obtain⟨n1,a,j,b,e⟩:=ahS;rw[e];refine PE.imp (t':=Z7) (cp<|aa (al4 agR agQ agP) ag) ?_;rintro σ k R q;refine⟨sl (n:=3),λa n1=>⟨sl (n:=3),λb j=>⟨sl (n:=3),λc l=>⟨sl (n:=3),λd g=>⟨sl (n:=1),λA f=>?_⟩⟩⟩⟩⟩;have s1:=ax (o:=.tup [.str S_,.int 1,.int 1]) (af.refl k) n1;have s:db k a (.tup [.str S_,.int 1,.int 1]) a=a_ (.tup<|tv (S_,[1,1])):=ai;generalize db k a (.tup [.str S_,.int 1,.int 1])=m at s1 s j l g f ⊢;have s2:=ax (o:=.tup [.str Q_,.int 0,.int 1]) (af.refl m) j;have u:db m b (.tup [.str Q_,.int 0,.int 1]) b=a_ (.tup<|tv (Q_,[0,1])):=ai;generalize db m b (.tup [.str Q_,.int 0,.int 1])=p at s2 u l g f ⊢;have h:=ax (o:=.tup [.str J_,.int 2,.int 1]) (af.refl p) l;have v:db p c (.tup [.str J_,.int 2,.int 1]) c=a_ (.tup<|tv (J_,[2,1])):=ai;generalize db p c (.tup [.str J_,.int 2,.int 1])=r at h v g f ⊢;have x:=ax (o:=.tup [.ref a,.ref b,.ref c]) (af.refl r) g;have y:db r d (.tup [.ref a,.ref b,.ref c]) d=a_ (.tup [.ref a,.ref b,.ref c]):=ai;generalize db r d (.tup [.ref a,.ref b,.ref c])=G4 at x y f ⊢;have z:=ax (o:=.tup [.ref d]) (af.refl G4) f;have i:=x.fC z;exact q _ _ (s1.fC<|s2.fC<|h.fC i) ⟨A,_,xz,ai,.cons ⟨d,_,xz,z _ _ y,.cons ⟨a,xz,(s2.fC<|h.fC i) _ _ s⟩<|.cons ⟨b,xz,(h.fC i) _ _ u⟩<|.cons ⟨c,xz,i _ _ v⟩ .nil⟩ .nil⟩
def ag0(F:aW K "_law_on_and_on" "_law_on_and_on" yB f fd)(r:Dp P w K mg fK 11 W_ hD (Hv K PT)):aE P w K mg fK aL 12 f fd [P_] (F6 PT):=by
 refine F.ok Ym λaI A _ s H vs Q E g h=>?_
 .obtain⟨c,rfl,lam,q⟩:=h;have u:=m7 (xZ (show 64<=65 by decide) _)<|tx g;obtain⟨U,W,x⟩:=ajd;rw[x]
  refine let a:TS:=_;⟨_,aw (bf (i:=1) Ym.nd xz (aP xz) ait<|by first | rfl | (unfold BH;rfl))
   (pR a<|aB<|aU<|wH (Dm u) (dP r g xz<|aa (pv 1)<|aa (aV cJ (PE.imp (t':=Io) (dh<|aa a7<|aa a7<|aa a7 ag) ?kinds)<|aG cV (pv 0) ao)<|aa (aG fQ ao<|aG cV (aG fE (pv 0) ao) ao) ag) (cp<|aa a7 ag)<|bG _),?_⟩
  case kinds=>
   rintro σ y R q;exact⟨sl (n:=3),λl z=>q l _ (ax (af.refl _) z) ai⟩
  refine λv y s1 B=>?_;obtain⟨kd,D,G⟩:=three c;have b1:=qa (c/12) (show (801:Int)≠0 by decide);have b2:=pV (c/12) (show (0:Int)<801 by decide);obtain⟨n,hn⟩:∃n:Nat,(1000:Int)+c/12%801=(n:Int):=⟨((1000:Int)+c/12%801).toNat,li⟩;refine au _ xz λl X s2 I=>?_;refine⟨_,xz,_,_,xz,xz,(by show (0:Int)<3;decide),l,_,_,.str kd,xz,xz,aq.of I,D,?_⟩;refine⟨_,xz,_,_,xz,xz,⟨qc,qc⟩,_,_,xz,xz,(by show (0:Int)<801;decide),_,_,xz,xz,?_⟩;obtain⟨om,os,b⟩:=ahG (kd:=kd);have J:=s1.fC s2;have of:=λi=>akr (kd:=kd) i;refine⟨v,oP,kd,n,by show [v,V.str kd,V.int<|1000+c/12%801]=_;rw[hn],B.same s2,aiW,G,li,fA lam J,λk d S m=>?_,λk d _=>?_,λj o p L Y l3 e=>?_⟩
  .rw[b k li]at m;obtain⟨i,hi,rfl⟩:=eR.mp m;exact OG of om os<|.inl (by have:=uU.mp hi;lia)
  .rw[b k li,FV λi hi=>XT of<|om i li];decide
  .have M:=VH (λk d=>CI b d) (show n<=4000 by lia) L;unfold oX at e;rw[ek M]at e;refine⟨sl (n:=1),λN O=>?_⟩;have T:af o (db o N<|.tup [.str aq8]):=ax (af.refl _) O;refine⟨.tuple [.str aq8],.tuple [.str aq8],.tup (az.of<|T _ _ e)<|.cons (.str _) .nil,.tup (az.of ai)<|.cons (.str _) .nil,yi,yi,(Ha yi).1,?_⟩;rw[ei qc,(Ha yi).2];exact q _
end
def aev(h:∀i,i<m->jy (f i)=d_)(e:jy (f m)=c_):di ((List.range<|m+1).map f)=[iT (f m)]:=by
 have ih:=FV h;unfold di at ih ⊢;rw[sS,fg,Ae,fg,ih,Ts,sQ,ek e];rfl
abbrev nmC:List cw:=[P_,"_law_rounds","_law_steps",an3,"_law_count","_law_over"]
def A9:bc nmC [P_] (aR CN):=bx
abbrev uq(i:Nat):bM:=(fj CN).getD i<|.Pass ⟨0,0,0,0⟩
@[irreducible] def Bh:bT:=yU<|uq 1
@[irreducible] def Bi:bT:=yU<|uq 4
def aje:∃a b c d,fj CN=[uq 0,.Assign [.Name "_law_steps" a] Bh b,uq 2,uq 3,.Assign [.Name "_law_over" c] Bi d,uq 5,uq 6]:=by
 unfold Bh Bi;exact⟨_,_,_,_,xz⟩
abbrev ui:bT:=yU<|uq 1
noncomputable def Bg:bT->List bT
 | .List es _=>es
 | _=>[]
@[irreducible] def zd:bT:=(Bg ui).getD 0 ui
@[irreducible] def zc:bT:=(Bg ui).getD 1 ui
@[irreducible] def za:bT:=(Bg ui).getD 2 ui
@[irreducible] def y':bT:=(Bg ui).getD 3 ui
@[irreducible] def y4:bT:=(Bg ui).getD 4 ui
def ahR:∃p,Bh=.List [zd,zc,za,y',y4] p:=by
 unfold Bh zd zc za y' y4;exact⟨_,xz⟩
def kM:TE:=λσ H Q=>∃r N:Nat,σ[1]?=a_ (a_<|.int (r:Nat))/\(N:Int)+r=dH/\∀p,H p=b_->Q (.ref p) (db H p<|.tup<|tv (S_,[0,N]))
def Jg(x:cw)(i j:Nat):TE:=λ_ H Q=>∀p,H p=b_->Q (.ref p) (db H p<|.tup<|tv (x,[i,j]))
def ais(hN:X.N[1]?=a_ ("_law_rounds":cw))(hv:BJ X.env.scope "_law_rounds"):PE X zd kM:=by
 unfold zd;refine PE.imp (t':=kM) (cp<|aa a7<|aa ao<|aa (aG Dk (aG Dl ao ao)<|pv 1 (hN:=hN) (hv:=hv)) ag) ?_;rintro σ H Q ⟨r,N,h1,h2,q⟩;refine⟨_,_,xz,xz,⟨qc,qc,qc⟩,_,h1,_,_,xz,xz,sl (n:=3),λp a=>?_⟩;have e:(10:Int)^(60:Int).toNat-(r:Nat)=(N:Int):=by rw[OX];lia
 show Q (.ref p) (db H p<|.tup [.str S_,.int 0,.int<|(10:Int)^(60:Int).toNat-(r:Nat)]);rw[e];exact q p a
def air:PE X zc (Jg S_ 1 1):=by
 unfold zc;exact PE.imp (cp<|aa a7<|aa ao<|aa ao ag) λσ H Q q=>⟨sl (n:=3),q⟩
def aiq:PE X za (Jg Q_ 0 1):=by
 unfold za;exact PE.imp (cp<|aa a7<|aa ao<|aa ao ag) λσ H Q q=>⟨sl (n:=3),q⟩
def aip:PE X y' (Jg J_ 0 5):=by
 unfold y';exact PE.imp (cp<|aa a7<|aa ao<|aa ao ag) λσ H Q q=>⟨sl (n:=3),q⟩
def aio:PE X y4 (Jg J_ 2 2):=by
 unfold y4;exact PE.imp (cp<|aa a7<|aa ao<|aa ao ag) λσ H Q q=>⟨sl (n:=3),q⟩
def ake(h1:PE X zd x)(h2:PE X zc y)(h3:PE X za z)(h4:PE X y' u)(h5:PE X y4 v):PE X (.List [zd,zc,za,y',y4] p1) (P7<|g9 x<|g9 y<|g9 z<|g9 u<|g9 v oZ):=
 dh (aa h1 (aa h2 (aa h3 (aa h4 (aa h5 ag (hs:=by unfold y4;rfl)) (hs:=by unfold y';rfl)) (hs:=by unfold za;rfl)) (hs:=by unfold zc;rfl)) (hs:=by unfold zd;rfl))
def CQ(t:Tl)(h:H p=b_):af H (db H p<|.tup<|tv t)/\gv (db H p<|.tup<|tv t) (.ref p) t:=⟨ax (af.refl _) h,p,xz,ai⟩
def agN(hN:X.N[1]?=a_ ("_law_rounds":cw))(hv:BJ X.env.scope "_law_rounds"):PE X Bh WV:=by
 obtain⟨a,e⟩:=ahR;rw[e];refine PE.imp (t':=WV) (ake (ais hN hv) air aiq aip aio) ?_;rintro σ H R ⟨r,N,h1,h2,q⟩;refine⟨r,N,h1,h2,λa n1 b m c o d p f s=>⟨sl (n:=5),λl t=>?_⟩⟩;obtain⟨s1,u⟩:=CQ (S_,[0,N]) n1;generalize db H a (.tup<|tv (S_,[0,N]))=v at *;obtain⟨s2,x⟩:=CQ (S_,[1,1]) m;generalize db v b (.tup<|tv (S_,[1,1]))=y at *;obtain⟨z,A⟩:=CQ (Q_,[0,1]) o;generalize db y c (.tup<|tv (Q_,[0,1]))=B at *;obtain⟨C,D⟩:=CQ (J_,[0,5]) p;generalize db B d (.tup<|tv (J_,[0,5]))=E at *;obtain⟨F,G⟩:=CQ (J_,[2,2]) s;generalize db E f (.tup<|tv (J_,[2,2]))=G5 at *;have g:af G5 (db G5 l<|.lst [.ref a,.ref b,.ref c,.ref d,.ref f]):=ax (af.refl _) t;have h:=F.fC g;have i:=C.fC h;have j:=z.fC i;have k:=s2.fC j;exact q l _ _ (s1.fC k) ai<|.cons (u.same k)<|.cons (x.same j)<|.cons (A.same i)<|.cons (D.same h)<|.cons (G.same g) .nil
section
variable{t:bj}{C CT PT:e_}
abbrev Jd:bT:=(Bg<|yU<|uq 4).getD 0<|yU<|uq 4
abbrev kK:bT:=(elts Jd).getD 0 Jd
@[irreducible] def zf:bT:=(elts kK).getD 0 kK
@[irreducible] def ze:bT:=(elts Jd).getD 1 Jd
def ahE:∃p n1 a b c,Bi=.List [.Tuple [.Tuple [zf] n1 a,ze] b c] p:=by
 unfold Bi zf ze;exact⟨_,_,_,_,_,xz⟩
def aiv:PE X zf (wZ<|g9 (tC<|.int 0)<|g9 (tC<|.int 1)<|g9 (tC<|.int 0)<|g9 (tC<|.int 0) oZ):=by
 unfold zf;exact cp<|aa ao<|aa ao<|aa ao<|aa ao ag
def l':TE:=λ_ H Q=>∀p H',af H H'->H' p=a_ (.tup<|dB 12<|.int 0)->Q (.ref p) H'
def aiu:PE X ze l':=by
 unfold ze;refine PE.imp (t':=l') (aG Xi (cp<|aa ao ag) ao) ?_;rintro σ H R q;refine⟨sl (n:=1),λa b=>?_⟩;have c:=ax (o:=.tup [.int 0]) (af.refl H) b;have d:db H a (.tup [.int 0]) a=a_ (.tup [.int 0]):=ai;generalize db H a (.tup [.int 0])=G3 at *;exact⟨a,12,[.int 0],xz,xz,az.of d,(λz=>by cases z),.inr qc,qc,qc,λe f=>q e _ (c.fC<|ax (af.refl _) f) ai⟩
def al3(h1:PE X zf x)(h2:PE X ze y):PE X (.List [.Tuple [.Tuple [zf] n1 q1,ze] n2 q2] p) (P7<|g9 (wZ<|g9 (wZ<|g9 x oZ)<|g9 y oZ) oZ):=
 dh (aa (cp<|aa (cp<|aa h1 ag (hs:=by unfold zf;rfl))<|aa h2 ag (hs:=by unfold ze;rfl)) ag)
def agO:PE X Bi (X9 X.K):=by
 obtain⟨p,n1,D,h,E,e⟩:=ahE;rw[e];refine PE.imp (t':=X9 X.K) (al3 aiv aiu) ?_;rintro σ H R q;refine⟨sl (n:=4),λa n1=>⟨sl (n:=1),λb h d f r s=>?_⟩⟩;have s1:=ax (o:=.tup [.int 0,.int 1,.int 0,.int 0]) (af.refl H) n1;have u:db H a (.tup [.int 0,.int 1,.int 0,.int 0]) a=a_ (.tup [.int 0,.int 1,.int 0,.int 0]):=ai;generalize db H a (.tup [.int 0,.int 1,.int 0,.int 0])=g at *;have s2:=ax (o:=.tup [.ref a]) (af.refl g) h;have v:db g b (.tup [.ref a]) b=a_ (.tup [.ref a]):=ai;generalize db g b (.tup [.ref a])=G2 at *;refine⟨sl (n:=2),λc x=>⟨sl (n:=1),λl y=>?_⟩⟩;have A:=ax (o:=.tup [.ref b,.ref d]) (af.refl f) x;have B:db f c (.tup [.ref b,.ref d]) c=a_ (.tup [.ref b,.ref d]):=ai;generalize db f c (.tup [.ref b,.ref d])=G5 at *;have i:af G5 (db G5 l<|.lst [.ref c]):=ax (af.refl _) y;have j:=A.fC i;have k:=r.fC j;have m:=s2.fC k;refine q l (.ref c) _ (s1.fC m) ai λkd N ct=>?_;have z:eU X.K (db G5 l<|.lst [.ref c]) (dB 12<|.int 0) ((dB 12 (0:Int)).map .int):=.cons (.int _)<|.cons (.int _)<|.cons (.int _)<|.cons (.int _)<|.cons (.int _)<|.cons (.int _)<|.cons (.int _)<|.cons (.int _)<|.cons (.int _)<|.cons (.int _)<|.cons (.int _)<|.cons (.int _) .nil;exact .tup (az.of<|i _ _ B)<|.cons (.tup (az.of<|k _ _ v)<|.cons (.tup (az.of<|m _ _ u)<|.cons (.int _)<|.cons (.int _)<|.cons (.int _)<|.cons (.int _) .nil) .nil)<|.cons (.tup (az.of<|j _ _ s) z) .nil
def aeN(h:oX K S0 n j H H' p)(hn:¬n<(ay S0 j).length)(c:di (ay S0 j)=[e]):∃l z,H' p=a_ (.tup [.str W_,.ref l])/\H' l=a_ (.lst [z])/\c8 K H' z e:=by
 unfold oX at h;rw[ei hn]at h;obtain⟨l,d,es,h1,_,h2,h3,h4,_⟩:=h;rw[c]at h4;rw[List.perm_singleton.mp h4]at h3;cases h3 with
 | cons a b=>cases b with
  | nil=>exact⟨l,_,h1,h2,a⟩
def adg(kd:cw)(N ct:Nat):shaped (.tuple [.str W_,.list [iT (bY kd (cP N) ct 5 0 1)]])=true:=by kernel_rfl
def adv(F:aW K "_law_counted" "_law_counted" CN f fd)(B:Bw mg)(DN:Dp P w K mg fK 11 W_ hD (Hv K PT)):aE P w K mg fK aL 12 f fd [P_] (F6 PT):=by
 refine F.ok A9 λaI A _ s H vs Q E T h=>?_
 .obtain⟨c,rfl,lam,q⟩:=h;have hu:=m7 (xZ (show 64<=65 by decide) _)<|tx T;obtain⟨p1,x,q1,q2,eB⟩:=aje;rw[eB]
  refine let a:TS:=_;let d:TS:=_;let g:TS:=_;let m:TS:=_;let t:TS:=_;let u:TS:=_;let v:TS:=_;⟨_,aw (bf (i:=1) A9.nd xz (aP xz)<|aG fQ ao<|aG cV (aG fE (pv 0) ao) ao) (pR v (aw (bf (i:=2) A9.nd xz (aP xz) (agN xz<|aP xz)<|by first | rfl | (unfold Bh;rfl))
   (pR u (aw (bf (i:=3) A9.nd xz (aP xz)<|cp<|aa (gu kR xz B.tuple i8<|aa (pv 2) ag) ag) (pR t (aw (bf (i:=4) A9.nd xz (aP xz)<|aG fQ (aG vq ao<|pv 1) ao) (pR m (aw (bf (i:=5) A9.nd xz (aP xz) agO<|by first | rfl | (unfold Bi;rfl))
   (pR g<|aw (br (bR dm (aG cV (aG fE (pv 0) ao) ao) ao<|bG _) (pR a<|aB<|aU<|wH (Dm hu) (dP DN T xz<|aa (pv 3)<|aa (aV cJ (PE.imp (t':=Io) (dh<|aa a7<|aa a7<|aa a7 ag) ?kinds)<|aG cV (pv 0) ao)<|aa (aG Dk (pv 4) ao) ag) (cp<|aa a7 ag)<|bG _) bQ)<|pR d<|aB<|aU<|wH (Dm hu) (dP DN T xz<|aa (pv 3)<|aa (aV cJ (PE.imp (t':=Io) (dh<|aa a7<|aa a7<|aa a7 ag) ?HK)<|aG cV (pv 0) ao)<|aa (aG fQ (pv 4)<|aG cV (aG fE (pv 0) ao) ao) ag) (cp<|aa a7<|aa (pv 5) ag)<|bG _))))))))),?_⟩
  case kinds=>
   rintro σ y R q;exact⟨sl (n:=3),λl U=>q l _ (ax (af.refl _) U) ai⟩
  case HK=>
   rintro σ y R q;exact⟨sl (n:=3),λl U=>q l _ (ax (af.refl _) U) ai⟩
  obtain⟨kd,hat,jq⟩:=three c;have big:(600:Int)<dH:=dk;have b1:=qa (c/48) (show (600:Int)≠0 by decide);have b2:=pV (c/48) (show (0:Int)<600 by decide);obtain⟨r,W,fb,nM⟩:∃r:Nat,(1:Int)+c/48%600=(r:Int)/\1<=r/\r<=600:=⟨((1:Int)+c/48%600).toNat,li,li,li⟩;obtain⟨N,hN⟩:∃N:Nat,(N:Int)+r=dH:=⟨(dH-r).toNat,li⟩;have xW:0<N:=li;refine⟨_,xz,_,_,xz,xz,⟨qc,qc⟩,_,_,xz,xz,(by show (0:Int)<600;decide),_,_,xz,xz,?_⟩;refine⟨r,N,by show a_ (a_<|V.int<|1+c/48%600)=_;rw[W],hN,λl us y s1 hl BU=>?_⟩;refine⟨_,xz,l,us,xz,.inl ⟨aq.of hl,λp hp=>⟨sl (n:=1),λx iX=>?_⟩⟩⟩
  have hPr:jh (db (db y p<|.tup us) x<|.tup [.ref p]) (.ref x) (cP N):=by
   have s2:af y (db y p<|.tup us):=ax (af.refl _) hp;have e2:db y p (.tup us) p=a_ (.tup us):=ai;generalize db y p (.tup us)=H2 at *;have s3:af H2 (db H2 x<|.tup [.ref p]):=ax (af.refl _) iX;exact⟨x,_,xz,ai,.cons ⟨p,us,xz,s3 _ _ e2,Paired.cq BU λ_ _ q=>q.same<|s2.fC s3⟩ .nil⟩
  have BO:af H (db (db y p<|.tup us) x<|.tup [.ref p]):=s1.fC<|(ax (af.refl _) hp).fC<|ax (af.refl _) iX;generalize db (db y p<|.tup us) x (.tup [.ref p])=H3 at *;obtain⟨cm,cs,D,cl,ce⟩:=ahH (kd:=kd) fb hN xW;have cf:=λi=>akQ (kd:=kd) (N:=N) i;have busy:∀i,i<3*r+1->jy (cS kd N i)=false:=λi hi=>XT cf<|cm i hi;have last:jy (cS kd N<|3*r+1)=true:=by rw[ce];exact(c5 _ _ _).2
  have M:ay (eC kd<|cP N) (3*r+1+1)=ay (eC kd<|cP N) (3*r+1):=by
   have e:(ay (eC kd<|cP N)<|3*r+1)[3*r+1]?=a_ (cS kd N<|3*r+1):=by rw[D _<|aD _,eX,abI<|sO _];rfl
   rw[yo e,cl];rfl
  have low:∀k,∃k',k'<=3*r+1/\ay (eC kd<|cP N) k=ay (eC kd<|cP N) k':=λk=>by
   by_cases z:k<=3*r+1
   .exact⟨k,z,xz⟩
   .refine⟨3*r+1,aD _,?_⟩;have st:=F2 (S0:=eC kd<|cP N) (k:=3*r+1+1) (by rw[M,CI D<|aD _];exact aD _)<|k-(3*r+1+1);rw[show 3*r+1+1+(k-(3*r+1+1))=k by lia,M]at st;exact st
  have Eo:∀k,∀S∈ay (eC kd<|cP N) k,mx S/\∀mv∈dE S,mx (bA S mv):=λk S hS=>by
   obtain⟨k',X,e⟩:=low k;rw[e,D k' X]at hS;obtain⟨i,hi,rfl⟩:=eR.mp hS;have su:=uU.mp hi
   by_cases z:i=3*r+1
   .exact OG cf cm cs (.inr<|by rw[z];exact cl)
   .exact OG cf cm cs (.inl li)
  have aaP:di (ay (eC kd<|cP N)<|3*r+1)=[iT (cS kd N<|3*r+1)]:=by
   rw[D _<|aD _];exact aev busy last
  have vZ:∀k,(di<|ay (eC kd<|cP N) k).length<64:=λk=>by
   obtain⟨k',X,e⟩:=low k;rw[e]
   by_cases z:k'=3*r+1
   .rw[z,aaP];exact ff (sO 1) qc
   .rw[D k' X,FV λi hi=>busy i li];exact Nat.zero_lt_succ _
  have Z1:=aiX (N:=N) (show N<10^60 by have e:((10^60:Nat):Int)=dH:=dk;lia);refine⟨_,xz,_,_,xz,xz,.inl ⟨qc,qc⟩,_,_,xz,xz,λlo vo H4 s4 BZ hvo=>?_⟩;have vQ:=BO.fC s4;have E9:=hPr.same s4;refine⟨_,xz,_,_,xz,xz,⟨qc,qc⟩,_,_,xz,xz,(by show (0:Int)<2;decide),xz,_,xz,bq (λ_=>?_) λ_=>?_⟩
  .refine au _ xz λl H5 G Y=>?_;refine⟨_,xz,_,_,xz,xz,(by show (0:Int)<3;decide),l,_,_,.str kd,xz,xz,aq.of Y,hat,?_⟩;refine⟨_,xz,_,_,xz,xz,?_⟩;refine⟨.ref x,cP N,kd,3*r+1,?_,E9.same G,Z1,jq,li,fA lam<|vQ.fC G,λk _=>Eo k,λk _ _=>vZ k,λj J p6 Z k6 l6 L=>?_⟩
   .show [V.ref x,V.str kd,V.int<|3*(1+c/48%600)+2-1]=_;rw[W,show (3:Int)*(r:Nat)+2-1=((3*r+1:Nat):Int) by lia]
   .have A6:=VH (λk hk=>CI D hk) (aD _) Z;refine⟨sl (n:=1),λO n7=>?_⟩;have I:af J (db J O<|.tup [.str aq8]):=ax (af.refl _) n7;unfold oX at L;rw[ek A6]at L;exact Gz (.tup (az.of<|I _ _ L)<|.cons (.str _) .nil) (.tup (az.of ai)<|.cons (.str _) .nil) yi<|q _
  .refine au _ xz λl H5 G Y=>?_;have b3:=qa (c/12) (show (3:Int)≠0 by decide);have b4:=pV (c/12) (show (0:Int)<3 by decide);obtain⟨n,hn⟩:∃n:Nat,c/12%3=(n:Int):=⟨(c/12%3).toNat,li⟩;refine⟨_,xz,_,_,xz,xz,(by show (0:Int)<3;decide),l,_,_,.str kd,xz,xz,aq.of Y,hat,?_⟩;refine⟨_,xz,_,xz,_,_,xz,xz,⟨qc,qc⟩,_,_,xz,xz,(by show (0:Int)<3;decide),_,_,xz,xz,?_⟩;refine⟨.ref x,cP N,kd,3*r+2+n,?_,E9.same G,Z1,jq,li,fA lam<|vQ.fC G,λk _=>Eo k,λk _ _=>vZ k,λj J p6 Z k6 l6 L=>?_⟩
   .show [V.ref x,V.str kd,V.int<|3*(1+c/48%600)+2+c/12%3]=_;rw[W,hn,show (3:Int)*(r:Nat)+2+(n:Int)=((3*r+2+n:Nat):Int) by lia]
   .have hj:=af1 (λk hk=>CI D hk) M li Z;have ew:ay (eC kd<|cP N) j=ay (eC kd<|cP N) (3*r+1):=by rw[hj,M]
    have pQ:¬3*r+2+n<(ay (eC kd<|cP N) j).length:=by rw[ew,CI D<|aD _];lia
    obtain⟨l9,z9,h1,h2,h3⟩:=aeN L pQ (by rw[ew,aaP]);rw[ce]at h3;refine vr xz ⟨sl (n:=2),λO n7=>?_⟩;have I:af J (db J O<|.tup [.str W_,.ref lo]):=ax (af.refl _) n7;have tk:TK H5 (db J O<|.tup [.str W_,.ref lo]):=λb o h e=>I _ _<|TK.xu k6 b o h e
    exact Gz (.tup (az.of<|I _ _ h1)<|.cons (.str _)<|.cons (.lst (aq.of<|I _ _ h2)<|.cons (lP (TK.of I) (oj 5 _) h3) .nil) .nil)
     (.tup (az.of ai)<|.cons (.str _)<|.cons (.lst (aq.of<|I _ _<|k6.k _ _ (λz=>z) (λps z=>by cases z)<|G _ _ BZ)<|.cons (lP tk (oj 5 _)<|lP (TK.of G) (oj 5 _)<|hvo kd N<|3*r+1) .nil) .nil) (adg kd N _) (q _)
end
noncomputable abbrev nV(n:Nat):V:=.int (n:Int)
def LY{c d:Type}{F:c->d->Prop}{l:List c}{r:List d}(h:bL F l r){x:c}(f:x∈l):∃y∈r,F x y:=by
 induction h with
 | nil=>cases f
 | @cons a b l r g _ ih=>
  obtain e|e:=a9.mp f
  .subst e;exact⟨_,cb,g⟩
  .refine aJ (ih e) λy h1 h2=>?_;exact au y (cu _ h1) h2
def xo(H:Hp)(v:V):Prop:=qp H v/\ia H v=d_
def xo.same(s:af H H')(h:xo H v):xo H' v:=⟨h.1.same s,by rw[Gd s h.1];exact h.2⟩
def adG(h:ec H v=a_ T)(n:cA H v=b_):xo H v:=
 ⟨⟨⟨T,h⟩,λxs e=>by rw[n]at e;cases e⟩,by unfold ia;rw[n]⟩
def XU(e:H p=a_ (.tup xs))(a:xs.length<=1000)(b:∀x∈xs,oU H x)(c:xs.length=0\/4<xs.length\/∃x∈xs,cA H x=b_):xo H (.ref p):=by
 refine⟨⟨⟨_,va e⟩,λys q=>by rw[i0 e]at q;cases q;exact⟨a,b⟩⟩,?_⟩;unfold ia;rw[i0 e];show ((decide (1<=xs.length)&&decide (xs.length<=4))&&xs.all λx=>(cA H x).isSome)=d_;obtain h|h|⟨x,d,h⟩:=c
 .rw[eT li,qS,qS]
 .rw[eT (show ¬xs.length<=4 by lia),Lr,qS]
 .rw[show (xs.all λx=>(cA H x).isSome)=d_ from List.all_eq_false.mpr ⟨x,d,by rw[h];exact dS⟩,Lr]
def XA(b:lB ps)(a:c<ps.length):(ps.getD c []).length<=120/\∀t∈ps.getD c [],dq (ps.getD c []).length t:=by
 have e:ps.getD c []=ps[c]:=by rw[nS,a8 a];rfl
 rw[e];exact b.part _<|Ag a
def agL(h:bL (IsPart H) aY ps)(j:c<ps.length):∃(b:e_)(us:List V),jS aY (c:Int)=a_ (.ref b)/\H b=a_ (.tup us)/\bL (gv H) us (ps.getD c []):=by
 have k:=r_ h;refine aJ (tf h<|a8 (show c<aY.length by lia)) λy d f=>?_;refine gf f λa us e ha g=>?_;have i:ps.getD c []=y:=by rw[nS,d];rfl
 rw[i];exact dG a us (eI<|by rw[a8 (show c<aY.length by omega),e]) ha g
def afO(e:x=y)(h:iO k y σ H Q):iO k x σ H Q:=by rw[e];exact h
theorem Uv{a b:Type}{F:a->b->Prop}:∀{l:List a}{m:List b}(i:Nat),bL F l m->bL F (l.take i) (m.take i)
 | _,_,0,_=>.nil
 | _,_,_+1,.nil=>.nil
 | _,_,i+1,.cons h t=>.cons h<|Uv i t
def Bo(H:Hp)(o:V)(n:Int):Prop:=Told H o/\∀p,gI H o p n=d_
def Bo.same(h:Bo H o n)(s:af H H'):Bo H' o n:=⟨h.1.same s,λp=>by rw[Ms s h.1];exact h.2 p⟩
def afs(e:H p=a_ (.tup [.str J_,.int 0,.int<|n+1])):Bo H (.ref p) n:=by
 refine⟨VZ e (by show 3<=1000;decide) λx a=>?_,λq=>?_⟩
 .simp only[a9,qQ,or_false]at a;obtain rfl|rfl|rfl:=a
  .decide +kernel
  .rfl
  .rfl
 .have b:vg H (.ref p) n=true:=by
   unfold vg;rw[i0 e];show (decide (((J_ : cw)) = J_)&&decide (n<n+1))=c_;rw[eu xz,eu li];rfl
  unfold gI;rw[b];simp
def aga{c:Nat}(d:lB ps)(D:∀p∈ps,p.length<=60)(hv:bL (IsPart H) aY ps)(k:c<ps.length)(l:bL (gv H) us (ps.getD c []))(s:Bo H o (((ps.getD c []).length:Int)+1))(g:H x=a_ (.tup<|us++[o]))(j:H z=a_ (.tup<|(aY.take c++[.ref x])++aY.drop (c+1))):qp H (.ref z)/\ia H (.ref z)=c_/\∀xs,cA H (.ref z)=a_ xs->gF H 0 xs=a_ (c,us.length):=by
 have M:aY.length=ps.length:=r_ hv;have N:us.length=(ps.getD c []).length:=r_ l;have O:=d.le;have Q:=d.ne;refine oA (XA d k) λR u=>?_
 have S:(ps.getD c []).length<=60:=by
  have e:ps.getD c []=ps[c]:=by rw[nS,a8 k];rfl
  rw[e];exact D _<|Ag k
 have v:∀t∈aY,oU H t/\(cA H t).isSome=true:=λt a=>by
  refine aJ (LY hv a) λp m n=>?_;refine gf n λb ws n q A=>?_;subst n;refine oA (d.part p m) λT E=>?_;have U:=r_ A;refine⟨⟨⟨_,va q⟩,λys e=>?_⟩,by rw[i0 q];rfl⟩;rw[i0 q]at e;cases e;refine⟨li,λy f=>?_⟩;refine aJ (LY A f) λt a r=>?_;exact r.told<|E t a
 have F:∀y∈us,Told H y:=λy f=>by
  refine aJ (LY l f) λt a r=>?_;exact r.told<|u t a
 have G:oU H (.ref x):=⟨⟨_,va g⟩,λys e=>by
  rw[i0 g]at e;cases e;refine⟨by rw[dg,KI];lia,λy f=>?_⟩;obtain h|h:=i6.mp f
  .exact F y h
  .rw[c7.mp h];exact s.1⟩
 have B:∀t∈(aY.take c++[V.ref x])++aY.drop (c+1),oU H t/\(cA H t).isSome=true:=λt a=>by
  obtain h|h:=i6.mp a
  .obtain h|h:=i6.mp h
   .exact v t (Co h)
   .rw[c7.mp h];exact⟨G,by rw[i0 g];rfl⟩
  .exact v t (List.mem_of_mem_drop h)
 have I:((aY.take c++[V.ref x])++aY.drop (c+1)).length=ps.length:=by
  rw[dg,dg,gX,FC];simp;lia
 refine gQ ⟨⟨_,va j⟩,λxs e=>?_⟩ ?_ λxs e=>?_
 .rw[i0 j]at e;cases e;exact⟨li,λt a=>(B t a).1⟩
 .unfold ia;rw[i0 j];show ((decide (1<=_)&&decide (_<=4))&&_)=c_;rw[I,eu om,eu om,qb,qb,kQ];exact λt a=>(B t a).2
 .rw[i0 j]at e;cases e;have C:(aY.take c).length=c:=by rw[gX];lia
  have J:dZ H (.ref x)=us++[o]:=by unfold dZ;rw[i0 g];rfl
  refine Uh (i:=c) (x:=.ref x) ?_ ?_ ?_
  .rw[Cj (by rw[dg,C];simp),Cf li,C];simp
  .rw[ab0,abd li,jd om];exact Lv (Uv c hv) λp m=>d.part p<|Co m
  .rw[J]
   have L:((us++[o]).length:Int)=((ps.getD c []).length:Int)+1:=by
    rw[dg,KI];lia
   rw[L];refine VS (i:=us.length) (x:=o) ?_ ?_<|s.2 _
   .rw[Cf<|aD _,LI];rfl
   .rw[List.take_left];have:=L7 (H:=H) (sz:=(ps.getD c []).length+1) (c:=0) l (λt a=>(u t a).mono li) li;exact this
def Jv(H:Hp)(v:V):Prop:=∃T,ec H v=a_ T
def Q5(H:Hp)(v:V):Prop:=Jv H v/\¬Ia v
def kT(R:Hp->V->Prop)(n:Nat):TE:=λσ H Q=>∀(l:e_)(vs:List V)(H':Hp),af H H'->H' l=a_ (.lst vs)->vs.length=n->(∀v∈vs,R H' v)->Q (.ref l) H'
def OA(x:cw)(H:Hp):Jv H (.str x):=⟨_,xz⟩
def aiQ(H:Hp):Jv H .aH:=⟨_,xz⟩
def OM{x:cw}(h:¬(x = ap9\/x = H_\/x = ap4))(H:Hp):Q5 H (.str x):=⟨⟨_,xz⟩,λz=>by
 rcases z with e | e | e <;> injection e with e
 .exact h (.inl e)
 .exact h (.inr<|.inl e)
 .exact h (.inr (.inr e))⟩
def ajf(H:Hp):Q5 H .aH:=⟨⟨_,xz⟩,λz=>by rcases z with e | e | e <;> cases e⟩
def aku{r:V->Option Int->Option Int->Hp->VK->Prop}{lo:Option Int}(h:r x lo b_ H Q):WW σ H λu a=>r x lo u a Q:=h
def adf(a b:Int):shaped (.list [.int a,.int b])=true:=by kernel_rfl
def Ur(x:cw)(h:yg x=c_):shaped (.list [.str x])=true:=by
 unfold shaped;simp[wy,pX,Ap,sR,h]
abbrev nmR:List cw:=[an3,P_,ac1,"_law_part","_law_bad",aq0]
def DH:bc nmR jr (aR Qc):=bx
def Zh:Sp:=λvs H Q _=>∃(v:V)(c:Int)(ps:List Pt),vs=[v,.int c]/\jh H v ps/\lB ps/\(∀p∈ps,p.length<=60)/\∀H',af H H'->Q (.bl c_) H'
def ahZ:TE:=λσ H Q=>(∃a b,σ[0]?=a_ (a_<|.ref a)/\H a=a_ (.tup b)/\0<b.length/\b.length<=4/\∀t∈b,oU H t)/\∀(l:e_)(vs:List V)(H':Hp),af H H'->H' l=a_ (.lst vs)->vs.length=3->(∀v∈vs,xo H' v)->Q (.ref l) H'
def aj6:TE:=λσ H Q=>∃(a d:e_)(b us:List V)(c:Nat)(e f g:Option V),σ=[a_ (.ref a),e,a_<|nV c,a_<|.ref d,f,g]/\H a=a_ (.tup b)/\H d=a_ (.tup us)/\b.length<=4/\us.length<=120/\
 ∀(z x o:e_)(H':Hp),af H H'->H' o=a_ (.tup [.str J_,.int 0,.int<|(us.length:Int)+2])->H' x=a_ (.tup<|us++[.ref o])->H' z=a_ (.tup<|(b.take c++[.ref x])++b.drop (c+1))->Q (.ref z) H'
def aiC(F:aW K "_law_refused" "_law_refused" Qc f fd)(M:mg "len"=b_)(DW:Dp P w K mg fK 12 "_law_word" ["_law_thing",aq0] Yd):aE P w K mg fK aL 13 f fd jr Zh:=by
 refine F.ok DH λaI A _ s H vs Q E X h=>?_
 .obtain⟨v,cl,ps,rfl,PU,L,Fg,k⟩:=h;have hu:=m7 (xZ (show 64<=65 by decide) _)<|tx X;obtain⟨a,u,rfl,ha,hv⟩:=id PU;have dA:u.length=ps.length:=r_ hv;have hle:=L.le;have jo:=L.ne;obtain⟨cn,hcn,ecn⟩:=ahf cl (show 0<u.length by lia);refine let b:TS:=_;let g:TS:=_;let j:TS:=_;let m:TS:=_;let r:TS:=_;⟨_,aw (bf (i:=2) DH.nd xz (aP xz)<|aG cV (pv 1)<|b9 gm xz M q_<|aa (pv 0) ag)<|pR r<|aw (bf (i:=3) DH.nd xz (aP xz)<|aV dO (pv 0)<|pv 2)<|pR m<|aw (bf (i:=4) DH.nd xz (aP xz)<|PE.imp (t':=aj6) (aG (NF K) (aG (NF K) (CO W5 (pv 0) C4<|C3<|pv 2)<|cp<|aa (aG (NF K) (pv 3)<|cp<|aa (cp<|aa a7<|aa ao<|aa (aG fQ (b9 gm xz M q_<|aa (pv 3) ag) ao) ag) ag) ag)<|CO W5 (pv 0) (C3<|aG fQ (pv 2) ao) C4) ?bad)<|pR j<|aw (bf (i:=5) DH.nd xz (aP xz)<|aV cJ (PE.imp (t':=kT Jv 4) (dh<|aa a7<|aa a7<|aa qi<|aa a7 ag) ?kn)<|aG cV (aG fE (pv 1) ao) ao)<|pR g<|aw (br (bR (Ol hu) (dP DW X xz<|aa (pv 4)<|aa (pv 5) ag) (dh<|aa (pv 2)<|aa (b9 gm xz M q_<|aa (pv 3) ag) ag)<|bG _) (aB<|aU lj) bQ)<|pR b<|aw (br (bR (Ol hu) (dP DW X xz<|aa (aV cJ (PE.imp (t':=ahZ) (dh<|aa (cp ag)<|aa (aG Xi (pv 0) ao)<|aa qi ag) ?aH)<|aG cV (aG fE (pv 1) ao) ao)<|aa (pv 5) ag) (dh<|aa a7 ag)<|bG _) (aB<|aU lj) bQ)<|aB<|aU<|wH (Dm hu) (dP DW X xz<|aa (pv 0)<|aa (aV cJ (PE.imp (t':=kT Q5 4) (dh<|aa a7<|aa a7<|aa qi<|aa a7 ag) ?bk)<|aG cV (aG fE (pv 1) ao) ao) ag) (dh<|aa a7 ag)<|bG _,?_⟩
  case kn=>
   rintro σ B R q;refine⟨sl (n:=4),λl N=>q l _ _ (ax (af.refl _) N) ai xz λv hv=>?_⟩;simp only[a9,qQ,or_false]at hv;obtain rfl|rfl|rfl|rfl:=hv
   .exact OA _ _
   .exact OA _ _
   .exact aiQ _
   .exact OA _ _
  case bk=>
   rintro σ B R q;refine⟨sl (n:=4),λl N=>q l _ _ (ax (af.refl _) N) ai xz λv hv=>?_⟩;simp only[a9,qQ,or_false]at hv;obtain rfl|rfl|rfl|rfl:=hv
   .exact OM dk _
   .exact OM dk _
   .exact ajf _
   .exact OM dk _
  case bad=>
   rintro σ B R ⟨a,Y,u,us,c,x1,x4,x5,rfl,ha,O,dA,xQ,q⟩;refine vr xz<|au _ xz<|au (c:Int) xz (Yl ha λS U s2 Z=>?_);rw[aja]at Z;have l1:(u.take c).length<=u.length:=by rw[gX];lia
   have l4:(u.drop<|c+1).length<=u.length:=by rw[FC];lia
   refine au _ xz<|vr xz ⟨Y,us,xz,.inr<|az.of<|s2 _ _ O,_,_,xz,xz,sl (n:=3),λo no=>⟨sl (n:=1),λp4 n4=>?_⟩⟩;have C:=ax (o:=.tup [.str J_,.int 0,.int<|(us.length:Int)+2]) (af.refl U) no;have e3:db U o (.tup [.str J_,.int 0,.int<|(us.length:Int)+2]) o=a_ (.tup [.str J_,.int 0,.int<|(us.length:Int)+2]):=ai;generalize db U o (.tup [.str J_,.int 0,.int<|(us.length:Int)+2])=H3 at C e3 n4 ⊢;have G:=ax (o:=.tup [.ref o]) (af.refl H3) n4;have e4:db H3 p4 (.tup [.ref o]) p4=a_ (.tup [.ref o]):=ai;generalize db H3 p4 (.tup [.ref o])=H4 at G e4;refine NL (G _ _<|C _ _<|s2 _ _ O) e4 (by show _+1<=1000;lia) λW H5 I e5=>⟨sl (n:=1),λp8 n8=>?_⟩;have D:=ax (o:=.tup [.ref W]) (af.refl H5) n8;have e8:db H5 p8 (.tup [.ref W]) p8=a_ (.tup [.ref W]):=ai;generalize db H5 p8 (.tup [.ref W])=H8 at D e8;have sB:=(C.fC G).fC<|I.fC D;refine NL (sB _ _ Z) e8 (by show _+1<=1000;lia) λp9 H9 s9 e9=>?_;have sC:=s2.fC<|sB.fC s9;refine vr xz<|au _ xz ⟨_,⟨_,xz,xz,((c+1:Nat):Int),xz,aku<|Yl (sC _ _ ha) λpA HA Q9 eA=>?_⟩⟩;rw[af8]at eA;refine NL (Q9 _ _ e9) eA (by rw[dg,KI];lia) λpB HB sB' eB=>?_;have sD:=s9.fC<|Q9.fC sB';exact q pB W o HB (sC.fC<|Q9.fC sB') ((G.fC<|(I.fC D).fC sD) _ _ e3) ((D.fC sD) _ _ e5) eB
  case aH=>
   rintro σ B R ⟨⟨a,u,h0,ha,h1,h4,BW⟩,q⟩;have ne:u≠[]:=λz=>by rw[z]at h1;simp at h1
   refine⟨qc,λS n1=>?_⟩;have s1:=ax (o:=.tup []) (af.refl B) n1;have b1:xo (db B S<|.tup []) (.ref S):=XU ai qc (λ_ z=>by cases z)<|.inl xz;generalize db B S (.tup [])=G1 at s1 b1;refine⟨_,⟨h0,a,5,u,xz,xz,az.of<|s1 _ _ ha,ne,.inr qc,qc,cI<|cU (by show u.length*5<=1000;lia),λp3 n3=>?_⟩⟩;have C:=ax (o:=.tup (dB (5:Int).toNat u).flatten) (af.refl G1) n3;have hlen:(dB (5:Int).toNat u).flatten.length=5*u.length:=by rw[len_rep];rfl
   have b3:xo (db G1 p3<|.tup (dB (5:Int).toNat u).flatten) (.ref p3):=XU ai (by rw[hlen];lia) (λx eZ=>by
    obtain⟨l,nO,nN⟩:=List.mem_flatten.mp eZ;rw[abq nO]at nN;exact oU.same (s1.fC C)<|BW x nN)<|.inr<|.inl (by rw[hlen];lia)
   generalize db G1 p3 (.tup (dB (5:Int).toNat u).flatten)=G2 at C b3;have BO:=s1.fC C;refine⟨sl (n:=3),λl N=>?_⟩;have sL:=ax (o:=.lst [.ref S,.ref p3,.aH]) (af.refl G2) N;refine q l _ _ (BO.fC sL) ai xz λv hv=>?_;simp only[a9,qQ,or_false]at hv;obtain rfl|rfl|rfl:=hv
   .exact(b1.same C).same sL
   .exact b3.same sL
   .exact adG (T:="NoneType") xz xz
  obtain⟨Y,us,hat,O,hu'⟩:=agL hv (show cn<ps.length by lia);have xQ:us.length=(ps.getD cn []).length:=r_ hu';obtain⟨g1,g2⟩:=XA L (show cn<ps.length by lia);obtain⟨Fb,hM2,hF2⟩:=Ml PU L;have BW:∀t∈u,oU H t:=(Fb.2 u<|i0 ha).2;refine⟨_,xz,_,xz,a,u,xz,.inr<|az.of ha,_,_,xz,xz,(by show (0:Int)<u.length;lia),afO (y:=nV cn) (by show V.int (cl%(u.length:Int))=_;rw[ecn]) ?_⟩;refine au _ xz<|vr xz<|rT (az.of ha) hat ?_;refine⟨a,Y,u,us,cn,_,_,_,xz,ha,O,li,li,λz x o B s1 ho hx hz=>?_⟩;refine λlk vk U s2 hlk hvk RS=>?_;obtain⟨kv,ano,hmk⟩:=AU (xs:=vk) (d:=cl/4) (n:=4) hvk qc;obtain⟨TK,hTK⟩:=RS kv hmk;have xJ:=s1.fC s2;refine⟨_,xz,_,_,xz,xz,⟨qc,qc⟩,_,_,xz,xz,(by show (0:Int)<4;decide),lk,_,_,kv,xz,xz,aq.of hlk,ano,?_⟩;have ET:Bo B (.ref o) (((ps.getD cn []).length:Int)+1):=afs (by rw[ho,xQ];congr 5);obtain⟨c1,c2,c3⟩:=aga (H:=U) L Fg (Paired.cq hv λ_ _ q=>q.same xJ) (show cn<ps.length by lia) (Paired.cq hu' λ_ _ q=>q.same xJ) (ET.same s2) (s2 _ _ hx)<|s2 _ _ hz;refine au _ xz<|vr xz ⟨.ref z,kv,TK,xz,c1,hTK,(λe=>by rw[c2]at e;cases e),(λ_ xs mU=>⟨λc p J q H4 G hq=>?_,λe=>by rw[c3 xs mU]at e;cases e⟩)⟩;rw[c3 xs mU]at J;injection J with J
  injection J with e1 Z
  subst e1;subst Z;have vQ:=xJ.fC G;refine au _ xz<|vr xz ⟨Y,us,xz,.inr<|az.of<|vQ _ _ O,sl (n:=2),(λl5 n5=>?_)⟩;have I:=ax (o:=.lst [nV cn,nV us.length]) (af.refl H4) n5;have hq5:=I _ _ hq;have h5:db H4 l5 (.lst [nV cn,nV us.length]) l5=a_ (.lst [nV cn,nV us.length]):=ai;generalize db H4 l5 (.lst [nV cn,nV us.length])=H5 at I hq5 h5 ⊢;refine MY (d:=.list [.int (cn:Int),.int (us.length:Int)]) (.lst (aq.of hq5)<|.cons (.int _)<|.cons (.int _) .nil) (.lst (aq.of h5)<|.cons (.int _)<|.cons (.int _) .nil) (adf _ _)<|au _ xz<|fq ?_;have Rc:=vQ.fC I;refine⟨⟨a,u,xz,Rc _ _ ha,li,li,λt ht=>oU.same Rc<|BW t ht⟩,λln vs5 H6 s6 M hl5 anl=>?_⟩;obtain⟨v,anm,mV⟩:=AU (xs:=vs5) (d:=cl/16) (n:=3) hl5 qc;have hb:=anl v mV;refine⟨_,xz,_,_,xz,xz,⟨qc,qc⟩,_,_,xz,xz,(by show (0:Int)<3;decide),ln,_,_,v,xz,xz,aq.of M,anm,?_⟩;have s06:=Rc.fC s6;refine vr xz ⟨v,kv,TK,xz,hb.1,sY (G.fC<|I.fC s6) hTK,(λ_ q7 H7 s7 hq7=>⟨sl (n:=1),λl8 n8=>?_⟩),(λz=>by rw[hb.2]at z;cases z)⟩;have D:=ax (o:=.lst [.str "clerks"]) (af.refl H7) n8;refine MY (d:=.list [.str "clerks"]) (.lst (aq.of<|D _ _ hq7)<|.cons (.str _) .nil) (.lst (aq.of ai)<|.cons (.str _) .nil) (Ur _ dk)<|au _ xz<|fq ?_;generalize db H7 l8 (.lst [.str "clerks"])=H8 at D ⊢;have s08:=s06.fC<|s7.fC D;refine au _ xz λl9 v9 H9 s9 EY hv9 hbk=>?_;obtain⟨kb,anp,hmb⟩:=AU (xs:=v9) (d:=cl/4) (n:=4) hv9 qc;obtain⟨⟨TB,hTB⟩,hnk⟩:=hbk kb hmb;have s09:=s08.fC s9;obtain⟨d1,d2,d3⟩:=Ml (PU.same s09) L;refine⟨_,xz,_,_,xz,xz,⟨qc,qc⟩,_,_,xz,xz,(by show (0:Int)<4;decide),l9,_,_,kb,xz,xz,aq.of EY,anp,?_⟩;refine⟨.ref a,kb,TB,xz,d1,hTB,(λe=>by rw[d2]at e;cases e),(λ_ xs mU=>⟨λc p J=>(by rw[d3 xs mU]at J;cases J),λ_=>⟨hnk,λq H10 s10 hq=>⟨sl (n:=1),λl11 JQ=>?_⟩⟩⟩)⟩;have s11:=ax (o:=.lst [.str T_]) (af.refl H10) JQ;exact Gz (d:=.list [.str T_]) (.lst (aq.of<|s11 _ _ hq)<|.cons (.str _) .nil) (.lst (aq.of ai)<|.cons (.str _) .nil) (Ur _ dk)<|k _<|s09.fC<|s10.fC s11
def YT(g:lB ps)(hn:n<=31):(∀k,k<=n->∀S∈ay (eC kd ps) k,mx S/\∀mv∈dE S,mx<|bA S mv)/\∀k,k<=n->(ay (eC kd ps) k).length<=n->(di<|ay (eC kd ps) k).length<64:=by
 refine⟨λk a S b=>?_,λk a h=>?_⟩
 .have f:=AB g (kd:=kd) (k:=k) li S b;exact⟨C8 f li,λmv c=>C8 (f.mv li c) li⟩
 .have h2:(di<|ay (eC kd ps) k).length<=(ay (eC kd ps) k).length:=by
   unfold di;rw[aS];exact uP _ _
  lia
def VI(b:(ay S0 k).length=k)(hn:k<=n)(a:tQ S0 n j):j=k:=by
 have h1:k<=j:=oF λz=>a.2 ⟨oF λy=>by
  have:=F2 (S0:=S0) (k:=j) li<|k-j;rw[show j+(k-j)=k by lia]at this;rw[this]at b;lia,by have:=GV S0 (show j<=k by lia);lia⟩
 refine oF λz=>?_;have:=(a.1 k li).1;lia
def My(b:n<(ay S0 k).length)(a:tQ S0 n j):n<(ay S0 j).length:=by
 refine oF λz=>?_;have h1:(ay S0 j).length<=j:=oF λy=>a.2 ⟨li,li⟩
 by_cases c:j<=k
 .have:=F2 h1<|k-j;rw[show j+(k-j)=k by lia]at this;rw[this]at b;lia
 .have:=(a.1 k li).2;lia
theorem X0:∀{es:List ci},(∀e∈es,b8 8 e=c_)->pX es=c_/\sR es<=9
 | [],_=>⟨xz,bJ _⟩
 | e::es,h=>by
  obtain⟨a,b⟩:=DJ<|h e cb;obtain⟨c,d⟩:=X0 λx f=>h x<|cu _ f;rw[pX,sR,a,c];exact⟨xz,Nat.max_le.mpr ⟨b,d⟩⟩
def acW(h:∀e∈es,b8 8 e=c_):shaped (.tuple [.str W_,.list es])=true:=by
 obtain⟨a,b⟩:=X0 h;have c:yg W_ = true:=dk;unfold shaped;simp[wy,pX,Ap,sR,c,a];lia
def xcd{o:Option ClassData}(h:o.any (λcd=>tH cd.mro&&cd.hasDict)=c_):∃cd,o=a_ cd/\tH cd.mro=c_/\cd.hasDict=true:=by
 cases o with
 | none=>cases h
 | some cd=>
  have z:(tH cd.mro&&cd.hasDict)=true:=h;rw[fY]at z;exact dD cd xz z.1 z.2
section
variable{t:bj}{C CT PT:e_}
def Gq{a:e_}{xs:List V}{H H':Hp}(k:aA eD H H')(h:aq K H a xs):aq K H' a xs:=by
 obtain (h|⟨o,h⟩)|h:=h
 .exact .inl (.inl<|k.k _ _ (λz=>z) (λps z=>by cases z) h)
 .exact .inl (.inr ⟨o,k.k _ _ (λz=>z) (λps z=>by cases z) h⟩)
 .exact .inr h
def Ik(S0:Mc)(k:Nat):Option (List ci)->Prop
 | some es=>(ay S0 k).length=k/\es.Perm (di<|ay S0 k)/\es.Pairwise λa b=>lX a b=c_
 | none=>k=30/\∃i,30<(ay S0 i).length
def zr(K:u_)(H:Hp)(v:V):Option (List ci)->Prop
 | some es=>∃l a,v=.ref l/\H l=a_ (.lst a)/\eU K H a es/\∀e∈es,b8 8 e=c_
 | none=>v=.aH
noncomputable def xg(k n:Nat):Option (List ci)->ci
 | some es=>if k<=n then .tuple [.str "ends",.list es] else .tuple [.str "more"]
 | none=>.tuple [.str "more"]
def zr.keep{H H':Hp}{v:V}{o:Option (List ci)}(k:aA eD H H')(h:zr K H v o):zr K H' v o:=by
 cases o with
 | none=>exact h
 | some es=>
  obtain⟨l,a,e,h1,h2,h3⟩:=h;exact⟨l,a,e,k.k _ _ (λz=>z) (λps z=>by cases z) h1,jK (TK.xu k) h3 h2,h3⟩
mutual
theorem ld{H H':Hp}(s:af H H'):∀{v:V}{d:ci},c8 K H v d->c8 K H' v d
 | _,_,.aH=>.aH
 | _,_,.bl b=>.bl b
 | _,_,.int i=>.int i
 | _,_,.str x=>.str x
 | _,_,.lst h r=>.lst (Gq (aA.of s) h)<|kw s r
 | _,_,.tup h r=>.tup (Yc (TK.of s) h)<|kw s r
theorem kw{H H':Hp}(s:af H H'):∀{v:List V}{d:List ci},eU K H v d->eU K H' v d
 | _,_,.nil=>.nil
 | _,_,.cons a b=>.cons (ld s a)<|kw s b
end
def YZ{S0:Mc}{k:Nat}{es:List ci}(p:es.Perm (di<|ay S0 k)):∀e∈es,b8 8 e=true:=λe a=>by
 obtain⟨S,_,rfl⟩:=eR.mp<|p.mem_iff.mp a;exact oj 5 S
def adF{S0:Mc}{H:Hp}{p:e_}(h:ZV K S0 H p):∃(k:Nat)(ov:V)(o:Option (List ci)),H p=a_ (.tup [.int k,ov])/\1<=k/\k<=30/\Ik S0 k o/\zr K H ov o:=by
 obtain⟨k,l,b,es,h1,h2,h3,h4,h5,a,c⟩|⟨k,h1,h2,h3,h4⟩:=h
 .exact⟨k,.ref l,a_ es,h3,by have:=aeJ S0 k;lia,h2,⟨h1,a,c⟩,l,b,xz,h4,h5,YZ a⟩
 .exact⟨30,.aH,b_,h4,qc,qc,⟨xz,k+1,h3⟩,xz⟩
def V0{S0:Mc}{k n j:Nat}{o:Option (List ci)}{H H':Hp}{p:e_}(g:Ik S0 k o)(hn:o=b_->n<=30)(a:tQ S0 n j)(h:oX K S0 n j H H' p):c8 K H' (.ref p) (xg k n o)/\shaped (xg k n o)=true:=by
 have b:n<(ay S0 j).length->c8 K H' (.ref p) (.tuple [.str aq8]):=λhm=>adR h hm;cases o with
 | none=>
  obtain⟨_,i,hi⟩:=g;exact⟨b<|My (k:=i) (by have:=hn rfl;lia) a,yi⟩
 | some es=>
  obtain⟨d,c,e⟩:=g
  by_cases z:k<=n
  .rw[show xg k n (a_ es)=.tuple [.str W_,.list es] from ek z];have f:=VI d z a;subst f;unfold oX at h;rw[ei li]at h;obtain⟨l,m,q,h1,_,h2,h3,h4,h5⟩:=h;rw[Us (h4.fC c.fF) h5 e]at h3;exact⟨.tup (az.of h1)<|.cons (.str _)<|.cons (.lst (aq.of h2) h3) .nil,acW<|YZ c⟩
  .rw[show xg k n (a_ es)=.tuple [.str aq8] from ei z];exact⟨b<|My (k:=k) li a,yi⟩
def orY{σ:L2.St}{H:Hp}{Q:Bool->Hp->Prop}{ov:V}{n:Nat}(a:σ[6]?=a_ (a_ ov))(b:σ[8]?=a_ (a_<|.int (n:Nat)))(h:ov≠.aH\/n<=30)(q:Q c_ H):QQ (tB<|OY<|nD 6) (tB<|QR (nD 8)<|tC<|.int 30) σ H Q:=by
 refine vr a ⟨_,xz,wU (λ_=>q) λz=>⟨_,b,_,_,xz,xz,_,xz,?_⟩⟩;show Q (decide<|(n:Int)<=30) H;rw[eu (show (n:Int)<=30 by obtain h|h:=h;exact eo z h;lia)];exact q
def orN{σ:L2.St}{H:Hp}{Q:Bool->Hp->Prop}{n:Nat}(a:σ[6]?=a_ (a_ .aH))(b:σ[8]?=a_ (a_<|.int (n:Nat)))(h:30<n)(q:Q d_ H):QQ (tB<|OY<|nD 6) (tB<|QR (nD 8)<|tC<|.int 30) σ H Q:=by
 refine vr a ⟨_,xz,wU (λz=>eo xz z) λz=>⟨_,b,_,_,xz,xz,_,xz,?_⟩⟩;show Q (decide<|(n:Int)<=30) H;rw[eT (show ¬(n:Int)<=30 by lia)];exact q
def Zj(K:u_)(PT:e_):Sp:=λvs H Q _=>∃(a:e_)(ns:List Int),vs=[.ref a]/\aq K H a (ns.map V.int)/\ns.length<=63/\(∀n∈ns,Bt n)/\cx PT LP LQ H/\∀H',Q (.bl c_) H'
abbrev QV:List cw:=["_law_script",ap5,aq2,an3,aq0,"_law_count","_law_over","_law_drawn","_law_most","_law_due","_law_got"]
def qm:bc QV ["_law_script"] (aR rJ):=bx
abbrev ad(i:Nat):bM:=(fj rJ).getD i<|.Pass ⟨0,0,0,0⟩
def ahK{ns:List Int}(h:∀n∈ns,Bt n)(k:Int):Bt (kc ns k):=by
 unfold kc;rw[nS];cases e:ns[k.toNat]? with
 | none=>show Bt 0;unfold Bt;decide
 | some x=>exact h x<|cH e
def CF{v:V}{ps:List Pt}{H H':Hp}(k:aA eD H H')(h:jh H v ps):jh H' v ps:=h.keep λb xs e=>k.k _ _ (λz=>z) (λps z=>by cases z) e
def aiB{f:e_}{fd:ir}(F:aW K "law" "law" rJ f fd)(jF:mg "len"=b_)(hmx:mg "max"=b_)(X:Dp P w K mg fK 1 "_law_cell_at" ii (Yk K))(DCt:Dp P w K mg fK 12 "_law_counted" [P_] (F6 PT))(DOn:Dp P w K mg fK 12 "_law_on_and_on" [P_] (F6 PT))(DPg:Dp P w K mg fK 3 "_law_program" ki Z8)(DR:Dp P w K mg fK 13 "_law_refused" jr Zh)(DG:Dp P w K mg fK 10 ap2 js (Yh K PT))(DN:Dp P w K mg fK 11 W_ hD (Hv K PT)):aE P w K mg fK aL 14 f fd ["_law_script"] (Zj K PT):=by
 refine F.ok qm λaI A outer s H vs Q E hr h=>?_
 .obtain⟨a,ns,rfl,Y,ma,E6,lam,q⟩:=h;have hu:=m7 (xZ (show 64<=65 by decide) _)<|tx hr;have Z:=hr.mono (show 1<=13 by decide);have qL:=hr.mono (show 3<=13 by decide);have amZ:=hr.mono (show 10<=13 by decide);have Qw:=hr.mono (show 11<=13 by decide);have aaL:=hr.mono (show 12<=13 by decide)
  obtain⟨tC,pC,uC⟩:∃tC,dM (gK aL P w K mg fK QV "law" (aR rJ) f aI A outer s H E).lH ((fBody<|ad 9).drop 2) tC/\∀(D:Ends)(σ:L2.St)(T:Hp)(v ov du:V)(ps:List Pt)(kd:cw)(k n:Nat)(o:Option (List ci))(z1 z2 z7 iB:Option V),σ=[a_ (.ref a),z1,z2,a_ v,a_<|.str kd,a_<|.int (k:Nat),a_ ov,z7,a_<|.int (n:Nat),a_ du,iB]->jh T v ps->lB ps->kindS kd->cx PT LP LQ T->n<=31->zr K T ov o->Ik (eC kd ps) k o->
    (∀S,aA eD T S->zr K S ov o->(o=b_->n<=30)->c8 K S du (xg k n o))->(∀S,aA eD T S->cx PT LP LQ S->D.nx σ S)->tC D σ T:=by
   refine⟨_,aB<|br (PW.pt<|pw_and (PW.pt<|pw_or (AO<|Xh<|pv 6)<|pw_or1<|AO<|akg (pv 8) ao)<|pw_and1<|bR (Ol hu) (dP DN Qw xz<|aa (pv 3)<|aa (pv 4)<|aa (pv 8) ag) (pv 9)<|bG _) (aB<|aU lj) bQ,?_⟩;rintro D σ T v ov du ps kd k n o z1 z2 z7 iB rfl hP U hk rP hn iD uI hdu nx
   by_cases hz:o=b_->n<=30
   .refine orY xz xz (by cases o with | none=>exact .inr (hz rfl) | some es=>(obtain⟨l,zs,e,_⟩:=iD;exact .inl<|by rw[e];intro z;cases z)) (iQ ?_);obtain⟨f1,f2⟩:=YT U (kd:=kd) hn;refine au _ xz<|vr xz<|vr xz ⟨v,ps,kd,n,xz,hP,U,hk,li,rP,f1,f2,λj S p he k2 l2 ht=>?_⟩;obtain⟨d1,sh⟩:=V0 uI hz he ht;exact vr xz<|MY d1 (hdu S k2 (iD.keep k2) hz) sh<|au _ xz<|fq<|nx S k2 l2
   .have ho:o=none:=oF λz=>hz λy=>eo y z;subst ho;have hv:ov=.aH:=iD;subst hv;exact orN xz xz (oF λz=>hz λ_=>li)<|fq<|fq<|nx T (aA.refl _) rP
  obtain⟨tE,pE,uE⟩:∃tE,dM (gK aL P w K mg fK QV "law" (aR rJ) f aI A outer s H E).lH ((fj rJ).drop 10) tE/\∀(D:Ends)(σ:L2.St)(T:Hp)(v ov:V)(ps:List Pt)(kd:cw)(k:Nat)(o:Option (List ci))(z1 z2 z7 z8 z9 iB:Option V),σ=[a_ (.ref a),z1,z2,a_ v,a_<|.str kd,a_<|.int (k:Nat),a_ ov,z7,z8,z9,iB]->jh T v ps->lB ps->kindS kd->cx PT LP LQ T->k<=30->zr K T ov o->Ik (eC kd ps) k o->(∀S,D.rt (.bl c_) S)->tE D σ T:=by
   refine let c:TS:=_;let d:TS:=_;⟨_,aw (bf (i:=10) qm.nd xz (aP xz)<|dP DN Qw xz<|aa (pv 3)<|aa (pv 4)<|aa (pv 5) ag)<|pR d<|aw (br (bR wN (b9 gm xz jF q_<|aa (pv 10) ag) ao<|bG _) (aB<|aU<|aiw<|aix<|pv 6) bQ)<|pR c<|aw (dY<|lh m_ n_ o_ nh (aV dO (pv 10) ao)<|aa ao ag)<|aB<|aU<|wH (Dm hu) (dP DN Qw xz<|aa (pv 3)<|aa (pv 4)<|aa (pv 5) ag) (cp<|aa a7<|aa (pv 6) ag)<|bG _,?_⟩;rintro D σ T v ov ps kd k o z1 z2 z7 z8 z9 iB rfl hP U hk rP IS iD uI fin;obtain⟨f1,f2⟩:=YT U (kd:=kd) (show k<=31 by lia);refine au _ xz<|vr xz<|vr xz ⟨v,ps,kd,k,xz,hP,U,hk,li,rP,f1,f2,λj S p he k2 l2 ht=>?_⟩;cases o with
   | none=>
    obtain⟨_,i,hi⟩:=uI;have hv:ov=.aH:=iD;subst hv;unfold oX at ht;rw[ek<|My (k:=i) li he]at ht;exact vr xz<|dG p _ xz (.inr<|az.of ht) ⟨_,_,xz,xz,_,xz,bq (λ_=>vr xz<|fin S) λz=>eo (show (1:Int)<2 by decide) z⟩
   | some es=>
    obtain⟨g1,g2,g3⟩:=id uI;obtain⟨l0,zs0,rfl,a1,a2,a3⟩:=iD;have hj:=VI g1 (aD _) he;unfold oX at ht;rw[ei (by rw[hj];lia)]at ht;obtain⟨l,zs,Cb,h1,Kg,h2,h3,h4,_⟩:=ht;refine vr xz<|dG p _ xz (.inr<|az.of h1) ⟨_,_,xz,xz,_,xz,bq (λz=>eo z (show ¬(2:Int)<2 by decide)) λ_=>?_⟩;have nl:l≠l0:=λz=>by rw[z,a1]at Kg;cases Kg
    have tk3:TK S (db S l<|.lst<|zs++[.int 7]):=X8 h2 (by rintro(⟨_,z⟩ | ⟨_,_,z⟩) <;> cases z);have amu:cx PT LP LQ (db S l<|.lst<|zs++[.int 7]):=AR l2 h2<|.inl ⟨_,xz⟩;have hP3:jh (db S l<|.lst<|zs++[.int 7]) v ps:=(CF k2 hP).keep λb xs e=>tk3 b _ (.inl ⟨_,xz⟩) e
    have b1:db S l (.lst<|zs++[.int 7]) l0=a_ (.lst zs0):=by
     rw[ah nl.fF];exact k2.k _ _ (λz=>z) (λps z=>by cases z) a1
    have b2:=jK tk3 a3<|jK (TK.xu k2) a3 a2;refine au _ xz ?_;refine rT (v:=.ref l) (az.of h1) xz ?_
    have hzl:zs.length<=1000:=by
     have e1:=r_<|Gf h3;have e2:=h4.length_eq
     have e3:(di<|ay (eC kd ps) j).length<=(ay (eC kd ps) j).length:=by
      unfold di;rw[aS];exact uP _ _
     rw[hj]at e3 e2;lia
    refine⟨.inl ⟨xz,_,aq.of h2⟩,l,zs,.int 7,xz,xz,h2,cU hzl,?_⟩;generalize db S l (.lst<|zs++[.int 7])=H3 at *;refine au _ xz<|vr xz<|vr xz ⟨v,ps,kd,k,xz,hP3,U,hk,li,amu,f1,f2,λj' H4 p' zS k4 l4 ht'=>?_⟩;obtain⟨d1,sh⟩:=V0 uI (λz=>by cases z) zS ht';refine vr xz ⟨sl (n:=2),λp7 n7=>?_⟩;have s7:af H4 (db H4 p7<|.tup [.str W_,.ref l0]):=ax (af.refl _) n7;rw[show xg k k (a_ es)=.tuple [.str W_,.list es] from ek<|aD _]at d1 sh;exact Gz (ld s7 d1) (.tup (az.of ai)<|.cons (.str _)<|.cons (.lst (aq.of<|s7 _ _<|k4.k _ _ (λz=>z) (λps z=>by cases z) b1)<|jK (TK.of s7) a3<|jK (TK.xu k4) a3 b2) .nil) sh<|fin _
  refine let g:TS:=_;let m:TS:=_;let r:TS:=_;let t:TS:=_;let u:TS:=_;let B:TS:=_;let C:TS:=_;let G:TS:=_;let I:TS:=_;let J:TS:=_;let L:TS:=_;let M:TS:=_;let N:TS:=_;let O:TS:=_;⟨_,aw (br (bR dm (aG cV (dP X Z xz<|aa (pv 0)<|aa ao ag) ao) ao<|bG _) (pR g<|aB<|aU<|dP DCt aaL xz<|aa (aG fE (dP X Z xz<|aa (pv 0)<|aa ao ag) ao) ag) bQ) (pR O (aw (br (bR dm (aG cV (dP X Z xz<|aa (pv 0)<|aa ao ag) ao) ao<|bG _) (pR m<|aB<|aU<|dP DOn aaL xz<|aa (aG fE (dP X Z xz<|aa (pv 0)<|aa ao ag) ao) ag) bQ) (pR N (aw (bf (i:=1) qm.nd xz (aP xz)<|aG fQ ao<|aG cV (dP X Z xz<|aa (pv 0)<|aa ao ag) ao) (pR M (aw (bf (i:=2) qm.nd xz (aP xz)<|aG fQ ao<|aG cV (aG fE (dP X Z xz<|aa (pv 0)<|aa ao ag) ao) ao) (pR L (aw (bf (i:=3) qm.nd xz (aP xz)<|dP DPg qL xz<|aa (dP X Z xz<|aa (pv 0)<|aa ao ag)<|aa (pv 1)<|aa (aG fQ ao<|aG cV (dP X Z xz<|aa (pv 0)<|aa ao ag) ao)<|aa (pv 2) ag) (pR J (aw (bf (i:=4) qm.nd xz (aP xz)<|aV cJ (PE.imp (t':=Io) (dh<|aa a7<|aa a7<|aa a7 ag) ?kinds)<|aG cV (dP X Z xz<|aa (pv 0)<|aa ao ag) ao) (pR I (aw (br (og<|gZ<|dP DR hr xz<|aa (pv 3)<|aa (aG fE (dP X Z xz<|aa (pv 0)<|aa ao ag) ao) ag) (aB<|aU lj) bQ) (pR G (aw (yv (dP DG amZ xz<|aa (pv 3)<|aa (pv 4) ag)<|wL xz<|mq (cW (i:=5) qm.nd xz<|aP xz)<|mq (cW (i:=6) qm.nd xz<|aP xz) wG) (pR C (aw (bf (i:=7) qm.nd xz (aP xz)<|aG fQ ao<|aG cV (aG fE (dP X Z xz<|aa (pv 0)<|aa ao ag) ao)<|pv 5) (pR B (aw (tM uS xz (qY<|dh<|aa (pv 5)<|aa (b9 (aeA xz) xz hmx boot_max<|aa ao<|aa (aG Dk (pv 5) ao) ag)<|aa (aG fQ (pv 5) ao)<|aa (pv 7) ag) (cW (i:=8) qm.nd xz<|aP xz)<|pR u<|aw (bf (i:=9) qm.nd xz (aP xz)<|cp<|aa a7 ag)<|pR t<|aw (br (PW.pt<|pw_and (AO<|Xh<|pv 6)<|pw_and1<|AO<|akh (pv 8)<|pv 5) (pR r<|aB<|bf (i:=9) qm.nd xz (aP xz)<|cp<|aa a7<|aa (pv 6) ag) bQ) pC)
   pE)))))))))))))))))),?_⟩
  case kinds=>
   rintro σ T R q;exact⟨sl (n:=3),λl nl=>q l _ (ax (af.refl _) nl) ai⟩
  refine⟨_,xz,a,ns,4,xz,Y,qc,_,_,xz,xz,(by show (0:Int)<8;decide),xz,_,xz,bq (λ_=>?_) λ_=>?_⟩
  .exact⟨_,xz,a,ns,4,xz,Y,qc,_,_,xz,xz,⟨qc,qc⟩,_,xz,lam,q⟩
  refine⟨_,xz,a,ns,4,xz,Y,qc,_,_,xz,xz,(by show (0:Int)<8;decide),xz,_,xz,bq (λ_=>?_) λ_=>?_⟩
  .exact⟨_,xz,a,ns,4,xz,Y,qc,_,_,xz,xz,⟨qc,qc⟩,_,xz,lam,q⟩
  have m0:=qa (kc ns 0) (show (3:Int)≠0 by decide);have m1:=pV (kc ns 0) (show (0:Int)<3 by decide);have m2:=qa (kc ns 0/3) (show (2:Int)≠0 by decide);have m3:=pV (kc ns 0/3) (show (0:Int)<2 by decide);have m4:=qa (kc ns 2) (show (3:Int)≠0 by decide);have m5:=pV (kc ns 2) (show (0:Int)<3 by decide);refine⟨_,xz,a,ns,0,xz,Y,qc,_,_,xz,xz,(by show (0:Int)<3;decide),_,_,xz,xz,?_⟩;refine⟨_,xz,a,ns,0,xz,Y,qc,_,_,xz,xz,⟨qc,qc⟩,_,_,xz,xz,(by show (0:Int)<2;decide),_,_,xz,xz,?_⟩;refine⟨_,xz,a,ns,1,xz,Y,qc,_,xz,_,xz,a,ns,2,xz,Y,qc,_,_,xz,xz,(by show (0:Int)<3;decide),_,_,xz,xz,_,xz,_,_,_,_,xz,ahK E6 1,li,li,li,li,li,li,λv ps T s1 hP U dA Fg=>?_⟩;obtain⟨kd,hat,jq⟩:=three<|kc ns 3;refine λlk S s2 e2=>⟨_,xz,a,ns,3,xz,Gq (aA.of<|s1.fC s2) Y,qc,_,_,xz,xz,(by show (0:Int)<3;decide),lk,_,_,.str kd,xz,xz,aq.of e2,hat,?_⟩;have xJ:=s1.fC s2;have Fb:=hP.same s2;refine⟨_,xz,_,xz,a,ns,4,xz,Gq (aA.of xJ) Y,qc,_,_,xz,xz,⟨qc,qc⟩,v,_,ps,xz,Fb,U,Fg,λH3 s3=>⟨_,xz,fq ?_⟩⟩;have BO:=xJ.fC s3;refine⟨_,xz,_,xz,v,ps,kd,xz,Fb.same s3,U,jq,fA lam BO,λH4 p k4 amt hG=>?_⟩;obtain⟨k,ov,o,hp,hk1,IS,uI,iD⟩:=adF hG;have k14:=(aA.of BO).fC k4;have hS4:=Gq k14 Y;have E9:=CF k4<|Fb.same s3;refine⟨p,_,xz,az.of hp,xz,_,_,xz,_,_,xz,xz,?_⟩;refine⟨_,xz,a,ns,3,xz,hS4,qc,_,_,xz,xz,⟨qc,qc⟩,_,xz,_,_,xz,xz,(by show (0:Int)<k;lia),_,_,xz,xz,?_⟩;have d0:=qa (kc ns 3/3) (show (k:Int)≠0 by lia);have d1:=pV (kc ns 3/3) (show (0:Int)<k by lia);generalize kc ns 3/3%(k:Int)=dr at *;refine⟨_,xz,_,xz,_,_,xz,xz,_,_,xz,_,xz,_,_,xz,xz,_,xz,sl (n:=4),λl nl=>?_⟩;have s5:af H4 (db H4 l<|.lst [.int (k:Nat),.int (if (k:Int)-1 > 1 then (k:Int)-1 else 1),.int<|(k:Int)+1,.int<|1+dr]):=ax (af.refl _) nl;have e5:db H4 l (.lst [.int (k:Nat),.int (if (k:Int)-1 > 1 then (k:Int)-1 else 1),.int<|(k:Int)+1,.int<|1+dr]) l=a_ (.lst [.int (k:Nat),.int (if (k:Int)-1 > 1 then (k:Int)-1 else 1),.int<|(k:Int)+1,.int<|1+dr]):=ai
  have uh:∀x∈[V.int (k:Nat),V.int (if (k:Int)-1 > 1 then (k:Int)-1 else 1),V.int<|(k:Int)+1,V.int<|1+dr],∃n:Nat,x=.int (n:Nat)/\n<=31:=λx hx=>by
   have nat:∀j:Int,0<=j->j<=31->∃n:Nat,V.int j=.int (n:Nat)/\n<=31:=λj h0 h1=>⟨j.toNat,by rw[KO h0],li⟩;simp only[a9,qQ,or_false]at hx;obtain rfl|rfl|rfl|rfl:=hx
   .exact nat _ li li
   .exact nat _ (by split <;> lia) (by split <;> lia)
   .exact nat _ li li
   .exact nat _ li li
  generalize [V.int (k:Nat),V.int (if (k:Int)-1 > 1 then (k:Int)-1 else 1),V.int<|(k:Int)+1,V.int<|1+dr]=us at *;generalize db H4 l (.lst us)=H5 at *;refine⟨l,xz,⟨_,aq.of e5⟩,?_⟩;refine Gy (xs:=us) (λi σ H'=>∃y8 y9 jC,σ=[a_ (.ref a),a_<|.int<|1+kc ns 0%3,a_<|.int<|2+kc ns 0/3%2,a_ v,a_<|.str kd,a_<|.int (k:Nat),a_ ov,a_<|.int<|1+dr,y8,y9,jC]/\aA eD H5 H'/\cx PT LP LQ H') ⟨_,_,_,xz,aA.refl _,fA amt s5⟩ ?_ ?_ ?_
  .rintro i σ H' _ ⟨_,_,_,_,kk,_⟩;exact aq.of<|kk.k _ _ (λz=>z) (λps z=>by cases z) e5
  .rintro i x σ H' hx ⟨y8,y9,jC,rfl,kk,ll⟩;obtain⟨n,rfl,hn⟩:=uh x<|cH hx;refine⟨sl (n:=1),λp9 n9=>?_⟩;have s6:af H' (db H' p9<|.tup [.str aq8]):=ax (af.refl _) n9;have e6:db H' p9 (.tup [.str aq8]) p9=a_ (.tup [.str aq8]):=ai;generalize db H' p9 (.tup [.str aq8])=H6 at s6 e6 ⊢;have k6:=kk.fC<|aA.of s6;have k46:=(aA.of s5).fC k6;have IL:=iD.keep k46;have Sw:=CF k46 E9;have l6:=fA ll s6;have more:∀H7,aA eD H6 H7->c8 K H7 (.ref p9) (.tuple [.str aq8]):=λH7 W=>.tup (az.of<|W.k _ _ (λz=>z) (λps z=>by cases z) e6)<|.cons (.str _) .nil;cases o with
   | none=>
    have hv:ov=.aH:=iD;subst hv;exact vr xz ⟨_,xz,wU (λz=>eo xz z) λ_=>fq<|uC _ _ H6 v _ (.ref p9) ps kd k n b_ _ _ _ _ xz Sw U jq l6 hn IL uI (λH7 W _ _=>more H7 W) λH7 W l7=>⟨_,_,_,xz,k6.fC W,l7⟩⟩
   | some es=>
    obtain⟨l0,zs0,rfl,a1,a2,a3⟩:=id IL;refine vr xz ⟨_,xz,wU (λ_=>⟨_,xz,_,xz,_,_,xz,xz,_,xz,?_⟩) λz=>by cases z⟩
    by_cases z:k<=n
    .rw[show (λi j:Int=>decide<|j<=i) (n:Nat) (k:Nat)=c_ from eu<|Int.ofNat_le.mpr z];refine iQ<|vr xz ⟨sl (n:=2),λEG n10=>?_⟩;have s7:af H6 (db H6 EG<|.tup [.str W_,.ref l0]):=ax (af.refl _) n10;have e7:db H6 EG (.tup [.str W_,.ref l0]) EG=a_ (.tup [.str W_,.ref l0]):=ai;generalize db H6 EG (.tup [.str W_,.ref l0])=H7 at s7 e7 ⊢;have W:=aA.of (F:=eD) s7;refine uC _ _ H7 v _ (.ref EG) ps kd k n (a_ es) _ _ _ _ xz (CF W Sw) U jq (fA l6 s7) hn (IL.keep W) uI (λH8 k8 ho8 _=>?_) λH8 k8 l8=>⟨_,_,_,xz,k6.fC<|W.fC k8,l8⟩;rw[show xg k n (a_ es)=.tuple [.str W_,.list es] from ek z];obtain⟨l1,zs1,q1,q2,q3,_⟩:=ho8;cases q1;exact .tup (az.of<|k8.k _ _ (λz=>z) (λps z=>by cases z) e7)<|.cons (.str _)<|.cons (.lst (aq.of q2) q3) .nil
    .rw[show (λi j:Int=>decide<|j<=i) (n:Nat) (k:Nat)=d_ from eT λy=>z<|Int.ofNat_le.mp y];refine fq (uC _ _ H6 v _ (.ref p9) ps kd k n (a_ es) _ _ _ _ xz Sw U jq l6 hn IL uI (λH7 W _ _=>?_) λH7 W l7=>⟨_,_,_,xz,k6.fC W,l7⟩);rw[show xg k n (a_ es)=.tuple [.str aq8] from ei z];exact more H7 W
  .rintro σ H' ⟨y8,y9,jC,rfl,kk,ll⟩;have k4':=(aA.of s5).fC kk;exact uE _ _ H' v ov ps kd k o _ _ _ _ _ _ xz (CF k4' E9) U jq ll IS (iD.keep k4') uI q
end
end TL
namespace TL
open PySem.W PySem.Calls Att
theorem Zc:∀{ns:List Int}{n:Int},n∈ns->Fy n<=acn (ns.map Gi)
 | [],_,h=>by cases h
 | m::ns,n,h=>by
  rw[fu,acn];obtain e|e:=a9.mp h
  .subst e;have:(Gi n).weight=Fy n:=by unfold WData.weight Fy;rfl
   omega
  .have:=Zc e;omega
def ahM{ns:List Int}(h:ab8 [WData.list (ns.map Gi)]=c_):∀n∈ns,Bt n:=λn hn=>by
 unfold ab8 at h;rw[yd,fY]at h;have h1:=h.1;unfold WData.layable at h1;rw[fY,decide_eq_true_eq]at h1;have h2:=h1.2;rw[WData.weight]at h2;have:=Zc hn;unfold Bt;omega
def acQ{l:OpenLaw}{n:Nat}{q:l_}{loose:List cw}{XP:(cw->Option f_)->j_->Prop}{YP:k_->j_->Prop}{d:DefRec}(hn:l.most=a_ n)(g:d.params.defaults=[])(call:∀(w:k_)(s₀ b:g_)(mg mb:cw->Option f_)(c:e_)(o:cB)(pm cd doc:f_)(a:e_)(vs:List f_)(ns:List Int),Ground q loose [] XP w s₀ mg mb b.heap->YP w b.heap->b.heap.get? c=a_ o->o.data=.func (docDef d.name d.params d.body d.scope pm cd doc)->b.heap.CodeRec cd d.name->mg d.name=a_ (.ref c)->b.heap.get? a=a_ {cls:=.type "list",data:=.seq vs.toArray}->IntsAre vs ns->ns.length<=n->(∀n∈ns,Bt n)->b.gens=#[]->codeAny (bK l.prog w) callerA (.call (.ref c) ⟨[.ref a],[]⟩) (λr s'=>r=.ok (.ret<|.bool c_)/\OldK b.heap s'.heap/\s'.os=b.os/\AllBare s'.gens) b):WalkO q loose XP YP l.row.toRowW d [] (λf vs=>PySem.call f vs):=by
 intro w s₀ b mg mb G Y c o pm cd doc h kV i hd j e k m args z A p s B t C;obtain rfl:h=.none:=Dflts.none e g;obtain rfl:kV=.none:=Dflts.noKw e;obtain⟨a,vs,ns,rfl,rfl,u,v,x⟩:=adW hn p t;refine enter_call (yf (call w s₀ b mg mb c o pm cd doc a vs ns G Y i (fd_plain hd) j k u v x (ahM s) m) λr s' y=>?_);obtain⟨rfl,h2,h3,h4⟩:=y;exact⟨.inl ⟨.bool c_,.bool c_,[],xz,λ_=>rfl,.bool c_,ad2 l _,λ_=>⟨ab2,λ_ hm=>(nomatch hm)⟩⟩,h2,h3,h4⟩
end TL
namespace TL
open PySem.SeqAt L2 L3
def ZH{us:List f_}(h:us.length=1):∃a,us=[a]:=Td.mp h
def Iw{us:List f_}{n:Nat}(h:us.length=n+1):∃a l,us=a::l/\l.length=n:=by
 cases us with
 | nil=>cases h
 | cons a l=>exact⟨a,l,xz,Cw h⟩
def ZG{us:List f_}(h:us.length=2):∃a b,us=[a,b]:=dC (Iw h) λa _ e h=>oE (ZH h) λb z=>⟨a,b,by rw[e,z]⟩
def ZF{us:List f_}(h:us.length=3):∃a b c,us=[a,b,c]:=dC (Iw h) λa _ e h=>Ji (ZG h) λb c z=>⟨a,b,c,by rw[e,z]⟩
def ZE{us:List f_}(h:us.length=4):∃a b c d,us=[a,b,c,d]:=dC (Iw h) λa _ e h=>nr (ZF h) λb c d z=>⟨a,b,c,d,by rw[e,z]⟩
def akA{us:List f_}(h:us.length=5):∃a b c d e,us=[a,b,c,d,e]:=dC (Iw h) λa _ e h=>akt (ZE h) λb c d f z=>⟨a,b,c,d,f,by rw[e,z]⟩
abbrev xD(x q:cw)(st:bM)(ps:List cw):Prop:=∀(kV doc pm:f_)(an:Option e_)(aI ct:f_)(us:List f_),us.length=ps.length->vf (B_ x q (mw st) (fj st) (aR st) .none kV doc pm an aI ct) ⟨us,[]⟩=pure (ps.zip us)
section
variable{K:u_}{h:j_}{mg:cw->Option f_}{x q m:cw}{st:bM}{f c e:e_}
def gh(X:K.In h)(G:h.Ns fZ mg)(p:fN K x)(l:HT.bh K (gN K x)=fp x x st)(ps:List cw)(a:xD x x st ps):∃fd,aW K x x st (gN K x) fd/\x_ K (.ref<|gN K x)=c_/\dt K fd ps []/\mg x=a_ (.ref<|gN K x):=by
 obtain⟨oc,od,kV,b,pm,an,cd,ct,sl,l1,c1⟩:=HT.vy l p.2.1;have F:=YL (st:=st) l1 c1 p.2.2;exact⟨_,F,p.2.2,F.binds a,C_ X G<|HT.lb p.1⟩
def eN(p:fM K c m q)(l:HT.bh K (gM K c m)=fp m q st)(ps:List cw)(a:xD m q st ps):∃fd,aW K m q st (gM K c m) fd/\dt K fd ps []/\Meth K c m (gM K c m):=by
 obtain⟨oc,od,kV,b,pm,an,cd,ct,sl,l1,c1⟩:=HT.vy l p.2.1;have F:=YL (st:=st) l1 c1 p.2.2.1;exact⟨_,F,F.binds a,HT.lb p.1,p.2.2.2,p.2.2.1⟩
def al'(p:fM K c m q)(l:HT.bh K (gM K c m)=fp m q st)(a:HT.IE K (gM K c m)=c_)(ps:List cw)(b:xD m q st ps):∃fd,xn K m q st (gM K c m) fd (HT.Bj K<|gM K c m)/\dt K fd ps []/\Meth K c m (gM K c m):=by
 obtain⟨oc,od,kV,d,pm,an,ct,sl,l1,c1⟩:=HT.ai1 l p.2.1 a;have F:=ahv (st:=st) l1 c1 p.2.2.1;exact⟨_,F,F.fun.binds b,HT.lb p.1,p.2.2.2,p.2.2.1⟩
def mkD{d:cw}(p:fM K c m q)(l:HT.Iy K (gM K c m)=fp m q st)(a:HT.ID K (gM K c m) d=c_):∃fd,xk K m q st (gM K c m) fd d:=by
 obtain⟨oc,od,T,kV,b,pm,an,cd,ct,sl,c1,d1,n1,uu,tk,g,i,j⟩:=HT.aiZ l p.2.1 a;exact⟨_,⟨⟨oc,od,T,kV,b,pm,an,cd,ct,sl,c1,d1,n1,uu,tk,xz,g,i,j⟩,p.2.2.1⟩⟩
def uj(X:K.In h)(G:h.Ns fZ mg)(p:cK K x):eO K (gN K x)/\mg x=a_ (.ref<|gN K x):=⟨⟨p.2.1,p.2.2.1,p.2.2.2.1,p.2.2.2.2⟩,C_ X G<|HT.lb p.1⟩
def QW(p:xF K c e):Y8 K c e:=⟨⟨p.1,p.2.1⟩,p.2.2.1,p.2.2.2.1,p.2.2.2.2.1,p.2.2.2.2.2⟩
end
def Y9(l:W.OpenLaw)(w:k_)(K:u_)(mg:cw->Option f_)(a:e_):Prop:=
  ∃fd:ir,(∀(s:g_)(v:f_),BindsTo s fd ⟨[v],[]⟩ [("_law_script",v)])/\(∃c,W.codeHdIn K c 406=c_)/\∀fK:j_,K.In fK->fK.Ns fZ mg->vH mg fK->aE l.prog w K mg fK aL 14 a fd ["_law_script"] (Zj K 406)
def sL9{K:u_}(E:seen K=c_)(i:Nat){b:Bool}(h:(Bz K ())[i]?=a_ b):b=true:=kQ.mp E b<|cH h
section
variable{K:u_}(E:seen K=c_)
def aj{K:u_}(E:seen K=c_)(i:Nat){p:Prop}{d:Decidable p}(h:(Bz K ())[i]?=a_ (@decide p d)):p:=@er p d<|sL9 E i h
def VF:=aj E 10 xz
def VG:=aj E 15 xz
def VE:=aj E 20 xz
def UX:=aj E 25 xz
def UU:=aj E 30 xz
def UW:=aj E 35 xz
def Uy:=aj E 40 xz
def UT:=aj E 43 xz
def T5:=aj E 48 xz
def OJ:=aj E 63 xz
def M7:=aj E 64 xz
def M':=aj E 65 xz
def M6:=aj E 66 xz
def Mx:=aj E 67 xz
def Mu:=aj E 68 xz
def Mw:=aj E 69 xz
def rh:=aj E 70 xz
def NH:=aj E 76 xz
def XH:=aj E 81 xz
def M8:=aj E 87 xz
def Hl:=aj E 160 xz
def Hk:=aj E 161 xz
def XG:=aj E 222 xz
def XE:=aj E 223 xz
def VC:=aj E 245 xz
def VB:=aj E 246 xz
def VD:=aj E 247 xz
end
def bC{K:u_}(E:rD K=qo)(i:Nat){a b:Option HT.r6}(h:(rD K)[i]?=a_ a)(g:qo[i]?=a_ b):a=b:=by rw[E,g]at h;exact(eG h).fF
def ib{x q:cw}{st:bM}{ps:List cw}(l:autoParam (ps.length=1) am)(h:∀(kV doc pm:f_)(an:Option e_)(aI ct:f_)(a:f_),vf (B_ x q (mw st) (fj st) (aR st) .none kV doc pm an aI ct) ⟨[a],[]⟩=pure (ps.zip [a]):=by intros;rfl):xD x q st ps:=by
 intro k1 b c d f g us i;obtain⟨a,e⟩:=ZH<|i.fC l;subst e;exact h k1 b c d f g a
def gU{x q:cw}{st:bM}{ps:List cw}(l:autoParam (ps.length=2) am)(h:∀(kV doc pm:f_)(an:Option e_)(aI ct:f_)(a b:f_),vf (B_ x q (mw st) (fj st) (aR st) .none kV doc pm an aI ct) ⟨[a,b],[]⟩=pure (ps.zip [a,b]):=by intros;rfl):xD x q st ps:=by
 intro k1 c d f g i us j;obtain⟨a,b,e⟩:=ZG<|j.fC l;subst e;exact h k1 c d f g i a b
def xE{x q:cw}{st:bM}{ps:List cw}(l:autoParam (ps.length=3) am)(h:∀(kV doc pm:f_)(an:Option e_)(aI ct:f_)(a b c:f_),vf (B_ x q (mw st) (fj st) (aR st) .none kV doc pm an aI ct) ⟨[a,b,c],[]⟩=pure (ps.zip [a,b,c]):=by intros;rfl):xD x q st ps:=by
 intro k1 d f g i j us k;obtain⟨a,b,c,e⟩:=ZF<|k.fC l;subst e;exact h k1 d f g i j a b c
def Q1{x q:cw}{st:bM}{ps:List cw}(l:autoParam (ps.length=4) am)(h:∀(kV doc pm:f_)(an:Option e_)(aI ct:f_)(a b c d:f_),vf (B_ x q (mw st) (fj st) (aR st) .none kV doc pm an aI ct) ⟨[a,b,c,d],[]⟩=pure (ps.zip [a,b,c,d]):=by intros;rfl):xD x q st ps:=by
 intro k1 f g i j k us m;obtain⟨a,b,c,d,e⟩:=ZE<|m.fC l;subst e;exact h k1 f g i j k a b c d
def bn5{x q:cw}{st:bM}{ps:List cw}(l:autoParam (ps.length=5) am)(h:∀(kV doc pm:f_)(an:Option e_)(aI ct:f_)(a b c d f:f_),vf (B_ x q (mw st) (fj st) (aR st) .none kV doc pm an aI ct) ⟨[a,b,c,d,f],[]⟩=pure (ps.zip [a,b,c,d,f]):=by intros;rfl):xD x q st ps:=by
 intro k1 g i j k m us n;obtain⟨a,b,c,d,f,e⟩:=akA<|n.fC l;subst e;exact h k1 g i j k m a b c d f
def facts{l:W.OpenLaw}{w:k_}{K:u_}{h:j_}{mg:cw->Option f_}{M:e_}(E:(seen K,rD K)=(c_,qo))(X:K.In h)(G:h.Ns fZ mg)(hfa:mg "law"=a_ (.ref M)):Y9 l w K mg M:=by
 have f:=(yk E).1;have hl:=(yk E).2;have a:=@aj K f;have b:=@bC K hl;refine eh (gh X G (a 59 xz) (b 0 xz xz) [aq6] ib) λrX N kW bW Q=>?_;refine eh (gh X G (a 60 xz) (b 1 xz xz) ["word"] ib) λBE FB kB bB gB=>?_;refine eh (gh X G (a 61 xz) (b 2 xz xz) [ap6] ib) λxB FS kS bS gS=>?_;refine eh (gh X G (a 62 xz) (b 3 xz xz) [ap6] ib) λyZ FO kO bO gO=>?_;refine aZ (eN (OJ f) (b 4 xz xz) g8 gU) λgR FI bI MI=>?_;refine aZ (eN (M7 f) (b 5 xz xz) g8 gU) λDZ aog QJ R=>?_;refine aZ (eN (M' f) (b 6 xz xz) g8 gU) λD0 aox QK S=>?_;refine aZ (eN (M6 f) (b 7 xz xz) g8 gU) λDX aod QI U=>?_;refine aZ (eN (Mx f) (b 8 xz xz) g8 gU) λDx alK P0 V=>?_;refine aZ (eN (Mu f) (b 9 xz xz) g8 gU) λDv alH PY Y=>?_;refine aZ (eN (Mw f) (b 10 xz xz) g8 gU) λDw alJ PZ Z=>?_;refine aZ (eN (rh f) (b 11 xz xz) g0 ib) λQk FEm zk MEm=>?_;refine aZ (eN (a 71 xz) (b 12 xz xz) g0 ib) λOH alI PK alF=>?_;refine aZ (eN (a 72 xz) (b 13 xz xz) g0 ib) λOI alL PL alG=>?_;refine eh (gh X G (a 73 xz) (b 14 xz xz) gy ib) λapN FHC kHC bHC gHC=>?_;refine eh (gh X G (a 74 xz) (b 15 xz xz) im xE) λapO FFI kFI bFI gFI=>?_;refine eh (gh X G (a 75 xz) (b 16 xz xz) gy ib) λapL FLO kLO bLO gLO=>?_;refine aZ (eN (NH f) (b 17 xz xz) hF gU) λapz FTI bTI MTI=>?_;refine aZ (eN (a 77 xz) (b 18 xz xz) iv Q1) λapD FTA bTA MTA=>?_;refine aZ (eN (a 78 xz) (b 19 xz xz) gP gU) λapy FTL bTL MTL=>?_;refine aZ (al' (a 79 xz) (b 20 xz xz) (a 80 xz) g0 ib) λapA FTF bTF MTF=>?_;refine aZ (eN (a 82 xz) (b 21 xz xz) gP gU) λapw FTT bTT MTT=>?_;refine aZ (eN (a 83 xz) (b 22 xz xz) g0 ib) λapB FTE bTE MTE=>?_;refine aZ (eN (a 84 xz) (b 23 xz xz) g0 ib) λapC FTD bTD MTD=>?_;refine aZ (eN (a 85 xz) (b 24 xz xz) g0 ib) λapv FTW bTW MTW=>?_;refine eh (gh X G (a 86 xz) (b 25 xz xz) [T_] ib) λapx FTO kTO bTO gTO=>?_;refine oE (mkD (M8 f) (b 26 xz xz)<|a 88 xz) λaoX z=>?_;refine aZ (eN (a 89 xz) (b 27 xz xz) gr gU) λapZ FAE bAE MAE=>?_;refine aZ (eN (a 90 xz) (b 28 xz xz) gr gU) λapI FMY bMY MMY=>?_;refine aZ (eN (a 91 xz) (b 29 xz xz) g0 ib) λapW FCR bCR MCR=>?_;refine aZ (eN (a 92 xz) (b 30 xz xz) g0 ib) λapK FMV bMV MMV=>?_;refine aZ (eN (a 93 xz) (b 31 xz xz) [V_,aq3] gU) λapT FDO bDO MDO=>?_;refine aZ (eN (a 94 xz) (b 32 xz xz) gr gU) λapS FDS bDS MDS=>?_;refine aZ (eN (a 95 xz) (b 33 xz xz) gW xE) λapR FDT bDT MDT=>?_;refine aZ (eN (a 96 xz) (b 34 xz xz) gW xE) λapU FDL bDL MDL=>?_;refine aZ (eN (a 97 xz) (b 35 xz xz) gW xE) λapQ FDW bDW MDW=>?_;refine aZ (eN (a 98 xz) (b 36 xz xz) hJ xE) λapV FCY bCY MCY=>?_;refine aZ (eN (a 99 xz) (b 37 xz xz) [V_,aq5] gU) λapX FCM bCM MCM=>?_;refine aZ (eN (a 100 xz) (b 38 xz xz) gP gU) λapH FOB bOB MOB=>?_;refine aZ (eN (a 101 xz) (b 39 xz xz) g0 ib) λapP FEN bEN MEN=>?_;refine aZ (eN (a 102 xz) (b 40 xz xz) g0 ib) λapJ FMW bMW MMW=>?_;refine aZ (eN (a 103 xz) (b 41 xz xz) gr gU) λapu FWH bWH MWH=>?_;refine aZ (eN (a 104 xz) (b 42 xz xz) gr gU) λapF FRG bRG MRG=>?_;refine aZ (eN (a 105 xz) (b 43 xz xz) gr gU) λapt FWT bWT MWT=>?_;refine aZ (eN (a 106 xz) (b 44 xz xz) g0 ib) λapY FBD bBD MBD=>?_;refine eh (gh X G (a 107 xz) (b 45 xz xz) ic xE) λapG FPB kPB bPB gPB=>?_;refine eh (gh X G (a 108 xz) (b 46 xz xz) [aq3] ib) λapM FHF kHF bHF gHF=>?_;refine eh (gh X G (a 109 xz) (b 47 xz xz) [ap7] ib) λapE FSO kSO bSO gSO=>?_;refine aZ (eN (a 110 xz) (b 48 xz xz) hO xE) λaoW aoh anS aa6=>?_;refine eh (gh X G (a 111 xz) (b 49 xz xz) gx ib) λaoV aof amw anR anw=>?_;refine eh (gh X G (a 112 xz) (b 50 xz xz) gx ib) λapb aov amK an8 anM=>?_;refine eh (gh X G (a 113 xz) (b 51 xz xz) gx ib) λaoU aoe amv anQ anv=>?_;refine eh (gh X G (a 114 xz) (b 52 xz xz) [aq1,aq3] gU) λapc aow amL an9 anN=>?_;refine eh (gh X G (a 115 xz) (b 53 xz xz) hD xE) λapa aa9 aaE aa3 aaY=>?_;refine eh (gh X G (a 116 xz) (b 54 xz xz) ii gU) λao' aou amJ an7 anL=>?_;refine eh (gh X G (a 117 xz) (b 55 xz xz) hU gU) λao3 aon amC anZ anE=>?_;refine eh (gh X G (a 118 xz) (b 56 xz xz) iE Q1) λaoZ aoj amy anU anA=>?_;refine eh (gh X G (a 119 xz) (b 57 xz xz) jc bn5) λao9 aot amI an6 anK=>?_;refine eh (gh X G (a 120 xz) (b 58 xz xz) io gU) λao7 aor amG an4 anI=>?_;refine eh (gh X G (a 121 xz) (b 59 xz xz) ki Q1) λao1 aol amA anW anC=>?_;refine eh (gh X G (a 122 xz) (b 60 xz xz) hH gU) λao4 aoo amD an0 anF=>?_;refine eh (gh X G (a 123 xz) (b 61 xz xz) hH gU) λao6 aoq amF an2 anH=>?_;refine eh (gh X G (a 124 xz) (b 62 xz xz) js gU) λao5 aop amE an1 anG=>?_;refine eh (gh X G (a 125 xz) (b 63 xz xz) [P_] ib) λao8 aos amH an5 anJ=>?_;refine eh (gh X G (a 126 xz) (b 64 xz xz) [P_] ib) λao2 aom amB anY anD=>?_;refine eh (gh X G (a 127 xz) (b 65 xz xz) ["_law_thing",aq0] gU) λaoY aoi amx anT anz=>?_;refine eh (gh X G (a 128 xz) (b 66 xz xz) jr gU) λao0 aok amz anV anB=>?_;refine eh (gh X G (a 129 xz) (b 67 xz xz) ["_law_script"] ib) λalE aa8 apg ap0 anx=>?_;have e:=hfa.fF.fC anx;cases e;refine oA (uj X G<|a 8 xz) λaoP ajN=>?_;refine oA (uj X G<|a 9 xz) λvA alC=>?_;refine oA (uj X G<|a 14 xz) λtZ alD=>?_;refine oA (uj X G<|a 19 xz) λrF alB=>?_;refine oA (uj X G<|a 24 xz) λrq ajP=>?_;refine oA (uj X G<|a 29 xz) λqj ajM=>?_;refine oA (uj X G<|a 34 xz) λtO ajO=>?_;refine oA (uj X G<|a 39 xz) λyt ahQ=>?_;refine oA (uj X G<|a 42 xz) λajQ Zb=>?_;refine oA (uj X G<|a 47 xz) λaeF p=>?_;have R:Mk K (iM K) (OR K):=⟨(VF f).1,HT.lb (M7 f).1,(M7 f).2.2.2,(VF f).2⟩;have S:Mk K (iN K) (OT K):=⟨(VG f).1,HT.lb (M' f).1,(M' f).2.2.2,(VG f).2⟩;have U:Mk K (iL K) (OQ K):=⟨(VE f).1,HT.lb (M6 f).1,(M6 f).2.2.2,(VE f).2⟩;have V:Mk K (iK K) (NQ K):=⟨(UX f).1,HT.lb (Mx f).1,(Mx f).2.2.2,(UX f).2⟩;have Y:Mk K (iI K) (NO K):=⟨(UU f).1,HT.lb (Mu f).1,(Mu f).2.2.2,(UU f).2⟩;have Z:Mk K (iJ K) (NP K):=⟨(UW f).1,HT.lb (Mw f).1,(Mw f).2.2.2,(UW f).2⟩;have ajR:Mk K (nu K) (Bq K):=⟨(Uy f).1,(a 135 xz),(OJ f).2.2.2,(Uy f).2⟩;have Z3:Mk K (gH K) (ZX K):=⟨(UT f).1,HT.lb (NH f).1,(NH f).2.2.2,(UT f).2⟩;have q:Mk K (cR K) (OS K):=⟨(T5 f).1,HT.lb (M8 f).1,(M8 f).2.2.2,(T5 f).2⟩;have adK:=MTA;have acD:=MTL;have T7:=MTF;have ac7:=MTT;have ace:=MTE;have acC:=MTD;have ac6:=MTW;have ab7:=MAE;have ab5:=MMY;have abT:=MCR;have acg:=MMV;have acS:=MDO;have abR:=MDS;have ab6:=MDT;have abS:=MDL;have abQ:=MDW;have aci:=MCY;have acw:=MCM;have abK:=MOB;have ach:=MEN;have acv:=MMW;have acf:=MWH;have abF:=MRG;have abP:=MWT;have acj:=MBD;have acF:Meth K (iM K) R_ (qu K):=⟨(a 130 xz),(rh f).2.2.2,(rh f).2.2.1⟩;have acG:Meth K (iN K) R_ (qu K):=⟨(a 131 xz),(rh f).2.2.2,(rh f).2.2.1⟩;have acE:Meth K (iL K) R_ (qu K):=⟨(a 132 xz),(rh f).2.2.2,(rh f).2.2.1⟩;have acx:Meth K (iK K) R_ (qu K):=⟨(a 133 xz),(rh f).2.2.2,(rh f).2.2.1⟩;have acr:=alF;have ack:=alG;have acu:Meth K (iJ K) R_ (qu K):=⟨(a 134 xz),(rh f).2.2.2,(rh f).2.2.1⟩;have acm:PN K (vh K) M_ (Bq K):=⟨(a 136 xz),(a 137 xz),HT.aiT<|a 138 xz,(OJ f).2.2.1⟩;have A:=z_ X G<|a 139 xz;have Za:=z_ X G<|a 140 xz;have X4:=z_ X G<|a 141 xz;have Y':=z_ X G<|a 142 xz;have o:=z_ X G<|a 143 xz;have j:=z_ X G<|a 144 xz;have B:=z_ X G<|a 145 xz;have ajH:=z_ X G<|a 146 xz;have r:=z_ X G<|a 147 xz;have n:=z_ X G<|a 148 xz;have x:=z_ X G<|a 149 xz;have ajI:=z_ X G<|a 150 xz;have VT:=z_ X G<|a 151 xz;have ajJ:=z_ X G<|a 152 xz;have ajK:∃u,mg "TOP"=a_ u/\df (.int dH) u:=by obtain⟨t,e⟩:=HT.Du<|a 153 xz;exact⟨_,C_ X G e,_,xz⟩
 have C:∃u,mg "NAMES"=a_ u/\df (.int 12) u:=by obtain⟨t,e⟩:=HT.Du<|a 154 xz;exact⟨_,C_ X G e,_,xz⟩
 have acR:∃u,mg "REGISTERS"=a_ u/\df (.int 4) u:=by obtain⟨t,e⟩:=HT.Du<|a 155 xz;exact⟨_,C_ X G e,_,xz⟩
 have adJ:∃u,mg "LONGEST"=a_ u/\df (.int 120) u:=by obtain⟨t,e⟩:=HT.Du<|a 156 xz;exact⟨_,C_ X G e,_,xz⟩
 have aeD:∃u,mg "CLERKS"=a_ u/\df (.int 4) u:=by obtain⟨t,e⟩:=HT.Du<|a 157 xz;exact⟨_,C_ X G e,_,xz⟩
 have als:=C_ X G<|HT.lb<|a 0 xz;have alr:=C_ X G<|HT.lb<|a 1 xz;have XNo:=QW<|a 2 xz;have Z0:=C_ X G<|HT.lb<|a 3 xz;have XKd:=QW<|a 4 xz;have ZZ:=C_ X G<|HT.lb<|a 5 xz;have XNC:=QW<|a 6 xz;have ZY:=C_ X G<|HT.lb<|a 7 xz;have agb:=C_ X G<|HT.lb<|a 158 xz;have agc:∀H:Hp,az K H (WQ K) [.str ap9,.str H_,.str ap4]:=λH=>HT.agg (a 159 xz) (by show 3<=aX;decide) H;have bl:Bl mg:=⟨A,Za,X4,Y',o,j,B,ajH⟩;have m:BT mg:=⟨A,Za,X4,Y',j,B,n,r,ajI,VT⟩;have cn:Cn mg:=⟨ajK,C,acR,adJ⟩
 have T1:qk K mg ⟨(lp K),(pd K),(lg K),(pf K),(Bq K),(OR K),(OT K),(OQ K),(NQ K),(NO K),(NP K),(vh K),(iM K),(iN K),(iL K),(iK K),(iI K),(nu K),(iJ K),_,_,_,_,_,_,_,_,_,_,_⟩:=
  ⟨bl,cn,N,bW,Q,FB,bB,gB,FS,bS,gS,FO,bO,gO,⟨FI,bI,acm,ajN,o⟩,yt,(a 41 xz),ajR,ahQ,vA,(a 11 xz),(a 12 xz),(a 13 xz),R,alC,aog,QJ,tZ,(a 16 xz),(a 17 xz),(a 18 xz),S,alD,aox,QK,rF,(a 21 xz),(a 22 xz),(a 23 xz),U,alB,aod,QI,rq,(a 26 xz),(a 27 xz),(a 28 xz),V,ajP,alK,P0,qj,(a 31 xz),(a 32 xz),(a 33 xz),Y,ajM,alH,PY,tO,(a 36 xz),(a 37 xz),(a 38 xz),Z,ajO,alJ,PZ⟩
 obtain⟨t,u,O⟩:∃t u,Bp K mg t u:=⟨_,⟨(qu K),(X2 K),(X3 K),_,_,_⟩,⟨T1,FEm,zk,alI,PK,alL,PL,(Hl f),(Hk f),acF,acG,acE,acx,acr,ack,acu,⟨(a 162 xz),(a 163 xz),(a 164 xz),(a 165 xz),(a 166 xz),(a 167 xz),(a 168 xz),(a 169 xz)⟩,⟨(a 170 xz),(a 171 xz),(a 172 xz),(a 173 xz),(a 174 xz),(a 175 xz),(a 176 xz),(a 177 xz)⟩,⟨(a 178 xz),(a 179 xz),(a 180 xz),(a 181 xz),(a 182 xz),(a 183 xz),(a 184 xz),(a 185 xz)⟩,⟨(a 186 xz),(a 187 xz),(a 188 xz),(a 189 xz),(a 190 xz),(a 191 xz),(a 192 xz),(a 193 xz)⟩,⟨(a 194 xz),(a 195 xz),(a 196 xz),(a 197 xz),(a 198 xz),(a 199 xz),(a 200 xz),(a 201 xz)⟩,⟨(a 202 xz),(a 203 xz),(a 204 xz),(a 205 xz),(a 206 xz),(a 207 xz),(a 208 xz),(a 209 xz)⟩,⟨(a 210 xz),(a 211 xz),(a 212 xz),(a 213 xz),(a 214 xz),(a 215 xz),(a 216 xz),(a 217 xz)⟩⟩⟩;have T:=O.st;have g:gC K (cR K):=⟨aeF,(a 49 xz),(a 50 xz),(a 51 xz),(a 52 xz),(a 53 xz),(a 54 xz),(a 55 xz),(a 56 xz),(a 57 xz),(a 58 xz)⟩;have i:lA K (gH K):=⟨ajQ,(a 44 xz),(a 45 xz),(a 46 xz)⟩;have y:=ahi z;have k:Bw mg:=⟨o,n,j,VT⟩;have SK:Qo K t:=⟨O.gt,O.tk,⟨O.Be.cl,O.Be.mr,O.Be.wO⟩,⟨O.Bf.cl,O.Bf.mr,O.Bf.wO⟩,⟨O.Bd.cl,O.Bd.mr,O.Bd.wO⟩,⟨O.A3.cl,O.A3.mr,O.A3.wO⟩,⟨O.AZ.cl,O.AZ.mr,O.AZ.wO⟩,⟨O.AS.cl,O.AS.mr,O.AS.wO⟩,⟨O.A0.cl,O.A0.mr,O.A0.wO⟩⟩;have xf:XF K (iy K):=⟨(a 220 xz),xcd<|a 221 xz,(VC f),(VB f),(VD f)⟩;have xwC:XW K (lC K) (t8 K) (iy K) (lC K) (lD K) d_ c_ false:=⟨⟨(a 235 xz),(a 236 xz),(a 237 xz),(a 238 xz),(a 239 xz),(Hl f),(Hk f),(a 240 xz)⟩,(a 241 xz),(a 242 xz),(a 243 xz),(a 244 xz)⟩;have xwP:XW K (iy K) (t8 K) (iy K) (lC K) (lD K) c_ d_ false:=⟨⟨(VC f),(VB f),(VD f),(a 248 xz),(a 249 xz),(Hl f),(Hk f),(a 250 xz)⟩,(a 251 xz),(a 252 xz),(a 253 xz),(a 254 xz)⟩;have xwK:XW K (lD K) (t8 K) (iy K) (lC K) (lD K) d_ d_ true:=⟨⟨(a 225 xz),(a 226 xz),(a 227 xz),(a 228 xz),(a 229 xz),(Hl f),(Hk f),(a 230 xz)⟩,(a 231 xz),(a 232 xz),(a 233 xz),(a 234 xz)⟩;unfold Y9;refine⟨alE,λs v=>?_,⟨_,XH f⟩,λfK h1 h2 h3=>?_⟩
 .obtain⟨_,_,_,_,_,_,_,_,_,e,_⟩:=aa8.ex;rw[e];exact .of_eq xz
 .exact(by
  have c:=@Mt.mk l.prog w K mg fK;have d:=@Dp.mk l.prog w K mg fK;have hC:=W.codeHd_of_K h1<|XH f;have DTD:=c (adp FTD m i) bTD acC;have DTE:=c (ad9 FTE m i) bTE ace;have DTF:=c (UN FTF m i hC h3) bTF T7;have DTT:=c (afh FTT m i hC h3 N bW Q FTF bTF T7) bTT ac7;have DTA:=c (agZ FTA i) bTA adK;have DTL:=c (adq FTL m i) bTL acD;have TX0:=ado (P:=l.prog) (w:=w) (mg:=mg) (fK:=fK) FTO m i Z3 FTI bTI Zb C agb agc XKd.xc Z0;have DTO:=Dp.mk (ajY TX0) kTO bTO gTO;have DTW:=c (afg FTW m x i Z3 FTI bTI Zb C) bTW ac6;have LX0:=ag2 (P:=l.prog) (w:=w) (mg:=mg) (fK:=fK) FLO bl r (aiE FHC bl aeD) kHC bHC gHC (ag7 FFI T SK XNo alr) kFI bFI gFI XNC.xc ZZ ⟨(a 218 xz),aa6.1,aa6.2,(a 219 xz)⟩ (akm aoh xf (XG f)<|XE f) anS ZY;have DAE:=c (afr (t:=t) (CT:=(gH K)) FAE j g) bAE ab7;have DWH:=c (aff (t:=t) (CT:=(gH K)) FWH g) bWH acf;have D:=c (acJ (t:=t) (CT:=(gH K)) FRG x g) bRG abF;have F:=c (afq (t:=t) (CT:=(gH K)) FBD x g) bBD acj;have DWT:=Mt.mk (adn (t:=t) FWT g i DTD) bWT abP;have DMY:=Mt.mk (afi FMY g i O DAE DTE) bMY ab5;have DCR:=Mt.mk (adw (t:=t) FCR g i r DTF) bCR abT;have I:=Mt.mk (aea FMV g j n DMY DCR) bMV acg;have DEN:=Mt.mk (afm (t:=t) FEN g i B r DAE DTE) bEN ach;have DCM:=c (ag9 (t:=t) (CT:=(gH K)) FCM g) bCM acw;have DOB:=c (adu (t:=t) (CT:=(gH K)) FOB g j) bOB abK;have DCY:=Mt.mk (afp FCY g i DTT DCM) bCY aci;have DDT:=Mt.mk (afo FDT g i j T DTA DCY) bDT ab6;have DDL:=Mt.mk (aed FDL g i T DTL DOB) bDL abS;have DDW:=Mt.mk (aeb FDW g T j DOB DCM) bDW abQ;have DPB:=d (acp FPB O) kPB bPB gPB;have DDS:=Mt.mk (aec FDS g O DPB DDT DDL DDW) bDS abR;have DHF:=d (ag6 FHF T) kHF bHF gHF;have DDO:=Mt.mk (aiD FDO g DHF I DDS DCY) bDO acS;have DSO:=d (ads FSO T o) kSO bSO gSO;have DLO:=Dp.mk (aky LX0) kLO bLO gLO;have J:=afk z g T o n DLO DTO DSO;have MB0:=ag1 z g LX0 kLO bLO gLO TX0 kTO bTO gTO;have DMW:=Mt.mk (afj FMW g i x q J p y DTW) bMW acv;have aoz:=Dp.mk (ad' aof k g D) amw anR anw;have aa':=Dp.mk (afn aov k g aoz F) amK an8 anM;have aoy:=Dp.mk (adt aoe k g aa' DWH DWT) amv anQ anv;have aoJ:=Dp.mk (aee aow g DMW DDO) amL an9 anN;have L:=Dp.mk (ag8 aa9 k g q J p y aoy aa' DEN I aoJ) aaE aa3 aaY;have EX0:=afl aa9 q MB0 p y;have aoI:=d (agW aou j) amJ an7 anL;have aoa:=aiA (P:=l.prog) (w:=w) (mg:=mg) (fK:=fK) aon;have an':=akn (P:=l.prog) (w:=w) (mg:=mg) (fK:=fK) aoj;have aoc:=akp (P:=l.prog) (w:=w) (mg:=mg) (fK:=fK) aot;have aob:=ako aor n aoa amC anZ anE;have aoC:=Dp.mk (akl aol bl n aob amG an4 anI an' amy anU anA aoc amI an6 anK) amA anW anC;have aoG:=Dp.mk (ag4 aoq k g D F) amF an2 anH;have aoE:=Dp.mk (ag3 aoo k g D F DWH DWT) amD an0 anF;have aoF:=Dp.mk (ag5 aop k g q J p y aoE aoG DEN I DMW DDO) amE an1 anG;have aoH:=Dp.mk (adv aos k L) amH an5 anJ;have aoD:=Dp.mk (ag0 aom L) amB anY anD;have aoA:=Dp.mk (agY aoi A EX0 aaE aa3 aaY als (a 224 xz) ZY ZZ Z0 xwC xwP xwK xf (XG f)<|XE f) amx anT anz;have aoB:=Dp.mk (aiC aok j aoA) amz anV anB;exact aiB aa8 j ajJ aoI aoH aoD aoC aoB aoF L)
def walk{l:W.OpenLaw}{q:l_}{loose:List cw}{XP:(cw->Option f_)->j_->Prop}{d:DefRec}(hn:l.most=a_ 63)(s:d.params.defaults=[])(t:d.name="law"):W.WalkO q loose XP (HT.vt TL.pG 406 (λK=>(seen K,rD K)) (c_,qo)).says l.row.toRowW d [] (λf vs=>PySem.call f vs):=by
 refine acQ hn s λw s₀ u mg mb O o pm cd doc a vs ns G Y P hd Q n v x p y A=>?_;obtain⟨K,i,B,r,E⟩:=Y;rw[t]at n;obtain⟨fd,h,⟨c,C⟩,D⟩:=facts (l:=l) (w:=w) E i G.T.g n
 have j:vH mg u.heap:=by
  obtain⟨j,F,b1,b2,k,I,J,m⟩:=G.T.bmain;refine⟨j,F,b1,b2,λz=>?_,k,I,J,m⟩;obtain⟨o',es,R,e,L,_⟩:=G.T.g;rw[z,e]at k;cases k;rw[L]at m;cases m
 exact aeh (ts:=[406]) i G.T.g G.T.b G.T.builtins G.T.nolimit A j (λb h=>by rw[c7.mp h];exact r) (λb h=>by rw[c7.mp h];exact((W.codeHd_of_K i C).tab r).isCodeTable) (λb h=>by rw[c7.mp h];exact B) v x (cQ p qc) ⟨xz,qc,qc⟩ D h (λH M N=>⟨a,ns,xz,N,p,y,⟨#[],M.2 406 (by simp),.inl xz⟩,λ_=>rfl⟩) λH e s' z=>z
end TL
open PySem.W
theorem TL.left:W.LeftO PySem.Challenge.rw_traylate_k71_all_ends.row.prog TL.qv [] (λs=>W.xlAt TL.qv [] s&&W.recOk PySem.Challenge.rw_traylate_k71_all_ends.row.records s) (HT.vt TL.pG 406 (λK=>(TL.seen K,TL.rD K)) (c_,TL.qo)).obs (HT.vt TL.pG 406 (λK=>(TL.seen K,TL.rD K)) (c_,TL.qo)).val 12254:=by
 refine HT.ahk ?a ?b ?c ?d
 case a=>kernel_rfl
 case b=>kernel_rfl
 case c=>intro s;kernel_rfl
 case d=>intro w os;exact HT.both (HT.ud<|HT.o7<|TL.l2 w os)<|HT.both (TL.r2 w os)<|TL.r3 w os
theorem PySem.Challenge.cw_traylate_k71_all_ends_holds : PySem.Challenge.rw_traylate_k71_all_ends.Holds := by
 refine W.holds_law TL.QX λapd=>?_;refine W.holds_open (q:=TL.qv) (loose:=[]) (XP:=W.XL TL.qv []) (YP:=(HT.vt TL.pG 406 (λK=>(TL.seen K,TL.rD K)) (c_,TL.qo)).says) (d:=TL.dl) (kwd:=[]) TL.left (HT.vt TL.pG 406 (λK=>(TL.seen K,TL.rD K)) (c_,TL.qo)).of (HT.vt TL.pG 406 (λK=>(TL.seen K,TL.rD K)) (c_,TL.qo)).keeps (λs e=>W.xl_of s (Ti.mp e).1) W.XL.keeps ?h1 ?h2 ?h3 (λs e=>W.recFacts_of (Ti.mp e).2) ?h4 (by assumption) ?h5 ⟨xz,xz,xz,xz,xz,dk⟩ ?hw (TL.walk (l:=PySem.Challenge.rw_traylate_k71_all_ends) ?w1 ?w2 ?w3)
 case h1=>kernel_rfl
 case h2=>kernel_rfl
 case h3=>kernel_rfl
 case h4=>kernel_rfl
 case h5=>kernel_rfl
 case hw=>w_witness2
 case w1=>kernel_rfl
 case w2=>kernel_rfl
 case w3=>kernel_rfl
#print axioms PySem.Challenge.cw_traylate_k71_all_ends_holds
