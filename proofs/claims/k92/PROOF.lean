import PyProof.Rows.All
import Wide.All
import OpenK.AllK
import Wide.FinOn
import KE.KNestM
import KE.KSortedM
import PySem.Challenge.RW_traylate_k92_whole_rings_at_fault
set_option Elab.async false
set_option linter.all false
set_option maxRecDepth 100000
set_option maxHeartbeats 0
set_option synthInstance.maxSize 100000
set_option synthInstance.maxHeartbeats 0
set_option genSizeOf false
set_option compiler.extract_closed false
open Option renaming some→a_,none→b_
open Bool renaming true→c_,false→d_
open PySem renaming Addr→e_,Value→f_,Shared→g_,Around→h_,Heap→i_,World→j_,Program→k_
open PySem renaming wpAny_bind→ae,wpAny_pure→aF,sizeLine→bw,SetTable→bE,starEach→bV,mainGlobals→eN,NameKind→fo,sizeLine_eq→fw,PassesOwn→fA,wpAny_mono→ie,compareOp→iH,wpAny_holding→jx,FuncData→jS,wpAny_field→kE,codeAny_builtin→mz,wpAny_truthy_bool→nQ,wpAny_newObj_type→nR,wpAny_seqItems→nU,plainId_quiet→nX,bootBuiltins→pK,sysModules→pP,builtinsNs→rh,binaryOp→rA,wpAny_call_entry→sM,keywordEach→uF,wpAny_rule→uG,getMethod→uJ,bindArgs→uO,backToKw→uP,wpAny_callSpecial?_slot→v9,wpAny_setField→wy,pickOrder→wH,wpAny_Call_Name_kw→yv,wpAny_pyIter_list→yz,wpAny_passesOwn→yD,wpAny_typeOf→yI,wpAny_letGo→yK,typeLookup→yQ,call_meets→yR,callWith→y3,wpAny_setField_rec→AX,wpAny_setState_of→A0,wpAny_updateSeq→A6,wpAny_attempt→A9,codeAny_mono→Bb,assignEach→Bi,tupleKind→Bo,treeTable→Bp,scanBound→Bq,relayAll→Bw,builtinLookup_eq_fast→Dt,wpAny_isInstance→Dx,wpAny_execs_nil→Dz,typeLookup_type→DG,importedModules→DI,wpAny_tryCatch→DU,recursionLimit→DX,behindInMarks→D1,attributeBase→D3,wpAny_of_eq→Ea,wpAny_load→Ef,updateSeq→Er,swapsWith→Es,tupleKind_room_in1→Iv,wpAny_specialOf→IL,letOwnedTupleGo→IM,wpAny_newTuple→IY,firstArgMember→IZ,wpAny_onRaise→Jf,wpAny_newList→Jg,wpAny_call→Jz,isInstance→JA,intKind_is→JB,seqItems?→J4,seqIndex?→J6,wpAny_updateSeq_pair→Qw,wpAny_setEntries_of→QB,foldedSetIterable→QG,wpAny_eqBool_int→QL,wpAny_askSetting→QM,wpAny_loadPart'→QQ,wpAny_ite_split→QR,wpAny_runValue→QW,isSubtype_type→QX,isSubtype_stop→QY,wpAny_standAt→Rc,seqIndex_neg→Rp,wpAny_comprehension_free→aaq,wpAny_pyNext_list_item→aax,wpAny_pyNext_list_end→aaE,wpAny_isTrue_Compare1→aaF
open Nat renaming le_refl→aA,zero_le→a8,le_trans→cu,ne_of_lt→cC,le_of_lt→cY,lt_of_lt_of_le→gj,lt_irrefl→je,le_succ→jy,lt_succ_of_lt→nT,le_of_eq→pM,lt_succ_self→qW,ne_of_gt→qZ,lt_trans→q8,sub_self→uB,lt_of_le_of_lt→we,le_succ_of_le→wm,succ_le_succ→wt,not_lt_zero→wx,succ_mul→Bc,beq→BD,le_add_right→Dy,min_le_left→DN,mul_le_mul_right→Ip,lt_trichotomy→IA,succ_ne_self→II,mul_le_mul→Jb,lt_of_lt_of_eq→QD,one_shiftLeft→QI,succ_ne_zero→QN,min_eq_left→QS,and_le_left→QT,succ_pos→Rt,testBit_two_pow_sub_one→aag,add_mul_mod_self_left→aan,eq_zero_of_not_pos→aaz,add_sub_cancel'→aaW,pos_of_ne_zero→aa4,or_lt_two_pow→abe,lt_of_succ_lt→abf
open Or renaming inl→aE,inr→zA
open List renaming length_map→aL,getElem?_eq_getElem→aM,mem_of_getElem?→bu,getElem?_eq_some_iff→bK,length_append→bL,mem_cons→bX,mem_singleton→cD,size_toArray→cN,getElem?_map→cO,replicate→cW,mem_cons_self→du,mem_append→dH,Perm→dN,mem_cons_of_mem→eL,mem_map→eM,mem_append_right→fb,map_append→fv,length_cons→fR,getD_eq_getElem?_getD→gg,length_take→gm,map_cons→gq,getElem?_set_self→gC,take_add_one→jv,mem_filter→jw,take_of_length_le→jP,getElem?_append_left→kA,getElem?_set_ne→lG,length_range→lH,lookup_cons→lJ,length_set→mD,getElem?_append_right→nK,take_append_drop→nM,mem_append_left→nN,mem_range→nW,getElem?_of_mem→pG,getElem_of_mem→pI,append_assoc→pJ,getElem?_eq_none→qV,mem_nil_iff→qX,length_drop→sN,range_succ→sO,of_mem_zip→sP,append_nil→sQ,any_cons→sS,Pairwise→sT,lookup→sV,pairwise_iff_getElem→uq,length_eq_zero_iff→ur,length_filter_le→uu,replicate_succ→uw,map_map→uD,perm_append_comm→wc,pairwise_append→yu,filter_append→yw,mem_flatMap→yA,getElem_mem→yB,filter_cons→yC,lookup_cons_self→AS,mem_of_getLast?→AV,mem_filterMap→AY,nodup_append→A2,flatten_cons→A3,ext_getElem?→A4,take_length→A5,nodup_cons→A7,all_cons→Ba,map_set→Bd,all_map→Be,foldl→Bk,Nodup→Bm,pairwise_singleton→Ds,length_replicate→Du,sum_cons→D4,mem_or_eq_of_mem_set→Ik,getElem?_replicate→Io,mem_of_mem_take→Iq,filterMap_cons→Ir,pairwise_cons→Iw,getElem?_drop→Iy,reverse_cons→IC,length_tail→IJ,all_eq_true→IK,length_zip→IS,forIn_cons→IT,nodup_nil→Jc,drop_drop→Jd,set_set→Jq,map_nil→Jr,mem_zipIdx_iff_getElem?→Qf,dropLast_concat_getLast→Qg,drop_eq_getElem_cons→Qh,eq_of_mem_replicate→Qm,getElem?_cons_succ→Qp,filter_cons_of_pos→Qq,drop_eq_nil_of_le→Qt,mem_of_mem_tail→Qx,mem_of_mem_drop→Qy,flatMap_append→QC,length_zipIdx→QE,zipIdx_cons→QO,getElem_zip→QP,foldl_cons→QU,drop_zero→QZ,map_tail→Rh,cons→Ti,eraseIdxIfInBounds_toArray→aab,getLast?_eq_some_getLast→aad,eq_nil_of_length_eq_zero→aae,getLast?_eq_none_iff→aao,getElem?_zip_eq_some→aap,length_filterMap_le→aar,lookup_eq_some_iff→aat,filter_cons_of_neg→aau,pairwise_lt_range→aaA,length_eq_one_iff→aaB,length_singleton→aaG,getElem?_toArray→aaH,getElem?_reverse→aaI,filterMap_append→aaJ,length_eraseIdx→aaO,toList_toArray→aaX,map_congr_left→aaY,length_reverse→aaZ,length_pos_iff→aa0,getElem?_take→aa5,take_sublist→abg,reverse_perm→abh,pairwise_map→abi,getElem?_set→abj,flatMap_cons→abk,count_append→abl,not_mem_nil→abr,nodup_range→abt,map_snd_zip→abu,getElem_inj→abv,countP_cons→abw,cons_append→abx,any_eq_true→aby
open PyProof.Rows renaming wpS_bind→aV,wpS_pure→a9,pendingOf→cZ,boot_isinstance→jd,SortKind→mJ,wpS_forRange→nY,boot_tuple→rj,failedOf→rk,wpS_mono→sZ,wpS_modify→wG,callWith_type1→yq,get?_update_seq→DJ,listUpdate_at→Jh,seqEpoch_at→Jt,slot_tuple_getitem→Qe,subscriptTail→Rf,subscriptTail_builtinR→aay
open PySem.Heap renaming get?_push_of_some→bh,lt_size→bH,get?_push_size→dh,SameBut→fU,size_push→kC,get?_update_self→yt,get?_update_ne→Dv,ExtBut→Ju,get?_update_other→aaC
open Option renaming some→b9,map_eq_some_iff→qU,bind_eq_some_iff→Dr,map_some→IQ,isSome_iff_exists→Ql,isSome_map→QH
open Option.some renaming inj→cE,injEq→wj
open Ne renaming symm→cH
open Int renaming toNat_natCast→di,zero_add→wB,natCast_nonneg→yx,emod_nonneg→yE,emod_lt_of_pos→AZ,toNat_of_nonneg→Iu
open PySem.Value renaming ref→dj,int→eO,type→iW,none→jz,bool→uH,str→uK,float→RC,isInt_shape→abc
open Bool renaming false_ne_true→dU,and_eq_true→lK,false_eq_true→yy,false_and→D0,true_and→D5,eq_iff_iff→IX,and_eq_true_iff→QA,false_or→Ri
open PySem.SetTable renaming below→fk,grown→yG,has→Rr,probe→abS,slot→ab4
open PySem.PassesOwn renaming never→gn
open Array renaming length_toList→iu,getElem?_toList→pF,toList_append→AW,toList_push→IG,getD→JF,getElem?_eq_getElem→Qj,getElem?_eq_none→Qv,eq_empty_of_size_eq_zero→aac,perm_iff_toList_perm→aam,toList_reverse→aaR,getElem_toList→aaS,size_extract→aa6,toList_zip→abz,toList_map→abA
open PySem.Obj renaming mapSeq→iw,mapFields→uA,putSet→Bj,data_mapFields→aa3
open PySem.SeqAt renaming EqAt→iX
open PySem.Heap.SameBut renaming update→jQ
open False renaming elim→mH
open PySem.Around renaming under_plainId→nO,under→Rv,frames_deeper→aaT
open True renaming intro→nZ
open PySem.W renaming boot_heap→oh,boot_drawn→JD,boot_toks→J7
open PySem.Str renaming ofString→pL
open Prod renaming mk→qa
open PySem.NameKind renaming free→qY
open PySem.Builtin.SmallTypes renaming nextOf→sL,ownedTupleIsFree→Ih,ownedTupleHandOut→aaa
open PySem.Builtin renaming bitNot→sR,bitAnd→A8,bitOr→Jj
open PySem.PyData renaming eqv→sW,canLayAll0→A1,eqvAll→A',int→Eh,depthAll→IP,canLay0→Ja,strOk→Jp
open PySem.F renaming called_set→wC,plain_extend_loop→Dw,slot_tuple_iterator_next→Ij,plain_list_iadd→IF,slot_zip_next→IW,slot_list_getattribute→Qn,called_tuple→Q0,args_tuple_iterator_next_1→aaf,entry_tuple_iterator_next→aah,slot_enumerate_next→aaK,plain_proto_collect→aaL,entry_proto_collect→aaM,args_object_init_2→aaP,entry_extend_loop→aa1
open Prod.mk renaming inj→wD,injEq→Ji
open Classical renaming byContradiction→yr,propDecidable→Qs,not_forall→Qz
open PySem.Builtin.Tuple renaming tupleExact→AR
open List.Perm renaming append_left→AU,refl→DZ,append_right→Qu
open List.Nodup renaming length_le_of_subset→Dq
open PySem.Walks renaming list→Eg
open PySem.Builtin.List renaming listExtendWith→Ii,listTooLong→Im,listSameRef→Qo,listLengthHint→aai
open PySem.Builtin.Slice renaming slicePlaces→Il,sliceAdjust→Qi,sliceApplied→aal
open PySem.SetTable.below renaming go→Iz
open List.Pairwise renaming nil→ID,map→IE,imp_of_mem→JC
open ForInStep renaming yield→IU
open PyProof.Rows.SortSt renaming mk'→JE
open PyProof.Rows.F renaming plain_set_update_loop→Qr,entry_set_update_loop→aav
open PySem.Calls renaming spliced_cons→QF,spliced_nil→QJ,Name_function_global→aak,callWith_builtin→aaD,evalArgs_plain→aaQ
open PySem.Shared renaming TypeIs→Rg
open PySem.pickOrder renaming go→Rq
open Exists renaming intro→Ru
open PyProof.Rows.IsTup renaming new→Tj
open PySem.Builtin.Builtins renaming bindParams→aaj
open PySem.Builtin.Frozenset renaming sizeOf→aas
open PySem.Builtin.Dict renaming updateFrom→aaw
open PySem.SeqAt.EqAt renaming none_int→aaU,int_none→aaV
open PySem.SetTable.probe renaming go→abd
open PySem.Heap.DictOf renaming new→abK
open PyProof.Rows.IntsAre renaming int_at→abT
open List.cons renaming inj→ab5
open Nat.succ renaming inj→ach
open PySem.SetTable.Met.empty renaming injEq→aoD
open PySem.F renaming plainAttrs_list→m_,slot_list_append→n_,type_list_append→o_
open PySem renaming boot_len→q_,mem_of_lookup→t_
open PySem.Paired renaming length→r_
open PySem.W renaming Frag→u_,kitOne→v_,findIn→w_,keepIn→x_,kitCls→y_,mg_none_of→z_,Looks→s_,mroIn→A_,fnOf→B_,mg_of→C_,InstAt→D_,kia_one→E_,hasDictIn→F_,callWith_K→G_
open PySem PySem.Spec PyProof.Rows
theorem xz{α:Sort u}{a:α}:a=a:=Eq.refl a
abbrev PySem.Heap.zH(h:PySem.Heap):=h.objs.size
abbrev PySem.Shared.zS(s:PySem.Shared):=s.heap.objs.size
abbrev l_:String:="set"
abbrev H_:String:="look"
abbrev I_:String:="swap"
abbrev J_:String:="name"
abbrev K_:String:="parts"
abbrev L_:String:="__init__"
abbrev M_:String:="clear"
abbrev N_:String:="empties"
abbrev O_:String:="reg"
abbrev P_:String:="row"
abbrev Q_:String:="skip"
abbrev R_:String:="number"
abbrev S_:String:="kind"
abbrev T_:String:="put"
abbrev U_:String:="self"
abbrev V_:String:="nexts"
abbrev W_:String:="add"
abbrev X_:String:="is_whole"
abbrev Y_:String:="tuple"
abbrev Z_:String:="carry"
abbrev ac1:String:="told"
abbrev ac2:String:="place"
abbrev an3:String:="neighbours"
abbrev ap4:String:="_law_script"
abbrev ap5:String:="other"
abbrev ap6:String:="bounds_of"
abbrev ap7:String:="thing"
abbrev ap8:String:="clerk"
noncomputable section
theorem dk{p:Prop}(h:p:=by decide +kernel):p:=h
theorem qc{p:Prop}(h:p:=by decide):p:=h
theorem om{p:Prop}(h:p:=by omega):p:=h
theorem li{p:Prop}(h:p:=by lia):p:=h
abbrev zLa:List PySem.Str:=["self","told"]
abbrev zLb:List PySem.Str:=["self","clerk"]
abbrev zLc:List PySem.Str:=["self"]
abbrev zLd:List PySem.Str:=["machine"]
abbrev zLe:List PySem.Str:=["self","clerk","step"]
abbrev zLf:List PySem.Str:=["self","name"]
abbrev zLg:List PySem.Str:=["_law_script","_law_program_here","_law_machine"]
abbrev zLh:List PySem.Str:=["_law_program_here","_law_clerk","_law_name"]
abbrev zLi:List PySem.Str:=["_law_cell","_law_k","_law_amount"]
abbrev zLj:List PySem.Str:=["_law_draw","_law_length","_law_names"]
abbrev zLk:List PySem.Str:=["self","name","number","deed"]
abbrev zLl:List PySem.Str:=["self","program","kind"]
abbrev zLm:List PySem.Str:=["_law_script","_law_k"]
abbrev zLn:List PySem.Str:=["self","place"]
abbrev zLo:List PySem.Str:=["self","clerk","name"]
abbrev zLp:List PySem.Str:=["_law_cell","_law_k"]
abbrev zLq:List PySem.Str:=["row","befores"]
abbrev zLr:List PySem.Str:=["numbers","why"]
abbrev zLs:List PySem.Str:=["program"]
abbrev zLt:List PySem.Str:=["_law_cell","_law_amount"]
abbrev zLu:List PySem.Str:=["step","place","regs"]
abbrev zLv:List PySem.Str:=["told","place","length"]
abbrev zLw:List PySem.Str:=["part"]
abbrev zLx:List PySem.Str:=["step","place","row"]
abbrev zLy:List PySem.Str:=["step","names"]
abbrev zLz:List PySem.Str:=["self","setting"]
abbrev zLA:List PySem.Str:=["names","others"]
namespace L2
end L2
namespace L3
end L3
namespace L4
end L4
namespace L5
end L5
namespace HT
open PySem.W
def ES(tb:String->Option Builtin)(p:k_)(w:j_)(n₀:Nat)(ann:Option f_):Nat->SharedT->Thread->Option SharedT
 | 0,_,_=>b_
 | n+1,s,t=>match through t with
  | true=>a_ s
  | false=>match stepOk n₀ ann t with
   | false=>b_
   | true=>match stepT (denote tb) p w s t with
    | some (s',t')=>ES tb p w n₀ ann n s' t'
    | none=>b_
theorem RE{w:j_}:∀{n:Nat} {s s':SharedT} {t:Thread},ES tb p w n₀ ann n s t=a_ s'->topRun tb p w n₀ ann n s.abs t=a_ s'.abs
 | 0,_,_,_,h=>by cases h
 | n+1,s,s',t,h=>by
  unfold ES at h;unfold topRun;cases he:through t with
  | true=>rw[he]at h;cases h;rfl
  | false=>
   rw[he]at h;cases hk:stepOk n₀ ann t with
   | false=>rw[hk]at h;cases h
   | true=>
    rw[hk]at h;cases hs:stepT (denote tb) p w s t with
    | none=>rw[hs]at h;cases h
    | some r=>obtain⟨s₂,t₂⟩:=r;rw[hs]at h;rw[stepT_spec hs];exact RE h
def UC:List Obj->Nat->BT->BT
 | [],_,t=>t
 | o::r,i,t=>UC r (i+1) (t.ins i o)
def Np(P:Params):BT:=UC (oh P).objs.toList 0 .nil
def BY(P:Params):Nat:=(oh P).objs.size
def Nq(P:Params):Life:=(oh P).life
def akV(P:Params):Option Value:=(oh P).nsMap eN "__annotations__"
theorem boot_abs(P:Params):absHeap (Np P) (BY P) (Nq P)=oh P:=by kernel_rfl
theorem ahI(P:Params):((oh P).isNs eN,(oh P).objs.size)=(c_,BY P):=by kernel_rfl
def VH(P:Params)(os:OsState):SharedT:=⟨Np P,BY P,Nq P,#[],JD,J7,os⟩
def lW(p:k_)(w:j_)(N:Nat)(os:OsState):Option SharedT:=ES Bp p w (BY w.params) (akV w.params) N (VH w.params os) (topStub p)
def held(p:k_)(P:Params)(s:g_):Bool:=staticsOk (DI p.main.body) (oh P) s.heap&&namesBound p s.heap&&gensDone s&&laidKept (oh P) s.heap
theorem both{α β γ:Type}{o:Option α}{f:α->β}{g:α->γ}{b:β}{c:γ}(h1:o.map f=a_ b)(h2:o.map g=a_ c):o.map (λs=>(f s,g s))=a_ (b,c):=by
 cases o with
 | none=>cases h1
 | some s=>cases h1;cases h2;rfl
theorem acE{w:j_}(a:(s₀.heap.isNs eN&&s₀.gens.size == 0)=c_)(r:topRun Bp p w s₀.heap.objs.size (s₀.heap.nsMap eN "__annotations__") N s₀ (topStub p)=a_ s₁)
  (b:(staticsOk (DI p.main.body) s₀.heap s₁.heap&&namesBound p s₁.heap&&gensDone s₁&&laidKept s₀.heap s₁.heap)=c_):topFrom Bp p w N s₀=a_ s₁:=by
 unfold topFrom;rw[a];dsimp only;rw[r];dsimp only[Option.bind];rw[b]
theorem ahp(e:opening p=plainProg p.main.scope.names)(hN:Nat.ble 600 N=c_)(f:∀s,fenceModules? p s=a_ s)
  (run:∀(w:j_) (os:OsState),(lW p w N os).map (λs=>(held p w.params s.abs,(openSeen q loose (DI p.main.body) Xt c_ s.abs,Yf s.abs)))=a_ (c_,(openGood q loose,Ya w))):LeftO p q loose Xt Yf Ya N:=λw=>by
 obtain⟨⟨h,gs,d,k,os⟩,e1,e'⟩:=qU.mp (boot_open e hN f w);obtain⟨rfl,rfl,rfl,rfl⟩:h=oh w.params/\gs=Array.mk []/\d=JD/\k=J7:=by simpa using e'
 obtain⟨s₁,r,l⟩:=qU.mp (run w os);obtain⟨l1,l2⟩:=wD l;obtain⟨z1,z2⟩:=wD (ahI w.params);have r':=RE r
 have ea:(VH w.params os).abs=⟨oh w.params,Array.mk [],JD,J7,os⟩:=by
  show (⟨absHeap (Np w.params) (BY w.params) (Nq w.params),_,_,_,_⟩:g_)=_;rw[boot_abs];rfl
 rw[ea]at r';have t:topFrom Bp p w N ⟨oh w.params,Array.mk [],JD,J7,os⟩=a_ s₁.abs:=acE (by rw[z1];rfl) (by show topRun Bp p w (oh w.params).objs.size _ N _ _=_;rw[z2];exact r') l1;unfold openEnds;rw[e1];show (topFrom Bp p w N _).map _=_;rw[t];exact congrArg a_ l2
end HT
namespace TL
open PySem.SeqAt L2 L3
def qv:Program:=W.view PySem.Challenge.rw_traylate_k92_whole_rings_at_fault.prog [0,2,3,4,5,6,7,8,10,11,12,13,14,15,16,17,18,19,20,21,22,23,24,25,27,28,29,30,32,33,34,35,36,37,39,40,41,43,44,45,46,48,49,50,51,52,53,54,55,57,58,59,60,62,63,64,65,66,67,68,69,70]
end TL
section
open PySem.W
abbrev TL.rn(w:j_)(os:OsState):=HT.lW PySem.Challenge.rw_traylate_k92_whole_rings_at_fault.row.prog w 13228 os
abbrev TL.lo:List Str:=["Machine","KINDS"]
theorem TL.lw:looseW TL.qv []=TL.lo:=by kernel_rfl
theorem TL.lwS:W.OpenLaw.wellSaid PySem.Challenge.rw_traylate_k92_whole_rings_at_fault=true:=by kernel_rfl
theorem TL.l0(w:j_)(os:OsState):(TL.rn w os).map (λs=>((s.abs.heap.keysOk TL.lo ((recsOf TL.qv).map (·.name)) ((litsOf TL.qv).map (·.1)) ((clssOf TL.qv TL.lo).map (·.name))),((plainSeenE TL.qv TL.lo s.abs))))=a_ (c_,(plainGoodE TL.qv TL.lo)):=by kernel_rfl
theorem TL.l1(w:j_)(os:OsState):(TL.rn w os).map (λs=>(wideSeen TL.qv s.abs,clsSeenW TL.qv [] s.abs))=a_ (wideGood TL.qv,clsGoodW TL.qv []):=by kernel_rfl
theorem TL.l2(w:j_)(os:OsState):(TL.rn w os).map (λs=>((plainSeenD TL.qv [] s.abs),((HT.held PySem.Challenge.rw_traylate_k92_whole_rings_at_fault.row.prog w.params s.abs),((s.abs.heap.bmainOk&&(valsOk TL.qv s.abs.heap&&(!importsNone TL.qv||s.abs.heap.noSeerOk)))))))=a_ (plainGoodD TL.qv [],(c_,(c_))):=by kernel_rfl
theorem TL.l3(w:j_)(os:OsState):(TL.rn w os).map (λs=>((((recsOf TL.qv).map λd=>s.abs.heap.tab0Ok d.name).take 22 |>.all id),((s.abs.heap.bltView))))=a_ (c_,(bltViewBooted)):=by kernel_rfl
theorem TL.l4(w:j_)(os:OsState):(TL.rn w os).map (λs=>((recsOf TL.qv).map λd=>s.abs.heap.tab0Ok d.name).drop 22 |>.all id)=a_ true:=by kernel_rfl
theorem TL.l5(w:j_)(os:OsState):(TL.rn w os).map (λs=>(((((recsOf TL.qv).map (·.name)).map (s.abs.heap.shapeAt eN)).take 18),(((ownsOf TL.qv).all (λo=>s.abs.heap.ownExcOk o.name o.chain o.bm o.newId&&s.abs.heap.quietOk o.name)&&(s.abs.heap.noLimitOk&&s.abs.heap.noDigitsOk)),((pinSeenD TL.qv (drecsOf TL.qv) s.abs),((s.abs.heap.accountedOkI (DI PySem.Challenge.rw_traylate_k92_whole_rings_at_fault.row.prog.main.body)&&(s.abs.heap.isNs eN&&(s.abs.heap.isNs rh&&(tablesOk TL.qv s.abs.heap&&((W.xlAt TL.qv [] s.abs&&W.recOk PySem.Challenge.rw_traylate_k92_whole_rings_at_fault.row.records s.abs)&&(s.abs.gens.size == 0)))))))))))=a_ ((((recsOf TL.qv).take 18).map λd=>a_ d.shape),(c_,(pinGoodD (drecsOf TL.qv),(c_)))):=by kernel_rfl
theorem TL.l6(w:j_)(os:OsState):(TL.rn w os).map (λs=>(((recsOf TL.qv).map (·.name)).map (s.abs.heap.shapeAt eN)).drop 18)=a_ ((((recsOf TL.qv).drop 18).map λd=>a_ d.shape)):=by kernel_rfl
end
namespace L2
def inClass(s:Stmt)(j:Nat):Stmt:=match s with
 | .ClassDef _ _ _ body _ _ _ _ _ _ _=>body.getD j (.Pass ⟨0,0,0,0⟩)
 | _=>.Pass ⟨0,0,0,0⟩
def kI(s:Stmt):Arguments:=match s with
 | .FunctionDef _ a _ _ _ _ _ _ _ _=>a
 | _=>{ posonlyargs:=[],args:=[],vararg:=b_,kwonlyargs:=[],kw_defaults:=[],kwarg:=b_,defaults:=[] }
def iL(s:Stmt):List Stmt:=match s with
 | .FunctionDef _ _ b _ _ _ _ _ _ _=>b
 | _=>[]
def aS(s:Stmt):Scope:=match s with
 | .FunctionDef _ _ _ _ _ _ sc _ _ _=>sc
 | _=>{ kind:=.function,names:=[],isGenerator:=d_,isCoroutine:=d_ }
end L2
namespace TL
open L2 L3
abbrev k7:Int:=1000000000000000000000000000000000000000000000000000000000000
def top(i:Nat):Stmt:=PySem.Challenge.pw_traylate_k92_whole_rings_at_fault.main.body.getD i (.Pass ⟨0,0,0,0⟩)
abbrev FH:Stmt:=inClass (top 14) 0
abbrev BF:Stmt:=top 22
abbrev Bx:Stmt:=top 23
abbrev EW:Stmt:=top 24
abbrev Lg:Stmt:=top 25
abbrev FG:Stmt:=inClass (top 15) 0
abbrev FJ:Stmt:=inClass (top 16) 0
abbrev FE:Stmt:=inClass (top 17) 0
abbrev Fd:Stmt:=inClass (top 18) 0
abbrev E':Stmt:=inClass (top 19) 0
abbrev Fb:Stmt:=inClass (top 21) 0
abbrev Lc:Stmt:=top 22
abbrev Gz:Stmt:=inClass (top 40) 0
abbrev MF:Stmt:=inClass (top 40) 1
abbrev Km:Stmt:=inClass (top 40) 2
abbrev EA:Stmt:=inClass (top 40) 3
abbrev LR:Stmt:=inClass (top 40) 4
abbrev Le:Stmt:=inClass (top 40) 5
abbrev Kl:Stmt:=inClass (top 40) 6
abbrev Ld:Stmt:=top 41
end TL
namespace TL
open PySem.SeqAt L2 L3 L4
abbrev Fe:Stmt:=inClass (top 14) 5
abbrev Ek:Stmt:=inClass (top 19) 3
abbrev Ed:Stmt:=inClass (top 20) 0
abbrev Fc:Stmt:=inClass (top 46) 0
abbrev L6:Stmt:=inClass (top 46) 1
abbrev LV:Stmt:=inClass (top 46) 2
abbrev Kq:Stmt:=inClass (top 46) 3
abbrev Lk:Stmt:=inClass (top 46) 4
abbrev NT:Stmt:=inClass (top 46) 5
abbrev Lm:Stmt:=inClass (top 46) 6
abbrev LX:Stmt:=inClass (top 46) 7
abbrev Ln:Stmt:=inClass (top 46) 8
abbrev Ll:Stmt:=inClass (top 46) 9
abbrev L0:Stmt:=inClass (top 46) 10
abbrev MS:Stmt:=inClass (top 46) 11
abbrev Ko:Stmt:=inClass (top 46) 12
abbrev LO:Stmt:=inClass (top 46) 15
abbrev Kk:Stmt:=inClass (top 46) 18
abbrev LY:Stmt:=inClass (top 46) 20
abbrev MM:Stmt:=inClass (top 46) 23
abbrev NV:Stmt:=top 28
abbrev MP:Stmt:=top 29
abbrev JN:Stmt:=top 30
abbrev Kn:Stmt:=top 43
abbrev Ce:Stmt:=top 49
abbrev L1:Stmt:=top 50
abbrev Lq:Stmt:=top 52
abbrev Lp:Stmt:=top 51
abbrev EX:Stmt:=top 53
abbrev Ls:Stmt:=top 58
abbrev MG:Stmt:=top 59
abbrev Jk:Stmt:=top 45
abbrev LZ:Stmt:=top 57
abbrev Lo:Stmt:=top 62
abbrev LU:Stmt:=top 63
abbrev NS:Stmt:=top 66
abbrev BG:Stmt:=top 67
abbrev Lf:Stmt:=top 64
abbrev MK:Stmt:=top 65
abbrev Kr:Stmt:=top 54
abbrev MJ:Stmt:=top 48
abbrev Lr:Stmt:=top 55
abbrev MQ:Stmt:=inClass (top 46) 21
abbrev LS:Stmt:=top 60
abbrev MO:Stmt:=top 44
abbrev Li:Stmt:=inClass (top 46) 13
abbrev EV:Stmt:=inClass (top 14) 2
abbrev Ec:Stmt:=inClass (top 21) 1
abbrev ME:Stmt:=top 32
abbrev Kj:Stmt:=top 33
abbrev MN:Stmt:=top 34
abbrev Kp:Stmt:=top 35
abbrev Lj:Stmt:=top 36
abbrev LW:Stmt:=top 37
abbrev Lh:Stmt:=top 68
abbrev NR:Stmt:=top 69
abbrev xg:Stmt:=top 70
end TL
namespace HT
open PySem.W
theorem rZ{α β γ:Type}{o:Option α}{f:α->β}{g:α->γ}{b:β}{c:γ}(h:o.map (λs=>(f s,g s))=a_ (b,c)):o.map f=a_ b:=by
 cases o with
 | none=>cases h
 | some s=>
  have h':(f s,g s)=(b,c):=cE h;exact congrArg a_ (wD h').1
theorem nh{α β γ:Type}{o:Option α}{f:α->β}{g:α->γ}{b:β}{c:γ}(h:o.map (λs=>(f s,g s))=a_ (b,c)):o.map g=a_ c:=by
 cases o with
 | none=>cases h
 | some s=>
  have h':(f s,g s)=(b,c):=cE h;exact congrArg a_ (wD h').2
theorem tM{α:Type}{o:Option α}{f g:α->Bool}(h1:o.map f=a_ c_)(h2:o.map g=a_ c_):o.map (λs=>f s&&g s)=a_ true:=by
 cases o with
 | none=>cases h1
 | some s=>
  have p:f s=true:=cE h1;show a_ (f s&&g s)=a_ c_;rw[p];exact h2
theorem vh{α:Type}{o:Option α}{f g:α->Bool}(h:o.map (λs=>f s&&g s)=a_ c_):o.map f=a_ c_/\o.map g=a_ true:=by
 cases o with
 | none=>cases h
 | some s=>
  have p:=QA.mp (cE h);exact⟨congrArg a_ p.1,congrArg a_ p.2⟩
theorem td{α β γ:Type}{o:Option α}{F:α->List β}{l:List γ}{g:γ->β}(k:Nat)(h1:o.map (λs=>(F s).take k)=a_ ((l.take k).map g))(h2:o.map (λs=>(F s).drop k)=a_ ((l.drop k).map g)):o.map F=a_ (l.map g):=by
 cases o with
 | none=>cases h1
 | some s=>
  refine congrArg a_ ?_;rw[<-nM k (F s),show (F s).take k=(l.take k).map g from cE h1,show (F s).drop k=(l.drop k).map g from cE h2,<-fv,nM]
theorem LH{α:Type}{o:Option α}{F:α->List Bool}(k:Nat)(h1:o.map (λs=>((F s).take k).all id)=a_ c_)(h2:o.map (λs=>((F s).drop k).all id)=a_ c_):o.map (λs=>(F s).all id)=a_ true:=by
 cases o with
 | none=>cases h1
 | some s=>
  refine congrArg a_ ?_;show (F s).all id=c_;rw[<-nM k (F s),List.all_append,show ((F s).take k).all id=c_ from cE h1,show ((F s).drop k).all id=c_ from cE h2];rfl
theorem mkS(h1:d=D)(h2:o=c_)(h3:g=c_)(h4:b=c_)(h5:n=c_):(⟨d,o,[],g,b,n,0⟩:Seen)=⟨D,c_,[],c_,c_,c_,0⟩:=by
 subst h1 h2 h3 h4 h5;rfl
theorem tb_{α β:Type}{o:Option α}{l:List β}{f:α->β->Bool}(h:o.map (λs=>(l.map λd=>f s d).all id)=a_ c_):o.map (λs=>l.all λd=>f s d)=a_ true:=by
 cases o with
 | none=>cases h
 | some s=>
  refine congrArg a_ ?_;have e:(l.map λd=>f s d).all id=true:=cE h;rw[Be]at e;exact e
theorem ago{w:j_}{N:Nat}{os:OsState}{Xt:g_->Bool}(hL:looseW q loose=L)
  (h3:(lW p w N os).map (λs=>s.abs.heap.keysOk L ((recsOf q).map (·.name)) ((litsOf q).map (·.1)) ((clssOf q L).map (·.name)))=a_ c_)
  (h5:(lW p w N os).map (λs=>s.abs.heap.accountedOkI mods&&(s.abs.heap.isNs eN&&(s.abs.heap.isNs rh&&(tablesOk q s.abs.heap&&(Xt s.abs&&(s.abs.gens.size == 0))))))=a_ c_)
  (h1:(lW p w N os).map (λs=>((recsOf q).map (·.name)).map (s.abs.heap.shapeAt eN))=a_ ((recsOf q).map λd=>a_ d.shape))
  (h6:(lW p w N os).map (λs=>(ownsOf q).all (λo=>s.abs.heap.ownExcOk o.name o.chain o.bm o.newId&&s.abs.heap.quietOk o.name)&&(s.abs.heap.noLimitOk&&s.abs.heap.noDigitsOk))=a_ c_)
  (h2:(lW p w N os).map (λs=>s.abs.heap.bltView)=a_ bltViewBooted)
  (h7:(lW p w N os).map (λs=>(recsOf q).all λd=>s.abs.heap.tab0Ok d.name)=a_ c_)
  (h8:(lW p w N os).map (λs=>s.abs.heap.bmainOk&&(valsOk q s.abs.heap&&(!importsNone q||s.abs.heap.noSeerOk)))=a_ c_)
  (h4:(lW p w N os).map (λs=>(pinSeenD q (drecsOf q) s.abs,(plainSeenE q L s.abs,(plainSeenD q loose s.abs,(wideSeen q s.abs,clsSeenW q loose s.abs)))))=a_ ((pinGoodD (drecsOf q),(plainGoodE q L,(plainGoodD q loose,(wideGood q,clsGoodW q loose)))))) :
  (lW p w N os).map (λs=>openSeen q loose mods Xt c_ s.abs)=a_ (openGood q loose):=by
 subst hL;obtain⟨a1,h5⟩:=vh h5;obtain⟨a2,h5⟩:=vh h5;obtain⟨a3,h5⟩:=vh h5;obtain⟨a4,h5⟩:=vh h5;obtain⟨a5,a6⟩:=vh h5;obtain⟨b1,b2⟩:=vh h6;obtain⟨c1,h8⟩:=vh h8;obtain⟨c2,c3⟩:=vh h8
 have sn:(lW p w N os).map (λs=>seen ((recsOf q).map (·.name)) (ownsOf q) [] { heap:=s.abs.heap,drawn:=s.abs.drawn,toks:=s.abs.toks,os:=s.abs.os })=a_ (expectedOf q):=by
  generalize lW p w N os=o at h1 a2 a3 b1 b2 ⊢;cases o with
  | none=>cases h1
  | some s=>
   refine congrArg a_ ?_;exact mkS (cE h1) (cE b1) (cE a2) (cE a3) (cE b2)
 have tb:(lW p w N os).map (λs=>tabsOk q s.abs)=a_ true:=tM (tM (tM h7 c1) c2) c3;have a:=both sn (both h2 (both (tM (tM (tM (tM (tM (tM h3 a1) a2) a3) a4) a5) a6) (both tb h4)));exact a
end HT
namespace HT
open PySem.W
theorem Ly{g:e_->Option Obj}:∀l:List e_,(l.filterMap λa=>(g a).map λo=>(a,o)).lookup a=a_ o->g a=a_ o
 | [],h=>by cases h
 | b::r,h=>by
  rw[Ir]at h;cases e:g b with
  | none=>rw[e]at h;exact Ly r h
  | some x=>
   rw[e]at h;dsimp only[Option.map]at h;rw[lJ]at h;cases q:a == b with
   | true=>rw[q]at h;cases h;rw[beq_iff_eq.mp q];exact e
   | false=>rw[q]at h;exact Ly r h
def rf:Option (Option f_)->e_
 | some (a_ (.ref a))=>a
 | _=>0
def GJ:Option (Option f_)->Bool
 | some (a_ (.ref _))=>c_
 | _=>d_
theorem mZ(h:GJ o=c_):o=a_ (a_ (.ref (rf o))):=by
 unfold GJ at h
 split at h
 .rfl
 .cases h
def sj(o:Option (Option f_))(n:Int):Bool:=match o with
 | some (a_ (.int m _))=>decide (m=n)
 | _=>d_
theorem BN(h:sj o n=c_):∃t,o=a_ (a_ (.int n t)):=by
 unfold sj at h
 split at h
 .rename_i m t;exact⟨t,by rw[of_decide_eq_true h]⟩
 .cases h
def OC(o:Option CFound)(f:e_):Bool:=match o with
 | some (.val (.ref a))=>BD a f
 | _=>d_
theorem aiU(h:OC o f=c_):o=a_ (.val (.ref f)):=by
 unfold OC at h
 split at h
 .rw[Nat.eq_of_beq_eq_true h]
 .cases h
abbrev qH:=Str×Str×Arguments×FuncBody×Scope×e_×List (Str×e_)×f_×e_
def bg(K:Frag)(f:e_):Option qH:=match K.lookup f with
 | some ⟨_,_,.func d,_⟩=>a_ (d.name,d.qualname,d.params,d.body,d.scope,d.globals,d.closure,d.defaults,d.builtins)
 | _=>b_
def codeOk(K:Frag)(f:e_)(q:Str):Bool:=match K.lookup f with
 | some ⟨_,_,.func d,_⟩=>codeIn K d.code q
 | _=>d_
theorem wV{K:Frag}(h:bg K f=a_ (n,q,A,.stmts B,S,eN,[],.none,rh))(hc:codeOk K f q'=c_) :
  ∃(oc:f_) (od:Option e_) (kV dc pm:f_) (an:Option e_) (cd ct:f_) (sl:Array (Option f_)),K.lookup f=a_ ⟨oc,od,.func (fnOf n q A B S .none kV dc pm an cd ct),sl⟩/\codeIn K cd q'=true:=by
 unfold bg at h;unfold codeOk at hc
 split at h
 .rename_i oc od d sl e
  rw[e]at hc;obtain⟨d1,d2,d3,d4,d5,d6,d7,d8,d9,d10,d11,d12,d13,d14,d15⟩:=d;simp only[wj,Ji]at h;obtain⟨rfl,rfl,rfl,rfl,rfl,rfl,rfl,rfl,rfl⟩:=h;exact⟨oc,od,_,_,_,_,_,_,sl,e,hc⟩
 .cases h
def F6(K:Frag)(f:e_):Option qH:=match K.lookup f with
 | some ⟨_,_,.func d,_⟩=>a_ (d.name,d.qualname,d.params,d.body,d.scope,d.globals,d.closure,.none,d.builtins)
 | _=>b_
def F7(K:Frag)(f:e_)(x:Str):Bool:=match K.lookup f with
 | some ⟨_,_,.func d,_⟩=>(match d.defaults with
  | .ref T=>(match K.lookup T with
   | some ⟨_,_,.seq its _,_⟩=>(match its.toList with
    | [.str y _]=>decide (y=x)
    | _=>d_)
   | _=>d_)
  | _=>d_)
 | _=>d_
theorem ai4{K:Frag}(h:F6 K f=a_ (n,q,A,.stmts B,S,eN,[],.none,rh))(hc:codeOk K f q'=c_)(hd:F7 K f x=c_) :
  ∃(oc:f_) (od:Option e_) (T:e_) (kV dc pm:f_) (an:Option e_) (cd ct:f_) (sl:Array (Option f_)) (c1:f_) (d1:Option e_) (n1:Nat) (t9:Array (Option f_)) (tk:Nat),K.lookup f=a_ ⟨oc,od,.func (fnOf n q A B S (.ref T) kV dc pm an cd ct),sl⟩/\codeIn K cd q'=c_/\K.lookup T=a_ ⟨c1,d1,.seq #[.str x tk] n1,t9⟩:=by
 unfold F6 at h;unfold codeOk at hc;unfold F7 at hd
 split at h
 .rename_i oc od d sl e
  rw[e]at hc hd;obtain⟨d1,d2,d3,d4,d5,d6,d7,d8,d9,d10,d11,d12,d13,d14,d15⟩:=d;simp only[wj,Ji]at h;obtain⟨rfl,rfl,rfl,rfl,rfl,rfl,rfl,_,rfl⟩:=h;cases d8 with
  | ref T=>
   have hd:(match K.lookup T with
    | some ⟨_,_,.seq its _,_⟩=>(match its.toList with
     | [.str y _]=>decide (y=x)
     | _=>d_)
    | _=>d_)=true:=hd
   split at hd
   .rename_i c1 dd1 its n1 t9 e1
    split at hd
    .rename_i y tk ei
     rw[of_decide_eq_true hd]at ei
     have an8:its=#[.str x tk]:=by
      have:=congrArg List.toArray ei;simpa using this
     rw[an8]at e1;exact⟨oc,od,T,_,_,_,_,_,_,sl,c1,dd1,n1,t9,tk,e,hc,e1⟩
    .cases hd
   .cases hd
  | _=>cases hd
 .cases h
def vf(h:i_)(as:List e_)(T:e_):Frag:=as.filterMap λa=>(if BD a T=c_ then b_ else h.get? a).map λo=>(a,o)
theorem RW(e:(vf h as T).lookup a=a_ o):a≠T/\h.get? a=a_ o:=by
 have z:=Ly (g:=λa=>if BD a T=c_ then b_ else h.get? a) _ e
 by_cases y:BD a T=c_
 .rw[if_pos y]at z;cases z
 .rw[if_neg y]at z;exact⟨λq=>y (by rw[q];exact Nat.beq_refl T),z⟩
theorem afF(h:i_)(as:List e_)(T:e_):(vf h as T).In h:=λ_ _ e=>(RW e).2
theorem afE(h:i_)(as:List e_)(T:e_):(vf h as T).lookup T=none:=by
 cases e:(vf h as T).lookup T with
 | none=>rfl
 | some o=>exact absurd xz (RW e).1
def gT(s:SharedT)(a:e_):Option Obj:=match Nat.ble (a+1) s.n with
 | true=>alive ((s.tree.get a).getD default)
 | false=>b_
theorem Xa(s:SharedT)(a:e_):s.abs.heap.get? a=gT s a:=by
 show (absHeap s.tree s.n s.life).get? a=gT s a;unfold gT;cases h:Nat.ble (a+1) s.n with
 | true=>
  have h1:a<s.n:=Nat.le_of_ble_eq_true h;unfold Heap.get?;rw[absHeap_at,if_pos h1];generalize (s.tree.get a).getD default=o;show (match a_ o with | some ⟨_,_,.freed,_⟩=>b_ | o=>o)=alive o;obtain⟨c,d,dt,sl⟩:=o;cases dt <;> rfl
 | false=>exact abs_get_none λz=>by rw[Nat.ble_eq_true_of_le (show a+1<=s.n from z)]at h;cases h
def ve(s:SharedT)(as:List e_)(T:e_):Frag:=as.filterMap λa=>match BD a T with
 | true=>b_
 | false=>(gT s a).map λo=>(a,o)
theorem afD(s:SharedT)(as:List e_)(T:e_):vf s.abs.heap as T=ve s as T:=by
 unfold vf ve
 congr 1
 funext a
 rw[Xa];cases BD a T <;> rfl
def wU:Option Obj->Bool
 | some ⟨.none,b_,.fields vs,sl⟩=>vs.size == 0&&sl.size == 0
 | _=>d_
theorem afz(h:wU o=c_):o=a_ (tabObj #[]):=by
 unfold wU at h
 split at h
 .rename_i vs sl
  rw[lK]at h;have e1:=aac (beq_iff_eq.mp h.1);have e2:=aac (beq_iff_eq.mp h.2);subst e1;subst e2;rfl
 .cases h
def tm(as:List e_)(T:e_)(obs:Frag->Bool×List (Option qH))(val:Bool×List (Option qH)):Hook:=
 ⟨Bool×(Bool×List (Option qH)),λs=>(wU (s.heap.get? T),obs (vf s.heap as T)),λ_=>(c_,val),λ_ h=>∃K:Frag,K.In h/\K.lookup T=b_/\h.get? T=a_ (tabObj #[])/\obs K=val,λ_ s e=>⟨_,afF s.heap as T,afE _ _ _,afz (wD e).1,(wD e).2⟩,λ_ _ _ ⟨K,a,n,t,b⟩ k=>⟨K,a.keeps k,n,k _ _ t,b⟩⟩
theorem aiM{obs:Frag->Bool×List (Option qH)}{val:Bool×List (Option qH)}{o:Option SharedT}(h1:o.map (λs=>wU (gT s T))=a_ c_)(h2:o.map (λs=>obs (ve s as T))=a_ val):o.map (λs=>(tm as T obs val).obs s.abs)=a_ (c_,val):=by
 have e:(λs:SharedT=>(tm as T obs val).obs s.abs)=λs=>(wU (gT s T),obs (ve s as T)):=by
  funext s
  show (wU (s.abs.heap.get? T),obs (vf s.abs.heap as T))=_;rw[Xa,afD]
 rw[e];exact both h1 h2
def vR:f_->e_
 | .ref q=>q
 | _=>0
def vB:f_->Bool
 | .ref _=>c_
 | _=>d_
theorem ajO(h:vB v=c_):v=.ref (vR v):=by cases v <;> first | rfl | cases h
def zP(K:Frag)(f:e_):Addr:=match K.lookup f with
 | some ⟨_,_,.func d,_⟩=>vR d.code
 | _=>0
def F8(K:Frag)(f:e_):Bool:=match K.lookup f with
 | some ⟨_,_,.func d,_⟩=>vB d.code
 | _=>d_
theorem ai6{K:Frag}(h:bg K f=a_ (n,q,A,.stmts B,S,eN,[],.none,rh))(hc:codeOk K f q'=c_)(hr:F8 K f=c_) :
  ∃(oc:f_) (od:Option e_) (kV dc pm:f_) (an:Option e_) (ct:f_) (sl:Array (Option f_)),K.lookup f=a_ ⟨oc,od,.func (fnOf n q A B S .none kV dc pm an (.ref (zP K f)) ct),sl⟩/\codeIn K (.ref (zP K f)) q'=true:=by
 obtain⟨oc,od,kV,dc,pm,an,cd,ct,sl,e,c⟩:=wV h hc
 have e2:cd=.ref (zP K f):=by
  unfold F8 at hr;unfold zP;rw[e]at hr ⊢;exact ajO hr
 rw[e2]at e c;exact⟨oc,od,kV,dc,pm,an,ct,sl,e,c⟩
def rB:List f_->List Str->Bool
 | [],[]=>c_
 | .str y _::us,x::xs=>decide (y=x)&&rB us xs
 | _,_=>d_
def tupS(K:Frag)(a:e_)(xs:List Str):Bool:=match K.lookup a with
 | some ⟨.type "tuple",_,.seq its _,_⟩=>rB its.toList xs
 | _=>d_
end HT
namespace TL
open PySem.SeqAt L2 L3
def gN(K:u_)(x:Str):Addr:=HT.rf (W.nsIn K eN x)
def gM(K:u_)(c:e_)(x:Str):Addr:=HT.rf (w_ K (.ref c) x)
abbrev rN(K:u_)(x:Str):Prop:=HT.GJ (W.nsIn K eN x)=c_
abbrev zN(K:u_)(x:Str):Prop:=W.nsIn K eN x=a_ b_
abbrev no(K:u_)(c:e_)(x:Str):Prop:=w_ K (.ref c) x=a_ b_
abbrev fN(K:u_)(x:Str):Prop:=rN K x/\HT.codeOk K (gN K x) x=c_/\x_ K (.ref (gN K x))=c_
abbrev fM(K:u_)(c:e_)(m q:Str):Prop:=HT.GJ (w_ K (.ref c) m)=c_/\HT.codeOk K (gM K c m) q=c_/\x_ K (.ref (gM K c m))=c_/\W.isFn K (.ref (gM K c m))=c_
abbrev cK(K:u_)(x:Str):Prop:=rN K x/\W.plainGet K (gN K x) Str.empty=c_/\F_ K (gN K x)=c_/\W.plainOver K (gN K x)=c_/\w_ K (.ref (gN K x)) "__setattr__" = a_ (a_ (.builtin "object.__setattr__"))
abbrev mK(K:u_)(c:e_):Prop:=W.makesIn K c=c_/\x_ K (.ref c)=c_
def fp(n q:Str)(st:Stmt):Option HT.qH:=a_ (n,q,kI st,.stmts (iL st),aS st,eN,[],.none,rh)
abbrev p9(K:u_):Addr:=gN K "Step"
abbrev fL(K:u_):Addr:=gN K "Put"
abbrev fQ(K:u_):Addr:=gN K "Add"
abbrev fK(K:u_):Addr:=gN K "Set"
abbrev fH(K:u_):Addr:=gN K "Look"
abbrev fE(K:u_):Addr:=gN K "Swap"
abbrev fG(K:u_):Addr:=gN K "Skip"
abbrev jA(K:u_):Addr:=gN K "Clear"
abbrev fD(K:u_):Addr:=gN K "Tray"
abbrev cb(K:u_):Addr:=gN K "Machine"
abbrev Uw(K:u_):Addr:=gN K "KINDS"
abbrev X2(K:u_):Addr:=gN K "is_whole"
abbrev X5(K:u_):Addr:=gN K "bounds_of"
abbrev X3(K:u_):Addr:=gN K "is_step"
abbrev X4(K:u_):Addr:=gN K "step_of"
abbrev zS(K:u_):Addr:=gM K (p9 K) "__init__"
abbrev Mu(K:u_):Addr:=gM K (fL K) "__init__"
abbrev Mx(K:u_):Addr:=gM K (fQ K) "__init__"
abbrev Ms(K:u_):Addr:=gM K (fK K) "__init__"
abbrev LF(K:u_):Addr:=gM K (fH K) "__init__"
abbrev LC(K:u_):Addr:=gM K (fE K) "__init__"
abbrev LD(K:u_):Addr:=gM K (fG K) "__init__"
abbrev oC(K:u_):Addr:=gM K (p9 K) "empties"
abbrev Vx(K:u_):Addr:=gM K (fE K) "empties"
abbrev Vz(K:u_):Addr:=gM K (jA K) "empties"
abbrev alu(K:u_):Addr:=gN K "has_clerks"
abbrev alv(K:u_):Addr:=gN K "fits"
abbrev alr(K:u_):Addr:=gN K "look_over"
abbrev Xi(K:u_):Addr:=gM K (fD K) "__init__"
abbrev ala(K:u_):Addr:=gM K (fD K) "add"
abbrev ak8(K:u_):Addr:=gM K (fD K) "latest"
abbrev Nz(K:u_):Addr:=gM K (fD K) "fronts"
abbrev ak6(K:u_):Addr:=gM K (fD K) "take"
abbrev ak9(K:u_):Addr:=gM K (fD K) "is_empty"
abbrev ak'(K:u_):Addr:=gM K (fD K) "listed"
abbrev ak7(K:u_):Addr:=gN K "tray_of"
abbrev Mw(K:u_):Addr:=gM K (cb K) "__init__"
abbrev alN(K:u_):Addr:=gM K (cb K) "at_end"
abbrev aln(K:u_):Addr:=gM K (cb K) "may_do"
abbrev alE(K:u_):Addr:=gM K (cb K) "carries"
abbrev alo(K:u_):Addr:=gM K (cb K) "moves"
abbrev alz(K:u_):Addr:=gM K (cb K) "do"
abbrev aly(K:u_):Addr:=gM K (cb K) "do_step"
abbrev alx(K:u_):Addr:=gM K (cb K) "do_set"
abbrev alB(K:u_):Addr:=gM K (cb K) "do_look"
abbrev alw(K:u_):Addr:=gM K (cb K) "do_swap"
abbrev alD(K:u_):Addr:=gM K (cb K) "carry"
abbrev alG(K:u_):Addr:=gM K (cb K) "come"
abbrev alk(K:u_):Addr:=gM K (cb K) "on_board"
abbrev alc(K:u_):Addr:=gM K (cb K) "settle"
abbrev ak2(K:u_):Addr:=gM K (cb K) "waiting"
abbrev alC(K:u_):Addr:=gM K (cb K) "deeds"
abbrev ali(K:u_):Addr:=gM K (cb K) "over"
abbrev alA(K:u_):Addr:=gM K (cb K) "deeds_done"
abbrev ak4(K:u_):Addr:=gM K (cb K) "where"
abbrev alg(K:u_):Addr:=gN K "place_behind"
abbrev als(K:u_):Addr:=gN K "has_form_of_move"
abbrev alb(K:u_):Addr:=gN K "steps_of"
abbrev alm(K:u_):Addr:=gN K "neighbours"
abbrev alH(K:u_):Addr:=gN K "by_own"
abbrev alJ(K:u_):Addr:=gN K "by_seen"
abbrev alI(K:u_):Addr:=gN K "by_over"
abbrev alL(K:u_):Addr:=gN K "comers_behind"
abbrev alM(K:u_):Addr:=gN K "by_ahead"
abbrev ale(K:u_):Addr:=gN K "refuse_waiting"
abbrev alK(K:u_):Addr:=gN K "before"
abbrev alh(K:u_):Addr:=gN K "pairs_ahead"
abbrev ald(K:u_):Addr:=gN K "ring_of"
abbrev alF(K:u_):Addr:=gN K "counted_out"
abbrev alj(K:u_):Addr:=gN K "order"
abbrev ak3(K:u_):Addr:=gN K "with_name"
abbrev ak5(K:u_):Addr:=gN K "without_all"
abbrev ajt(K:u_):Addr:=gN K "names_behind"
abbrev alf(K:u_):Addr:=gN K "places_lacking"
abbrev alp(K:u_):Addr:=gN K "marks_of_part"
abbrev alq(K:u_):Addr:=gN K "marks"
abbrev lR(K:u_):Addr:=gM K (p9 K) "nexts"
abbrev Vy(K:u_):Addr:=gM K (fG K) "nexts"
abbrev ajC(K:u_):Addr:=gN K "_law_cell_at"
abbrev ajB(K:u_):Addr:=gN K "_law_mixed"
abbrev ajv(K:u_):Addr:=gN K "_law_stream"
abbrev ajz(K:u_):Addr:=gN K "_law_pick"
abbrev ajA(K:u_):Addr:=gN K "_law_one"
abbrev ajy(K:u_):Addr:=gN K "_law_program"
abbrev ajw(K:u_):Addr:=gN K "_law_shared"
abbrev ajx(K:u_):Addr:=gN K "_law_ran"
abbrev aju(K:u_):Addr:=gN K "law"
set_option synthInstance.maxSize 100000
set_option synthInstance.maxHeartbeats 0
abbrev d9(p:Prop)[Decidable p]:Bool:=decide p
noncomputable def Ad(K:u_)(_:Unit):List Bool:=[d9 (cK K "Step"),d9 (cK K "Put"),d9 (mK K (fL K)),d9 (no K (fL K) "parts"),d9 (no K (fL K) "reg"),d9 (no K (fL K) "number"),d9 (cK K "Add"),d9 (mK K (fQ K)),d9 (no K (fQ K) "parts"),d9 (no K (fQ K) "reg"),d9 (no K (fQ K) "other"),d9 (cK K "Set"),d9 (mK K (fK K)),d9 (no K (fK K) "parts"),d9 (no K (fK K) "name"),d9 (no K (fK K) "reg"),d9 (cK K "Look"),d9 (mK K (fH K)),d9 (no K (fH K) "parts"),d9 (no K (fH K) "reg"),d9 (no K (fH K) "name"),d9 (cK K "Swap"),d9 (mK K (fE K)),d9 (no K (fE K) "parts"),d9 (no K (fE K) "reg"),d9 (no K (fE K) "name"),d9 (cK K "Skip"),d9 (mK K (fG K)),d9 (no K (fG K) "parts"),d9 (no K (fG K) "reg"),d9 (no K (fG K) "place"),d9 (cK K "Clear"),d9 (mK K (jA K)),d9 (no K (jA K) "parts"),d9 (cK K "Tray"),d9 (mK K (fD K)),d9 (no K (fD K) "kind"),d9 (no K (fD K) "turn"),d9 (no K (fD K) "queues"),d9 (cK K "Machine"),d9 (mK K (cb K)),d9 (no K (cb K) "trays"),d9 (no K (cb K) "program"),d9 (no K (cb K) "kind"),d9 (no K (cb K) "steps"),d9 (no K (cb K) "places"),d9 (no K (cb K) "counts"),d9 (no K (cb K) "regs"),d9 (no K (cb K) "cells"),d9 (no K (cb K) "acts"),d9 (no K (cb K) "comers"),d9 (fN K "is_whole"),d9 (fN K "bounds_of"),d9 (fN K "is_step"),d9 (fN K "step_of"),d9 (fM K (p9 K) "__init__" "Step.__init__"),d9 (fM K (fL K) "__init__" "Put.__init__"),d9 (fM K (fQ K) "__init__" "Add.__init__"),d9 (fM K (fK K) "__init__" "Set.__init__"),d9 (fM K (fH K) "__init__" "Look.__init__"),d9 (fM K (fE K) "__init__" "Swap.__init__"),d9 (fM K (fG K) "__init__" "Skip.__init__"),d9 (fM K (p9 K) "empties" "Step.empties"),d9 (fM K (fE K) "empties" "Swap.empties"),d9 (fM K (jA K) "empties" "Clear.empties"),d9 (fN K "has_clerks"),d9 (fN K "fits"),d9 (fN K "look_over"),d9 (fM K (fD K) "__init__" "Tray.__init__"),d9 (fM K (fD K) "add" "Tray.add"),d9 (fM K (fD K) "latest" "Tray.latest"),d9 (fM K (fD K) "fronts" "Tray.fronts"),d9 (HT.F8 K (Nz K)=c_),d9 (W.codeHdIn K (HT.zP K (Nz K)) 461=c_),d9 (fM K (fD K) "take" "Tray.take"),d9 (fM K (fD K) "is_empty" "Tray.is_empty"),d9 (fM K (fD K) "listed" "Tray.listed"),d9 (fN K "tray_of"),d9 (fM K (cb K) "__init__" "Machine.__init__"),d9 (HT.F7 K (Mw K) "row" = c_),d9 (fM K (cb K) "at_end" "Machine.at_end"),d9 (fM K (cb K) "may_do" "Machine.may_do"),d9 (fM K (cb K) "carries" "Machine.carries"),d9 (fM K (cb K) "moves" "Machine.moves"),d9 (fM K (cb K) "do" "Machine.do"),d9 (fM K (cb K) "do_step" "Machine.do_step"),d9 (fM K (cb K) "do_set" "Machine.do_set"),d9 (fM K (cb K) "do_look" "Machine.do_look"),d9 (fM K (cb K) "do_swap" "Machine.do_swap"),d9 (fM K (cb K) "carry" "Machine.carry"),d9 (fM K (cb K) "come" "Machine.come"),d9 (fM K (cb K) "on_board" "Machine.on_board"),d9 (fM K (cb K) "settle" "Machine.settle"),d9 (fM K (cb K) "waiting" "Machine.waiting"),d9 (fM K (cb K) "deeds" "Machine.deeds"),d9 (fM K (cb K) "over" "Machine.over"),d9 (fM K (cb K) "deeds_done" "Machine.deeds_done"),d9 (fM K (cb K) "where" "Machine.where"),d9 (fN K "place_behind"),d9 (fN K "has_form_of_move"),d9 (fN K "steps_of"),d9 (fN K "neighbours"),d9 (fN K "by_own"),d9 (fN K "by_seen"),d9 (fN K "by_over"),d9 (fN K "comers_behind"),d9 (fN K "by_ahead"),d9 (fN K "refuse_waiting"),d9 (fN K "before"),d9 (fN K "pairs_ahead"),d9 (fN K "ring_of"),d9 (fN K "counted_out"),d9 (fN K "order"),d9 (fN K "with_name"),d9 (fN K "without_all"),d9 (fN K "names_behind"),d9 (fN K "places_lacking"),d9 (fN K "marks_of_part"),d9 (fN K "marks"),d9 (fM K (p9 K) "nexts" "Step.nexts"),d9 (fM K (fG K) "nexts" "Skip.nexts"),d9 (fN K "_law_cell_at"),d9 (fN K "_law_mixed"),d9 (fN K "_law_stream"),d9 (fN K "_law_pick"),d9 (fN K "_law_one"),d9 (fN K "_law_program"),d9 (fN K "_law_shared"),d9 (fN K "_law_ran"),d9 (fN K "law"),d9 (w_ K (.ref (fL K)) "empties" = a_ (a_ (.ref (oC K)))),d9 (w_ K (.ref (fQ K)) "empties" = a_ (a_ (.ref (oC K)))),d9 (w_ K (.ref (fK K)) "empties" = a_ (a_ (.ref (oC K)))),d9 (w_ K (.ref (fH K)) "empties" = a_ (a_ (.ref (oC K)))),d9 (w_ K (.ref (fG K)) "empties" = a_ (a_ (.ref (oC K)))),d9 (w_ K (.ref (fL K)) "nexts" = a_ (a_ (.ref (lR K)))),d9 (w_ K (.ref (fQ K)) "nexts" = a_ (a_ (.ref (lR K)))),d9 (w_ K (.ref (fK K)) "nexts" = a_ (a_ (.ref (lR K)))),d9 (w_ K (.ref (fH K)) "nexts" = a_ (a_ (.ref (lR K)))),d9 (w_ K (.ref (fE K)) "nexts" = a_ (a_ (.ref (lR K)))),d9 (w_ K (.ref (jA K)) "nexts" = a_ (a_ (.ref (lR K)))),d9 (w_ K (.ref (jA K)) "__init__" = a_ (a_ (.ref (zS K)))),d9 (W.specialIn K (.ref (p9 K)) "__getattribute__" = a_ (a_ (.builtin "type.__getattribute__"))),d9 (W.readsIn K (p9 K) (.type "type")=c_),d9 (HT.OC (W.findCls K (.ref (p9 K)) (.type "type") "__init__") (zS K)=c_),d9 (zN K "isinstance"),d9 (zN K "int"),d9 (zN K "bool"),d9 (zN K "str"),d9 (zN K "tuple"),d9 (zN K "len"),d9 (zN K "all"),d9 (zN K "zip"),d9 (zN K "enumerate"),d9 (zN K "range"),d9 (zN K "list"),d9 (zN K "min"),d9 (zN K "max"),d9 (zN K "sorted"),d9 (zN K "dict"),d9 (zN K "reversed"),d9 (zN K "set"),d9 (HT.sj (W.nsIn K eN "TOP") k7=c_),d9 (HT.sj (W.nsIn K eN "NAMES") 12=c_),d9 (HT.sj (W.nsIn K eN "REGISTERS") 4=c_),d9 (HT.sj (W.nsIn K eN "LONGEST") 120=c_),d9 (HT.sj (W.nsIn K eN "CLERKS") 4=c_),d9 (rN K "KINDS"),d9 (HT.tupS K (Uw K) ["row","name","none"]=c_),d9 (W.specialIn K (.builtin "object.__class__") "__get__" = a_ (a_ (.builtin "getset_descriptor.__get__"))),d9 (W.takesIn K (.builtin "object.__class__")=a_ c_),d9 (w_ K (.ref (fL K)) "__class__" = a_ (a_ (.builtin "object.__class__"))),d9 (A_ K (fL K) (.type "object")=a_ c_),d9 (v_ K (.ref (fL K)) (.ref (fL K))=a_ c_),d9 (v_ K (.ref (fL K)) (.ref (fQ K))=a_ d_),d9 (v_ K (.ref (fL K)) (.ref (fK K))=a_ d_),d9 (v_ K (.ref (fL K)) (.ref (fH K))=a_ d_),d9 (v_ K (.ref (fL K)) (.ref (fE K))=a_ d_),d9 (v_ K (.ref (fL K)) (.ref (fG K))=a_ d_),d9 (w_ K (.ref (fQ K)) "__class__" = a_ (a_ (.builtin "object.__class__"))),d9 (A_ K (fQ K) (.type "object")=a_ c_),d9 (v_ K (.ref (fQ K)) (.ref (fL K))=a_ d_),d9 (v_ K (.ref (fQ K)) (.ref (fQ K))=a_ c_),d9 (v_ K (.ref (fQ K)) (.ref (fK K))=a_ d_),d9 (v_ K (.ref (fQ K)) (.ref (fH K))=a_ d_),d9 (v_ K (.ref (fQ K)) (.ref (fE K))=a_ d_),d9 (v_ K (.ref (fQ K)) (.ref (fG K))=a_ d_),d9 (w_ K (.ref (fK K)) "__class__" = a_ (a_ (.builtin "object.__class__"))),d9 (A_ K (fK K) (.type "object")=a_ c_),d9 (v_ K (.ref (fK K)) (.ref (fL K))=a_ d_),d9 (v_ K (.ref (fK K)) (.ref (fQ K))=a_ d_),d9 (v_ K (.ref (fK K)) (.ref (fK K))=a_ c_),d9 (v_ K (.ref (fK K)) (.ref (fH K))=a_ d_),d9 (v_ K (.ref (fK K)) (.ref (fE K))=a_ d_),d9 (v_ K (.ref (fK K)) (.ref (fG K))=a_ d_),d9 (w_ K (.ref (fH K)) "__class__" = a_ (a_ (.builtin "object.__class__"))),d9 (A_ K (fH K) (.type "object")=a_ c_),d9 (v_ K (.ref (fH K)) (.ref (fL K))=a_ d_),d9 (v_ K (.ref (fH K)) (.ref (fQ K))=a_ d_),d9 (v_ K (.ref (fH K)) (.ref (fK K))=a_ d_),d9 (v_ K (.ref (fH K)) (.ref (fH K))=a_ c_),d9 (v_ K (.ref (fH K)) (.ref (fE K))=a_ d_),d9 (v_ K (.ref (fH K)) (.ref (fG K))=a_ d_),d9 (w_ K (.ref (fE K)) "__class__" = a_ (a_ (.builtin "object.__class__"))),d9 (A_ K (fE K) (.type "object")=a_ c_),d9 (v_ K (.ref (fE K)) (.ref (fL K))=a_ d_),d9 (v_ K (.ref (fE K)) (.ref (fQ K))=a_ d_),d9 (v_ K (.ref (fE K)) (.ref (fK K))=a_ d_),d9 (v_ K (.ref (fE K)) (.ref (fH K))=a_ d_),d9 (v_ K (.ref (fE K)) (.ref (fE K))=a_ c_),d9 (v_ K (.ref (fE K)) (.ref (fG K))=a_ d_),d9 (w_ K (.ref (jA K)) "__class__" = a_ (a_ (.builtin "object.__class__"))),d9 (A_ K (jA K) (.type "object")=a_ c_),d9 (v_ K (.ref (jA K)) (.ref (fL K))=a_ d_),d9 (v_ K (.ref (jA K)) (.ref (fQ K))=a_ d_),d9 (v_ K (.ref (jA K)) (.ref (fK K))=a_ d_),d9 (v_ K (.ref (jA K)) (.ref (fH K))=a_ d_),d9 (v_ K (.ref (jA K)) (.ref (fE K))=a_ d_),d9 (v_ K (.ref (jA K)) (.ref (fG K))=a_ d_),d9 (w_ K (.ref (fG K)) "__class__" = a_ (a_ (.builtin "object.__class__"))),d9 (A_ K (fG K) (.type "object")=a_ c_),d9 (v_ K (.ref (fG K)) (.ref (fL K))=a_ d_),d9 (v_ K (.ref (fG K)) (.ref (fQ K))=a_ d_),d9 (v_ K (.ref (fG K)) (.ref (fK K))=a_ d_),d9 (v_ K (.ref (fG K)) (.ref (fH K))=a_ d_),d9 (v_ K (.ref (fG K)) (.ref (fE K))=a_ d_),d9 (v_ K (.ref (fG K)) (.ref (fG K))=a_ c_)]
def seen(K:u_):Bool:=(Ad K ()).all id
noncomputable def qF:List Nat:=[3,2,0,1,6,31,44,56,75,87,99,118,172,193,212,238,264,304,323,349,491,699,24,30,37,43,49,55,61,74,80,86,92,98,104,117,123,171,179,192,198,211,217,237,243,263,269,303,309,322,328,348,436,490,522,698,19,21,70,72,113,115,132,134,139,141,146,148,153,155,160,162,167,169,188,190,207,209,226,228,233,235,252,254,259,261,278,280,285,287,292,294,299,301,318,320,337,339,344,346,356,358,363,365,368,370,375,377,380,382,387,389,394,396,401,403,408,410,415,417,420,422,425,427,430,432,443,445,450,452,457,459,462,464,469,471,474,476,479,481,486,488,500,502,505,507,510,512,517,519,530,532,537,539,544,546,549,551,554,556,561,563,568,570,575,577,582,584,589,591,596,598,603,605,610,612,617,619,624,626,631,633,638,640,645,647,652,654,659,661,666,668,673,675,680,682,687,689,694,696,708,710,713,715,718,720,723,725,730,732,737,739,744,746,751,753,756,758,761,763,768,770,775,777,782,784,789,791,796,798,803,805,810,812,817,819,824,826,829,831,836,838,4,5,7,8,9,10,11,12,13,14,15,16,17,18,20,22,23,25,26,27,28,29,32,33,34,35,36,38,39,40,41,42,45,46,47,48,50,51,52,53,54,57,58,59,60,62,63,64,65,66,67,68,69,71,73,76,77,78,79,81,82,83,84,85,88,89,90,91,93,94,95,96,97,100,101,102,103,105,106,107,108,109,110,111,112,114,116,119,120,121,122,124,125,126,127,128,129,130,131,133,135,136,137,138,140,142,143,144,145,147,149,150,151,152,154,156,157,158,159,161,163,164,165,166,168,170,173,174,175,176,177,178,180,181,182,183,184,185,186,187,189,191,194,195,196,197,199,200,201,202,203,204,205,206,208,210,213,214,215,216,218,219,220,221,222,223,224,225,227,229,230,231,232,234,236,239,240,241,242,244,245,246,247,248,249,250,251,253,255,256,257,258,260,262,265,266,267,268,270,271,272,273,274,275,276,277,279,281,282,283,284,286,288,289,290,291,293,295,296,297,298,300,302,305,306,307,308,310,311,312,313,314,315,316,317,319,321,324,325,326,327,329,330,331,332,333,334,335,336,338,340,341,342,343,345,347,350,351,352,353,354,355,357,359,360,361,362,364,366,367,369,371,372,373,374,376,378,379,381,383,384,385,386,388,390,391,392,393,395,397,398,399,400,402,404,405,406,407,409,411,412,413,414,416,418,419,421,423,424,426,428,429,431,433,434,435,437,438,439,440,441,442,444,446,447,448,449,451,453,454,455,456,458,460,461,463,465,466,467,468,470,472,473,475,477,478,480,482,483,484,485,487,489,492,493,494,495,496,497,498,499,501,503,504,506,508,509,511,513,514,515,516,518,520,521,523,524,525,526,527,528,529,531,533,534,535,536,538,540,541,542,543,545,547,548,550,552,553,555,557,558,559,560,562,564,565,566,567,569,571,572,573,574,576,578,579,580,581,583,585,586,587,588,590,592,593,594,595,597,599,600,601,602,604,606,607,608,609,611,613,614,615,616,618,620,621,622,623,625,627,628,629,630,632,634,635,636,637,639,641,642,643,644,646,648,649,650,651,653,655,656,657,658,660,662,663,664,665,667,669,670,671,672,674,676,677,678,679,681,683,684,685,686,688,690,691,692,693,695,697,700,701,702,703,704,705,706,707,709,711,712,714,716,717,719,721,722,724,726,727,728,729,731,733,734,735,736,738,740,741,742,743,745,747,748,749,750,752,754,755,757,759,760,762,764,765,766,767,769,771,772,773,774,776,778,779,780,781,783,785,786,787,788,790,792,793,794,795,797,799,800,801,802,804,806,807,808,809,811,813,814,815,816,818,820,821,822,823,825,827,828,830,832,833,834,835,837]
noncomputable def qi(K:u_):List (Option HT.qH):=[HT.bg K (X2 K),HT.bg K (X5 K),HT.bg K (X3 K),HT.bg K (X4 K),HT.bg K (zS K),HT.bg K (Mu K),HT.bg K (Mx K),HT.bg K (Ms K),HT.bg K (LF K),HT.bg K (LC K),HT.bg K (LD K),HT.bg K (oC K),HT.bg K (Vx K),HT.bg K (Vz K),HT.bg K (alu K),HT.bg K (alv K),HT.bg K (alr K),HT.bg K (Xi K),HT.bg K (ala K),HT.bg K (ak8 K),HT.bg K (Nz K),HT.bg K (ak6 K),HT.bg K (ak9 K),HT.bg K (ak' K),HT.bg K (ak7 K),HT.F6 K (Mw K),HT.bg K (alN K),HT.bg K (aln K),HT.bg K (alE K),HT.bg K (alo K),HT.bg K (alz K),HT.bg K (aly K),HT.bg K (alx K),HT.bg K (alB K),HT.bg K (alw K),HT.bg K (alD K),HT.bg K (alG K),HT.bg K (alk K),HT.bg K (alc K),HT.bg K (ak2 K),HT.bg K (alC K),HT.bg K (ali K),HT.bg K (alA K),HT.bg K (ak4 K),HT.bg K (alg K),HT.bg K (als K),HT.bg K (alb K),HT.bg K (alm K),HT.bg K (alH K),HT.bg K (alJ K),HT.bg K (alI K),HT.bg K (alL K),HT.bg K (alM K),HT.bg K (ale K),HT.bg K (alK K),HT.bg K (alh K),HT.bg K (ald K),HT.bg K (alF K),HT.bg K (alj K),HT.bg K (ak3 K),HT.bg K (ak5 K),HT.bg K (ajt K),HT.bg K (alf K),HT.bg K (alp K),HT.bg K (alq K),HT.bg K (lR K),HT.bg K (Vy K),HT.bg K (ajC K),HT.bg K (ajB K),HT.bg K (ajv K),HT.bg K (ajz K),HT.bg K (ajA K),HT.bg K (ajy K),HT.bg K (ajw K),HT.bg K (ajx K),HT.bg K (aju K)]
noncomputable def oB:List (Option HT.qH):=[fp "is_whole" "is_whole" BF,fp "bounds_of" "bounds_of" Bx,fp "is_step" "is_step" EW,fp "step_of" "step_of" Lg,fp "__init__" "Step.__init__" FH,fp "__init__" "Put.__init__" FG,fp "__init__" "Add.__init__" FJ,fp "__init__" "Set.__init__" FE,fp "__init__" "Look.__init__" Fd,fp "__init__" "Swap.__init__" E',fp "__init__" "Skip.__init__" Fb,fp "empties" "Step.empties" Fe,fp "empties" "Swap.empties" Ek,fp "empties" "Clear.empties" Ed,fp "has_clerks" "has_clerks" NV,fp "fits" "fits" MP,fp "look_over" "look_over" JN,fp "__init__" "Tray.__init__" Gz,fp "add" "Tray.add" MF,fp "latest" "Tray.latest" Km,fp "fronts" "Tray.fronts" EA,fp "take" "Tray.take" LR,fp "is_empty" "Tray.is_empty" Le,fp "listed" "Tray.listed" Kl,fp "tray_of" "tray_of" Ld,fp "__init__" "Machine.__init__" Fc,fp "at_end" "Machine.at_end" L6,fp "may_do" "Machine.may_do" LV,fp "carries" "Machine.carries" Kq,fp "moves" "Machine.moves" Lk,fp "do" "Machine.do" NT,fp "do_step" "Machine.do_step" Lm,fp "do_set" "Machine.do_set" LX,fp "do_look" "Machine.do_look" Ln,fp "do_swap" "Machine.do_swap" Ll,fp "carry" "Machine.carry" L0,fp "come" "Machine.come" MS,fp "on_board" "Machine.on_board" Ko,fp "settle" "Machine.settle" Li,fp "waiting" "Machine.waiting" Kk,fp "deeds" "Machine.deeds" LY,fp "over" "Machine.over" MM,fp "deeds_done" "Machine.deeds_done" MQ,fp "where" "Machine.where" LO,fp "place_behind" "place_behind" Jk,fp "has_form_of_move" "has_form_of_move" MO,fp "steps_of" "steps_of" Kn,fp "neighbours" "neighbours" Ce,fp "by_own" "by_own" L1,fp "by_seen" "by_seen" Lp,fp "by_over" "by_over" Lq,fp "comers_behind" "comers_behind" EX,fp "by_ahead" "by_ahead" Kr,fp "refuse_waiting" "refuse_waiting" MJ,fp "before" "before" Lr,fp "pairs_ahead" "pairs_ahead" Ls,fp "ring_of" "ring_of" MG,fp "counted_out" "counted_out" LZ,fp "order" "order" LS,fp "with_name" "with_name" ME,fp "without_all" "without_all" Kj,fp "names_behind" "names_behind" MN,fp "places_lacking" "places_lacking" Kp,fp "marks_of_part" "marks_of_part" Lj,fp "marks" "marks" LW,fp "nexts" "Step.nexts" EV,fp "nexts" "Skip.nexts" Ec,fp "_law_cell_at" "_law_cell_at" Lo,fp "_law_mixed" "_law_mixed" LU,fp "_law_stream" "_law_stream" Lf,fp "_law_pick" "_law_pick" MK,fp "_law_one" "_law_one" NS,fp "_law_program" "_law_program" BG,fp "_law_shared" "_law_shared" Lh,fp "_law_ran" "_law_ran" NR,fp "law" "law" xg]
def aiO:Pos:=match xg with
 | .FunctionDef _ _ _ _ _ _ _ _ _ p=>p
 | _=>default
def dl:DefRec:=⟨"law",kI xg,iL xg,aS xg,aiO⟩
end TL
open PySem PySem.W PyProof.Rows in
theorem TL.mark_:True:=trivial
section
open PySem.W
theorem TL.l7(w:j_)(os:OsState):(TL.rn w os).map (λs=>(((HT.wU (HT.gT s 461),TL.qi (HT.ve s TL.qF 461))),(((((TL.Ad (HT.ve s TL.qF 461) ()).drop 90).drop 50).all id))))=a_ ((c_,TL.oB),(c_)):=by kernel_rfl
theorem TL.l8(w:j_)(os:OsState):(TL.rn w os).map (λs=>((TL.Ad (HT.ve s TL.qF 461) ()).take 90).all id)=a_ true:=by kernel_rfl
theorem TL.l9(w:j_)(os:OsState):(TL.rn w os).map (λs=>(((TL.Ad (HT.ve s TL.qF 461) ()).drop 90).take 50).all id)=a_ true:=by kernel_rfl
theorem TL.r2(w:j_)(os:OsState):(TL.rn w os).map (λs=>W.openSeen TL.qv [] (DI PySem.Challenge.rw_traylate_k92_whole_rings_at_fault.row.prog.main.body) (λs=>W.xlAt TL.qv [] s&&W.recOk PySem.Challenge.rw_traylate_k92_whole_rings_at_fault.row.records s) c_ s.abs)=a_ (W.openGood TL.qv []):=HT.ago TL.lw (HT.rZ (TL.l0 w os)) (HT.nh (HT.nh (HT.nh (TL.l5 w os)))) (HT.td 18 (HT.rZ (TL.l5 w os)) (TL.l6 w os)) (HT.rZ (HT.nh (TL.l5 w os))) (HT.nh (TL.l3 w os)) (HT.tb_ (HT.LH 22 (HT.rZ (TL.l3 w os)) (TL.l4 w os))) (HT.nh (HT.nh (TL.l2 w os))) (HT.both (HT.rZ (HT.nh (HT.nh (TL.l5 w os)))) (HT.both (HT.nh (TL.l0 w os)) (HT.both (HT.rZ (TL.l2 w os)) (TL.l1 w os))))
theorem TL.r3(w:j_)(os:OsState):(TL.rn w os).map (λs=>(HT.tm TL.qF 461 (λK=>(TL.seen K,TL.qi K)) (c_,TL.oB)).obs s.abs)=a_ (c_,(c_,TL.oB)):=HT.aiM (HT.rZ (HT.rZ (TL.l7 w os))) (HT.both (HT.LH 90 (TL.l8 w os) (HT.LH 50 (TL.l9 w os) (HT.nh (TL.l7 w os)))) (HT.nh (HT.rZ (TL.l7 w os))))
end
namespace L2
universe u0 u1 u2 u3 u4 u5 u6 u7 u8 u9
section
variable{A:Sort u0}{B:Sort u1}{C:Sort u2}{D:Sort u3}{E:Sort u4}{F:Sort u5}{I:Sort u6}{J:Sort u7}{L:Sort u8}{M:Sort u9}{G:Prop}
theorem oA{p q:Prop}(H:p/\q)(K:p->q->G):G:=by
 obtain⟨k,m⟩:=H;exact K k m
theorem oE{p:A->Prop}(H:∃a,p a)(K:∀a,p a->G):G:=by
 obtain⟨a,k⟩:=H;exact K a k
theorem eJ{p q r:Prop}(k:p)(m:q)(n:r):p/\q/\r:=⟨k,m,n⟩
theorem au{p q:A->Prop}(a:A)(k:p a)(m:q a):∃a,p a/\q a:=⟨a,k,m⟩
theorem oX{p:A->B->Prop}(a:A)(b:B)(k:p a b):∃a b,p a b:=⟨a,b,k⟩
theorem de{p q r:Prop}(H:p/\q/\r)(K:p->q->r->G):G:=by
 obtain⟨k,m,n⟩:=H;exact K k m n
theorem aq{p q:A->Prop}(H:∃a,p a/\q a)(K:∀a,p a->q a->G):G:=by
 obtain⟨a,k,m⟩:=H;exact K a k m
theorem vE{p:A->B->Prop}(H:∃a b,p a b)(K:∀a b,p a b->G):G:=by
 obtain⟨a,b,k⟩:=H;exact K a b k
theorem dJ{p q r:A->Prop}(a:A)(k:p a)(m:q a)(n:r a):∃a,p a/\q a/\r a:=⟨a,k,m,n⟩
theorem f7{p q:A->B->Prop}(a:A)(b:B)(k:p a b)(m:q a b):∃a b,p a b/\q a b:=⟨a,b,k,m⟩
theorem oH{p q r s:Prop}(H:p/\q/\r/\s)(K:p->q->r->s->G):G:=by
 obtain⟨k,m,n,o⟩:=H;exact K k m n o
theorem a7{p q r:A->Prop}(H:∃a,p a/\q a/\r a)(K:∀a,p a->q a->r a->G):G:=by
 obtain⟨a,k,m,n⟩:=H;exact K a k m n
theorem bQ{p q:A->B->Prop}(H:∃a b,p a b/\q a b)(K:∀a b,p a b->q a b->G):G:=by
 obtain⟨a,b,k,m⟩:=H;exact K a b k m
theorem amz{p:A->B->C->Prop}(H:∃a b c,p a b c)(K:∀a b c,p a b c->G):G:=by
 obtain⟨a,b,c,k⟩:=H;exact K a b c k
theorem dP{p q r:A->B->Prop}(a:A)(b:B)(k:p a b)(m:q a b)(n:r a b):∃a b,p a b/\q a b/\r a b:=⟨a,b,k,m,n⟩
theorem dX{p:A->B->C->D->Prop}(a:A)(b:B)(c:C)(d:D)(k:p a b c d):∃a b c d,p a b c d:=⟨a,b,c,d,k⟩
theorem wR{p q r s t:Prop}(H:p/\q/\r/\s/\t)(K:p->q->r->s->t->G):G:=by
 obtain⟨k,m,n,o,h⟩:=H;exact K k m n o h
theorem cJ{p q r s:A->Prop}(H:∃a,p a/\q a/\r a/\s a)(K:∀a,p a->q a->r a->s a->G):G:=by
 obtain⟨a,k,m,n,o⟩:=H;exact K a k m n o
theorem eD{p q r:A->B->Prop}(H:∃a b,p a b/\q a b/\r a b)(K:∀a b,p a b->q a b->r a b->G):G:=by
 obtain⟨a,b,k,m,n⟩:=H;exact K a b k m n
theorem BR{p q:A->B->C->Prop}(H:∃a b c,p a b c/\q a b c)(K:∀a b c,p a b c->q a b c->G):G:=by
 obtain⟨a,b,c,k,m⟩:=H;exact K a b c k m
theorem akj{p:A->B->C->D->Prop}(H:∃a b c d,p a b c d)(K:∀a b c d,p a b c d->G):G:=by
 obtain⟨a,b,c,d,k⟩:=H;exact K a b c d k
theorem gR{p q r s t:A->Prop}(a:A)(k:p a)(m:q a)(n:r a)(o:s a)(h:t a):∃a,p a/\q a/\r a/\s a/\t a:=⟨a,k,m,n,o,h⟩
theorem mX{p q r s t u:Prop}(H:p/\q/\r/\s/\t/\u)(K:p->q->r->s->t->u->G):G:=by
 obtain⟨k,m,n,o,h,h1⟩:=H;exact K k m n o h h1
theorem Me{p q r s t:A->Prop}(H:∃a,p a/\q a/\r a/\s a/\t a)(K:∀a,p a->q a->r a->s a->t a->G):G:=by
 obtain⟨a,k,m,n,o,h⟩:=H;exact K a k m n o h
theorem jf{p q r s:A->B->Prop}(H:∃a b,p a b/\q a b/\r a b/\s a b)(K:∀a b,p a b->q a b->r a b->s a b->G):G:=by
 obtain⟨a,b,k,m,n,o⟩:=H;exact K a b k m n o
theorem gD{p q r:A->B->C->Prop}(H:∃a b c,p a b c/\q a b c/\r a b c)(K:∀a b c,p a b c->q a b c->r a b c->G):G:=by
 obtain⟨a,b,c,k,m,n⟩:=H;exact K a b c k m n
def lN{p q:A->B->C->D->Prop}(H:∃a b c d,p a b c d/\q a b c d)(K:∀a b c d,p a b c d->q a b c d->G):G:=by
 obtain⟨a,b,c,d,k,m⟩:=H;exact K a b c d k m
def fX{p:A->B->C->D->E->Prop}(H:∃a b c d e,p a b c d e)(K:∀a b c d e,p a b c d e->G):G:=by
 obtain⟨a,b,c,d,e,k⟩:=H;exact K a b c d e k
def jB{p q r s t u:A->Prop}(a:A)(k:p a)(m:q a)(n:r a)(o:s a)(h:t a)(h1:u a):∃a,p a/\q a/\r a/\s a/\t a/\u a:=⟨a,k,m,n,o,h,h1⟩
def U7{p q r s t u v:Prop}(H:p/\q/\r/\s/\t/\u/\v)(K:p->q->r->s->t->u->v->G):G:=by
 obtain⟨k,m,n,o,h,h1,h2⟩:=H;exact K k m n o h h1 h2
def aha{p q r s t u:A->Prop}(H:∃a,p a/\q a/\r a/\s a/\t a/\u a)(K:∀a,p a->q a->r a->s a->t a->u a->G):G:=by
 obtain⟨a,k,m,n,o,h,h1⟩:=H;exact K a k m n o h h1
def U6{p q r s t:A->B->Prop}(H:∃a b,p a b/\q a b/\r a b/\s a b/\t a b)(K:∀a b,p a b->q a b->r a b->s a b->t a b->G):G:=by
 obtain⟨a,b,k,m,n,o,h⟩:=H;exact K a b k m n o h
def U5{p q:A->B->C->D->E->Prop}(H:∃a b c d e,p a b c d e/\q a b c d e)(K:∀a b c d e,p a b c d e->q a b c d e->G):G:=by
 obtain⟨a,b,c,d,e,k,m⟩:=H;exact K a b c d e k m
def pU{p q r s t:A->B->C->Prop}(a:A)(b:B)(c:C)(k:p a b c)(m:q a b c)(n:r a b c)(o:s a b c)(h:t a b c):∃a b c,p a b c/\q a b c/\r a b c/\s a b c/\t a b c:=⟨a,b,c,k,m,n,o,h⟩
def fe{p q r s t u:A->B->Prop}(H:∃a b,p a b/\q a b/\r a b/\s a b/\t a b/\u a b)(K:∀a b,p a b->q a b->r a b->s a b->t a b->u a b->G):G:=by
 obtain⟨a,b,k,m,n,o,h,h1⟩:=H;exact K a b k m n o h h1
def Em{p q r s t u:A->B->C->Prop}(H:∃a b c,p a b c/\q a b c/\r a b c/\s a b c/\t a b c/\u a b c)(K:∀a b c,p a b c->q a b c->r a b c->s a b c->t a b c->u a b c->G):G:=by
 obtain⟨a,b,c,k,m,n,o,h,h1⟩:=H;exact K a b c k m n o h h1
def kF{p q r s t u:A->B->C->D->Prop}(a:A)(b:B)(c:C)(d:D)(k:p a b c d)(m:q a b c d)(n:r a b c d)(o:s a b c d)(h:t a b c d)(h1:u a b c d):∃a b c d,p a b c d/\q a b c d/\r a b c d/\s a b c d/\t a b c d/\u a b c d:=⟨a,b,c,d,k,m,n,o,h,h1⟩
def D'{p q r s t u:A->B->C->D->E->Prop}(H:∃a b c d e,p a b c d e/\q a b c d e/\r a b c d e/\s a b c d e/\t a b c d e/\u a b c d e)(K:∀a b c d e,p a b c d e->q a b c d e->r a b c d e->s a b c d e->t a b c d e->u a b c d e->G):G:=by
 obtain⟨a,b,c,d,e,k,m,n,o,h,h1⟩:=H;exact K a b c d e k m n o h h1
def mG{p q r s t:A->B->C->D->E->F->Prop}(H:∃a b c d e f,p a b c d e f/\q a b c d e f/\r a b c d e f/\s a b c d e f/\t a b c d e f)(K:∀a b c d e f,p a b c d e f->q a b c d e f->r a b c d e f->s a b c d e f->t a b c d e f->G):G:=by
 obtain⟨a,b,c,d,e,f,k,m,n,o,h⟩:=H;exact K a b c d e f k m n o h
def Bf{p:A->B->C->D->E->F->I->J->L->M->Prop}(H:∃a b c d e f g i j l,p a b c d e f g i j l)(K:∀a b c d e f g i j l,p a b c d e f g i j l->G):G:=by
 obtain⟨a,b,c,d,e,f,g,i,j,l,k⟩:=H;exact K a b c d e f g i j l k
end
def w0{p:Prop}(h:p:=by with_reducible assumption):p:=h
def w1{a:Nat}  : a<=a:=aA a
def w2{a:Nat}  : 0<=a:=a8 a
def w3{a b:Nat}(h:a<b:=by with_reducible assumption):a<=b:=cY h
def w4{a b c:Nat}(h:a<=b:=by with_reducible assumption)(g:b<=c:=by decide):a<=c:=cu h g
def w5{a b c:Nat}(h:a<b:=by with_reducible assumption)(g:b<=c:=by decide):a<=c:=cu (cY h) g
def w6{a b c:Nat}(h:a=b:=by with_reducible assumption)(g:b<=c:=by decide):a<=c:=cu (pM h) g
def w7{a b c:Nat}(h:a=b:=by with_reducible assumption)(g:b<=c:=by with_reducible assumption):a<=c:=cu (pM h) g
def w8{a b c d:Nat}(h:a=b:=by with_reducible assumption)(g:b<=c:=by with_reducible assumption)(k:c<=d:=by decide):a<=d:=cu (pM h) (cu g k)
def w9{a b c d:Nat}(h:b=a:=by with_reducible assumption)(g:b<=c:=by with_reducible assumption)(k:c<=d:=by decide):a<=d:=cu (pM h.symm) (cu g k)
def wa{a b c:Nat}(h:a<b:=by with_reducible assumption)(g:b<=c:=by decide):a<c:=gj h g
def wb{a b c:Nat}(h:a<=b:=by with_reducible assumption)(g:b<c:=by decide):a<c:=we h g
def wd{a b c d:Nat}(h:a=b:=by with_reducible assumption)(g:b<=c:=by with_reducible assumption)(k:c<d:=by decide):a<d:=we (pM h) (we g k)
def wf{a b c:Nat}(h:a<b:=by with_reducible assumption)(g:b=c:=by with_reducible assumption):a<c:=QD h g
def wg{a b c:Nat}(h:a<b:=by with_reducible assumption)(g:c=b:=by with_reducible assumption):a<c:=QD h g.symm
def wh{a b c:Nat}(h:a<b:=by with_reducible assumption)(g:b<=c:=by with_reducible assumption):a<c:=gj h g
def wi{a b c:Nat}(h:a<=b:=by with_reducible assumption)(g:b<c:=by with_reducible assumption):a<c:=we h g
def wk{a b c m:Nat}(h:a=b+m*c:=by with_reducible assumption)(g:a<b:=by decide):False:=by omega
def wl{a b c m:Nat}(h:b+m*c=a:=by with_reducible assumption)(g:a<b:=by decide):False:=by omega
def wo{a b c:Nat}(h:a=b:=by with_reducible assumption)(g:b=c:=by with_reducible assumption):a=c:=h.trans g
def wq{a b c:Nat}(h:b=a:=by with_reducible assumption)(g:b=c:=by with_reducible assumption):a=c:=h.symm.trans g
def wr{a b c:Nat}(h:a=b:=by with_reducible assumption)(g:c<b:=by with_reducible assumption):c<a:=QD g h.symm
def ws{a b c:Nat}(h:a=b:=by with_reducible assumption)(g:b<=c:=by with_reducible assumption):a<=c:=cu (pM h) g
def wu{a b c d e:Nat}(h:a=b:=by with_reducible assumption)(g:b=c:=by with_reducible assumption)(k:c<=d:=by with_reducible assumption)(m:d<=e:=by decide):a<=e:=cu (pM (h.trans g)) (cu k m)
def wv{a b c d e:Nat}(h:a=b:=by with_reducible assumption)(g:c=b:=by with_reducible assumption)(k:c<=d:=by with_reducible assumption)(m:d<=e:=by decide):a<=e:=cu (pM (h.trans g.symm)) (cu k m)
def xb{a b c d:Nat}(h:a<b:=by with_reducible assumption)(g:b<=c:=by with_reducible assumption)(k:c<=d:=by decide):a<d:=gj h (cu g k)
def xd{a:Nat}  : a<=a+1:=jy a
def xe{a b:Nat}(h:a<b:=by with_reducible assumption):a<=b+1:=wm (cY h)
def xf{a b:Nat}(h:a<b:=by with_reducible assumption):a+1<=b:=h
def xi{a b c e:Nat}(h:a<=b+1:=by with_reducible assumption)(g:b<=c:=by with_reducible assumption)(k:c+1<e:=by decide):a<e:=we h (we (wt g) k)
def xk{a n:Nat}(h:a<=n:=by with_reducible assumption):min a n=a:=QS h
def xl{a n:Nat}  : min a n<=a:=DN a n
def xm{a:Int}(h:0<=a:=by with_reducible assumption):a=(a.toNat:Int):=(Iu h).symm
end L2
namespace L2
abbrev Key:=Option Int
def akG:f_->Bool
 | .none=>c_
 | _=>d_
def BU:Key->f_->Bool
 | some k,v=>Value.isInt k v
 | none,v=>akG v
def amF:Key->Int
 | some k=>hashInt k
 | none=>4238894112
def sU:∀{k:Key} {v:f_},BU k v=c_->(∃i t,k=a_ i/\v=eO i t)\/(k=b_/\v=jz)
 | some i,v,h=>by
  obtain⟨t,e⟩:=abc (k:=i) (v:=v) h;exact .inl ⟨i,t,xz,e⟩
 | none,v,h=>by
  cases v <;> first | exact .inr ⟨xz,xz⟩ | cases h
def ad4(i:Int)(t:Tok):BU (a_ i) (.int i t)=true:=by simp[BU,Value.isInt]
def aiR(a b:Int):decide ((a_ a:Key)=a_ b)=(a == b):=by
 by_cases e:a=b
 .subst e;simp
 .simp[e]
def ad'{w:j_}(h:Q 4238894112 { s with toks:=s.toks+1 }):wpAny (model prog w) A (pyHash .none) Q E s:=by
 show wpAny (model prog w) A (pyHashByItsType .none) Q E s;refine W.pyHash_slot (T:="NoneType") xz F.slot_NoneType_hash F.entry_NoneType_hash (F.args_NoneType_hash_1 _) xz (.inl xz) (ae (show wpAny (model prog w) A.in1 (pure (jz,[])) _ E s from aF ?_))
 exact ie (wpAny_ret_mkInt (Q:=λv s'=>∃n t,v=eO n t/\Q (reduceHash n) s') ⟨_,_,xz,h⟩) (λfin s' z=>by
  obtain⟨v,e,n,t,e2,q⟩:=z;exact⟨n,t,by rw[e,e2],q⟩) λ_ _ x=>x
def iK(prog:k_)(w:j_):PySem.KeyKind prog w Key where
 is:=BU
 hash:=amF
 inj:=λv a b ha hb=>by
  rcases sU ha with ⟨i,t,rfl,rfl⟩ | ⟨rfl,rfl⟩
  .rcases sU hb with ⟨j,u,rfl,e⟩ | ⟨rfl,e⟩
   .injection e with e1 _;rw[e1]
   .exact nomatch e
  .rcases sU hb with ⟨j,u,rfl,e⟩ | ⟨rfl,e⟩
   .exact nomatch e
   .rfl
 byValue:=λk v h=>by
  rcases sU h with ⟨i,t,rfl,rfl⟩ | ⟨rfl,rfl⟩ <;> rfl
 pyHash:=λhv h=>by
  rcases sU hv with ⟨i,t,rfl,rfl⟩ | ⟨rfl,rfl⟩
  .exact wpAny_pyHash_int h
  .exact ad' h
 eqBool:=λhu hv h=>by
  rcases sU hu with ⟨i,t,rfl,rfl⟩ | ⟨rfl,rfl⟩
  .rcases sU hv with ⟨j,u,rfl,rfl⟩ | ⟨rfl,rfl⟩
   .rw[aiR]at h;exact QL h
   .exact aaV i t _ _ _ _ h
  .rcases sU hv with ⟨j,u,rfl,rfl⟩ | ⟨rfl,rfl⟩
   .exact aaU j u _ _ _ _ h
   .exact jx (QR (λ_=>ae (uG (aF h))) λz=>absurd xz z)
 «strs»:=λk x t v h=>by
  rcases sU h with ⟨i,u,rfl,e⟩ | ⟨rfl,e⟩ <;> exact nomatch e
def acX(prog:k_)(w:j_)(k:Key)(v:f_):(iK prog w).is k v=BU k v:=rfl
def acn(prog:k_)(w:j_)(i:Int)(t:Tok):(iK prog w).is (a_ i) (.int i t)=true:=ad4 i t
inductive V where
 | aN | bl (b:Bool) | int (i:Int) | str (x:Str) | oY (b:Array UInt8) | tV (b:UInt64) | ref (a:e_) | ty (n:String)
 deriving DecidableEq
def RelV:V->f_->Prop
 | .aN,u=>u=jz
 | .bl b,u=>u=uH b
 | .int i,u=>∃t,u=eO i t
 | .str x,u=>∃t,u=uK x t
 | .oY b,u=>∃t,u=Value.bytes b t
 | .tV b,u=>∃t,u=RC b t
 | .ref a,u=>u=dj a
 | .ty n,u=>u=iW n
abbrev Vals:List V->List f_->Prop:=Paired RelV
def Vals.length(r:Vals xs us):xs.length=us.length:=r_ r
def Vals.get:∀{xs:List V} {us:List f_} {i:Nat} {x:V},Vals xs us->xs[i]?=a_ x->∃u,us[i]?=a_ u/\RelV x u
 | _,_,_,_,.nil,e=>by simp at e
 | _,_,0,_,.cons r _,e=>by simp at e;subst e;exact⟨_,xz,r⟩
 | _,_,i+1,x,.cons _ t,e=>by
  obtain⟨u,h1,h2⟩:=Vals.get (i:=i) (x:=x) t (by simpa using e);exact⟨u,by simpa using h1,h2⟩
def Vals.set(r:RelV x u):∀{xs:List V} {us:List f_} (i:Nat),Vals xs us->Vals (xs.set i x) (us.set i u)
 | _,_,_,.nil=>.nil
 | _,_,0,.cons _ t=>.cons r t
 | _,_,i+1,.cons q t=>.cons q (Vals.set r i t)
def Vals.append:∀{xs ys:List V} {us ws:List f_},Vals xs us->Vals ys ws->Vals (xs++ys) (us++ws)
 | _,_,_,_,.nil,s=>s
 | _,_,_,_,.cons r t,s=>.cons r (Vals.append t s)
def Vals.take:∀{xs:List V} {us:List f_} (n:Nat),Vals xs us->Vals (xs.take n) (us.take n)
 | _,_,0,_=>.nil
 | _,_,_+1,.nil=>.nil
 | _,_,n+1,.cons r t=>.cons r (Vals.take n t)
def Vals.drop:∀{xs:List V} {us:List f_} (n:Nat),Vals xs us->Vals (xs.drop n) (us.drop n)
 | _,_,0,r=>r
 | _,_,_+1,.nil=>.nil
 | _,_,n+1,.cons _ t=>Vals.drop n t
def jm:Option V->Option f_->Prop
 | some v,a_ u=>RelV v u
 | none,b_=>True
 | _,_=>False
def KV{κ:Type}:List (κ×V)->List (κ×f_)->Prop:=Paired λ(p:κ×V) (q:κ×f_)=>p.1=q.1/\RelV p.2 q.2
def kV:Key->V
 | some i=>.int i
 | none=>.aN
inductive HO where
  | lst (xs:List V)
  | tup (xs:List V)
  | dK (kvs:List (Key×V)) | dT (kvs:List (List Key×V))
  | set (S:Int->Bool) (n:Nat)
  | ins (C dx:e_) (fs:List (Str×V))
  | own (x:e_)
  | xd (fs:List (Str×V))
  | met (f x:e_)
  | OA (lo hi:Int)
  | lX (o:Obj) (u:HO)
  | eY (ps:Array f_)
  | ext (φ:i_->Prop)
abbrev Hp:=e_->Option HO
def upd(H:Hp)(a:e_)(o:HO):Hp:=λb=>if b=a then a_ o else H b
def ao:upd H a o a=a_ o:=by unfold upd;rw[if_pos rfl]
def ai(h:b≠a):upd H a o b=H b:=by unfold upd;rw[if_neg h]
def mM:upd (upd H a o) a u=upd H a u:=by
 funext b;unfold upd;split <;> rfl
def gU{H:Hp}{a b:e_}{o u:HO}(h:H a=a_ o)(h':H b=a_ u)(d:o≠u):a≠b:=by
 intro e;subst e;rw[h]at h';exact d (cE h')
def bp{H:Hp}{a b:e_}{o:HO}(h:H a=a_ o)(h':H b=b_):a≠b:=by
 intro e;subst e;rw[h]at h';cases h'
section
variable(P:k_)(w:j_)
def dI(H:Hp)(h:i_)(a:e_):HO->Prop
 | .lst xs=>xs.length<=bw/\∃(its:List f_) (n:Nat),Vals xs its/\h.get? a=a_ { cls:=.type "list",data:=.seq its.toArray n }
 | .tup xs=>xs.length<=bw/\∃its:List f_,Vals xs its/\IsTup h a its.toArray
 | .dK kvs=>kvs.length<=bw/\(a == pP)=d_/\∃vs,KV kvs vs/\h.DictOf (iK P w) a vs
 | .dT kvs=>kvs.length<=bw/\(a == pP)=d_/\∃xs:List (List Key×e_×f_),Paired (λ(p:List Key×V) (q:List Key×e_×f_)=>p.1=q.1/\H q.2.1=a_ (.tup (p.1.map kV))/\RelV p.2 q.2.2) kvs xs/\
   ∃o es ep,h.get? a=a_ o/\o.ExactDict/\o.data=.dict es ep/\es.toList=xs.map (entryOfKey (Bo (iK P w)))/\(xs.map (·.1)).Nodup
 | .set S n=>h.SetOf (intKind P w) a S n
 | .ins C dx fs=>H dx=a_ (.own a)/\fs.length<=1000/\dx≠a/\h.get? a=a_ (W.instObj C dx)/\
   ∃mA,h.Ns1 dx mA/\(∀f,jm (fs.lookup f) (mA f))/\PySem.Within mA (fs.map (·.1))
 | .own _=>∃o,h.get? a=a_ o
 | .xd fs=>∃mA,h.Ns1 a mA/\∀f,jm (fs.lookup f) (mA f)
 | .OA lo hi=>∃t u v,h.get? a=a_ { cls:=.type "range",data:=.fields #[.int lo t,.int hi u,.int 1 v] }
 | .lX o u=>h.get? a=a_ o/\dI H h a u
 | .eY ps=>h.get? a=a_ { cls:=.none,data:=.fields ps }
 | .met f x=>h.get? a=a_ (W.methodObj (.ref f) (.ref x))
 | .ext φ=>φ h/\(∃o,h.get? a=a_ o)/\∀h1 h2:i_,φ h1->(∀o,h1.get? a=a_ o->h2.get? a=a_ o)->φ h2
def eR(H:Hp)(h:i_):Prop:=∀a o,H a=a_ o->dI P w H h a o
end
section
variable{P:k_}{w:j_}{H H':Hp}{h h':i_}{a:e_}{o:HO}
def dI.lt(x:dI P w H h a o):a<h.zH:=by
 cases o with
 | lst xs=>obtain⟨_,_,_,_,e⟩:=x;exact bH e
 | tup xs=>obtain⟨_,_,_,p⟩:=x;exact p.lt
 | dK kvs=>obtain⟨_,_,_,_,o,_,_,e,_⟩:=x;exact bH e
 | dT kvs=>obtain⟨_,_,_,_,o,_,_,e,_⟩:=x;exact bH e
 | set S n=>obtain⟨o,_,_,_,e,_⟩:=x;exact bH e
 | ins C dx fs=>obtain⟨_,_,_,e,_⟩:=x;exact bH e
 | own y=>obtain⟨_,e⟩:=x;exact bH e
 | xd fs=>obtain⟨_,⟨_,_,_,e,_⟩,_⟩:=x;exact bH e
 | OA lo hi=>obtain⟨_,_,_,e⟩:=x;exact bH e
 | lX ob u=>obtain⟨e,_⟩:=x;exact bH e
 | eY ps=>exact bH (show h.get? a=a_ _ from x)
 | met f y=>exact bH (show h.get? a=a_ _ from x)
 | ext φ=>obtain⟨_,⟨_,e⟩,_⟩:=x;exact bH e
def Paired.bZ{α β:Type}{F G:α->β->Prop}:∀{l₁:List α} {l₂:List β},Paired F l₁ l₂->(∀a b,F a b->G a b)->Paired G l₁ l₂
 | _,_,.nil,_=>.nil
 | _,_,.cons r t,f=>.cons (f _ _ r) (Paired.bZ t f)
def dI.tI(x:dI P w H h a o)(k:∀b u,(b=a\/H b=a_ (.own a))->h.get? b=a_ u->h'.get? b=a_ u)
  (ho:∀b,H b=a_ (.own a)->H' b=a_ (.own a)) (ht:∀b xs,H b=a_ (.tup xs)->H' b=a_ (.tup xs)):dI P w H' h' a o:=by
 induction o with
 | lst xs=>obtain⟨z,its,n,r,e⟩:=x;exact⟨z,its,n,r,k _ _ (.inl xz) e⟩
 | tup xs=>obtain⟨z,its,r,ob,e,c⟩:=x;exact⟨z,its,r,ob,k _ _ (.inl xz) e,c⟩
 | dK kvs=>obtain⟨z,y,vs,r,ob,es,ep,e,c⟩:=x;exact⟨z,y,vs,r,ob,es,ep,k _ _ (.inl xz) e,c⟩
 | dT kvs=>
  obtain⟨z,y,xs,r,ob,es,ep,e,c⟩:=x;exact⟨z,y,xs,Paired.bZ r λp q z=>⟨z.1,ht _ _ z.2.1,z.2.2⟩,ob,es,ep,k _ _ (.inl xz) e,c⟩
 | set S n=>obtain⟨ob,es,ep,t,e,c⟩:=x;exact⟨ob,es,ep,t,k _ _ (.inl xz) e,c⟩
 | ins C dx fs=>
  obtain⟨d,z,ne,e,mA,⟨od,es,ep,e2,c⟩,r⟩:=x;exact⟨ho _ d,z,ne,k _ _ (.inl xz) e,mA,⟨od,es,ep,k _ _ (.inr d) e2,c⟩,r⟩
 | own y=>obtain⟨ob,e⟩:=x;exact⟨ob,k _ _ (.inl xz) e⟩
 | xd fs=>obtain⟨mA,⟨od,es,ep,e,c⟩,r⟩:=x;exact⟨mA,⟨od,es,ep,k _ _ (.inl xz) e,c⟩,r⟩
 | OA lo hi=>obtain⟨t,u,v,e⟩:=x;exact⟨t,u,v,k _ _ (.inl xz) e⟩
 | lX ob u ih=>obtain⟨e,q⟩:=x;exact⟨k _ _ (.inl xz) e,ih q⟩
 | eY ps=>
  have e:h.get? a=a_ { cls:=.none,data:=.fields ps }:=x;show h'.get? a=a_ { cls:=.none,data:=.fields ps };exact k a _ (.inl xz) e
 | met f y=>
  have e:h.get? a=a_ (W.methodObj (.ref f) (.ref y)):=x;show h'.get? a=a_ (W.methodObj (.ref f) (.ref y));exact k a _ (.inl xz) e
 | ext φ=>obtain⟨p,⟨o,e⟩,st⟩:=x;exact⟨st _ _ p λo q=>k _ _ (.inl xz) q,⟨o,k _ _ (.inl xz) e⟩,st⟩
def eR.lt(x:eR P w H h)(e:H a=a_ o):a<h.zH:=(x a o e).lt
def eR.fresh(x:eR P w H h)(e:h.zH<=a):H a=none:=by
 cases q:H a with
 | none=>rfl
 | some u=>exact absurd (gj (x.lt q) e) (je _)
def eR.kept(x:eR P w H h)(k:∀b u,h.get? b=a_ u->h'.get? b=a_ u):eR P w H h':=λa o e=>
 (x a o e).tI (λb u _ q=>k b u q) (λ_ q=>q) λ_ _ q=>q
def eR.laid(x:eR P w H h)(k:∀b u,h.get? b=a_ u->h'.get? b=a_ u)(hp:h.zH<=a)(new:dI P w (upd H a o) h' a o):eR P w (upd H a o) h':=λb u e=>by
 have hn:=x.fresh hp
 by_cases hb:b=a
 .subst hb;rw[ao]at e;cases e;exact new
 .rw[ai hb]at e;exact(x b u e).tI (λc v _ q=>k c v q) (λc q=>by rw[ai (bp q hn)];exact q) λc xs q=>by rw[ai (bp q hn)];exact q
end
def Rd(H:Hp)(a:e_)(u:HO):Prop:=H a=a_ u\/∃o,H a=a_ (.lX o u)
def Rd.ok{P:k_}{w:j_}(r:Rd H a u)(x:eR P w H h):dI P w H h a u:=by
 rcases r with r | ⟨o,r⟩
 .exact x a u r
 .obtain⟨_,q⟩:=x a _ r;exact q
def Co:Option HO->Prop
 | some (.lst _)=>True
 | some (.dK _)=>True
 | some (.dT _)=>True
 | some (.set _ _)=>True
 | some (.ins _ _ _)=>True
 | some (.ext _)=>True
 | _=>False
section
variable{P:k_}{w:j_}{H:Hp}{h h':i_}{x e:e_}{o':HO}
def eR.write(ok:eR P w H h)(mu:Co (H x))(he:e=x\/H e=a_ (.own x))(k:∀b u,b≠e->h.get? b=a_ u->h'.get? b=a_ u)(AF:∃u,h'.get? e=a_ u)
  (new:dI P w (upd H x o') h' x o'):eR P w (upd H x o') h':=λb u q=>by
 have X6:∀c y,H c=a_ (.own y)->c≠x:=λc y r z=>by subst z;rw[r]at mu;exact mu
 have amV:∀c xs,H c=a_ (.tup xs)->c≠x:=λc xs r z=>by subst z;rw[r]at mu;exact mu
 by_cases hb:b=x
 .subst hb;rw[ao]at q;cases q;exact new
 .rw[ai hb]at q
  by_cases yj:b=e
  .have q':H b=a_ (.own x):=by
    rcases he with z | z
    .exact absurd (yj.trans z) hb
    .rw[yj];exact z
   rw[q]at q';cases q';obtain⟨v,hv⟩:=AF;exact⟨v,by rw[yj];exact hv⟩
  .refine(ok b u q).tI (λc v hc r=>k c v ?_ r) (λc r=>by rw[ai (X6 c b r)];exact r) λc xs r=>by rw[ai (amV c xs r)];exact r
   rcases hc with rfl | hc
   .exact yj
   .rintro rfl;rcases he with z | z
    .exact X6 c b hc z
    .rw[hc]at z;cases z;exact hb xz
end
structure Un(fs ex:List e_)(H H':Hp)(h h':i_):Prop where
 keep:∀b o,h.get? b=a_ o->H b=b_->b∉fs->b∉ex->h'.get? b=a_ o
 slot:∀b o,h.get? b=a_ o->H b=b_->b∈fs->b∉ex->∃sl,h'.get? b=a_ { o with slots:=sl }
 free:∀b o,h.get? b=a_ o->H b=b_->b∉ex->H' b=b_
 there:∀b o,h.get? b=a_ o->b∉ex->∃o',h'.get? b=a_ o'
 tH:∀b xs,H b=a_ (.tup xs)->H' b=a_ (.tup xs)
 r6:∀b o u,H b=a_ (.lX o u)->H' b=a_ (.lX o u)
 rW:∀b ps,H b=a_ (.eY ps)->∃more,H' b=a_ (.eY (ps++more))
section
variable{fs my ex ex':List e_}{H H1 H2:Hp}{h h1 h2 h':i_}{a x e:e_}{o:HO}
def Un.any(u:Un fs ex H H1 h h1)(q:h.get? b=a_ ob)(n:H b=b_)(hx:b∉ex):∃sl,h1.get? b=a_ { ob with slots:=sl }:=by
 by_cases hb:b∈fs
 .exact u.slot b ob q n hb hx
 .exact⟨ob.slots,u.keep b ob q n hb hx⟩
def Un.kept(k:∀b u,h.get? b=a_ u->h'.get? b=a_ u):Un fs ex H H h h':=
 ⟨λb ob q _ _ _=>k b ob q,λb ob q _ _ _=>⟨ob.slots,k b ob q⟩,λ_ _ _ n _=>n,λb ob q _=>⟨ob,k b ob q⟩,λ_ _ q=>q,λ_ _ _ q=>q,λ_ ps q=>⟨#[],by rw[q];simp⟩⟩
def Un.refl:Un fs ex H H h h:=Un.kept λ_ _ q=>q
def Un.laid(k:∀b u,h.get? b=a_ u->h'.get? b=a_ u)(hp:h.zH<=a)(hn:H a=b_):Un fs ex H (upd H a o) h h' where
 keep:=λb u q _ _ _=>k b u q
 slot:=λb u q _ _ _=>⟨u.slots,k b u q⟩
 free:=λb u q n _=>by rw[ai (cC (gj (bH q) hp))];exact n
 there:=λb u q _=>⟨u,k b u q⟩
 tH:=λb xs q=>by rw[ai (bp q hn)];exact q
 r6:=λb u xs q=>by rw[ai (bp q hn)];exact q
 rW:=λb ps q=>⟨#[],by rw[ai (bp q hn),q];simp⟩
def Un.write(mu:Co (H x))(he:e=x\/H e=a_ (.own x))(k:∀b u,b≠e->h.get? b=a_ u->h'.get? b=a_ u)(AF:∃u,h'.get? e=a_ u):Un fs ex H (upd H x o) h h':=by
 have hx:∀b,H b=b_->b≠x:=λb n z=>by subst z;rw[n]at mu;exact mu
 have hb:∀b,H b=b_->b≠e:=λb n z=>by
  subst z;rcases he with r | r
  .exact hx b n r
  .rw[n]at r;cases r
 have hm:∀b u,H b=a_ u->¬Co (a_ u)->b≠x:=λb u q nm z=>by subst z;rw[q]at mu;exact nm mu
 refine⟨λb u q n _ _=>k b u (hb b n) q,λb u q n _ _=>⟨u.slots,k b u (hb b n) q⟩,λb u q n _=>by rw[ai (hx b n)];exact n,λb u q _=>?_,λb xs q=>by rw[ai (hm b _ q λz=>z)];exact q,λb u xs q=>by rw[ai (hm b _ q λz=>z)];exact q,λb ps q=>⟨#[],by rw[ai (hm b _ q λz=>z),q];simp⟩⟩
 by_cases yj:b=e
 .subst yj;exact AF
 .exact⟨u,k b u yj q⟩
end
def Gx(h:i_)(H:Hp):List Addr:=(List.range h.zH).filter λa=>(H a).isSome
def rY(h:i_)(H:Hp):Heap:=W.hideAll h (Gx h H)
def ad8(h:i_)(H:Hp):(rY h H).zH=h.zH:=W.hideAll_size _ _
def afA(e:h.get? b=a_ o)(n:H b=b_):(rY h H).get? b=a_ o:=
 W.hideAll_get _ e λhm=>by
  have q:=(jw.mp hm).2;rw[n]at q;simp at q
def ag9(e:(rY h H).get? b=a_ o):h.get? b=a_ o/\H b=none:=by
 have e':=W.of_hideAll (Gx h H) e;refine⟨e',?_⟩;cases q:H b with
 | none=>rfl
 | some x=>
  have hm:b∈Gx h H:=jw.mpr ⟨nW.mpr (bH e'),by simp[q]⟩;have z:(rY h H).get? b=none:=W.hideAll_none (Gx h H) hm;rw[z]at e;cases e
structure Mod(K:u_)(mg:Str->Option f_)(base:i_):Prop where
 xE:K.In base
 glob:base.Ns eN mg
 blt:∃mb,base.Ns rh mb/\∀x:Str,x ≠ "__name__"->mb x=pK x
 nolimit:base.NoLimit
structure Cx where
 prog:k_
 w:j_
 K:u_
 mg:Str->Option f_
 base:i_
 A:h_
 N:List Str
 s₀:g_
 H₀:Hp
 env:Env
 outer:List Env
 stack:List Env
 ex:List e_
 fn:Str->Bool
 calm:Bool
 pn:List (e_×Obj)
 xe:f_->g_->Prop
def qC(l:List Env):List Addr:=l.filterMap (·.frame)
abbrev Cx.fs(X:Cx):List Addr:=qC X.outer
def GU(sc:Scope)(x:Str):Prop:=sc.names.lookup x=a_ .local\/sc.names.lookup x=a_ .cell\/sc.names.lookup x=a_ .free
def Loc(sc:Scope)(x:Str):Prop:=sc.names.lookup x=a_ .local\/sc.names.lookup x=a_ .cell
def Look(env:Env)(h:i_)(m:Str->Option f_)(x:Str)(u:f_):Prop:=
 (env.kindOf x=a_ .local/\m x=a_ u)\/((env.kindOf x=a_ .cell\/env.kindOf x=a_ .free)/\∃c,env.cells.lookup x=a_ c/\h.IsCell c (a_ u))
structure Cx.Ok(X:Cx):Prop where
 mod:Mod X.K X.mg X.base
 kind:X.env.scope.kind=.function
 glob:X.env.globals=eN
 blt:X.env.builtins=rh
 above:X.s₀.zS<=X.env.locals
 inj:∀x y c,X.env.cells.lookup x=a_ c->X.env.cells.lookup y=a_ c->x=y
 has:∀x,(X.env.kindOf x=a_ .cell\/X.env.kindOf x=a_ .free)->∃c,X.env.cells.lookup x=a_ c
 xI:∀x c,X.fn x=c_->X.env.cells.lookup x=a_ c->X.s₀.zS<=c
 hd:X.calm=c_->X.A.handled=b_
 frames:X.A.frames=a_ X.stack
 Ab:X.stack=X.outer\/(X.stack=X.env::X.outer/\X.env.frame=a_ X.env.locals)
 vL:∀b∈X.ex,b≠X.env.locals/\∀x c,X.env.cells.lookup x=a_ c->c≠b
 bs:∀b o,X.base.get? b=a_ o->X.s₀.heap.get? b=a_ o/\X.H₀ b=b_
 nD:X.base.zH<=X.s₀.zS
 xn:∀b o,X.base.get? b=a_ o->b∉X.ex
 vq:∀b∈X.ex,b∉X.fs
 lS:X.s₀.heap.FunFrames X.base X.outer
 tU:∀b∈X.fs,X.H₀ b=b_
structure Inv(X:Cx)(p_:List (e_×Obj))(σ:List (Option V))(H:Hp)(s:g_):Prop where
 ok:X.Ok
 os:s.os=X.s₀.os
 bare:AllBare s.gens
 base:Un X.fs X.ex X.H₀ H X.s₀.heap s.heap
 loc:∃m,s.heap.Ns X.env.locals m/\∀(i:Nat) (x:Str) (v:V),X.N[i]?=a_ x->σ[i]?=a_ (a_ v)->GU X.env.scope x->∃u,RelV v u/\Look X.env s.heap m x u
 cell:∀x c,X.env.cells.lookup x=a_ c->∃v,s.heap.IsCell c v
 free:H X.env.locals=b_
 kR:∀x c,X.env.cells.lookup x=a_ c->H c=b_
 pin:∀p∈X.pn++p_,s.heap.get? p.1=a_ p.2/\H p.1=b_/\p.1≠X.env.locals/\p.1∉X.fs/\∀v,p.2.data≠.cell v
 aH:eR X.prog X.w H s.heap
 len:σ.length=X.N.length
section
variable{X:Cx}{p_:List (e_×Obj)}{σ:List (Option V)}{H H':Hp}{s:g_}{h':i_}
def Cx.Ok.amB(ok:X.Ok)(e:X.base.get? b=a_ o):b∉X.fs:=λhb=>by
 have:=(ok.lS.mem hb).1;rw[e]at this;cases this
def Inv.bs(I:Inv X p_ σ H s):∀b o,X.base.get? b=a_ o->s.heap.get? b=a_ o/\H b=none:=λb o e=>
 ⟨I.base.keep b o (I.ok.bs b o e).1 (I.ok.bs b o e).2 (I.ok.amB e) (I.ok.xn b o e),I.base.free b o (I.ok.bs b o e).1 (I.ok.bs b o e).2 (I.ok.xn b o e)⟩
def Inv.bk(I:Inv X p_ σ H s):∀b o,X.base.get? b=a_ o->s.heap.get? b=a_ o:=λb o e=>(I.bs b o e).1
def Inv.mod(I:Inv X p_ σ H s):Mod X.K X.mg X.base:=I.ok.mod
def Inv.eZ(I:Inv X p_ σ H s):X.K.In s.heap:=I.ok.mod.xE.keeps I.bk
def Inv.nolimit(I:Inv X p_ σ H s):s.heap.NoLimit:=I.ok.mod.nolimit.keeps I.bk
def Inv.fr(I:Inv X p_ σ H s):∃m,Fr X.base X.env.locals s.heap m:=
 let ⟨m,hn,_⟩:=I.loc
 ⟨m,hn,I.bk,cu I.ok.nD I.ok.above⟩
def Inv.lt(I:Inv X p_ σ H s):X.env.locals<s.zS:=let ⟨_,hn,_⟩:=I.loc;hn.lt
def Inv.sz(I:Inv X p_ σ H s):X.s₀.zS<=s.zS:=cu I.ok.above (cY I.lt)
def Inv.XE(I:Inv X p_ σ H s)(h:s.zS<=a):a∉X.fs:=λhb=>by
 obtain⟨_,o,ho,_⟩:=I.ok.lS.mem hb;exact absurd (gj (bH ho) (cu I.sz h)) (je _)
def Inv.xH(I:Inv X p_ σ H s):∀x c,X.env.cells.lookup x=a_ c->c≠X.env.locals:=λx c e z=>by
 obtain⟨v,o,ho,hd⟩:=I.cell x c e;obtain⟨m,⟨o',es,ep,qO,mw,_⟩,_⟩:=I.loc;rw[z,qO]at ho;cases ho;rw[mw]at hd;cases hd
def Inv.lS(I:Inv X p_ σ H s):s.heap.FunFrames X.base X.outer:=by
 have all:∀(l:List Env),(∀b∈qC l,b∈X.fs)->X.s₀.heap.FunFrames X.base l->s.heap.FunFrames X.base l:=by
  intro l
  induction l with
  | nil=>intro _ _;trivial
  | cons env r ih=>
   intro hs hl;obtain⟨hk,⟨L,o,hf,hn,ho,hd⟩,hr⟩:=hl;have hL:=hs L (by unfold qC;rw[Ir,hf];exact du);obtain⟨sl,e⟩:=I.base.slot L o ho (I.ok.tU L hL) hL λz=>I.ok.vq L z hL;exact⟨hk,⟨L,_,hf,hn,e,hd⟩,ih (λb hb=>hs b (by unfold qC;rw[Ir,hf];exact eL _ hb)) hr⟩
 exact all X.outer (λ_ hb=>hb) I.ok.lS
def Inv.stack(I:Inv X p_ σ H s):s.heap.FunFrames X.base X.stack:=by
 rcases I.ok.Ab with e | ⟨e,hf⟩
 .rw[e];exact I.lS
 .rw[e];obtain⟨m,hn,_⟩:=I.loc;refine .cons (by rw[I.ok.kind];decide) hf hn ?_ I.lS;exact Heap.get?_none_of_le (cu I.ok.nD I.ok.above)
def Inv.LI(I:Inv X p_ σ H s):∀b∈qC X.stack,b∈X.env.locals::X.fs:=λb hb=>by
 rcases I.ok.Ab with e | ⟨e,hf⟩
 .rw[e]at hb;exact eL _ hb
 .rw[e]at hb;unfold qC at hb;rw[Ir,hf]at hb;exact hb
def Inv.KZ(I:Inv X p_ σ H s):∀b∈qC X.stack,H b=none:=λb hb=>by
 rcases bX.mp (I.LI b hb)with e | hb
 .rw[e];exact I.free
 .obtain⟨_,o,ho,_⟩:=I.ok.lS.mem hb;exact I.base.free b o ho (I.ok.tU b hb) λz=>I.ok.vq b z hb
def Inv.step{g':Array GenState}{t':Nat}{d':Drawn}{ch:List e_}(I:Inv X p_ σ H s)
  (sH:∀b∈ch,(b∈X.ex\/X.s₀.zS<=b)/\b≠X.env.locals/\(∀x c,X.env.cells.lookup x=a_ c->c≠b)/\∀p∈X.pn++p_,p.1≠b)
  (keep:∀b o,b≠X.env.locals->b∉X.fs->b∉ch->s.heap.get? b=a_ o->H b=b_->h'.get? b=a_ o)
  (slot:∀b o,b≠X.env.locals->b∈X.fs->b∉ch->s.heap.get? b=a_ o->H b=b_->∃sl,h'.get? b=a_ { o with slots:=sl }) (free:∀b o,b∉ch->s.heap.get? b=a_ o->H b=b_->H' b=b_)
  (there:∀b o,b∉ch->s.heap.get? b=a_ o->∃o',h'.get? b=a_ o')
  (tH:∀b xs,H b=a_ (.tup xs)->H' b=a_ (.tup xs)) (r6:∀b o u,H b=a_ (.lX o u)->H' b=a_ (.lX o u)) (rW:∀b ps,H b=a_ (.eY ps)->∃more,H' b=a_ (.eY (ps++more)))
  (ns:∀m,s.heap.Ns X.env.locals m->h'.Ns X.env.locals m) (aH:eR X.prog X.w H' h') (hg:AllBare g') :
  Inv X p_ σ H' { s with heap:=h',gens:=g',drawn:=d',toks:=t' }:=by
 have ZC:∀b o,X.s₀.heap.get? b=a_ o->b≠X.env.locals:=λb o e=>cC (gj (bH e) I.ok.above)
 have Ho:∀b o,X.s₀.heap.get? b=a_ o->b∉X.ex->b∉ch:=λb o e hx hb=>by
  rcases(sH b hb).1 with z | z
  .exact hx z
  .exact absurd (gj (bH e) z) (je _)
 have cellK:∀x c,X.env.cells.lookup x=a_ c->∀v,s.heap.IsCell c v->h'.IsCell c v:=λx c e v ⟨o,ho,hd⟩=>by
  have vP:c∉ch:=λz=>(sH c z).2.2.1 x c e xz
  by_cases hc:c∈X.fs
  .obtain⟨sl,q⟩:=slot c o (I.xH x c e) hc vP ho (I.kR x c e);exact⟨_,q,hd⟩
  .exact⟨o,keep c o (I.xH x c e) hc vP ho (I.kR x c e),hd⟩
 refine⟨I.ok,I.os,hg,⟨λb o e n hb hx=>keep b o (ZC b o e) hb (Ho b o e hx) (I.base.keep b o e n hb hx) (I.base.free b o e n hx),λb o e n hb hx=>?_,λb o e n hx=>?_,λb o e hx=>?_,λb xs e=>tH b xs (I.base.tH b xs e),λb o xs e=>r6 b o xs (I.base.r6 b o xs e),λb ps e=>?_⟩,?_,λx c e=>?_,?_,λx c e=>?_,λp hp=>?_,aH,I.len⟩
 .obtain⟨sl,e1⟩:=I.base.slot b o e n hb hx;obtain⟨sl',e2⟩:=slot b _ (ZC b o e) hb (Ho b o e hx) e1 (I.base.free b o e n hx);exact⟨sl',e2⟩
 .obtain⟨o',e1⟩:=I.base.there b o e hx;exact free b o' (Ho b o e hx) e1 (I.base.free b o e n hx)
 .obtain⟨o',e1⟩:=I.base.there b o e hx;exact there b o' (Ho b o e hx) e1
 .obtain⟨m1,e1⟩:=I.base.rW b ps e;obtain⟨m2,e2⟩:=rW b _ e1;exact⟨m1++m2,by rw[e2,Array.append_assoc]⟩
 .obtain⟨m,hn,hl⟩:=I.loc;refine⟨m,ns m hn,λi x v e1 e2 e3=>?_⟩;obtain⟨u,r,l⟩:=hl i x v e1 e2 e3;refine⟨u,r,?_⟩;rcases l with l | ⟨k,c,e,z⟩
  .exact .inl l
  .exact .inr ⟨k,c,e,cellK x c e _ z⟩
 .obtain⟨v,z⟩:=I.cell x c e;exact⟨v,cellK x c e v z⟩
 .obtain⟨m,⟨o,_,_,ho,_⟩,_⟩:=I.loc;exact free _ o (λz=>(sH _ z).2.1 xz) ho I.free
 .obtain⟨v,o,ho,hd⟩:=I.cell x c e;exact free c o (λz=>(sH c z).2.2.1 x c e xz) ho (I.kR x c e)
 .obtain⟨e,n,ne,nf,d⟩:=I.pin p hp;have vP:p.1∉ch:=λz=>(sH p.1 z).2.2.2 p hp rfl;exact⟨keep p.1 p.2 ne nf vP e n,free p.1 p.2 vP e n,ne,nf,d⟩
def Inv.un{t':Nat}(I:Inv X p_ σ H s)(u:Un X.fs [] H H' s.heap h')(aH:eR X.prog X.w H' h'):Inv X p_ σ H' { s with heap:=h',toks:=t' }:=by
 obtain⟨m,⟨o,es,ep,ho,r⟩,_⟩:=id I.loc;obtain⟨sl,hL⟩:=u.any ho I.free (by simp)
 exact I.step (g':=s.gens) (d':=s.drawn) (ch:=[]) (λ_ z=>nomatch z) (λb o _ hb _ e n=>u.keep b o e n hb (by simp)) (λb o _ hb _ e n=>u.slot b o e n hb (by simp)) (λb o _ e n=>u.free b o e n (by simp)) (λb o _ e=>u.there b o e (by simp)) u.tH u.r6 u.rW (λm' hm=>by
  obtain⟨o',lF,AJ,qO,r'⟩:=hm;rw[ho]at qO;cases qO;exact⟨_,lF,AJ,hL,r'⟩) aH I.bare
def Inv.call{g':Array GenState}{t':Nat}{d':Drawn}{ch:List e_}(I:Inv X p_ σ H s)(u:Un (qC X.stack) ch H H' s.heap h')(aH:eR X.prog X.w H' h')(hg:AllBare g')
  (sH:∀b∈ch,(b∈X.ex\/X.s₀.zS<=b)/\b≠X.env.locals/\(∀x c,X.env.cells.lookup x=a_ c->c≠b)/\∀p∈X.pn++p_,p.1≠b) :
  Inv X p_ σ H' { s with heap:=h',gens:=g',drawn:=d',toks:=t' }:=by
 obtain⟨m,⟨o,es,ep,ho,r⟩,_⟩:=id I.loc;obtain⟨sl,hL⟩:=u.any ho I.free λz=>(sH _ z).2.1 xz
 exact I.step (ch:=ch) sH (λb o hL hb hc e n=>u.keep b o e n (λz=>(bX.mp (I.LI b z)).elim hL hb) hc) (λb o _ _ hc e n=>u.any e n hc) (λb o hc e n=>u.free b o e n hc) (λb o hc e=>u.there b o e hc) u.tH u.r6 u.rW (λm' hm=>by
  obtain⟨o',lF,AJ,qO,r'⟩:=hm;rw[ho]at qO;cases qO;exact⟨_,lF,AJ,hL,r'⟩) aH hg
def Inv.turned{t':Nat}{it:e_}(I:Inv X p_ σ H s)(k:∀b o,b≠it->s.heap.get? b=a_ o->h'.get? b=a_ o)(hn:H it=b_)(hL:it≠X.env.locals)
  (h1:it∈X.ex\/X.s₀.zS<=it) (h2:∀x c,X.env.cells.lookup x=a_ c->c≠it) (h3:∀p∈X.pn++p_,p.1≠it):Inv X p_ σ H { s with heap:=h',toks:=t' }:=by
 have ZA:∀b u,H b=a_ u->b≠it:=λb u e z=>by rw[z,hn]at e;cases e
 refine I.step (g':=s.gens) (d':=s.drawn) (ch:=[it]) (λb hb=>?_) (λb o _ _ hc e _=>k b o (λz=>hc (by simp[z])) e) (λb o _ _ hc e _=>⟨o.slots,k b o (λz=>hc (by simp[z])) e⟩) (λ_ _ _ _ n=>n)
  (λb o hc e=>⟨o,k b o (λz=>hc (by simp[z])) e⟩) (λ_ _ e=>e) (λ_ _ _ e=>e) (λb ps e=>⟨#[],by rw[e];simp⟩) (λm hm=>?_) (λb u e=>?_) I.bare
 .have e:b=it:=by simpa using hb
  subst e;exact⟨h1,hL,h2,h3⟩
 .obtain⟨o,es,ep,ho,r⟩:=hm;exact⟨o,es,ep,k _ o (cH hL) ho,r⟩
 .refine(I.aH b u e).tI (λc v hc q=>k c v ?_ q) (λ_ q=>q) λ_ _ q=>q;rcases hc with z | z
  .rw[z];exact ZA b u e
  .exact ZA c _ z
def Inv.tok(I:Inv X p_ σ H s)(t:Nat):Inv X p_ σ H { s with toks:=t }:=I.un (h':=s.heap) (t':=t) Un.refl I.aH
def Inv.kept(I:Inv X p_ σ H s)(k:∀b u,s.heap.get? b=a_ u->h'.get? b=a_ u):Inv X p_ σ H { s with heap:=h',toks:=t' }:=I.un (Un.kept k) (I.aH.kept k)
def Inv.laid(I:Inv X p_ σ H s)(k:∀b u,s.heap.get? b=a_ u->h'.get? b=a_ u)(hp:s.zS<=a)(new:dI X.prog X.w (upd H a o) h' a o) :
  Inv X p_ σ (upd H a o) { s with heap:=h',toks:=t' }:=I.un (Un.laid k hp (I.aH.fresh hp)) (I.aH.laid k hp new)
def Inv.write(I:Inv X p_ σ H s)(mu:Co (H x))(he:e=x\/H e=a_ (.own x))(k:∀b u,b≠e->s.heap.get? b=a_ u->h'.get? b=a_ u)(AF:∃u,h'.get? e=a_ u)
  (new:dI X.prog X.w (upd H x o) h' x o):Inv X p_ σ (upd H x o) { s with heap:=h',toks:=t' }:=I.un (Un.write mu he k AF) (I.aH.write mu he k AF new)
def Inv.weak(I:Inv X p_ σ H s)(hl:σ'.length=σ.length)(w:∀(i:Nat) v,σ'[i]?=a_ (a_ v)->σ[i]?=a_ (a_ v)):Inv X p_ σ' H s:=
 ⟨I.ok,I.os,I.bare,I.base,let ⟨m,hn,CY⟩:=I.loc;⟨m,hn,λi x v e1 e2 e3=>CY i x v e1 (w i v e2) e3⟩,I.cell,I.free,I.kR,I.pin,I.aH,hl.trans I.len⟩
def Inv.uS(I:Inv X p_ σ H s)(h:∀p∈alO,s.heap.get? p.1=a_ p.2/\H p.1=b_/\p.1≠X.env.locals/\p.1∉X.fs/\∀v,p.2.data≠.cell v):Inv X alO σ H s:=
 ⟨I.ok,I.os,I.bare,I.base,I.loc,I.cell,I.free,I.kR,λp hp=>(dH.mp hp).elim (λz=>I.pin p (nN _ z)) (h p),I.aH,I.len⟩
def Ud{N:List Str}(hN:N.Nodup){i j:Nat}{x:Str}(a:N[i]?=a_ x)(b:N[j]?=a_ x):i=j:=by
 obtain⟨h1,e1⟩:=bK.mp a;obtain⟨h2,e2⟩:=bK.mp b;exact(abv hN).mp (e1.trans e2.symm)
def Su{M:Model}{A:h_}{E:f_->g_->Prop}{i:Nat}{x:Str}{v:V}{u:f_}{Q:Unit->g_->Prop}(I:Inv X p_ σ H s)(hN:X.N.Nodup)(hi:X.N[i]?=a_ x)(hx:Loc X.env.scope x)(r:RelV v u)
  (h:∀s',Inv X p_ (σ.set i (a_ v)) H s'->(∃a,fU a s.heap s'.heap/\(a=X.env.locals\/X.env.cells.lookup x=a_ a))->Q () s') (hf:X.fn x=c_\/X.env.scope.names.lookup x=a_ .local:=by first | exact .inl xz | exact .inr xz | assumption):wpAny M A (storeName X.env x u) Q E s:=by
 obtain⟨m,hn,hl⟩:=id I.loc;have anO:(X.env.scope.kind == .class||(X.env.scope.kind == .module&&X.env.locals != X.env.globals))=false:=by rw[I.ok.kind];rfl
 have hiσ:i < σ.length:=by rw[I.len];exact(bK.mp hi).1
 have xH:=I.xH
 have tracked:∀{a:e_} {h':i_},(∃o,s.heap.get? a=a_ o/\H a=b_)->fU a s.heap h'->eR X.prog X.w H h':=λ{a h'} ha hs b ob e=>by
  obtain⟨_,_,Xm⟩:=ha;refine(I.aH b ob e).tI (λc w' hc q=>(hs.2 c ?_).trans q) (λ_ q=>q) λ_ _ q=>q;rintro rfl;rcases hc with rfl | hc
  .rw[Xm]at e;cases e
  .rw[Xm]at hc;cases hc
 rcases hx with hk | hk
 .refine wpAny_storeName_local hk hn (λh' CU hs=>?_) anO;obtain⟨oL,_,_,hoL,_⟩:=id hn;refine h _ ⟨I.ok,I.os,I.bare,⟨λb o e n hb hx=>(hs.2 b (cC (gj (bH e) I.ok.above))).trans (I.base.keep b o e n hb hx),λb o e n hb hx=>?_,I.base.free,λb o e hx=>?_,I.base.tH,I.base.r6,I.base.rW⟩,⟨_,CU,λj y v' e1 e2 e3=>?_⟩,λy c e=>?_,I.free,I.kR,λp hp=>?_,tracked ⟨oL,hoL,I.free⟩ hs,by simpa using I.len⟩ ⟨_,hs,.inl xz⟩
  .obtain⟨sl,e1⟩:=I.base.slot b o e n hb hx;exact⟨sl,(hs.2 b (cC (gj (bH e) I.ok.above))).trans e1⟩
  .obtain⟨o',e1⟩:=I.base.there b o e hx;exact⟨o',(hs.2 b (cC (gj (bH e) I.ok.above))).trans e1⟩
  .by_cases hj:j=i
   .subst hj;rw[hi]at e1;cases e1;rw[gC hiσ]at e2;cases e2;exact⟨u,r,.inl ⟨hk,by simp⟩⟩
   .rw[lG (cH hj)]at e2;obtain⟨u',r',q⟩:=hl j y v' e1 e2 e3;refine⟨u',r',?_⟩;rcases q with ⟨k,e⟩ | ⟨k,c,e,z⟩
    .refine .inl ⟨k,?_⟩;have:y≠x:=λe=>hj (Ud hN e1 (e ▸ hi));simp[this,e]
    .exact .inr ⟨k,c,e,z.sameBut hs (xH y c e)⟩
  .obtain⟨w',z⟩:=I.cell y c e;exact⟨w',z.sameBut hs (xH y c e)⟩
  .obtain⟨e,n,ne,nf,d⟩:=I.pin p hp;exact⟨(hs.2 p.1 ne).trans e,n,ne,nf,d⟩
 .have Py:X.fn x=true:=by
   rcases hf with z | z
   .exact z
   .rw[z]at hk;cases hk
  obtain⟨c,hc⟩:=I.ok.has x (.inl hk);obtain⟨w',z⟩:=I.cell x c hc;refine wpAny_storeName_cell I.ok.kind hk hc z λh' lD hs=>?_;obtain⟨oc,pq,anr⟩:=id z;refine h { s with heap:=h' } ⟨I.ok,I.os,I.bare,⟨λb o e n hb hx=>(hs.2 b (cC (gj (bH e) (I.ok.xI x c Py hc)))).trans (I.base.keep b o e n hb hx),λb o e n hb hx=>?_,I.base.free,λb o e hx=>?_,I.base.tH,I.base.r6,I.base.rW⟩,⟨m,hn.sameBut hs (cH (xH x c hc)),λj y v' e1 e2 e3=>?_⟩,λy c' e=>?_,I.free,I.kR,λp hp=>?_,tracked ⟨oc,pq,I.kR x c hc⟩ hs,by simpa using I.len⟩ ⟨c,hs,.inr hc⟩
  .obtain⟨sl,e1⟩:=I.base.slot b o e n hb hx;exact⟨sl,(hs.2 b (cC (gj (bH e) (I.ok.xI x c Py hc)))).trans e1⟩
  .obtain⟨o',e1⟩:=I.base.there b o e hx;exact⟨o',(hs.2 b (cC (gj (bH e) (I.ok.xI x c Py hc)))).trans e1⟩
  .by_cases hj:j=i
   .subst hj;rw[hi]at e1;cases e1;rw[gC hiσ]at e2;cases e2;exact⟨u,r,.inr ⟨.inl hk,c,hc,lD⟩⟩
   .rw[lG (cH hj)]at e2;obtain⟨u',r',q⟩:=hl j y v' e1 e2 e3;refine⟨u',r',?_⟩;rcases q with q | ⟨k,c',e,z'⟩
    .exact .inl q
    .refine .inr ⟨k,c',e,z'.sameBut hs ?_⟩;rintro rfl;exact hj (Ud hN e1 (I.ok.inj _ _ _ e hc ▸ hi))
  .by_cases hcc:c'=c
   .subst hcc;exact⟨_,lD⟩
   .obtain⟨w2,z2⟩:=I.cell y c' e;exact⟨w2,z2.sameBut hs hcc⟩
  .obtain⟨e,n,ne,nf,d⟩:=I.pin p hp;refine⟨(hs.2 p.1 ?_).trans e,n,ne,nf,d⟩;intro q;rw[q,pq]at e;have q':=cE e;exact d w' (by rw[<-q'];exact anr)
def Tq(I:Inv X p_ σ H s)(hN:X.N.Nodup)(hi:X.N[i]?=a_ x)(hx:Loc X.env.scope x)(r:RelV v u)
  (h:∀s',Inv X p_ (σ.set i (a_ v)) H s'->Q () s') (hf:X.fn x=c_\/X.env.scope.names.lookup x=a_ .local:=by first | exact .inl xz | exact .inr xz | assumption):wpAny M A (storeName X.env x u) Q E s:=
 Su I hN hi hx r (λs' I' _=>h s' I') hf
def Inv.Xg(I:Inv X p_ σ H s)(ho:s'.os=s.os)(u:Un (qC X.stack) ch H H' s.heap s'.heap)(aH:eR X.prog X.w H' s'.heap)(hg:AllBare s'.gens)
  (sH:∀b∈ch,(b∈X.ex\/X.s₀.zS<=b)/\b≠X.env.locals/\(∀x c,X.env.cells.lookup x=a_ c->c≠b)/\∀p∈X.pn++p_,p.1≠b):Inv X p_ σ H' s':=by
 obtain⟨h',g',d',t',o'⟩:=s';have e:o'=s.os:=ho;subst e;exact I.call (g':=g') (t':=t') (d':=d') u aH hg sH
end
abbrev XK:=f_->Option e_->Hp->Prop
abbrev St:=List (Option V)
abbrev VK:=V->Hp->Prop
abbrev TE:=St->Hp->VK->Prop
abbrev TT:=St->Hp->(Bool->Hp->Prop)->Prop
abbrev TA:=St->Hp->(List V->Hp->Prop)->Prop
structure Ends where
 nx:St->Hp->Prop
 rt:VK
 bk:St->Hp->Prop:=λ_ _=>False
 ct:St->Hp->Prop:=λ_ _=>False
abbrev TS:=Ends->St->Hp->Prop
def EP(X:Cx)(p_:List (e_×Obj))(σ:St)(Q:VK)(u:f_)(s':g_):Prop:=∃v H',Inv X p_ σ H' s'/\RelV v u/\Q v H'
def TP(X:Cx)(p_:List (e_×Obj))(σ:St)(Q:Bool->Hp->Prop)(b:Bool)(s':g_):Prop:=∃H',Inv X p_ σ H' s'/\Q b H'
def AP(X:Cx)(p_:List (e_×Obj))(σ:St)(Q:List V->Hp->Prop)(us:List f_)(s':g_):Prop:=∃vs H',Inv X p_ σ H' s'/\Vals vs us/\Q vs H'
def SP(X:Cx)(p_:List (e_×Obj))(D:Ends)(f:Flow)(s':g_):Prop:=
 match f with
 | .next=>∃σ' H',Inv X p_ σ' H' s'/\D.nx σ' H'
 | .brk=>∃σ' H',Inv X p_ σ' H' s'/\D.bk σ' H'
 | .cont=>∃σ' H',Inv X p_ σ' H' s'/\D.ct σ' H'
 | .ret u=>∃v σ' H',Inv X p_ σ' H' s'/\RelV v u/\D.rt v H'
def PE(X:Cx)(e:Expr)(t:TE):Prop:=
 ∀(p_:List (e_×Obj)) (s:g_) (σ:St) (H:Hp) (Q:VK),Inv X p_ σ H s->t σ H Q->wpAny (model X.prog X.w) X.A (eval e X.env) (EP X p_ σ Q) X.xe s
def PT(X:Cx)(e:Expr)(t:TT):Prop:=
 ∀(p_:List (e_×Obj)) (s:g_) (σ:St) (H:Hp) (Q:Bool->Hp->Prop),Inv X p_ σ H s->t σ H Q->wpAny (model X.prog X.w) X.A (isTrue e X.env (eval e X.env)) (TP X p_ σ Q) X.xe s
def PW(X:Cx)(e:Expr)(t:TT):Prop:=
 ∀(whole:Sem f_) (p_:List (e_×Obj)) (s:g_) (σ:St) (H:Hp) (Q:Bool->Hp->Prop),Inv X p_ σ H s->t σ H Q->wpAny (model X.prog X.w) X.A (isTrue e X.env whole) (TP X p_ σ Q) X.xe s
def PW.pt{t:TT}(h:PW X e t):PT X e t:=h _
def PA(X:Cx)(es:List Expr)(t:TA):Prop:=
 ∀(pos:Pos) (p_:List (e_×Obj)) (s:g_) (σ:St) (H:Hp) (Q:List V->Hp->Prop),Inv X p_ σ H s->t σ H Q->wpAny (model X.prog X.w) X.A (spliced (backTo pos (bV es X.env))) (AP X p_ σ Q) X.xe s
def PS(X:Cx)(st:Stmt)(t:TS):Prop:=
 ∀(p_:List (e_×Obj)) (s:g_) (σ:St) (H:Hp) (D:Ends),Inv X p_ σ H s->t D σ H->wpAny (model X.prog X.w) X.A (exec st X.env) (SP X p_ D) X.xe s
def gd(X:Cx)(st:List Stmt)(t:TS):Prop:=
 ∀(p_:List (e_×Obj)) (s:g_) (σ:St) (H:Hp) (D:Ends),Inv X p_ σ H s->t D σ H->wpAny (model X.prog X.w) X.A (execs st X.env) (SP X p_ D) X.xe s
def aR{α:Type}{t:Sem α}{Q Q':α->g_->Prop}{M:Model}(h:wpAny M A t Q E s)(hQ:∀a s,Q a s->Q' a s):wpAny M A t Q' E s:=ie h hQ λ_ _ x=>x
def YC{X:Cx}{K:VK}{t:Sem f_}{M:Model}(h:wpAny M A t (EP X p_ σ K) E s)(k:∀v s x H,Inv X p_ σ H s->RelV x v->K x H->Q' v s):wpAny M A t Q' E s:=aR h λv s z=>eD z (k v s)
def thT{X:Cx}{K:Bool->Hp->Prop}{t:Sem Bool}{Q':Bool->g_->Prop}{M:Model}(h:wpAny M A t (TP X p_ σ K) E s)(k:∀v s H,Inv X p_ σ H s->K v H->Q' v s):wpAny M A t Q' E s:=aR h λv s z=>aq z (k v s)
def Cd{X:Cx}{K:List V->Hp->Prop}{t:Sem (List f_)}{Q':List f_->g_->Prop}{M:Model}(h:wpAny M A t (AP X p_ σ K) E s)(k:∀v s x H,Inv X p_ σ H s->Vals x v->K x H->Q' v s):wpAny M A t Q' E s:=aR h λv s z=>eD z (k v s)
section
variable{X:Cx}
def oF(i:Nat):TE:=λσ H Q=>∃v,σ[i]?=a_ (a_ v)/\Q v H
abbrev tC(v:V):TE:=λ_ H Q=>Q v H
def Ma(hN:X.N[i]?=a_ x)(hv:GU X.env.scope x)(hd:(x == ("__debug__" : Str))=false:=by decide)(iU:(x == ("__classdict__" : Str))=false:=by decide):PE X (.Name x pos) (oF i):=by
 intro p_ s σ H Q I h;obtain⟨v,e,h⟩:=h;obtain⟨m,hn,hl⟩:=I.loc;obtain⟨u,r,l⟩:=hl i x v hN e hv;have fin:EP X p_ σ Q u s:=⟨v,H,I,r,h⟩;rcases l with ⟨hk,hm⟩ | ⟨hk,c,hc,tG⟩
 .exact wpAny_Name (wpAny_loadName_local I.ok.kind hk hn hm fin) hd
 .rcases hk with hk | hk
  .exact wpAny_Name (wpAny_loadName_cell I.ok.kind hk hc tG fin) hd
  .exact wpAny_Name (wpAny_loadName_free I.ok.kind hk hc tG fin iU) hd
def aw{i j pos}:PE X (.Constant (.int i) j pos) (tC (.int i)):=λ_ _ _ H _ I h=>wpAny_Constant_int ⟨.int i,H,I.tok _,⟨_,xz⟩,h⟩
def jU{b j pos}:PE X (.Constant (.bool b) j pos) (tC (.bl b)):=λ_ _ _ H _ I h=>Constant_bool ⟨.bl b,H,I,xz,h⟩
def mV{j pos}:PE X (.Constant .none j pos) (tC .aN):=λ_ _ _ H _ I h=>Constant_none ⟨.aN,H,I,xz,h⟩
def cR{x j pos}:PE X (.Constant (.str x) j pos) (tC (.str x)):=λ_ _ _ H _ I h=>Calls.Constant_str ⟨.str x,H,I.tok _,⟨_,xz⟩,h⟩
def Gl(X:Cx)(x:Str):Prop:=X.env.kindOf x=a_ .globalImplicit
def E4(I:Inv X p_ σ H s)(hg:Gl X x)(hm:X.mg x=a_ u)(h:Q u s)
  (hd:(x == ("__debug__" : Str))=false:=by decide):wpAny (model X.prog X.w) X.A (eval (.Name x pos) X.env) Q E s:=
 aak I.ok.kind hg (Calls.loadGlobal_global (by rw[I.ok.glob];exact I.mod.glob.keeps I.bk) hm h) hd
def rE(I:Inv X p_ σ H s)(hg:Gl X x)(hm:X.mg x=b_)(hv:pK x=a_ u)(h:Q u s)
  (hn:x ≠ "__name__":=by decide) (hd:(x == ("__debug__" : Str))=false:=by decide):wpAny (model X.prog X.w) X.A (eval (.Name x pos) X.env) Q E s:=by
 obtain⟨mb,h1,h2⟩:=I.mod.blt;exact aak I.ok.kind hg (Calls.loadGlobal_builtin (by rw[I.ok.glob];exact I.mod.glob.keeps I.bk) hm (by rw[I.ok.blt];exact h1.keeps I.bk) ((h2 x hn).trans hv) h) hd
def fq(hg:Gl X x)(hm:X.mg x=a_ u)(r:RelV v u)(hd:(x == ("__debug__" : Str))=false:=by decide):PE X (.Name x pos) (tC v):=
 λ_ _ _ H _ I h=>E4 I hg hm ⟨v,H,I,r,h⟩ hd
def pY(hg:Gl X x)(hm:X.mg x=b_)(hv:pK x=a_ u)(r:RelV v u)(hn:x ≠ "__name__":=by decide)(hd:(x == ("__debug__" : Str))=false:=by decide):PE X (.Name x pos) (tC v):=
 λ_ _ _ H _ I h=>rE I hg hm hv ⟨v,H,I,r,h⟩ hn hd
variable{a b:Expr}{ta tb:TE}{pos:Pos}
def PC(X:Cx)(op:CmpOp)(a b:Expr)(t:TE):Prop:=
 ∀(p_:List (e_×Obj)) (s:g_) (σ:St) (H:Hp) (Q:VK),Inv X p_ σ H s->t σ H Q->
  wpAny (model X.prog X.w) X.A (eval a X.env) (λv s₁=>wpAny (model X.prog X.w) X.A (eval b X.env) (λu s₂=>wpAny (model X.prog X.w) X.A (iH op v u) (EP X p_ σ Q) X.xe s₂) X.xe s₁) X.xe s
def tB(t:TE):TT:=λσ H Q=>t σ H λx H1=>∃c,x=.bl c/\Q c H1
def V1{op:CmpOp}{t:TE}(h:PC X op a b t)(h1:D1 op b=false:=by first | exact aoE _ qc qc | rfl):PT X (.Compare a [op] [b] pos) (tB t):=by
 intro p_ s σ H Q I hw;refine aaF (aR (h p_ s σ H _ I hw) λv s1 h1=>aR h1 λu s2 h2=>aR h2 λc s3 ⟨x,H1,I1,r1,q1⟩=>?_) h1;obtain⟨d,rfl,q⟩:=q1;cases r1;exact nQ ⟨H1,I1,q⟩
def gu{t:TE}(h:PE X e t)(he:∀whole,isTrue e X.env whole=(do let v <-whole;standAt e.pos;holding [v] (truthy v)):=by intro _;rfl):PT X e (tB t):=by
 intro p_ s σ H Q I hw;refine isTrue_plain (aR (h p_ s σ H _ I hw) λv s1 ⟨x,H1,I1,r1,q1⟩=>?_) (he _);obtain⟨d,rfl,q⟩:=q1;cases r1;exact nQ ⟨H1,I1,q⟩
variable{tA He:TT}{rest:List Expr}
def amk(t u:TT):TT:=λσ H Q=>t σ H λc H1=>if c=c_ then u σ H1 Q else Q d_ H1
def tOr(t u:TT):TT:=λσ H Q=>t σ H λc H1=>if c=c_ then Q c_ H1 else u σ H1 Q
def amh(t:TT):TT:=λσ H Q=>t σ H λc H1=>Q (!c) H1
def pw_and1(ha:PT X a tA):PW X (.BoolOp .And [a] pos) tA:=by
 intro wh p_ s σ H Q I h;refine isTrue_and (aR (ha p_ s σ H Q I h) λc s1 e=>?_);cases c with
 | true=>exact isTrue_and_nil e
 | false=>exact e
def pw_or1(ha:PT X a tA):PW X (.BoolOp .Or [a] pos) tA:=by
 intro wh p_ s σ H Q I h;refine isTrue_or (aR (ha p_ s σ H Q I h) λc s1 e=>?_);cases c with
 | false=>exact isTrue_or_nil e
 | true=>exact e
def pw_and(ha:PT X a tA)(hb:PW X (.BoolOp .And (b::rest) pos) He):PW X (.BoolOp .And (a::b::rest) pos) (amk tA He):=by
 intro wh p_ s σ H Q I h;refine isTrue_and (aR (ha p_ s σ H _ I h) λc s1 ⟨H1,I1,q1⟩=>?_);cases c with
 | true=>exact hb wh p_ s1 σ H1 Q I1 q1
 | false=>exact⟨H1,I1,q1⟩
def pw_or(ha:PT X a tA)(hb:PW X (.BoolOp .Or (b::rest) pos) He):PW X (.BoolOp .Or (a::b::rest) pos) (tOr tA He):=by
 intro wh p_ s σ H Q I h;refine isTrue_or (aR (ha p_ s σ H _ I h) λc s1 ⟨H1,I1,q1⟩=>?_);cases c with
 | true=>exact⟨H1,I1,q1⟩
 | false=>exact hb wh p_ s1 σ H1 Q I1 q1
def ou(ha:PT X a tA):PT X (.UnaryOp .Not a pos) (amh tA):=by
 intro p_ s σ H Q I h;exact isTrue_not (ha p_ s σ H (λc H1=>Q (!c) H1) I h)
def WB(ta tb:TE):TE:=λσ H Q=>ta σ H λx H1=>∃c,x=.bl c/\if c=c_ then tb σ H1 Q else Q (.bl d_) H1
def amg(ta tb:TE):TE:=λσ H Q=>ta σ H λx H1=>∃c,x=.bl c/\if c=c_ then Q (.bl c_) H1 else tb σ H1 Q
def ajV(ta:TE):TE:=λσ H Q=>ta σ H λx H1=>∃c,x=.bl c/\Q (.bl (!c)) H1
def BI{op}{t:TE}(h:PE X a t):PE X (.BoolOp op [a] pos) t:=λp_ s σ H Q I hw=>BoolOp_one (h p_ s σ H Q I hw)
def Ff(ha:PE X a ta)(hb:PE X (.BoolOp .And (b::rest) pos) tb):PE X (.BoolOp .And (a::b::rest) pos) (WB ta tb):=by
 intro p_ s σ H Q I h;refine BoolOp_and (aR (ha p_ s σ H _ I h) λv s1 ⟨x,H1,I1,r1,q1⟩=>?_);obtain⟨c,rfl,q1⟩:=q1;cases r1;refine nQ ?_;cases c with
 | true=>exact hb p_ s1 σ H1 Q I1 q1
 | false=>exact⟨.bl d_,H1,I1,xz,q1⟩
def aj9(ha:PE X a ta)(hb:PE X (.BoolOp .Or (b::rest) pos) tb):PE X (.BoolOp .Or (a::b::rest) pos) (amg ta tb):=by
 intro p_ s σ H Q I h;refine BoolOp_or (aR (ha p_ s σ H _ I h) λv s1 ⟨x,H1,I1,r1,q1⟩=>?_);obtain⟨c,rfl,q1⟩:=q1;cases r1;refine nQ ?_;cases c with
 | false=>exact hb p_ s1 σ H1 Q I1 q1
 | true=>exact⟨.bl c_,H1,I1,xz,q1⟩
def Mb(ha:PE X a ta):PE X (.UnaryOp .Not a pos) (ajV ta):=by
 intro p_ s σ H Q I h;refine UnaryOp_ (aR (ha p_ s σ H _ I h) λv s1 ⟨x,H1,I1,r1,q1⟩=>?_);obtain⟨c,rfl,q1⟩:=q1;cases r1;exact not_of (nQ ⟨.bl (!c),H1,I1,xz,q1⟩)
def tIf(t:TT)(ta tb:TE):TE:=λσ H Q=>t σ H λc H1=>if c=c_ then ta σ H1 Q else tb σ H1 Q
def Ks(hc:PT X c tA)(ha:PE X a ta)(hb:PE X b tb):PE X (.IfExp c a b pos) (tIf tA ta tb):=by
 intro p_ s σ H Q I h;refine wpAny_IfExp (aR (hc p_ s σ H _ I h) λd s1 ⟨H1,I1,q1⟩=>?_);cases d with
 | true=>exact ha p_ s1 σ H1 Q I1 q1
 | false=>exact hb p_ s1 σ H1 Q I1 q1
end
def aj(K:u_)(H:Hp)(a:e_)(xs:List V):Prop:=
 Rd H a (.lst xs)\/
  ∃(o:Obj) (its:Array f_) (n:Nat),K.lookup a=a_ o/\o.cls=.type "list"/\o.dict=b_/\o.data=.seq its n/\its.size<=bw/\Vals xs its.toList
def aD(K:u_)(H:Hp)(a:e_)(xs:List V):Prop:=
 Rd H a (.tup xs)\/
  ∃(o:Obj) (its:Array f_) (n:Nat),K.lookup a=a_ o/\o.cls=.type "tuple"/\o.data=.seq its n/\its.size<=bw/\Vals xs its.toList
def amP:f_->Option V
 | .none=>a_ .aN
 | .bool b=>a_ (.bl b)
 | .int i _=>a_ (.int i)
 | .str x _=>a_ (.str x)
 | .bytes b _=>a_ (.oY b)
 | .float b _=>a_ (.tV b)
 | .ref a=>a_ (.ref a)
 | .type n=>a_ (.ty n)
 | _=>b_
def RelV.abs(r:RelV x u):amP u=a_ x:=by
 cases x with
 | aN=>cases r;rfl
 | bl _=>cases r;rfl
 | int _=>obtain⟨t,rfl⟩:=r;rfl
 | str _=>obtain⟨t,rfl⟩:=r;rfl
 | oY _=>obtain⟨t,rfl⟩:=r;rfl
 | tV _=>obtain⟨t,rfl⟩:=r;rfl
 | ref _=>cases r;rfl
 | ty _=>cases r;rfl
def RelV.inj(r:RelV x u)(q:RelV y u):x=y:=cE (r.abs.symm.trans q.abs)
def Vals.inj:∀{xs ys:List V} {us:List f_},Vals xs us->Vals ys us->xs=ys
 | _,_,_,.nil,.nil=>rfl
 | _,_,_,.cons r t,.cons r' t'=>by rw[r.inj r',Vals.inj t t']
section
variable{X:Cx}{p_:List (e_×Obj)}{σ:St}{H:Hp}{s:g_}{a:e_}{xs ys:List V}
def aj.of{K:u_}(h:H a=a_ (.lst xs)):aj K H a xs:=.inl (.inl h)
def aD.of{K:u_}(h:H a=a_ (.tup xs)):aD K H a xs:=.inl (.inl h)
def Inv.list(I:Inv X p_ σ H s)(h:aj X.K H a xs):∃its:List f_,Vals xs its/\PlainL s.heap a its.toArray/\xs.length<=bw:=by
 rcases h with h | ⟨o,its,n,hk,hc,hd,hs,hz,r⟩
 .obtain⟨z,its,n,r,e⟩:=h.ok I.aH;exact⟨its,r,⟨_,n,e,xz,xz,xz⟩,z⟩
 .refine⟨its.toList,r,⟨o,n,I.eZ a o hk,hc,hd,by simpa using hs⟩,?_⟩;have e:=r.length;simp only[iu]at e;omega
def Inv.tuple(I:Inv X p_ σ H s)(h:aD X.K H a xs):∃its:List f_,Vals xs its/\IsTup s.heap a its.toArray/\xs.length<=bw:=by
 rcases h with h | ⟨o,its,n,hk,hc,hs,hz,r⟩
 .obtain⟨z,its,r,p⟩:=h.ok I.aH;exact⟨its,r,p,z⟩
 .refine⟨its.toList,r,⟨o,I.eZ a o hk,hc,n,by simpa using hs⟩,?_⟩;have e:=r.length;simp only[iu]at e;omega
def Inv.Uh(I:Inv X p_ σ H s)(h:aj X.K H a xs)(h':aj X.K H a ys):xs=ys:=by
 obtain⟨its,r,⟨o,n,e,_,_,d⟩,_⟩:=I.list h;obtain⟨ke,r',⟨o',n',e',_,_,d'⟩,_⟩:=I.list h';rw[e]at e';cases e';rw[d]at d';injection d' with d1 _
 have:its=ke:=by simpa using congrArg Array.toList d1
 subst this;exact r.inj r'
def Inv.Ss(I:Inv X p_ σ H s)(h:aD X.K H a xs)(h':aD X.K H a ys):xs=ys:=by
 obtain⟨its,r,⟨o,e,_,n,d⟩,_⟩:=I.tuple h;obtain⟨ke,r',⟨o',e',_,n',d'⟩,_⟩:=I.tuple h';rw[e]at e';cases e';rw[d]at d';injection d' with d1 _
 have:its=ke:=by simpa using congrArg Array.toList d1
 subst this;exact r.inj r'
end
abbrev Cx.rV(X:Cx)(E:f_->g_->Prop):Cx:={ X with xe:=E }
abbrev Cx.vH(X:Cx):Cx:=X.rV λ_ _=>False
def Cx.Ok.rV{X:Cx}(ok:X.Ok)(E:f_->g_->Prop):(X.rV E).Ok:=
 ⟨ok.mod,ok.kind,ok.glob,ok.blt,ok.above,ok.inj,ok.has,ok.xI,ok.hd,ok.frames,ok.Ab,ok.vL,ok.bs,ok.nD,ok.xn,ok.vq,ok.lS,ok.tU⟩
def Cx.Ok.uV{X:Cx}(ok:(X.rV E).Ok):X.Ok:=
 ⟨ok.mod,ok.kind,ok.glob,ok.blt,ok.above,ok.inj,ok.has,ok.xI,ok.hd,ok.frames,ok.Ab,ok.vL,ok.bs,ok.nD,ok.xn,ok.vq,ok.lS,ok.tU⟩
section
variable{X:Cx}{p_:List (e_×Obj)}{σ:St}{H:Hp}{s:g_}{E:f_->g_->Prop}
def Inv.rV(I:Inv X p_ σ H s)(E:f_->g_->Prop):Inv (X.rV E) p_ σ H s:=⟨I.ok.rV E,I.os,I.bare,I.base,I.loc,I.cell,I.free,I.kR,I.pin,I.aH,I.len⟩
def Inv.uV(I:Inv (X.rV E) p_ σ H s):Inv X p_ σ H s:=⟨I.ok.uV,I.os,I.bare,I.base,I.loc,I.cell,I.free,I.kR,I.pin,I.aH,I.len⟩
def SP.uV(h:SP (X.rV E) p_ D f s'):SP X p_ D f s':=by
 cases f with
 | next=>obtain⟨σ',H',I,q⟩:=h;exact⟨σ',H',I.uV,q⟩
 | brk=>obtain⟨σ',H',I,q⟩:=h;exact⟨σ',H',I.uV,q⟩
 | cont=>obtain⟨σ',H',I,q⟩:=h;exact⟨σ',H',I.uV,q⟩
 | ret u=>obtain⟨v,σ',H',I,r,q⟩:=h;exact⟨v,σ',H',I.uV,r,q⟩
def gd.vH{st:List Stmt}{t:TS}(h:gd X.vH st t):gd X st t:=λp_ s σ H D I hw=>
 ie (h p_ s σ H D (I.rV _) hw) (λ_ _ q=>q.uV) λ_ _ z=>mH z
end
section
variable{X:Cx}{st:Stmt}{rest:List Stmt}{t u:TS}{e:Expr}{te:TE}{pos:Pos}
abbrev ajW:TS:=λD σ H=>D.nx σ H
abbrev Xr(t u:TS):TS:=λD σ H=>t { D with nx:=u D } σ H
def cp:gd X [] ajW:=λ_ _ σ H _ I h=>Dz ⟨σ,H,I,h⟩
def ar(h1:PS X st t)(h2:gd X rest u):gd X (st::rest) (Xr t u):=by
 intro p_ s σ H D I h;refine wpAny_execs_cons (aR (h1 p_ s σ H { D with nx:=u D } I h) λf s1 q=>?_);cases f with
 | next=>
  obtain⟨σ',H',I',q⟩:=q;exact h2 p_ s1 σ' H' D I' q
 | ret v=>exact q
 | brk=>exact q
 | cont=>exact q
def av(h1:PS X st t):gd X [st] t:=by
 intro p_ s σ H D I h;refine wpAny_execs_cons (aR (h1 p_ s σ H D I h) λf s1 q=>?_);cases f with
 | next=>exact Dz q
 | ret v=>exact q
 | brk=>exact q
 | cont=>exact q
def Inv.quiet(I:Inv X p_ σ H s):interactive X.env=false:=by simp[interactive,I.ok.kind]
abbrev ajY(te:TE):TS:=λD σ H=>te σ H λ_ H1=>D.nx σ H1
def cX(he:PE X e te)(hs:Es e b_ pos.line X.env=pure false:=by rfl):PS X (.Expr e pos) (ajY te):=by
 intro p_ s σ H D I h;exact wpAny_Expr_any (aR (he p_ s σ H _ I h) λv s1 ⟨x,H1,I1,r1,q1⟩=>⟨σ,H1,I1,q1⟩) I.quiet hs
abbrev amf(te:TE):TS:=λD σ H=>te σ H D.rt
def aZ(he:PE X e te):PS X (.Return (a_ e) pos) (amf te):=by
 intro p_ s σ H D I h;exact wpAny_Return_some (aR (he p_ s σ H _ I h) λv s1 ⟨x,H1,I1,r1,q1⟩=>⟨x,σ,H1,I1,r1,q1⟩)
abbrev NI(c:TT)(t u:TS):TS:=λD σ H=>c σ H λb H1=>if b=c_ then t D σ H1 else u D σ H1
def b8{a b:List Stmt}(hc:PT X c tc)(ha:gd X a t)(hb:gd X b u):PS X (.If c a b pos) (NI tc t u):=by
 intro p_ s σ H D I h;refine wpAny_If (aR (hc p_ s σ H _ I h) λd s1 ⟨H1,I1,q1⟩=>?_);cases d with
 | true=>exact ha p_ s1 σ H1 D I1 q1
 | false=>exact hb p_ s1 σ H1 D I1 q1
def ahW:TS:=λ_ _ _=>False
def sX:gd X sts ahW:=λ_ _ _ _ _ _ h=>h.elim
end
abbrev TG:=V->St->Hp->(St->Hp->Prop)->Prop
abbrev xM:=List V->St->Hp->(St->Hp->Prop)->Prop
def PG(X:Cx)(target:Expr)(t:TG):Prop:=
 ∀(p_:List (e_×Obj)) (s:g_) (σ:St) (H:Hp) (v:V) (u:f_) (Q:St->Hp->Prop),Inv X p_ σ H s->RelV v u->t v σ H Q->
  wpAny (model X.prog X.w) X.A (assign target X.env u) (λ_ s'=>∃σ' H',Inv X p_ σ' H' s'/\Q σ' H') X.xe s
def G0(X:Cx)(ts:List Expr)(t:xM):Prop:=
 ∀(p_:List (e_×Obj)) (s:g_) (σ:St) (H:Hp) (vs:List V) (us:List f_) (Q:St->Hp->Prop),Inv X p_ σ H s->Vals vs us->t vs σ H Q->
  wpAny (model X.prog X.w) X.A (assignInOrder ((Bi ts X.env).map (·.2)) us) (λ_ s'=>∃σ' H',Inv X p_ σ' H' s'/\Q σ' H') X.xe s
abbrev B7:=V->V->V->Hp->(Hp->Prop)->Prop
def N'(X:Cx)(t:B7):Prop:=
 ∀(p_:List (e_×Obj)) (s:g_) (σ:St) (H:Hp) (o i v:V) (ov iv u:f_) (Q:Hp->Prop),Inv X p_ σ H s->RelV o ov->RelV i iv->RelV v u->t o i v H Q->
  wpAny (model X.prog X.w) X.A (setItem ov iv u) (λ_ s'=>∃H',Inv X p_ σ H' s'/\Q H') X.xe s
abbrev GY:=V->V->Hp->VK->Prop
def OJ(X:Cx)(op:Operator)(t:GY):Prop:=
 ∀(p_:List (e_×Obj)) (s:g_) (σ:St) (H:Hp) (x y:V) (v u:f_) (Q:VK),Inv X p_ σ H s->RelV x v->RelV y u->t x y H Q->
  wpAny (model X.prog X.w) X.A (inplaceOp op v u) (EP X p_ σ Q) X.xe s
section
variable{X:Cx}{pos:Pos}
abbrev i6(i:Nat):TG:=λv σ H Q=>Q (σ.set i (a_ v)) H
def bA(hN:X.N.Nodup)(hi:X.N[i]?=a_ x)(hx:Loc X.env.scope x)(hf:X.fn x=c_\/X.env.scope.names.lookup x=a_ .local:=by first | exact .inl xz | exact .inr xz | assumption):PG X (.Name x pos) (i6 i):=by
 intro p_ s σ H v u Q I r h;exact wpAny_assign_Name (Tq I hN hi hx r (λs' I'=>⟨_,H,I',h⟩) hf)
def XM:xM:=λvs σ H Q=>vs=[]/\Q σ H
def Nh(t:TG)(u:xM):xM:=λvs σ H Q=>∃v r,vs=v::r/\t v σ H λσ' H'=>u r σ' H' Q
def kH:G0 X [] XM:=by
 intro p_ s σ H vs us Q I r h;obtain⟨e,h⟩:=h;subst e;cases r;exact assignInOrder_nil ⟨σ,H,I,h⟩
def dA{es:List Expr}{t:TG}{u:xM}(h1:PG X e t)(h2:G0 X es u)
  (hs:(Bi (e::es) X.env).map (·.2)=assign e X.env::(Bi es X.env).map (·.2):=by rfl):G0 X (e::es) (Nh t u):=by
 intro p_ s σ H vs us Q I r h;obtain⟨v,vr,e1,h⟩:=h;subst e1;cases r with
 | cons r rr=>
  rw[hs];exact assignInOrder_cons (aR (h1 p_ s σ H _ _ _ I r h) λ_ s1 ⟨σ1,H1,I1,q1⟩=>h2 p_ s1 σ1 H1 _ _ Q I1 rr q1)
def XJ(K:u_)(n:Nat)(t:xM):TG:=λv σ H Q=>∃a xs,v=.ref a/\aD K H a xs/\xs.length=n/\t xs σ H Q
def kK{k:Nat}{t:xM}(hc:X.calm=c_)(h:G0 X es t)
  (hn:(Bi es X.env).length=n:=by rfl) (cB:(Bi es X.env).findIdx? (·.1)=none:=by rfl):PG X (.Tuple es k pos) (XJ X.K n t):=by
 intro p_ s σ H v u Q I r hw;obtain⟨a,xs,e1,hq,hl,hw⟩:=hw;subst e1;cases r;obtain⟨its,rv,ht,hz⟩:=I.tuple hq;refine assign_Tuple_tuple (I.ok.hd hc) ht (by simp[hn,<-hl,rv.length]) cB λh' hx=>?_;have I1:=I.kept (t':=s.toks) λb o e=>hx b o (cC (bH e)) e;exact h p_ _ σ H xs _ Q I1 (by simpa using rv) hw
def amH(to ti:TE)(t:B7):TG:=λv σ H Q=>to σ H λo H1=>ti σ H1 λi H2=>t o i v H2 λH3=>Q σ H3
def wM{t:B7}(ho:PE X o to)(hi:PE X i ti)(hs:N' X t)
  (ha:∀v,assign (.Subscript o i pos) X.env v=(do
   let ov <-holding [v] (eval o X.env)
   let iv <-holding [v,ov] (eval i X.env)
   standAt pos
   holding [v,ov,iv] (setItem ov iv v)
   release [v,ov,iv] []):=by intro _;rfl):PG X (.Subscript o i pos) (amH to ti t):=by
 intro p_ s σ H v u Q I r h;rw[ha];exact ae (jx (aR (ho p_ s σ H _ I h) λov s1 ⟨x,H1,I1,r1,q1⟩=>ae (jx (aR (hi p_ s1 σ H1 _ I1 q1) λiv s2 ⟨y,H2,I2,r2,q2⟩=>ae (Rc (ae (jx (aR (hs p_ s2 σ H2 x y v ov iv u _ I2 r1 r2 r q2) λ_ s3 ⟨H3,I3,q3⟩=>wpAny_release ⟨σ,H3,I3,q3⟩))))))))
abbrev NK(te:TE)(g:TG):TS:=λD σ H=>te σ H λx H1=>g x σ H1 D.nx
def uZ(he:PE X e te)(hg:PG X tg g)(hs:swapsWithSole [tg] e pos.line X.env=pure false:=by rfl)(hw:swappedStores [tg] e X.env=pure none:=by rfl)
  (h1:(Bi [tg] X.env).map (·.2)=[assign tg X.env]:=by rfl):PS X (.Assign [tg] e pos) (NK te g):=by
 intro p_ s σ H D I h;refine wpAny_Assign_stores (aR (he p_ s σ H _ I h) λv s1 ⟨x,H1,I1,r1,q1⟩=>?_) hs hw;rw[h1];exact aR (hg p_ s1 σ H1 x v _ I1 r1 q1) λ_ s2 q=>q
def bq{i:Nat}(hN:X.N.Nodup)(hi:X.N[i]?=a_ x)(hx:Loc X.env.scope x)(he:PE X e te)(hs:Es e (a_ (.Name x pos')) pos.line X.env=pure false:=by rfl)(hf:X.fn x=c_\/X.env.scope.names.lookup x=a_ .local:=by first | exact .inl xz | exact .inr xz | assumption) :
  PS X (.Assign [.Name x pos'] e pos) (NK te (i6 i)):=by
 intro p_ s σ H D I h;refine wpAny_Assign_Name (aR (he p_ s σ H _ I h) λv s1 ⟨y,H1,I1,r1,q1⟩=>?_) hs;exact Tq I1 hN hi hx r1 (λs2 I2=>⟨_,H1,I2,q1⟩) hf
def aj1(to ti te:TE)(Gd:V->V->Hp->VK->Prop)(Hd:GY)(Gb:B7):TS:=λD σ H=>to σ H λo H1=>ti σ H1 λi H2=>Gd o i H2 λx H3=>te σ H3 λy H4=>Hd x y H4 λz H5=>Gb o i z H5 λH6=>D.nx σ H6
def XX(X:Cx)(t:V->V->Hp->VK->Prop):Prop:=
 ∀(p_:List (e_×Obj)) (s:g_) (σ:St) (H:Hp) (o i:V) (ov iv:f_) (Q:VK),Inv X p_ σ H s->RelV o ov->RelV i iv->t o i H Q->
  wpAny (model X.prog X.w) X.A (getItem ov iv) (EP X p_ σ Q) X.xe s
def Lv{Gd:V->V->Hp->VK->Prop}{Hd:GY}{Gb:B7}{op:Operator}(ho:PE X o to)(hi:PE X i ti)(hg:XX X Gd)(he:PE X e te)(hp:OJ X op Hd)(hs:N' X Gb)
  (ha:∀ov iv new,augStore i ov iv new=(do holding [new,ov,iv] (setItem ov iv new);release [new,ov,iv] [];pure .next):=by intros;rfl):PS X (.AugAssign (.Subscript o i B9) op e pos) (aj1 to ti te Gd Hd Gb):=by
 intro p_ s σ H D I h;refine wpAny_AugAssign_SubscriptAny (aR (ho p_ s σ H _ I h) λov s1 ⟨x1,H1,I1,r1,q1⟩=>?_) ha;exact aR (hi p_ s1 σ H1 _ I1 q1) λiv s2 ⟨x2,H2,I2,r2,q2⟩=>aR (hg p_ s2 σ H2 x1 x2 ov iv _ I2 r1 r2 q2) λold s3 ⟨x3,H3,I3,r3,q3⟩=>aR (he p_ s3 σ H3 _ I3 q3) λv s4 ⟨x4,H4,I4,r4,q4⟩=>aR (hp p_ s4 σ H4 x3 x4 old v _ I4 r3 r4 q4) λnew s5 ⟨x5,H5,I5,r5,q5⟩=>aR (hs p_ s5 σ H5 x1 x2 x5 ov iv new _ I5 r1 r2 r5 q5) λ_ s6 ⟨H6,I6,q6⟩=>⟨σ,H6,I6,q6⟩
def YQ(f:Int->Int->Int):GY:=λx y H Q=>∃i j,x=.int i/\y=.int j/\Q (.int (f i j)) H
def Wm:OJ X .Add (YQ λi j=>i+j):=by
 intro p_ s σ H x y v u Q I r1 r2 h;obtain⟨i,j,e1,e2,q⟩:=h;subst e1;subst e2;obtain⟨t,rfl⟩:=r1;obtain⟨t',rfl⟩:=r2;exact iadd_int ⟨.int _,H,I.tok _,⟨_,xz⟩,q⟩
def aiW:OJ X .Sub (YQ λi j=>i-j):=by
 intro p_ s σ H x y v u Q I r1 r2 h;obtain⟨i,j,e1,e2,q⟩:=h;subst e1;subst e2;obtain⟨t,rfl⟩:=r1;obtain⟨t',rfl⟩:=r2;exact isub_int ⟨.int _,H,I.tok _,⟨_,xz⟩,q⟩
end
section
variable{X:Cx}{pos:Pos}
def VE(c:TT)(tb:TS):TS:=λD σ H=>∃W:Nat->St->Hp->Prop,(∃m,W m σ H)/\∀m σ H,W m σ H->
 c σ H λb H1=>if b=c_ then ∃N:St->Hp->Prop,(∀σ' H',N σ' H'->∃m',m'<m/\W m' σ' H')/\tb { D with nx:=N,ct:=N,bk:=D.nx } σ H1 else D.nx σ H1
def EB{body:List Stmt}(hp:fA (model X.prog X.w) X.A X.env X.xe)(hc:PT X c tc)(hb:gd X body tb):PS X (.While c body [] pos) (VE tc tb):=by
 intro p_ s σ H D I h;obtain⟨W,⟨m0,w0⟩,turn⟩:=h;refine wpAny_While (codeAny_whileLoop (λn s'=>∃σ' H',Inv X p_ σ' H' s'/\W n σ' H') ?_ m0 ⟨σ,H,I,w0⟩);rintro n s1 ⟨σ1,H1,I1,w1⟩;refine yD hp (aR (hc p_ s1 σ1 H1 _ I1 (turn n σ1 H1 w1)) λb s2 ⟨H2,I2,q2⟩=>?_);cases b with
 | true=>
  obtain⟨N,hN,q2⟩:=q2;rw[if_pos rfl];refine yD hp (aR (hb p_ s2 σ1 H2 _ I2 q2) λf s3 q3=>?_);cases f with
  | next=>
   obtain⟨σ3,H3,I3,n3⟩:=q3;obtain⟨m',hm,w3⟩:=hN σ3 H3 n3;exact⟨m',hm,σ3,H3,I3,w3⟩
  | cont=>
   obtain⟨σ3,H3,I3,n3⟩:=q3;obtain⟨m',hm,w3⟩:=hN σ3 H3 n3;exact⟨m',hm,σ3,H3,I3,w3⟩
  | brk=>exact q3
  | ret v=>exact q3
 | false=>
  rw[if_neg dU];exact Dz ⟨σ1,H2,I2,q2⟩
end
structure It where
 go:Nat->Hp->Prop
 tP:Nat->Hp->V->Hp->Prop
 stop:Nat->Hp->Prop
def iN(X:Cx)(p_:List (e_×Obj))(H:Hp)(b:e_):Prop:=
 H b=b_/\b≠X.env.locals/\b∉X.fs/\(b∈X.ex\/X.s₀.zS<=b)/\(∀x c,X.env.cells.lookup x=a_ c->c≠b)/\∀p∈X.pn++p_,p.1≠b
def Inv.i8(I:Inv X p_ σ H s)(hb:s.zS<=b)(hn:H' b=b_):iN X p_ H' b:=by
 refine⟨hn,qZ (gj I.lt hb),I.XE hb,.inr (cu I.sz hb),λx c e z=>?_,λp hp z=>?_⟩
 .obtain⟨v,q⟩:=I.cell x c e;exact absurd (gj q.lt (by rw[z];exact hb)) (je _)
 .exact absurd (gj (bH (I.pin p hp).1) (by rw[z];exact hb)) (je _)
structure Turn(P:k_)(w:j_)(K:u_)(tg:Expr)(J:It)(fp:List e_)(it:e_)(tn:Nat->i_->Prop):Prop where
 mem:it∈fp
 obj:∀i h,tn i h->∀b∈fp,∃o,h.get? b=a_ o/\∀v,o.data≠.cell v
 keep:∀i h h',tn i h->(∀b∈fp,∀o,h.get? b=a_ o->h'.get? b=a_ o)->tn i h'
 item:∀(X:Cx),X.prog=P->X.w=w->X.K=K->X.calm=c_->∀(i:Nat) (p_:List (e_×Obj)) (s:g_) (σ:St) (H:Hp) (E:f_->g_->Prop),Inv X p_ σ H s->(∀b∈fp,iN X p_ H b)->tn i s.heap->J.go i H->
  wpAny (model P w) X.A (pyNext (.ref it)) (λr s1=>∃u,r=a_ u/\
   wpAny (model P w) X.A (IM tg (.ref it) u) (λ_ s2=>∃x H',Inv X p_ σ H' s2/\RelV x u/\J.tP i H x H'/\tn (i+1) s2.heap/\∀b∈fp,H' b=b_) E s1) E s
 done:∀(X:Cx),X.prog=P->X.w=w->X.K=K->X.calm=c_->∀(i:Nat) (p_:List (e_×Obj)) (s:g_) (σ:St) (H:Hp) (E:f_->g_->Prop),Inv X p_ σ H s->(∀b∈fp,iN X p_ H b)->tn i s.heap->J.stop i H->
  wpAny (model P w) X.A (pyNext (.ref it)) (λr s1=>r=b_/\Inv X p_ σ H s1) E s
 self:∀(A:h_) (i:Nat) (s:g_) (Q:f_->g_->Prop) (E:f_->g_->Prop),tn i s.heap->Q (.ref it) s->wpAny (model P w) A (pyIter (.ref it)) Q E s
abbrev TI:=St->Hp->(It->Hp->Prop)->Prop
def YY(X:Cx)(p_:List (e_×Obj))(σ:St)(tg:Expr)(R:It->Hp->Prop)(Ht:f_)(s2:g_):Prop:=
 ∃(it:e_) (fp:List e_) (tn:Nat->i_->Prop) (J:It) (H':Hp),Ht=.ref it/\Inv X p_ σ H' s2/\Turn X.prog X.w X.K tg J fp it tn/\tn 0 s2.heap/\(∀b∈fp,iN X p_ H' b)/\R J H'
def PI(X:Cx)(tg iter:Expr)(wi:TI):Prop:=
 ∀(p_:List (e_×Obj)) (s:g_) (σ:St) (H:Hp) (R:It->Hp->Prop),Inv X p_ σ H s->wi σ H R->
  wpAny (model X.prog X.w) X.A (eval iter X.env) (λv s1=>wpAny (model X.prog X.w) X.A (pyIter v) (YY X p_ σ tg R) X.xe s1) X.xe s
def Ng(ho:s.heap.get? it=a_ o)(hc:o.cls=.type n)(hd:o.data=.fields vs)
  (hn:["enumerate","zip","dict_itemiterator","dict_reverseitemiterator","odict_iterator","itertools.zip_longest","itertools.pairwise"].contains n=d_) (hQ:Q () s):wpAny M A (IM tg (.ref it) u) Q E s:=by
 unfold IM
 cases tg <;> first
  | exact aF hQ
  | (cases u <;> first
    | exact aF hQ
    | (refine ae (Ef ho ?_);rw[hc,hd];show wpAny M A (if (["enumerate","zip","dict_itemiterator","dict_reverseitemiterator","odict_iterator","itertools.zip_longest","itertools.pairwise"].contains n&&vs[0]? == a_ (rawInt _))=c_ then _ else _) Q E s;rw[if_neg (by intro h;rw[hn,D0]at h;cases h)];exact aF hQ))
def Cq(K:u_)(a:e_):It:=
 ⟨λi H=>∃xs x,aj K H a xs/\xs[i]?=a_ x,λi H x H'=>H'=H/\∀xs,aj K H a xs->xs[i]?=a_ x,λi H=>∃xs,aj K H a xs/\xs.length<=i⟩
def Am(K:u_)(a:e_):It:=
 ⟨λi H=>∃xs x,aD K H a xs/\xs[i]?=a_ x,λi H x H'=>H'=H/\∀xs,aD K H a xs->xs[i]?=a_ x,λi H=>∃xs,aD K H a xs/\xs.length<=i⟩
def xO(lo:Int)(n:Nat):It:=⟨λi _=>i<n,λi H x H'=>H'=H/\x=.int (lo+i),λi _=>n<=i⟩
def adk{P:k_}{w:j_}{K:u_}(a it:e_):Turn P w K tg (Cq K a) [it] it (λi h=>h.IsListIter it a i) where
 mem:=by simp
 obj:=λi h st b hb=>by
  have e:b=it:=by simpa using hb
  subst e;obtain⟨o,e,c,d⟩:=st;exact⟨o,e,λv z=>by rw[d]at z;cases z⟩
 keep:=λi h h' st k=>st.at λo e=>k it (by simp) o e
 item:=by
  intro X hP hw hK hc i p_ s σ H E I hf st hg;subst hP hw hK;obtain⟨xs,x,hq,hx⟩:=hg;obtain⟨its,rv,p,hz⟩:=I.list hq;obtain⟨u,hu,ru⟩:=rv.get hx;obtain⟨f0,f1,f2,f3,f4,f5⟩:=hf it (by simp);refine aax st p.isList (x:=u) (by simpa using hu) λh' ay sb=>?_;have I1:=I.turned (t':=s.toks) (λb o hb e=>(sb.2 b hb).trans e) f0 f1 f3 f4 f5;obtain⟨o,e,c,d⟩:=id ay;exact⟨u,xz,Ng (s:={ s with heap:=h' }) e c d qc ⟨x,H,I1,ru,⟨xz,λys hy=>by rw[I.Uh hy hq];exact hx⟩,ay,λb hb=>(hf b hb).1⟩⟩
 done:=by
  intro X hP hw hK hc i p_ s σ H E I hf st hg;subst hP hw hK;obtain⟨xs,hq,hx⟩:=hg;obtain⟨its,rv,p,hz⟩:=I.list hq;obtain⟨f0,f1,f2,f3,f4,f5⟩:=hf it (by simp);have hl:=rv.length;exact aaE (I.ok.hd hc) st p.isList (by simp;omega) λh' eb=>⟨xz,I.turned (t':=s.toks) (λb o hb e=>eb b o hb e) f0 f1 f3 f4 f5⟩
 self:=λ_ _ _ _ _ st h=>wpAny_pyIter_listiter st h
def acC{P:k_}{w:j_}{K:u_}(a it:e_):Turn P w K tg (Am K a) [it] it (λi h=>h.IsTupleIter it a i) where
 mem:=by simp
 obj:=λi h st b hb=>by
  have e:b=it:=by simpa using hb
  subst e;obtain⟨o,e,c,d⟩:=st;exact⟨o,e,λv z=>by rw[d]at z;cases z⟩
 keep:=λi h h' st k=>st.at λo e=>k it (by simp) o e
 item:=by
  intro X hP hw hK hc i p_ s σ H E I hf st hg;subst hP hw hK;obtain⟨xs,x,hq,hx⟩:=hg;obtain⟨its,rv,p,hz⟩:=I.tuple hq;obtain⟨u,hu,ru⟩:=rv.get hx;obtain⟨f0,f1,f2,f3,f4,f5⟩:=hf it (by simp);refine wpAny_pyNext_tuple_item st (show s.heap.IsTuple a its.toArray from p) (x:=u) (by simpa using hu) λh' ay sb=>?_;have I1:=I.turned (t':=s.toks) (λb o hb e=>(sb.2 b hb).trans e) f0 f1 f3 f4 f5;obtain⟨o,e,c,d⟩:=id ay;exact⟨u,xz,Ng (s:={ s with heap:=h' }) e c d qc ⟨x,H,I1,ru,⟨xz,λys hy=>by rw[I.Ss hy hq];exact hx⟩,ay,λb hb=>(hf b hb).1⟩⟩
 done:=by
  intro X hP hw hK hc i p_ s σ H E I hf st hg;subst hP hw hK;obtain⟨xs,hq,hx⟩:=hg;obtain⟨its,rv,p,hz⟩:=I.tuple hq;obtain⟨f0,f1,f2,f3,f4,f5⟩:=hf it (by simp);have hl:=rv.length;exact wpAny_pyNext_tuple_end (I.ok.hd hc) st (show s.heap.IsTuple a its.toArray from p) (by simp;omega) λh' eb=>⟨xz,I.turned (t':=s.toks) (λb o hb e=>eb b o hb e) f0 f1 f3 f4 f5⟩
 self:=λ_ _ _ _ _ st h=>wpAny_pyIter_tupleiter st h
def acD{P:k_}{w:j_}{K:u_}(it:e_)(lo:Int)(n:Nat):Turn P w K tg (xO lo n) [it] it (λi h=>IsRangeIter h it (lo+(i:Nat)*1) ((n:Int)-(i:Nat)) 1) where
 mem:=by simp
 obj:=λi h st b hb=>by
  have e:b=it:=by simpa using hb
  subst e
  exact⟨_,st,λv z=>by
   have z':Data.fields _=Data.cell v:=z;cases z'⟩
 keep:=λi h h' st k=>k it (by simp) _ st
 item:=by
  intro X hP hw hK hc i p_ s σ H E I hf st hg;subst hP hw hK;obtain⟨f0,f1,f2,f3,f4,f5⟩:=hf it (by simp);have W:=Walks.range (prog:=X.prog) (w:=X.w) (I.ok.hd hc) it lo 1 n;refine W.item i s _ _ hg st λv h' tk hv ay kk=>?_;obtain⟨t,rfl⟩:=hv;have I1:Inv X p_ σ H { s with heap:=h',toks:=tk }:=I.turned (λb o hb e=>kk b o (by simpa using hb) e) f0 f1 f3 f4 f5;refine⟨_,xz,Ng (s:={ s with heap:=h',toks:=tk }) (n:="range_iterator") ay xz xz qc ⟨.int (lo+i),H,I1,⟨t,?_⟩,⟨xz,xz⟩,ay,λb hb=>(hf b hb).1⟩⟩;rw[Int.mul_one]
 done:=by
  intro X hP hw hK hc i p_ s σ H E I hf st hg;subst hP hw hK;obtain⟨f0,f1,f2,f3,f4,f5⟩:=hf it (by simp);exact wpAny_pyNext_range_end (I.ok.hd hc) st (by have:n<=i:=hg;omega) λh' eb=>⟨xz,I.turned (t':=s.toks) (λb o hb e=>eb b o hb e) f0 f1 f3 f4 f5⟩
 self:=λ_ _ _ _ _ st h=>wpAny_pyIter_rangeiter st h
section
variable{X:Cx}{tg:Expr}
def akJ(K:u_)(tl:TE):TI:=λσ H R=>tl σ H λx H1=>∃a,x=.ref a/\(∃xs,aj K H1 a xs)/\R (Cq K a) H1
def XI(K:u_)(tl:TE):TI:=λσ H R=>tl σ H λx H1=>∃a,x=.ref a/\(∃xs,aD K H1 a xs)/\R (Am K a) H1
def pX(hl:PE X l tl):PI X tg l (akJ X.K tl):=by
 intro p_ s σ H R I h;refine aR (hl p_ s σ H _ I h) λv s1 ⟨x,H1,I1,r1,q1⟩=>?_;obtain⟨a,e,⟨xs,hq⟩,q⟩:=q1;subst e;cases r1;obtain⟨its,rv,p,hz⟩:=I1.list hq;refine yz p.isList ⟨s1.zS,[s1.zS],_,_,H1,xz,I1.kept (t':=s1.toks) λb o e=>bh _ e,adk a _,⟨_,dh _ xz,xz,xz⟩,λb hb=>?_,q⟩;have e:b=s1.zS:=by simpa using hb
 subst e;exact I1.i8 (aA _) (I1.aH.fresh (aA _))
def ow(hl:PE X l tl):PI X tg l (XI X.K tl):=by
 intro p_ s σ H R I h;refine aR (hl p_ s σ H _ I h) λv s1 ⟨x,H1,I1,r1,q1⟩=>?_;obtain⟨a,e,⟨xs,hq⟩,q⟩:=q1;subst e;cases r1;obtain⟨its,rv,p,hz⟩:=I1.tuple hq;refine wpAny_pyIter_tuple (show s1.heap.IsTuple a its.toArray from p) ⟨s1.zS,[s1.zS],_,_,H1,xz,I1.kept (t':=s1.toks) λb o e=>bh _ e,acC a _,⟨_,dh _ xz,xz,xz⟩,λb hb=>?_,q⟩;have e:b=s1.zS:=by simpa using hb
 subst e;exact I1.i8 (aA _) (I1.aH.fresh (aA _))
def TZ{lo hi:Int}{t u v:Tok}{tk:Nat}(I:Inv X p_ σ H s)(h1:-(2^62)<=lo)(h2:lo<2^62)(h3:-(2^62)<=hi)(h4:hi<2^62)
  (q:R (xO lo (hi-lo).toNat) H):wpAny (model X.prog X.w) X.A (pyIter (.ref s.zS)) (YY X p_ σ tg R) E { s with heap:=s.heap.push { cls:=.type "range",data:=.fields #[.int lo t,.int hi u,.int 1 v] },toks:=tk }:=by
 refine wpAny_pyIter_range (IsRange.new ..) (small_one h1 h2 h3 h4) ?_;have I1:Inv X p_ σ H { s with heap:=s.heap.push { cls:=.type "range",data:=.fields #[.int lo t,.int hi u,.int 1 v] },toks:=tk }:=I.kept λb o e=>bh _ e;refine⟨(s.heap.push { cls:=.type "range",data:=.fields #[.int lo t,.int hi u,.int 1 v] }).zH,[(s.heap.push { cls:=.type "range",data:=.fields #[.int lo t,.int hi u,.int 1 v] }).zH],_,_,H,xz,I1.kept (t':=tk) λb o e=>bh _ e,acD _ lo (hi-lo).toNat,?_,λb hb=>?_,q⟩
 .have e1:lo+((0:Nat):Int)*1=lo:=by simp
  have e2:(((hi-lo).toNat:Nat):Int)-((0:Nat):Int)=Builtin.Range.rangeSize lo hi 1:=by rw[rangeSize_one];split <;> omega
  show IsRangeIter _ _ (lo+((0:Nat):Int)*1) ((((hi-lo).toNat:Nat):Int)-((0:Nat):Int)) 1;rw[e1,e2];exact dh _ xz
 .have e:b=(s.heap.push { cls:=.type "range",data:=.fields #[.int lo t,.int hi u,.int 1 v] }).zH:=by simpa using hb
  subst e;exact I1.i8 (aA _) (I1.aH.fresh (aA _))
def akI(ta:TA):TI:=λσ H R=>ta σ H λvs H1=>∃j:Int,vs=[.int j]/\-(2^62)<=j/\j<2^62/\R (xO 0 j.toNat) H1
def akH(ta:TA):TI:=λσ H R=>ta σ H λvs H1=>∃i j:Int,vs=[.int i,.int j]/\(-(2^62)<=i/\i<2^62/\-(2^62)<=j/\j<2^62)/\R (xO i (j-i).toNat) H1
def oa(hg:Gl X "range")(hm:X.mg "range" = b_)(ha:PA X [a] ta)(hs:bV [a] X.env=[(d_,eval a X.env)]:=by rfl):PI X tg (.Call (.Name "range" p) [a] [] pos) (akI ta):=by
 intro p_ s σ H R I h;refine Call_ (rE I hg hm boot_range (yq (aR (ha pos p_ s σ H _ I h) λus s1 ⟨vs,H1,I1,r1,q1⟩=>?_) hs xz));obtain⟨j,e,q1,q2,q⟩:=q1;subst e;cases r1 with
 | cons r rr=>
  cases rr;obtain⟨t,rfl⟩:=r;exact call_range_1 (TZ I1 om om q1 q2 (by simpa using q))
def SG(hg:Gl X "range")(hm:X.mg "range" = b_)(ha:PA X [a,b] ta)(hs:bV [a,b] X.env=[(d_,eval a X.env),(d_,eval b X.env)]:=by rfl)(nG:bV [b] X.env=[(d_,eval b X.env)]:=by rfl) :
  PI X tg (.Call (.Name "range" p) [a,b] [] pos) (akH ta):=by
 intro p_ s σ H R I h;refine Call_ (rE I hg hm boot_range (yq (aR (ha pos p_ s σ H _ I h) λus s1 ⟨vs,H1,I1,r1,q1⟩=>?_) (by rw[hs,nG]) (by rw[nG];rfl)));obtain⟨i,j,e,⟨q1,q2,q3,q4⟩,q⟩:=q1;subst e;cases r1 with
 | cons r rr=>
  cases rr with
  | cons r' rr=>
   cases rr;obtain⟨t,rfl⟩:=r;obtain⟨t',rfl⟩:=r';exact call_range_2 (TZ I1 q1 q2 q3 q4 q)
def amj(wi:TI)(g:TG)(tb:TS):TS:=λD σ H=>wi σ H λJ H1=>∃W:Nat->Nat->St->Hp->Prop,(∃m,W 0 m σ H1)/\∀i m σ H,W i m σ H->
 (J.stop i H/\D.nx σ H)\/(J.go i H/\∃N:St->Hp->Prop,(∀σ' H',N σ' H'->∃m',m'<m/\W (i+1) m' σ' H')/\∀x H',J.tP i H x H'->g x σ H' λσ2 H2=>tb { D with nx:=N,ct:=N,bk:=D.nx } σ2 H2)
def BH(fp:List e_)(h:i_):List (e_×Obj):=fp.filterMap λb=>(h.get? b).map λo=>(b,o)
def yO{fp:List e_}(hb:b∈fp)(e:h.get? b=a_ o):(b,o)∈BH fp h:=AY.mpr ⟨b,hb,by rw[e];rfl⟩
def SK{fp:List e_}(hp:p∈BH fp h):p.1∈fp/\h.get? p.1=a_ p.2:=by
 obtain⟨b,hb,e⟩:=AY.mp hp;cases q:h.get? b with
 | none=>rw[q]at e;cases e
 | some o=>
  rw[q]at e;have e':(b,o)=p:=cE e;subst e';exact⟨hb,q⟩
def Inv.pinned{fp:List e_}(I:Inv X p_ σ H s)(hf:∀b∈fp,iN X p_ H b)(ho:∀b∈fp,∃o,s.heap.get? b=a_ o/\∀v,o.data≠.cell v):Inv X (p_++BH fp s.heap) σ H s:=
 I.uS λp hp=>(dH.mp hp).elim (λz=>I.pin p (fb _ z)) λz=>by
  obtain⟨hb,e⟩:=SK z;obtain⟨f0,f1,f2,_⟩:=hf p.1 hb;obtain⟨o,e',d⟩:=ho p.1 hb;rw[e]at e';cases e';exact⟨e,f0,f1,f2,d⟩
def Inv.Ew(I:Inv X (p_++pl) σ H s):Inv X p_ σ H s:=I.uS λp hp=>I.pin p (fb _ (nN _ hp))
def ij{body:List Stmt}{wi:TI}(hp:fA (model X.prog X.w) X.A X.env X.xe)(hc:X.calm=c_)(hi:PI X tg iter wi)(hg:PG X tg g)(hb:gd X body tb)
  (hs:∀x,QG iter X.env x=pure x:=by intro _;rfl):PS X (.For tg iter body [] pos) (amj wi g tb):=by
 intro p_ s σ H D I h;refine wpAny_For (aR (hi p_ s σ H _ I h) λv s1 h1=>aR h1 λHt s2 h2=>?_) hs;obtain⟨it,fp,tn,J,H2,e,I2,T,dq,f2,W,⟨m0,w0⟩,turn⟩:=h2;subst e;have Od:∀{H':Hp},(∀b∈fp,H' b=b_)->∀b∈fp,iN X p_ H' b:=λhn b hb=>⟨hn b hb,(f2 b hb).2⟩;refine codeAny_forLoop_any (λn s'=>∃i σ' H',Inv X p_ σ' H' s'/\tn i s'.heap/\(∀b∈fp,H' b=b_)/\W i n σ' H') ?_ m0 ⟨0,σ,H2,I2,dq,λb hb=>(f2 b hb).1,w0⟩;rintro n s3 ⟨i,σ3,H3,I3,gf,De,w3⟩;rcases turn i n σ3 H3 w3 with ⟨stop,qn⟩ | ⟨go,N,hN,step⟩
 .refine yD hp (aR (T.done X xz xz xz hc i p_ s3 σ3 H3 X.xe I3 (Od De) gf stop) λr s4 ⟨hr,I4⟩=>?_);subst hr;exact Dz ⟨σ3,H3,I4,qn⟩
 .refine yD hp (aR (T.item X xz xz xz hc i p_ s3 σ3 H3 X.xe I3 (Od De) gf go) λr s4 ⟨u,hr,h4⟩=>?_);subst hr;refine yD hp (aR h4 λ_ s5 ⟨x,H5,I5,r5,y5,gZ,P4⟩=>?_);have Qc:=I5.pinned (Od P4) (T.obj _ _ gZ);refine yD hp (aR (hg _ s5 σ3 H5 x u _ Qc r5 (step x H5 y5)) λ_ s6 ⟨σ6,H6,I6,q6⟩=>yD hp (aR (hb _ s6 σ6 H6 _ I6 q6) λf s7 q7=>?_))
  have again:∀{σ7:St} {H7:Hp},Inv X (p_++BH fp s5.heap) σ7 H7 s7->N σ7 H7->∃m,m<n/\∃i σ' H',Inv X p_ σ' H' s7/\tn i s7.heap/\(∀b∈fp,H' b=b_)/\W i m σ' H':=λ{σ7 H7} I7 n7=>by
   obtain⟨m',hm,w7⟩:=hN σ7 H7 n7;refine⟨m',hm,i+1,σ7,H7,I7.Ew,T.keep _ _ _ gZ λb hb o e=>(I7.pin (b,o) (fb _ (fb _ (yO hb e)))).1,λb hb=>?_,w7⟩;obtain⟨o,e,d⟩:=T.obj _ _ gZ b hb;exact(I7.pin (b,o) (fb _ (fb _ (yO hb e)))).2.1
  cases f with
  | next=>obtain⟨σ7,H7,I7,n7⟩:=q7;exact again I7 n7
  | cont=>obtain⟨σ7,H7,I7,n7⟩:=q7;exact again I7 n7
  | brk=>obtain⟨σ7,H7,I7,q7⟩:=q7;exact⟨σ7,H7,I7.Ew,q7⟩
  | ret v=>obtain⟨x7,σ7,H7,I7,r7,q7⟩:=q7;exact⟨x7,σ7,H7,I7.Ew,r7,q7⟩
end
def Bu{K:u_}{a:e_}{xs:List V}{g:TG}{tb:TS}{D:Ends}{σ:St}{H:Hp}(Pv:Nat->St->Hp->Prop)(h0:Pv 0 σ H)(hl:∀i σ H,i<=xs.length->Pv i σ H->aj K H a xs)
  (hs:∀i x σ H,xs[i]?=a_ x->Pv i σ H->g x σ H λσ2 H2=>tb { D with nx:=Pv (i+1),ct:=Pv (i+1),bk:=D.nx } σ2 H2) (hd:∀σ H,Pv xs.length σ H->D.nx σ H) :
  ∃W:Nat->Nat->St->Hp->Prop,(∃m,W 0 m σ H)/\∀i m σ H,W i m σ H->
   ((Cq K a).stop i H/\D.nx σ H)\/((Cq K a).go i H/\∃N:St->Hp->Prop,(∀σ' H',N σ' H'->∃m',m'<m/\W (i+1) m' σ' H')/\∀x H',(Cq K a).tP i H x H'->g x σ H' λσ2 H2=>tb { D with nx:=N,ct:=N,bk:=D.nx } σ2 H2):=by
 refine⟨λi m σ H=>m=xs.length-i/\i<=xs.length/\Pv i σ H,⟨xs.length,by simp,a8 _,h0⟩,?_⟩;rintro i m σ H ⟨rfl,hi,p⟩;have q:=hl i σ H hi p
 by_cases bz:i<xs.length
 .refine .inr ⟨⟨xs,xs[i],q,by simp[bz]⟩,Pv (i+1),λσ' H' p'=>⟨xs.length-(i+1),om,xz,bz,p'⟩,λx H' y=>?_⟩;obtain⟨e,y⟩:=y;subst e;exact hs i x σ _ (y xs q) p
 .have e:i=xs.length:=om;subst e;exact .inl ⟨⟨xs,q,aA _⟩,hd σ H p⟩
def Vj{K:u_}{a:e_}{xs:List V}{g:TG}{tb:TS}{D:Ends}{σ:St}{H:Hp}(Pv:Nat->St->Hp->Prop)(h0:Pv 0 σ H)(hl:∀i σ H,i<=xs.length->Pv i σ H->aD K H a xs)
  (hs:∀i x σ H,xs[i]?=a_ x->Pv i σ H->g x σ H λσ2 H2=>tb { D with nx:=Pv (i+1),ct:=Pv (i+1),bk:=D.nx } σ2 H2) (hd:∀σ H,Pv xs.length σ H->D.nx σ H) :
  ∃W:Nat->Nat->St->Hp->Prop,(∃m,W 0 m σ H)/\∀i m σ H,W i m σ H->
   ((Am K a).stop i H/\D.nx σ H)\/((Am K a).go i H/\∃N:St->Hp->Prop,(∀σ' H',N σ' H'->∃m',m'<m/\W (i+1) m' σ' H')/\∀x H',(Am K a).tP i H x H'->g x σ H' λσ2 H2=>tb { D with nx:=N,ct:=N,bk:=D.nx } σ2 H2):=by
 refine⟨λi m σ H=>m=xs.length-i/\i<=xs.length/\Pv i σ H,⟨xs.length,by simp,a8 _,h0⟩,?_⟩;rintro i m σ H ⟨rfl,hi,p⟩;have q:=hl i σ H hi p
 by_cases bz:i<xs.length
 .refine .inr ⟨⟨xs,xs[i],q,by simp[bz]⟩,Pv (i+1),λσ' H' p'=>⟨xs.length-(i+1),om,xz,bz,p'⟩,λx H' y=>?_⟩;obtain⟨e,y⟩:=y;subst e;exact hs i x σ _ (y xs q) p
 .have e:i=xs.length:=om;subst e;exact .inl ⟨⟨xs,q,aA _⟩,hd σ H p⟩
def sY{lo:Int}{n:Nat}{g:TG}{tb:TS}{D:Ends}{σ:St}{H:Hp}(Pv:Nat->St->Hp->Prop)(h0:Pv 0 σ H)
  (hs:∀i σ H,i<n->Pv i σ H->g (.int (lo+i)) σ H λσ2 H2=>tb { D with nx:=Pv (i+1),ct:=Pv (i+1),bk:=D.nx } σ2 H2) (hd:∀σ H,Pv n σ H->D.nx σ H) :
  ∃W:Nat->Nat->St->Hp->Prop,(∃m,W 0 m σ H)/\∀i m σ H,W i m σ H->
   ((xO lo n).stop i H/\D.nx σ H)\/((xO lo n).go i H/\∃N:St->Hp->Prop,(∀σ' H',N σ' H'->∃m',m'<m/\W (i+1) m' σ' H')/\∀x H',(xO lo n).tP i H x H'->g x σ H' λσ2 H2=>tb { D with nx:=N,ct:=N,bk:=D.nx } σ2 H2):=by
 refine⟨λi m σ H=>m=n-i/\i<=n/\Pv i σ H,⟨n,by simp,a8 _,h0⟩,?_⟩;rintro i m σ H ⟨rfl,hi,p⟩
 by_cases bz:i<n
 .refine .inr ⟨bz,Pv (i+1),λσ' H' p'=>⟨n-(i+1),om,xz,bz,p'⟩,λx H' y=>?_⟩;obtain⟨e,y⟩:=y;subst e y;exact hs i σ _ bz p
 .have e:i=n:=om;subst e;exact .inl ⟨aA _,hd σ H p⟩
def aew(Pv:St->Hp->Prop)(μ:St->Hp->Nat)(h0:Pv σ H)
  (hs:∀σ H,Pv σ H->c σ H λb H1=>if b=c_ then tb { D with nx:=λσ' H'=>Pv σ' H'/\μ σ' H' < μ σ H,ct:=λσ' H'=>Pv σ' H'/\μ σ' H' < μ σ H,bk:=D.nx } σ H1 else D.nx σ H1)
  (mono:∀σ H Q Q',(∀b H1,Q b H1->Q' b H1)->c σ H Q->c σ H Q'):VE c tb D σ H:=by
 refine⟨λm σ H=>m=μ σ H/\Pv σ H,⟨_,xz,h0⟩,?_⟩;rintro m σ H ⟨rfl,p⟩;refine mono σ H _ _ (λb H1 q=>?_) (hs σ H p);cases b with
 | true=>exact⟨_,λσ' H' ⟨p',l⟩=>⟨_,l,xz,p'⟩,q⟩
 | false=>exact q
abbrev R2:=V->V->Hp->VK->Prop
def eQ(X:Cx)(f:f_->f_->Sem f_)(r:R2):Prop:=
 ∀(p_:List (e_×Obj)) (s:g_) (σ:St) (H:Hp) (x y:V) (v u:f_) (Q:VK),Inv X p_ σ H s->RelV x v->RelV y u->r x y H Q->
  wpAny (model X.prog X.w) X.A (f v u) (EP X p_ σ Q) X.xe s
def GV(X:Cx)(f:f_->Sem f_)(r:V->Hp->VK->Prop):Prop:=
 ∀(p_:List (e_×Obj)) (s:g_) (σ:St) (H:Hp) (x:V) (v:f_) (Q:VK),Inv X p_ σ H s->RelV x v->r x H Q->
  wpAny (model X.prog X.w) X.A (f v) (EP X p_ σ Q) X.xe s
def jj(X:Cx)(f:f_)(r:List V->Hp->VK->Prop):Prop:=
 ∀(p_:List (e_×Obj)) (s:g_) (σ:St) (H:Hp) (xs:List V) (us:List f_) (Q:VK),Inv X p_ σ H s->Vals xs us->r xs H Q->
  wpAny (model X.prog X.w) X.A (call f us) (EP X p_ σ Q) X.xe s
abbrev sg(r:R2)(ta tb:TE):TE:=λσ H Q=>ta σ H λx H1=>tb σ H1 λy H2=>r x y H2 Q
abbrev tUn(r:V->Hp->VK->Prop)(ta:TE):TE:=λσ H Q=>ta σ H λx H1=>r x H1 Q
def rI(C:Int->Int->Prop)(g:Int->Int->V):R2:=λx y H Q=>∃i j,x=.int i/\y=.int j/\C i j/\Q (g i j) H
def tQ(g:Int->Int->V):R2:=λx y H Q=>∃i j,x=.int i/\y=.int j/\Q (g i j) H
def rU(g:Int->V):V->Hp->VK->Prop:=λx H Q=>∃i,x=.int i/\Q (g i) H
section
variable{X:Cx}{a b c:Expr}{ta tb tc:TE}{pos:Pos}
def N8(ha:PE X a ta)(hb:PE X b tb){R:V->V->Hp->Prop}(I:Inv X p_ σ H s)
  (h:ta σ H λx H1=>tb σ H1 λy H2=>R x y H2) {f:f_->f_->Sem f_}
  (hf:∀v u s2 x y H2,Inv X p_ σ H2 s2->RelV x v->RelV y u->R x y H2->wpAny (model X.prog X.w) X.A (f v u) Q X.xe s2) :
  wpAny (model X.prog X.w) X.A (eval a X.env) (λv s₁=>wpAny (model X.prog X.w) X.A (eval b X.env) (λu s₂=>wpAny (model X.prog X.w) X.A (f v u) Q X.xe s₂) X.xe s₁) X.xe s:=by
 exact aR (ha p_ s σ H _ I h) λv s1 ⟨x,H1,I1,r1,q1⟩=>aR (hb p_ s1 σ H1 _ I1 q1) λu s2 ⟨y,H2,I2,r2,q2⟩=>hf v u s2 x y H2 I2 r1 r2 q2
def br(ho:eQ X (rA op) r)(ha:PE X a ta)(hb:PE X b tb):PE X (.BinOp a op b pos) (sg r ta tb):=by
 intro p_ s σ H Q I h;exact wpAny_BinOp (N8 ha hb I h λv u s2 x y H2 I2 rx ry q=>ho p_ s2 σ H2 x y v u Q I2 rx ry q)
def MV(ho:GV X (unaryOp op) r)(ha:PE X a ta):PE X (.UnaryOp op a pos) (tUn r ta):=by
 intro p_ s σ H Q I h;exact UnaryOp_ (aR (ha p_ s σ H _ I h) λv s1 ⟨x,H1,I1,r1,q1⟩=>ho p_ s1 σ H1 x v Q I1 r1 q1)
def GD{f:f_->f_->Sem f_}{C:Int->Int->Prop}{g:Int->Int->Int}
  (rule:∀(i j:Int) (t u:Tok) (s:g_) (Q:f_->g_->Prop) (E:f_->g_->Prop),C i j->Q (.int (g i j) s.toks) { s with toks:=s.toks+1 }->wpAny (model X.prog X.w) X.A (f (.int i t) (.int j u)) Q E s) :
  eQ X f (rI C λi j=>.int (g i j)):=by
 intro p_ s σ H x y v u Q I rx ry h;obtain⟨i,j,rfl,rfl,hc,q⟩:=h;obtain⟨t,rfl⟩:=rx;obtain⟨t',rfl⟩:=ry;exact rule i j t t' s _ _ hc ⟨.int (g i j),H,I.tok _,⟨_,xz⟩,q⟩
def F3{f:f_->f_->Sem f_}{g:Int->Int->Int}
  (rule:∀(i j:Int) (t u:Tok) (s:g_) (Q:f_->g_->Prop) (E:f_->g_->Prop),Q (.int (g i j) s.toks) { s with toks:=s.toks+1 }->wpAny (model X.prog X.w) X.A (f (.int i t) (.int j u)) Q E s) :
  eQ X f (tQ λi j=>.int (g i j)):=by
 intro p_ s σ H x y v u Q I rx ry h;obtain⟨i,j,rfl,rfl,q⟩:=h;obtain⟨t,rfl⟩:=rx;obtain⟨t',rfl⟩:=ry;exact rule i j t t' s _ _ ⟨.int (g i j),H,I.tok _,⟨_,xz⟩,q⟩
def NX{f:f_->f_->Sem f_}{g:Int->Int->Bool}
  (rule:∀(i j:Int) (t u:Tok) (s:g_) (Q:f_->g_->Prop) (E:f_->g_->Prop),Q (.bool (g i j)) s->wpAny (model X.prog X.w) X.A (f (.int i t) (.int j u)) Q E s) :
  eQ X f (tQ λi j=>.bl (g i j)):=by
 intro p_ s σ H x y v u Q I rx ry h;obtain⟨i,j,rfl,rfl,q⟩:=h;obtain⟨t,rfl⟩:=rx;obtain⟨t',rfl⟩:=ry;exact rule i j t t' s _ _ ⟨.bl (g i j),H,I,xz,q⟩
def amS(i j:Int):Prop:=0<j/\j<1073741824
def amR(i j:Int):Prop:=0<=j/\j<=1000000/\i.natAbs<2^64
def Ob(i j:Int):Prop:=(-(2^64)<i/\i<2^64)\/(-(2^64)<j/\j<2^64)
def Ob.ok(h:Ob i j):IntMulOk i j:=by
 rcases h with ⟨h1,h2⟩ | ⟨h1,h2⟩
 .exact .of_left (intBits_le_64 h1 h2)
 .exact .of_right (intBits_le_64 h1 h2)
def i5:eQ X (rA .Add) (tQ λi j=>.int (i+j)):=F3 λ_ _ _ _ _ _ _ q=>add_int q
def ail:eQ X (rA .Sub) (tQ λi j=>.int (i-j)):=F3 λ_ _ _ _ _ _ _ q=>sub_int q
def BJ:eQ X (rA .Mult) (rI Ob λi j=>.int (i*j)):=GD λ_ _ _ _ _ _ _ hc q=>mul_int q hc.ok
def oo:eQ X (rA .FloorDiv) (rI amS λi j=>.int (i/j)):=GD λi j _ _ _ _ _ hc q=>by
 have h1:=hc.1;have h2:=hc.2;exact floordiv_int om (by rw[Int.fdiv_eq_ediv_of_nonneg i om];exact q) (.inl (PyProof.noPylong_small om))
def iz:eQ X (rA .Mod) (rI (λ_ j=>0<j) λi j=>.int (i%j)):=GD λi j _ _ _ _ _ hc q=>by
 have h1:=hc;exact mod_int' om (by rw[Int.fmod_eq_emod_of_nonneg i om];exact q)
def V4:eQ X (rA .LShift) (rI amR λi j=>.int (i*2^j.toNat)):=GD λ_ _ _ _ _ _ _ hc q=>lshift_int_small hc.1 hc.2.1 hc.2.2 q
def V5:eQ X (rA .BitAnd) (tQ λi j=>.int (A8 i j)):=F3 λ_ _ _ _ _ _ _ q=>and_int q
def WN:eQ X (rA .BitOr) (tQ λi j=>.int (Jj i j)):=F3 λ_ _ _ _ _ _ _ q=>or_int q
def YA{f:f_->Sem f_}{g:Int->Int}
  (rule:∀(i:Int) (t:Tok) (s:g_) (Q:f_->g_->Prop) (E:f_->g_->Prop),Q (.int (g i) s.toks) { s with toks:=s.toks+1 }->wpAny (model X.prog X.w) X.A (f (.int i t)) Q E s) :
  GV X f (rU λi=>.int (g i)):=by
 intro p_ s σ H x v Q I rx h;obtain⟨i,rfl,q⟩:=h;obtain⟨t,rfl⟩:=rx;exact rule i t s _ _ ⟨.int (g i),H,I.tok _,⟨_,xz⟩,q⟩
def VC:GV X (unaryOp .USub) (rU λi=>.int (-i)):=YA λ_ _ _ _ _ q=>neg_int q
def ahT:GV X (unaryOp .Invert) (rU λi=>.int (sR i)):=YA λ_ _ _ _ _ q=>invert_int q
end
def NQ:V->V->Bool
 | .aN,.aN=>c_ | .aN,.int _=>c_ | .int _,.aN=>c_ | .aN,.bl _=>c_ | .bl _,.aN=>c_ | .aN,.str _=>c_ | .str _,.aN=>c_
 | .int _,.int _=>c_ | .bl _,.bl _=>c_ | .str _,.str _=>c_ | .oY _,.oY _=>c_
 | .int _,.str _=>c_ | .str _,.int _=>c_ | .bl _,.str _=>c_ | .str _,.bl _=>c_
 | _,_=>d_
def GA:R2:=λx y H Q=>NQ x y=c_/\Q (.bl (decide (x=y))) H
def rNe:R2:=λx y H Q=>NQ x y=c_/\Q (.bl (!decide (x=y))) H
def zd:decide (V.int i=V.int j)=(i == j):=by
 rw[IX];simp
def Wu:decide (V.bl i=V.bl j)=(i == j):=by
 rw[IX];simp
def Vl:decide (V.str i=V.str j)=(i == j):=by
 rw[IX];simp
def Vm:decide (V.oY i=V.oY j)=(i.toList == j.toList):=by
 rw[IX];cases i;cases j;simp
section
variable{X:Cx}{a b c:Expr}{ta tb tc:TE}{pos:Pos}
def eC{k k':Bool}(I:Inv X p_ σ H s)(q:Q (.bl k) H)(e:k=k'):EP X p_ σ Q (.bool k') s:=by
 subst e;exact⟨.bl k,H,I,xz,q⟩
def c7:eQ X (iH .Eq) GA:=by
 intro p_ s σ H x y v u Q I rx ry h;obtain⟨hs,q⟩:=h;cases x with
 | aN=>
  cases rx;cases y with
  | aN=>cases ry;exact PySem.EqNone.eq_none_none (eC I q (by simp))
  | bl j=>cases ry;exact PySem.EqNone.eq_none_bool (eC I q (by simp))
  | int j=>obtain⟨t',rfl⟩:=ry;exact PySem.EqNone.eq_none_int (eC I q (by simp))
  | str j=>obtain⟨t',rfl⟩:=ry;exact PySem.EqNone.eq_none_str (eC I q (by simp))
  | _=>exact absurd (show d_=c_ from hs) dU
 | bl i=>
  cases rx;cases y with
  | aN=>cases ry;exact PySem.EqNone.eq_bool_none (eC I q (by simp))
  | bl j=>cases ry;exact eq_bool (eC I q Wu)
  | str j=>obtain⟨t',rfl⟩:=ry;exact PySem.EqMixed.eq_bool_str (eC I q (by simp))
  | _=>exact absurd (show d_=c_ from hs) dU
 | int i=>
  obtain⟨t,rfl⟩:=rx;cases y with
  | aN=>cases ry;exact PySem.EqNone.eq_int_none (eC I q (by simp))
  | int j=>obtain⟨t',rfl⟩:=ry;exact eq_int (eC I q zd)
  | str j=>obtain⟨t',rfl⟩:=ry;exact PySem.EqMixed.eq_int_str (eC I q (by simp))
  | _=>exact absurd (show d_=c_ from hs) dU
 | str i=>
  obtain⟨t,rfl⟩:=rx;cases y with
  | aN=>cases ry;exact PySem.EqNone.eq_str_none (eC I q (by simp))
  | bl j=>cases ry;exact PySem.EqMixed.eq_str_bool (eC I q (by simp))
  | int j=>obtain⟨t',rfl⟩:=ry;exact PySem.EqMixed.eq_str_int (eC I q (by simp))
  | str j=>obtain⟨t',rfl⟩:=ry;exact eq_str (eC I q Vl)
  | _=>exact absurd (show d_=c_ from hs) dU
 | oY i=>
  obtain⟨t,rfl⟩:=rx;cases y with
  | oY j=>obtain⟨t',rfl⟩:=ry;exact W.eq_bytes (eC I q Vm)
  | _=>exact absurd (show d_=c_ from hs) dU
 | _=>cases y <;> exact absurd (show d_=c_ from hs) dU
def BQ:eQ X (iH .NotEq) rNe:=by
 intro p_ s σ H x y v u Q I rx ry h;obtain⟨hs,q⟩:=h;cases x with
 | aN=>
  cases rx;cases y with
  | aN=>cases ry;exact PySem.EqNone.ne_none_none (eC I q (by simp))
  | bl j=>cases ry;exact PySem.EqNone.ne_none_bool (eC I q (by simp))
  | int j=>obtain⟨t',rfl⟩:=ry;exact PySem.EqNone.ne_none_int (eC I q (by simp))
  | str j=>obtain⟨t',rfl⟩:=ry;exact PySem.EqNone.ne_none_str (eC I q (by simp))
  | _=>exact absurd (show d_=c_ from hs) dU
 | bl i=>
  cases rx;cases y with
  | aN=>cases ry;exact PySem.EqNone.ne_bool_none (eC I q (by simp))
  | bl j=>cases ry;exact ne_bool (eC I q (congrArg not Wu))
  | str j=>obtain⟨t',rfl⟩:=ry;exact PySem.EqMixed.ne_bool_str (eC I q (by simp))
  | _=>exact absurd (show d_=c_ from hs) dU
 | int i=>
  obtain⟨t,rfl⟩:=rx;cases y with
  | aN=>cases ry;exact PySem.EqNone.ne_int_none (eC I q (by simp))
  | int j=>obtain⟨t',rfl⟩:=ry;exact ne_int (eC I q (congrArg not zd))
  | str j=>obtain⟨t',rfl⟩:=ry;exact PySem.EqMixed.ne_int_str (eC I q (by simp))
  | _=>exact absurd (show d_=c_ from hs) dU
 | str i=>
  obtain⟨t,rfl⟩:=rx;cases y with
  | aN=>cases ry;exact PySem.EqNone.ne_str_none (eC I q (by simp))
  | bl j=>cases ry;exact PySem.EqMixed.ne_str_bool (eC I q (by simp))
  | int j=>obtain⟨t',rfl⟩:=ry;exact PySem.EqMixed.ne_str_int (eC I q (by simp))
  | str j=>obtain⟨t',rfl⟩:=ry;exact ne_str (eC I q (congrArg not Vl))
  | _=>exact absurd (show d_=c_ from hs) dU
 | oY i=>
  obtain⟨t,rfl⟩:=rx;cases y with
  | oY j=>obtain⟨t',rfl⟩:=ry;exact W.ne_bytes (eC I q (congrArg not Vm))
  | _=>exact absurd (show d_=c_ from hs) dU
 | _=>cases y <;> exact absurd (show d_=c_ from hs) dU
def zC:eQ X (iH .Lt) (tQ λi j=>.bl (decide (i<j))):=NX λ_ _ _ _ _ _ _ q=>lt_int q
def MY:eQ X (iH .LtE) (tQ λi j=>.bl (decide (i<=j))):=NX λ_ _ _ _ _ _ _ q=>le_int q
def wQ:eQ X (iH .Gt) (tQ λi j=>.bl (decide (j<i))):=NX λ_ _ _ _ _ _ _ q=>gt_int q
def Md:eQ X (iH .Is) (λx y H Q=>y=.aN/\Q (.bl (decide (x=.aN))) H):=by
 intro p_ s σ H x y v u Q I rx ry h;obtain⟨rfl,q⟩:=h;cases ry;refine is_none_gen (eC I q ?_)
 cases x <;> first
  | (cases rx;rfl)
  | (obtain⟨t,rfl⟩:=rx;rfl)
def U3:eQ X (iH .IsNot) (λx y H Q=>y=.aN/\Q (.bl (!decide (x=.aN))) H):=by
 intro p_ s σ H x y v u Q I rx ry h;obtain⟨rfl,q⟩:=h;cases ry;refine isnot_none_gen (eC I q ?_)
 cases x <;> first
  | (cases rx;rfl)
  | (obtain⟨t,rfl⟩:=rx;rfl)
def bJ(b:Expr)(h:op≠.In:=by decide)(h2:op≠.NotIn:=by decide):D1 op b=false:=by
 have e1:(op == CmpOp.In)=false:=by cases op <;> first | rfl | exact absurd xz h
 have e2:(op == CmpOp.NotIn)=false:=by cases op <;> first | rfl | exact absurd xz h2
 cases b <;> simp[D1,e1,e2]
def BA(ho:eQ X (iH op) r)(ha:PE X a ta)(hb:PE X b tb)(hm:D1 op b=d_):PE X (.Compare a [op] [b] pos) (sg r ta tb):=by
 intro p_ s σ H Q I h;exact wpAny_Compare1 (N8 ha hb I h λv u s2 x y H2 I2 rx ry q=>ho p_ s2 σ H2 x y v u Q I2 rx ry q) hm
abbrev WA(t:TE):TT:=λσ H Q=>t σ H λx H'=>∃k,x=.bl k/\Q k H'
def bM(ho:eQ X (iH op) r)(ha:PE X a ta)(hb:PE X b tb)(hm:D1 op b=d_):PT X (.Compare a [op] [b] pos) (WA (sg r ta tb)):=by
 intro p_ s σ H Q I h
 refine aaF (aR (ha p_ s σ H _ I h) λv s1 ⟨x,H1,I1,r1,q1⟩=>aR (hb p_ s1 σ H1 _ I1 q1) λu s2 ⟨y,H2,I2,r2,q2⟩=>
  aR (ho p_ s2 σ H2 x y v u _ I2 r1 r2 q2) λc s3 ⟨z,H3,I3,r3,k,e,q3⟩=>?_) hm
 subst e;cases r3;exact nQ ⟨H3,I3,q3⟩
def VF(r r':R2)(ta tb tc:TE):TE:=λσ H Q=>ta σ H λx H1=>tb σ H1 λy H2=>r x y H2 λz H3=>∃k,z=.bl k/\
 (if k=c_ then tc σ H3 λw' H4=>r' y w' H4 Q else Q (.bl d_) H3)
def ae0(ho:eQ X (iH op) r)(qO:eQ X (iH Cy) r')(ha:PE X a ta)(hb:PE X b tb)(hc:PE X c tc)
  (hm:lastMarks [op,Cy] [b,c]=false:=by with_unfolding_all rfl):PE X (.Compare a [op,Cy] [b,c] pos) (VF r r' ta tb tc):=by
 intro p_ s σ H Q I h
 refine Compare_chain (aR (ha p_ s σ H _ I h) λv s1 ⟨x,H1,I1,r1,q1⟩=>chain_link (aR (hb p_ s1 σ H1 _ I1 q1) λu s2 ⟨y,H2,I2,r2,q2⟩=>
  aR (ho p_ s2 σ H2 x y v u _ I2 r1 r2 q2) λd s3 ⟨z,H3,I3,r3,k,e,q3⟩=>?_)) hm
 subst e;cases r3;refine nQ ?_;cases k with
 | false=>exact ite_ff ⟨.bl d_,H3,I3,xz,q3⟩
 | true=>exact ite_tt (chain_last (aR (hc p_ s3 σ H3 _ I3 q3) λw' s4 ⟨z',H4,I4,r4,q4⟩=>qO p_ s4 σ H4 y z' u w' Q I4 r2 r4 q4))
def aeV(ho:eQ X (iH op) r)(qO:eQ X (iH Cy) r')(ha:PE X a ta)(hb:PE X b tb)(hc:PE X c tc)
  (hm:lastMarks [op,Cy] [b,c]=false:=by with_unfolding_all rfl):PT X (.Compare a [op,Cy] [b,c] pos) (WA (VF r r' ta tb tc)):=by
 intro p_ s σ H Q I h
 refine isTrue_chain (aR (ha p_ s σ H _ I h) λv s1 ⟨x,H1,I1,r1,q1⟩=>test_link (aR (hb p_ s1 σ H1 _ I1 q1) λu s2 ⟨y,H2,I2,r2,q2⟩=>
  aR (ho p_ s2 σ H2 x y v u _ I2 r1 r2 q2) λd s3 ⟨z,H3,I3,r3,k,e,q3⟩=>?_)) hm
 subst e;cases r3;refine nQ ?_;cases k with
 | false=>
  obtain⟨k',e',q'⟩:=q3;cases e';exact ite_ff ⟨H3,I3,q'⟩
 | true=>
  refine ite_tt (test_last (aR (hc p_ s3 σ H3 _ I3 q3) λw' s4 ⟨z',H4,I4,r4,q4⟩=>aR (qO p_ s4 σ H4 y z' u w' _ I4 r2 r4 q4) λd' s5 ⟨z2,H5,I5,r5,k2,e2,q5⟩=>?_));subst e2;cases r5;exact nQ ⟨H5,I5,q5⟩
def BL:(bw:Nat)<2^63:=by rw[fw];decide
def vals1(r:Vals [x] us):∃u,us=[u]/\RelV x u:=by
 cases r with
 | cons r1 r2=>cases r2;exact⟨_,xz,r1⟩
def vals2(r:Vals [x,y] us):∃u w',us=[u,w']/\RelV x u/\RelV y w':=by
 cases r with
 | cons r1 r2=>
  cases r2 with
  | cons r3 r4=>cases r4;exact⟨_,_,xz,r1,r3⟩
def ael(hc:X.calm=c_):jj X (.builtin "min") (λxs H Q=>∃i j,xs=[.int i,.int j]/\Q (.int (if j<i then j else i)) H):=by
 intro p_ s σ H xs us Q I r h;obtain⟨i,j,rfl,q⟩:=h;obtain⟨u,w',rfl,⟨t,rfl⟩,⟨t',rfl⟩⟩:=vals2 r;refine min_two_ints (I.ok.hd hc) λh' tk k=>⟨_,H,I.kept k,?_,q⟩
 by_cases hj:j<i
 .rw[if_pos hj,if_pos hj];exact⟨_,xz⟩
 .rw[if_neg hj,if_neg hj];exact⟨_,xz⟩
end
structure xr(h:i_)(x dx C:e_)(mA:Str->Option f_):Prop where
 obj:h.get? x=a_ (W.instObj C dx)
 ns:h.Ns1 dx mA
 ne:dx≠x
def adZ{h:i_}{dx:e_}{mA:Str->Option f_}(n:h.Ns1 dx mA):∃od,h.get? dx=a_ od/\∀name,W.lookIn name od=a_ (mA name):=by
 obtain⟨o,es,ep,ho,hd,hk,_,hm⟩:=n;refine⟨o,ho,λname=>?_⟩;have e:=hm name;unfold nsFind findBy at e;rw[<-Array.find?_toList]at e;unfold W.lookIn;rw[hd];dsimp only
 split
 .rename_i y q
  rw[q]at e;exact congrArg a_ e
 .rename_i q
  rw[q]at e
  have a:es.toList.any (·.refKey)=false:=by
   rw[List.any_eq_false];intro y hy;obtain⟨z,t,anH⟩:=hk y (Array.mem_toList_iff.mp hy);simp[DictEntry.refKey,anH]
  have a':¬es.toList.any (·.refKey)=true:=by rw[a];exact dU
  rw[if_neg a'];exact congrArg a_ e
def xr.look(I:xr h x dx C mA):∃od,D_ h x (W.instObj C dx) C (a_ od)/\∀name,W.lookIn name od=a_ (mA name):=
 let ⟨od,ho,hl⟩:=adZ I.ns
 ⟨od,⟨I.obj,xz,xz,ho⟩,hl⟩
section
variable{prog:k_}{w:j_}{A:h_}{E:f_->g_->Prop}{s:g_}{K:u_}{x dx C f:e_}{mA:Str->Option f_}{name:Str}{v:f_}
def get_map(X:K.In s.heap)(I:xr s.heap x dx C mA)(hg:W.plainGet K C name=c_)(hh:F_ K C=c_)
  (ha:w_ K (.ref C) name=a_ b_) (hv:mA name=a_ v) (HA:W.handedIn v=c_) (h:Q v { s with toks:=s.toks+1 }) :
  wpAny (model prog w) A (getAttr (.ref x) name expr) Q E s:=by
 obtain⟨od,J,hl⟩:=I.look;exact W.get_value X J (W.plainGet_of hg).1 (W.findObj_own hh ha xz (by rw[hl,hv])) HA h
def afC(X:K.In s.heap)(I:xr s.heap x dx C mA)(hg:W.plainGet K C name=c_)
  (hf:w_ K (.ref C) name=a_ (a_ (.ref f))) (ht:W.isFn K (.ref f)=c_) (hv:mA name=b_) (h:Q (.ref f,[.ref x]) s) :
  wpAny (model prog w) A (uJ (.ref x) name pl) Q E s:=by
 obtain⟨od,J,hl⟩:=I.look;exact W.method_fn X J (W.plainGet_of hg).1 (W.plainGet_of hg).2 hf (beq_iff_eq.mp ht) (by show (W.lookIn name od).map (·.isSome)=a_ d_;rw[hl,hv];rfl) h
def agm(X:K.In s.heap)(I:xr s.heap x dx C mA)
  (hs:w_ K (.ref C) "__setattr__" = a_ (a_ (.builtin "object.__setattr__"))) (hp:W.plainOver K C=c_) (ht:W.takerIn K C name=a_ b_) (hh:F_ K C=c_)
  (hw:PySem.Within mA ns) (hsz:ns.length<=bw)
  (h:∀h',xr h' x dx C (λy=>if y=name then a_ v else mA y)->fU dx s.heap h'->Q () { s with heap:=h',toks:=s.toks+2 }) :
  wpAny (model prog w) A (setAttr (.ref x) name v) Q E s:=by
 obtain⟨od,J,hl⟩:=I.look;refine W.set_plain X J hs (W.osa_open (s:={ s with toks:=s.toks+1 }) (r:=b_) X J hp ht λb=>?_);obtain⟨cd,hc,mw⟩:=W.any_some hh;have hx:s.heap.get? x=a_ ⟨.ref C,a_ dx,.plain,#[]⟩:=I.obj;refine ae (aF (ae (ae (wpAny_loadPart hx (ae (W.Looks.here (s:={ s with toks:=s.toks+1 }) (W.looks_clsIn X hc) ?_))))));rw[mw];refine aF (a:=a_ dx) (ae (aF (ae (wpAny_nsSet1 (s:={ s with toks:=s.toks+1 }) I.ns λh' HI nG=>?_))));obtain⟨oD,esD,epD,hoD,hdD,hcD⟩:=HI.count (PySem.Within.cons name v hw);exact ae (wpAny_lookBehind hoD (by rw[hdD];exact pastItsLine_dict (cu hcD (by rw[fR];omega))) (aF (h _ ⟨(nG.2 _ (cH I.ne)).trans I.obj,HI,I.ne⟩ nG)))
def afp(X:K.In s.heap)(hm:W.makesIn K C=c_)
  (hi:w_ K (.ref C) "__init__" = a_ (a_ (.ref f))) (hf:W.typeIn K (.ref f)=a_ (.type "function"))
  (h:codeAny (model prog w) (A.under (.builtin "type.__call__" ⟨.ref C::vs,kw⟩)) (.call (.ref f) ⟨.ref (s.zS+1)::vs,kw⟩) (W.InitBack (s.zS+1) R)
   {s with heap:=(s.heap.push W.emptyDict).push (W.instObj C s.zS) }) :
  codeAny (model prog w) A (.call (.ref C) ⟨vs,kw⟩) R s:=by
 obtain⟨hh,g,d,t,os⟩:=s;exact W.make_core (W.makes_of X hm) (W.looks_findIn X hi) (λself=>W.bind_fn X self hf) (.inl xz) h
end
def aO(f:Str)(v:V):List (Str×V)->List (Str×V)
 | []=>[(f,v)]
 | (g,x)::r=>if g=f then (g,v)::r else (g,x)::aO f v r
def eV(f g:Str)(v:V):∀fs:List (Str×V),(aO f v fs).lookup g=if g=f then a_ v else fs.lookup g
 | []=>by
  show sV g [(f,v)]=_
  by_cases h:g=f
  .have hb:=beq_iff_eq.mpr h;simp only[sV,hb,if_pos h]
  .have hb:=beq_eq_false_iff_ne.mpr h;simp only[sV,hb,if_neg h]
 | (k,x)::r=>by
  have ih:=eV f g v r;rw[show aO f v ((k,x)::r)=(if k=f then (k,v)::r else (k,x)::aO f v r) from rfl]
  by_cases hk:k=f
  .rw[if_pos hk]
   by_cases h:g=k
   .have hb:=beq_iff_eq.mpr h;simp only[sV,hb,if_pos (h.trans hk)]
   .have hb:=beq_eq_false_iff_ne.mpr h;simp only[sV,hb,if_neg λe:g=f=>h (e.trans hk.symm)]
  .rw[if_neg hk]
   by_cases h:g=k
   .have hb:=beq_iff_eq.mpr h;simp only[sV,hb,if_neg λe:g=f=>hk (h.symm.trans e)]
   .have hb:=beq_eq_false_iff_ne.mpr h;simp only[sV,hb];exact ih
def JR(f:Str)(v:V):∀fs:List (Str×V),f∈(aO f v fs).map (·.1)/\∀g,g∈fs.map (·.1)->g∈(aO f v fs).map (·.1)
 | []=>⟨by simp[aO],λg h=>by simp at h⟩
 | (k,x)::r=>by
  obtain⟨i1,i2⟩:=JR f v r;rw[show aO f v ((k,x)::r)=(if k=f then (k,v)::r else (k,x)::aO f v r) from rfl]
  by_cases hk:k=f
  .rw[if_pos hk];subst hk;exact⟨by simp,λg h=>by simpa using h⟩
  .rw[if_neg hk];refine⟨?_,λg h=>?_⟩
   .rw[gq];exact eL _ i1
   .rw[gq]at h ⊢;rcases bX.mp h with e | e
    .exact bX.mpr (.inl e)
    .exact eL _ (i2 g e)
def q9(f:Str)(v:V):∀fs:List (Str×V),(aO f v fs).length<=fs.length+1
 | []=>by simp[aO]
 | (k,x)::r=>by
  have ih:=q9 f v r;rw[show aO f v ((k,x)::r)=(if k=f then (k,v)::r else (k,x)::aO f v r) from rfl]
  by_cases hk:k=f
  .rw[if_pos hk,fR,fR];omega
  .rw[if_neg hk,fR,fR];omega
def jm.some_of(r:jm (a_ v) o):∃u,o=a_ u/\RelV v u:=by
 cases o with
 | none=>exact(show False from r).elim
 | some u=>exact⟨u,xz,r⟩
def jm.none_of(r:jm b_ o):o=none:=by
 cases o with
 | none=>rfl
 | some u=>exact(show False from r).elim
def aea(r:RelV v u):W.handedIn u=true:=by
 cases v with
 | aN=>cases (show u=jz from r);rfl
 | bl b=>cases (show u=uH b from r);rfl
 | int i=>obtain⟨t,e⟩:=(show ∃t,u=eO i t from r);cases e;rfl
 | str x=>obtain⟨t,e⟩:=(show ∃t,u=uK x t from r);cases e;rfl
 | oY b=>obtain⟨t,e⟩:=(show ∃t,u=Value.bytes b t from r);cases e;rfl
 | tV b=>obtain⟨t,e⟩:=(show ∃t,u=RC b t from r);cases e;rfl
 | ref a=>cases (show u=dj a from r);rfl
 | ty n=>cases (show u=iW n from r);rfl
section
variable{P:k_}{w:j_}{H H':Hp}{h h':i_}{a C dx:e_}{fs my:List (Str×V)}
def E5(aH:eR P w H h)(e:H a=a_ (.ins C dx fs)):∃mA,xr h a dx C mA/\(∀f,jm (fs.lookup f) (mA f))/\PySem.Within mA (fs.map (·.1))/\fs.length<=1000/\H dx=a_ (.own a):=by
 obtain⟨d,z,ne,ob,mA,n,r,q⟩:=(show dI P w H h a (.ins C dx fs) from aH a _ e);exact⟨mA,⟨ob,n,ne⟩,r,q,z,d⟩
end
structure dg(K:u_)(C:e_):Prop where
 pg:W.plainGet K C Str.empty=c_
 hd:F_ K C=c_
 po:W.plainOver K C=c_
 sa:w_ K (.ref C) "__setattr__" = a_ (a_ (.builtin "object.__setattr__"))
def dg.get{K:u_}(c:dg K C)(f:Str):W.plainGet K C f=true:=c.pg
def bT(K:u_)(C:e_)(f:Str):Prop:=w_ K (.ref C) f=a_ b_
def bT.ajT{K:u_}(n:bT K C f):W.takerIn K C f=a_ none:=by
 unfold W.takerIn;rw[show w_ K (.ref C) f=a_ b_ from n];rfl
structure Meth(K:u_)(C:e_)(m:Str)(f:e_):Prop where
 at_:w_ K (.ref C) m=a_ (a_ (.ref f))
 fn:W.isFn K (.ref f)=c_
 kp:x_ K (.ref f)=c_
section
variable{X:Cx}{p_:List (e_×Obj)}{σ:St}{H:Hp}{s:g_}{a C dx:e_}{fs:List (Str×V)}{f:Str}{v:V}{A:h_}{E:f_->g_->Prop}
def RU(I:Inv X p_ σ H s)(e:H a=a_ (.ins C dx fs))(c:dg X.K C)(n:bT X.K C f)(l:fs.lookup f=a_ v)
  (h:∀u s',Inv X p_ σ H s'->RelV v u->Q u s'):wpAny (model X.prog X.w) A (getAttr (.ref a) f b) Q E s:=by
 obtain⟨mA,O,r,_,_,_⟩:=E5 I.aH e;obtain⟨u,hu,ru⟩:=jm.some_of (v:=v) (o:=mA f) (by rw[<-l];exact r f);exact get_map I.eZ O (c.get f) c.hd n hu (aea ru) (h u _ (I.tok _) ru)
def Ee(I:Inv X p_ σ H s)(e:H a=a_ (.ins C dx fs))(c:dg X.K C)(k:Meth X.K C m g)(l:fs.lookup m=b_)
  (h:Q (.ref g,[.ref a]) s):wpAny (model X.prog X.w) A (uJ (.ref a) m pl) Q E s:=by
 obtain⟨mA,O,r,_,_,_⟩:=E5 I.aH e;have hn:=jm.none_of (by rw[<-l];exact r m);exact afC I.eZ O (c.get m) k.at_ k.fn hn h
def RH(I:Inv X p_ σ H s)(e:H a=a_ (.ins C dx fs))(c:dg X.K C)(n:bT X.K C f)(hl:fs.length<1000)(ry:RelV y u)
  (h:∀s',Inv X p_ σ (upd H a (.ins C dx (aO f y fs))) s'->Q () s'):wpAny (model X.prog X.w) A (setAttr (.ref a) f u) Q E s:=by
 obtain⟨mA,O,r,wi,_,ho⟩:=E5 I.aH e;have hz:(fs.map (·.1)).length<=bw:=by rw[aL,fw];omega
 refine agm I.eZ O c.sa c.po n.ajT c.hd wi hz λh' O' sb=>h _ ?_;have hd:∃o,h'.get? dx=a_ o:=let ⟨o,_,_,e',_⟩:=O'.ns;⟨o,e'⟩
 refine I.write (x:=a) (e:=dx) (by rw[e];exact nZ) (.inr ho) (λb q hb z=>(sb.2 b hb).trans z) hd ⟨by rw[ai O.ne];exact ho,?_,O.ne,O'.obj,_,O'.ns,λg=>?_,λg hg=>?_⟩
 .have:=q9 f y fs;omega
 .show jm ((aO f y fs).lookup g) (if g=f then a_ u else mA g);rw[eV]
  by_cases q:g=f
  .rw[if_pos q,if_pos q];exact ry
  .rw[if_neg q,if_neg q];exact r g
 .by_cases q:g=f
  .rw[q];exact(JR f y fs).1
  .refine(JR f y fs).2 g (wi g λz=>hg ?_);show (if g=f then a_ u else mA g)=b_;rw[if_neg q];exact z
def Inv.made(I:Inv X p_ σ H s):Inv X p_ σ (upd (upd H s.zS (.own (s.zS+1))) (s.zS+1) (.ins C s.zS []))
  {s with heap:=(s.heap.push W.emptyDict).push (W.instObj C s.zS) }:=by
 have e1:(s.heap.push W.emptyDict).get? s.zS=a_ W.emptyDict:=dh s.heap xz
 have e2:((s.heap.push W.emptyDict).push (W.instObj C s.zS)).get? (s.zS+1)=a_ (W.instObj C s.zS):=by
  have:=dh (s.heap.push W.emptyDict) (o:=W.instObj C s.zS) rfl;rwa[kC]at this
 have e3:(s.heap.push W.emptyDict).Ns s.zS (λ_=>b_):=⟨W.emptyDict,#[],_,e1,xz,(λe he=>absurd he (by simp)),λ_=>rfl⟩;have I1:=I.laid (a:=s.zS) (o:=.own (s.zS+1)) (h':=s.heap.push W.emptyDict) (t':=s.toks) (λb u q=>bh _ q) (aA _) ⟨_,e1⟩;refine I1.laid (a:=s.zS+1) (o:=.ins C s.zS []) (t':=s.toks) (λb u q=>bh _ q) (pM (kC _ _)) ?_;have ne:s.zS≠s.zS+1:=cC (qW _);refine⟨by rw[ai ne,ao],a8 _,ne,e2,λ_=>b_,(Heap.Ns1.of_empty e3).at λo q=>bh _ q,λ_=>nZ,λy hy=>absurd xz hy⟩
def ahM{w:j_}(hb:D3 e f env (eval e env)=eval e env)
  (h:wpAny (model prog w) A (eval e env) (λo s₁=>wpAny (model prog w) A (getAttr o f c_) Q E s₁) E s):wpAny (model prog w) A (eval (.Attribute e f pos) env) Q E s:=
 Attribute_any_ h (by rw[arm_eval_Attribute,hb])
end
def NJ(K:u_)(ta:TE)(f:Str):TE:=λσ H Q=>ta σ H λx H1=>∃a C dx fs v,x=.ref a/\H1 a=a_ (.ins C dx fs)/\dg K C/\bT K C f/\fs.lookup f=a_ v/\Q v H1
def Xy(K:u_)(ta tv:TE)(f:Str):TS:=λD σ H=>tv σ H λy H1=>ta σ H1 λx H2=>∃a C dx fs,x=.ref a/\H2 a=a_ (.ins C dx fs)/\dg K C/\bT K C f/\fs.length<1000/\
 D.nx σ (upd H2 a (.ins C dx (aO f y fs)))
def XZ(X:Cx)(op:Operator)(rd:V->V->Hp->VK->Prop):Prop:=
 ∀(p_:List (e_×Obj)) (s:g_) (σ:St) (H:Hp) (x y:V) (u v:f_) (Q:VK),Inv X p_ σ H s->RelV x u->RelV y v->rd x y H Q->wpAny (model X.prog X.w) X.A (inplaceOp op u v) (EP X p_ σ Q) X.xe s
def agB(K:u_)(ta tv:TE)(rd:V->V->Hp->VK->Prop)(f:Str):TS:=λD σ H=>ta σ H λx H1=>∃a C dx fs v,x=.ref a/\H1 a=a_ (.ins C dx fs)/\dg K C/\bT K C f/\fs.lookup f=a_ v/\
 tv σ H1 λy H2=>rd v y H2 λz H3=>∃Dl my,H3 a=a_ (.ins C Dl my)/\my.length<1000/\D.nx σ (upd H3 a (.ins C Dl (aO f z my)))
section
variable{X:Cx}{o e value:Expr}{f:Str}{pos pos' B9:Pos}{ta tv:TE}
def bC(he:PE X e ta)(hb:D3 e f X.env (eval e X.env)=eval e X.env):PE X (.Attribute e f pos) (NJ X.K ta f):=by
 intro p_ s σ H Q I h;refine ahM hb (aR (he p_ s σ H _ I h) λu s1 ⟨x,H1,I1,rx,a,C,dx,fs,v,ex,ea,c,n,l,q⟩=>?_);subst ex;obtain rfl:u=dj a:=rx;exact RU I1 ea c n l λu' s2 I2 ru=>⟨v,H1,I2,ru,q⟩
def fV(ha:PE X o ta)(hv:PE X value tv)(hs:Es value (a_ (.Attribute o f pos')) pos.line X.env=pure d_):PS X (.Assign [.Attribute o f pos'] value pos) (Xy X.K ta tv f):=by
 intro p_ s σ H D I h;refine plainObj_wpAny_Assign_Attribute (aR (hv p_ s σ H _ I h) λu s1 ⟨y,H1,I1,ry,q⟩=>aR (ha p_ s1 σ H1 _ I1 q) λov s2 ⟨x,H2,I2,rx,a,C,dx,fs,ex,ea,c,n,l,q2⟩=>?_) hs;subst ex;obtain rfl:ov=dj a:=rx;exact RH I2 ea c n l ry λs3 I3=>⟨σ,_,I3,q2⟩
def adz(ha:PE X o ta)(hv:PE X value tv)(hop:XZ X op rd):PS X (.AugAssign (.Attribute o f B9) op value pos) (agB X.K ta tv rd f):=by
 intro p_ s σ H D I h;refine wpAny_AugAssign_AttributeAny (aR (ha p_ s σ H _ I h) λov s1 ⟨x,H1,I1,rx,a,C,dx,fs,v,ex,ea,c,n,l,q⟩=>?_);subst ex;obtain rfl:ov=dj a:=rx;exact RU I1 ea c n l λu s2 I2 ru=>aR (hv p_ s2 σ H1 _ I2 q) λw3 s3 ⟨y,H2,I3,ry,q3⟩=>aR (hop p_ s3 σ H2 v y u w3 _ I3 ru ry q3) λw4 s4 ⟨z,H3,I4,rz,Dl,my,ea',l',q4⟩=>RH I4 ea' c n l' rz λs5 I5=>⟨σ,_,I5,q4⟩
def amx:V->V->Hp->VK->Prop:=λx y H Q=>∃i j,x=.int i/\y=.int j/\Q (.int (i+j)) H
def aiX:XZ X .Add amx:=by
 rintro p_ s σ H x y u v Q I rx ry ⟨i,j,rfl,rfl,q⟩;obtain⟨t,rfl⟩:=(show ∃t,u=eO i t from rx);obtain⟨t',rfl⟩:=(show ∃t',v=eO j t' from ry);exact PyProof.Rows.iadd_int ⟨.int (i+j),H,I.tok _,⟨_,xz⟩,q⟩
end
section
variable{X:Cx}{p_:List (e_×Obj)}{σ:St}{H:Hp}{s:g_}{A:h_}{E:f_->g_->Prop}{Q:f_->g_->Prop}{c:f_}{b:Bool}
inductive gG (K:u_) (H:Hp):V->f_->Prop where
 | aN:gG K H .aN (.type "NoneType")
 | bl (x:Bool):gG K H (.bl x) (.type "bool")
 | int (i:Int):gG K H (.int i) (.type "int")
 | str (x:Str):gG K H (.str x) (.type "str")
 | tV (x:UInt64):gG K H (.tV x) (.type "float")
 | lst {a:e_} {xs:List V} (e:H a=a_ (.lst xs)):gG K H (.ref a) (.type "list")
 | lX {a:e_} {o:Obj} {xs:List V} (e:H a=a_ (.lX o (.lst xs))):gG K H (.ref a) (.type "list")
 | tup {a:e_} {xs:List V} (e:H a=a_ (.tup xs)):gG K H (.ref a) (.type "tuple")
 | dK {a:e_} {kvs:List (Key×V)} (e:H a=a_ (.dK kvs)):gG K H (.ref a) (.type "dict")
 | dT {a:e_} {kvs:List (List Key×V)} (e:H a=a_ (.dT kvs)):gG K H (.ref a) (.type "dict")
 | ins {a C dx:e_} {fs:List (Str×V)} (e:H a=a_ (.ins C dx fs)) (cl:dg K C) (ha:w_ K (.ref C) "__class__" = a_ (a_ (.builtin "object.__class__")))
   (hn:W.specialIn K (.builtin "object.__class__") "__get__" = a_ (a_ (.builtin "getset_descriptor.__get__"))) (HB:W.takesIn K (.builtin "object.__class__")=a_ c_)
   (hm:A_ K C (.type "object")=a_ c_):gG K H (.ref a) (.ref C)
def ad5{u t:f_}(I:Inv X p_ σ H s)(rx:RelV x u)(ty:gG X.K H x t)(e:v_ X.K t c=a_ b)(h:∀tk,Q (.bool b) { s with toks:=tk }) :
  wpAny (model X.prog X.w) A (call (.builtin "isinstance") [u,c]) Q E s:=by
 cases ty with
 | aN=>cases (show u=jz from rx);exact E_ W.kitx_none I.eZ nZ e (λz=>nomatch z) h
 | bl y=>cases (show u=uH y from rx);exact E_ W.kitx_bool I.eZ nZ e (λz=>nomatch z) h
 | int i=>obtain⟨t,q⟩:=(show ∃t,u=eO i t from rx);cases q;exact E_ W.kitx_int I.eZ nZ e (λz=>nomatch z) h
 | str y=>obtain⟨t,q⟩:=(show ∃t,u=uK y t from rx);cases q;exact E_ W.kitx_str I.eZ nZ e (λz=>nomatch z) h
 | tV y=>obtain⟨t,q⟩:=(show ∃t,u=RC y t from rx);cases q;exact E_ W.kitx_float I.eZ nZ e (λz=>nomatch z) h
 | @lst a xs ea=>
  cases (show u=dj a from rx);obtain⟨_,_,n,_,h1⟩:=(show dI X.prog X.w H s.heap a (.lst xs) from I.aH a _ ea);exact E_ W.kitx_list I.eZ ⟨_,h1,xz⟩ e (λz=>nomatch z) h
 | @lX a ob xs ea=>
  cases (show u=dj a from rx);obtain⟨_,_,_,n,_,h1⟩:=(show dI X.prog X.w H s.heap a (.lX ob (.lst xs)) from I.aH a _ ea);exact E_ W.kitx_list I.eZ ⟨_,h1,xz⟩ e (λz=>nomatch z) h
 | @tup a xs ea=>
  cases (show u=dj a from rx);obtain⟨_,_,_,p⟩:=(show dI X.prog X.w H s.heap a (.tup xs) from I.aH a _ ea);obtain⟨o,h1,h2,_⟩:=p;exact E_ W.kitx_tuple I.eZ ⟨o,h1,h2⟩ e (λz=>nomatch z) h
 | @dK a kvs ea=>
  cases (show u=dj a from rx);obtain⟨_,_,vs,_,p⟩:=(show dI X.prog X.w H s.heap a (.dK kvs) from I.aH a _ ea);obtain⟨o,es,ep,h1,h2,_⟩:=p;exact E_ W.kitx_dict I.eZ ⟨o,h1,h2.1⟩ e (λz=>nomatch z) h
 | @dT a kvs ea=>
  cases (show u=dj a from rx);obtain⟨_,_,xs,_,o,es,ep,h1,h2,_⟩:=(show dI X.prog X.w H s.heap a (.dT kvs) from I.aH a _ ea);exact E_ W.kitx_dict I.eZ ⟨o,h1,h2.1⟩ e (λz=>nomatch z) h
 | @ins a C dx fs ea cl ha hn HB hm=>
  cases (show u=dj a from rx);obtain⟨mA,O,_⟩:=E5 I.aH ea;obtain⟨od,J,_⟩:=O.look;exact E_ (W.kitx_own (cl.get _) cl.hd ha hn HB hm) I.eZ J e (λz=>nomatch z) h
end
structure eG(k:Nat)(A:h_):Prop where
 hd:A.handled=b_
 dp:A.depth+3*k+5<DX
 un:A.units+16*k+200<cLine
def eG.mono{j k:Nat}(r:eG k A)(h:j<=k):eG j A:=⟨r.hd,by have:=r.dp;omega,by have:=r.un;omega⟩
def eG.deeper{k:Nat}(r:eG (k+1) A)(env:Env):eG k (A.deeper env):=
 ⟨r.hd,by have:=r.dp;show A.depth+1+3*k+5<_;omega,by have:=r.un;show A.units+3+16*k+200<_;omega⟩
def ac5{A:h_}{C:e_}{us:List f_}{kw:List (Str×f_)}:(A.under (.builtin "type.__call__" ⟨.ref C::us,kw⟩)).depth=A.depth+1:=by
 first | rfl | simp[Rv,Code.weight,Code.isCreation,Code.isGuard,Code.isCaller,Code.frames,Code.isFrame,guardIds]
def ac4{A:h_}{C:e_}{us:List f_}{kw:List (Str×f_)}:(A.under (.builtin "type.__call__" ⟨.ref C::us,kw⟩)).units=A.units+1:=by
 first | rfl | simp[Rv,Code.cUnits,Code.frames,Code.isFrame]
def eG.make{k:Nat}(r:eG (k+1) A)(C:e_)(us:List f_)(kw:List (Str×f_)):eG k (A.under (.builtin "type.__call__" ⟨.ref C::us,kw⟩)):=
 ⟨r.hd,by have:=r.dp;rw[ac5];omega,by have:=r.un;rw[ac4];omega⟩
def eG.depth{k:Nat}(r:eG k A):A.depth<DX:=by have:=r.dp;omega
abbrev NH:TA:=λ_ H Q=>Q [] H
abbrev aj0(ta:TE)(tr:TA):TA:=λσ H Q=>ta σ H λx H1=>tr σ H1 λxs H2=>Q (x::xs) H2
section
variable{X:Cx}{e:Expr}{es:List Expr}{te:TE}{t:TA}{pos:Pos}
def ag:PA X [] NH:=λ_ _ _ _ H Q I h=>QJ ⟨[],H,I,.nil,h⟩
def ab(ha:PE X e te)(hr:PA X es t)(hs:bV (e::es) X.env=(d_,eval e X.env)::bV es X.env:=by rfl):PA X (e::es) (aj0 te t):=by
 intro pos p_ s σ H Q I h;rw[hs];show wpAny _ _ (spliced ((d_,eval e X.env)::backTo pos (bV es X.env))) _ _ s;exact QF (aR (ha p_ s σ H _ I h) λu s1 ⟨x,H1,I1,r1,q1⟩=>aR (hr pos p_ s1 σ H1 _ I1 q1) λus s2 ⟨xs,H2,I2,r2,q2⟩=>⟨x::xs,H2,I2,.cons r1 r2,q2⟩)
def ame(t:TA):TE:=λσ H Q=>t σ H λxs H1=>xs.length<=bw/\∀p,H1 p=b_->Q (.ref p) (upd H1 p (.tup xs))
def ami(t:TA):TE:=λσ H Q=>t σ H λxs H1=>xs.length<=bw/\∀p,H1 p=b_->Q (.ref p) (upd H1 p (.lst xs))
def fJ{x1}(h:PA X es t):PE X (.Tuple es x1 pos) (ame t):=by
 intro p_ s σ H Q I hq;refine wpAny_Tuple_spliced (aR (h pos p_ s σ H _ I hq) λus s1 ⟨xs,H1,I1,r,z,q⟩=>⟨by rw[<-r.length];exact z,?_⟩);have hf:=I1.aH.fresh (aA _);refine⟨.ref s1.zS,upd H1 s1.zS (.tup xs),I1.laid (t':=s1.toks) (λb u e=>bh _ e) (aA _) ?_,xz,q _ hf⟩;exact⟨z,us,r,⟨_,dh _ xz,xz,_,xz⟩⟩
def dW(h:PA X es t):PE X (.List es pos) (ami t):=by
 intro p_ s σ H Q I hq;refine wpAny_List_spliced (aR (h pos p_ s σ H _ I hq) λus s1 ⟨xs,H1,I1,r,z,q⟩=>⟨by rw[<-r.length];exact z,?_⟩);have hf:=I1.aH.fresh (aA _);refine⟨.ref s1.zS,upd H1 s1.zS (.lst xs),I1.laid (t':=s1.toks) (λb u e=>bh _ e) (aA _) ?_,xz,q _ hf⟩;exact⟨z,us,0,r,dh _ xz⟩
end
abbrev Sp:=List V->Hp->VK->XK->Prop
abbrev qI:=List Env->Hp->g_->XK->f_->g_->Prop
structure xu(P:k_)(w:j_)(K:u_)(mg:Str->Option f_)(base:i_)(A:h_)(outer:List Env)(s:g_)(H:Hp):Prop where
 frames:A.frames=a_ outer
 mod:Mod K mg base
 bs:∀b o,base.get? b=a_ o->s.heap.get? b=a_ o/\H b=b_
 nD:base.zH<=s.zS
 lS:s.heap.FunFrames base outer
 tU:∀b∈qC outer,H b=b_
 aH:eR P w H s.heap
 bare:AllBare s.gens
def CE(outer:List Env)(P:k_)(w:j_)(H:Hp)(s:g_)(Q:VK)(u:f_)(s':g_):Prop:=
 ∃v H',s'.os=s.os/\AllBare s'.gens/\Un (qC outer) [] H H' s.heap s'.heap/\eR P w H' s'.heap/\RelV v u/\Q v H'
def CR(CX:qI)(outer:List Env)(P:k_)(w:j_)(H:Hp)(s:g_)(Q:VK)(E:XK)(r:Result)(s':g_):Prop:=
 match r with
 | .ok (.ret u)=>CE outer P w H s Q u s'
 | .ok _=>False
 | .error e=>CX outer H s E e s'
structure aG(P:k_)(w:j_)(K:u_)(mg:Str->Option f_)(base:i_)(CX:qI)(k:Nat)(f:e_)(fd:jS)(ps:List Str)(sp:Sp):Prop where
 len:∀vs H Q E,sp vs H Q E->vs.length=ps.length
 run:∀(A:h_) (outer:List Env) (s:g_) (H:Hp) (args:Args) (us:List f_) (vs:List V) (Q:VK) (E:XK),eG k A->xu P w K mg base A outer s H->BindsTo s fd args (ps.zip us)->Vals vs us->sp vs H Q E->
  codeAny (model P w) A (.call (.ref f) args) (CR CX outer P w H s Q E) s
def xu.make{P:k_}{w:j_}{K:u_}{mg:Str->Option f_}{base:i_}(e:xu P w K mg base A outer s H)(C:e_)(us:List f_)(kw:List (Str×f_)) :
  xu P w K mg base (A.under (.builtin "type.__call__" ⟨.ref C::us,kw⟩)) outer s H:=⟨by first | exact e.frames | (simpa[Rv,Code.envs,Code.isFrame,pushEnvs]using e.frames),e.mod,e.bs,e.nD,e.lS,e.tU,e.aH,e.bare⟩
section
variable{X:Cx}{p_:List (e_×Obj)}{σ:St}{H:Hp}{s s':g_}
def Inv.XS(I:Inv X p_ σ H s):xu X.prog X.w X.K X.mg X.base X.A X.stack s H:=
 ⟨I.ok.frames,I.ok.mod,I.bs,cu I.ok.nD I.sz,I.stack,I.KZ,I.aH,I.bare⟩
def Inv.after(I:Inv X p_ σ H s)(h:CE X.stack X.prog X.w H s Q u s'):EP X p_ σ Q u s':=by
 obtain⟨v,H',os,bare,un,aH,r,q⟩:=h;obtain⟨hh,g,d,t,os'⟩:=s';obtain rfl:os'=s.os:=os;exact⟨v,H',I.call (h':=hh) (g':=g) (d':=d) (t':=t) (ch:=[]) un aH bare λb z=>absurd z (by simp),r,q⟩
end
abbrev MC(sp:Sp)(dvs:List V)(E:XK)(t:TA):TE:=λσ H Q=>t σ H λvs H1=>sp (vs++dvs) H1 Q E
def BP(C:e_)(m:Str)(sp:Sp)(dvs:List V)(E:XK)(ta:TE)(t:TA):TE:=λσ H Q=>ta σ H λx H1=>∃a dx fs,x=.ref a/\H1 a=a_ (.ins C dx fs)/\fs.lookup m=b_/\
 t σ H1 λvs H2=>sp (x::(vs++dvs)) H2 Q E
def ajX(C:e_)(sp:Sp)(dvs:List V)(E:XK)(t:TA):TE:=λσ H Q=>t σ H λvs H1=>∀x dx,H1 x=b_->H1 dx=b_->dx≠x->
 sp (.ref x::(vs++dvs)) (upd (upd H1 dx (.own x)) x (.ins C dx [])) (λv H2=>v=.aN/\Q (.ref x) H2) E
def Binds(K:u_)(fd:jS)(ps:List Str)(ds:List f_):Prop:=
 ∀(s:g_) (us:List f_),K.In s.heap->(us++ds).length=ps.length->BindsTo s fd ⟨us,[]⟩ (ps.zip (us++ds))
def Binds.all{K:u_}(h:∀us:List f_,us.length=ps.length->uO fd ⟨us,[]⟩=pure (ps.zip us)):Binds K fd ps []:=λs us _ hl=>by
 rw[sQ]at hl ⊢;exact .of_eq (h us hl)
def Passes(CX:qI)(X:Cx)(E:XK):Prop:=∀(p_:List (e_×Obj)) (σ:St) (H:Hp) (s:g_) (e:f_) (s':g_),Inv X p_ σ H s->CX X.stack H s E e s'->X.xe e s'
section
variable{X:Cx}{CX:qI}{k:Nat}{f C:e_}{fd:jS}{ps:List Str}{sp:Sp}{dvs:List V}{ds:List f_}{E:XK}{x m:Str}{p pos apos:Pos}{e o:Expr}{es:List Expr}{ta:TE}{t:TA}
def zk(F:aG X.prog X.w X.K X.mg X.base CX k f fd ps sp)(hr:eG k X.A)(hb:Binds X.K fd ps ds)(hd:Vals dvs ds)(hx:Passes CX X E)
  (I:Inv X p_ σ H s) (r:Vals vs us) (h:sp (vs++dvs) H Q E):wpAny (model X.prog X.w) X.A (call (.ref f) us) (EP X p_ σ Q) X.xe s:=by
 have r2:=r.append hd;have hl:(us++ds).length=ps.length:=by rw[<-r2.length];exact F.len _ _ _ _ h
 refine Jz (Bb (F.run X.A X.stack s H ⟨us,[]⟩ (us++ds) (vs++dvs) Q E hr I.XS (hb s us I.eZ hl) r2 h) λr s' hq=>?_);cases r with
 | error e=>exact hx p_ σ H s e s' I hq
 | ok fl=>
  cases fl with
  | ret u=>exact I.after hq
  | next=>exact mH hq
  | brk=>exact mH hq
  | cont=>exact mH hq
def mQ(F:aG X.prog X.w X.K X.mg X.base CX k f fd ps sp)(hr:eG k X.A)(hg:Gl X x)(hm:X.mg x=a_ (.ref f))(hk:x_ X.K (.ref f)=c_)(hb:Binds X.K fd ps ds)(hd:Vals dvs ds)(hx:Passes CX X E)
  (ha:PA X (e::es) t) (qQ:(x == ("__debug__" : Str))=false:=by decide) (he:bV (e::es) X.env=(d_,eval e X.env)::bV es X.env:=by rfl) (dG:(backTo pos (bV es X.env)).any (·.1)=false:=by rfl) :
  PE X (.Call (.Name x p) (e::es) [] pos) (MC sp dvs E t):=by
 intro p_ s σ H Q I h;refine yv (E4 I hg hm ?_ qQ);refine G_ (h₀:=X.base) I.ok.mod.xE hk (aR (ha pos p_ s σ H _ I h) λus s1 ⟨vs,H1,I1,r,q⟩=>⟨I1.eZ,?_⟩) he dG;exact zk F hr hb hd hx I1 r q
def E1(he:PE X o ta)(c:dg X.K C)(hm:Meth X.K C m f)(F:aG X.prog X.w X.K X.mg X.base CX k f fd ps sp)(hr:eG k X.A)(hb:Binds X.K fd ps ds)(hd:Vals dvs ds)(hx:Passes CX X E)(ha:PA X (e::es) t)
  (cB:bV (e::es) X.env=(d_,eval e X.env)::bV es X.env:=by rfl) (dG:(backTo pos (bV es X.env)).any (·.1)=false:=by rfl)
  (ht:eval (.Call (.Attribute o m apos) (e::es) [] pos) X.env=(do
   let ov <-eval o X.env
   standAt apos.atName
   let (f,first) <-holding [ov] (uJ ov m pl)
   y3 pos f first (backTo pos (bV (e::es) X.env)) (uP pos (uF [] X.env))):=by rfl) :
  PE X (.Call (.Attribute o m apos) (e::es) [] pos) (BP C m sp dvs E ta t):=by
 intro p_ s σ H Q I h;refine W.methodCall_KW (pl:=pl) (aR (he p_ s σ H _ I h) λu s1 ⟨x,H1,I1,rx,a,dx,fs,ex,ea,l,q⟩=>?_) ht;subst ex;obtain rfl:u=dj a:=rx;refine Ee I1 ea c hm l (G_ (first:=[.ref a]) (h₀:=X.base) I.ok.mod.xE hm.kp (aR (ha pos p_ s1 σ H1 _ I1 q) λus s2 ⟨vs,H2,I2,r,q2⟩=>⟨I2.eZ,?_⟩) cB dG);exact zk (us:=.ref a::us) (vs:=.ref a::vs) F hr hb hd hx I2 (.cons xz r) q2
def EC(he:PE X o ta)(c:dg X.K C)(hm:Meth X.K C m f)(F:aG X.prog X.w X.K X.mg X.base CX k f fd ps sp)(hr:eG k X.A)(hb:Binds X.K fd ps ds)(hd:Vals dvs ds)(hx:Passes CX X E)
  (ht:eval (.Call (.Attribute o m apos) [] [] pos) X.env=(do
   let ov <-eval o X.env
   standAt apos.atName
   let (f,first) <-holding [ov] (uJ ov m pl)
   y3 pos f first (backTo pos (bV [] X.env)) (uP pos (uF [] X.env))):=by rfl) :
  PE X (.Call (.Attribute o m apos) [] [] pos) (BP C m sp dvs E ta NH):=by
 intro p_ s σ H Q I h;refine W.methodCall_KW (pl:=pl) (aR (he p_ s σ H _ I h) λu s1 ⟨x,H1,I1,rx,a,dx,fs,ex,ea,l,q⟩=>?_) ht;subst ex;obtain rfl:u=dj a:=rx;exact Ee I1 ea c hm l (W.callWith_K0 (first:=[.ref a]) I1.eZ hm.kp (zk (us:=[.ref a]) (vs:=[.ref a]) F hr hb hd hx I1 (.cons xz .nil) q))
structure Mk(K:u_)(C f:e_):Prop where
 makes:W.makesIn K C=c_
 init:w_ K (.ref C) "__init__" = a_ (a_ (.ref f))
 fn:W.isFn K (.ref f)=c_
 kp:x_ K (.ref C)=c_
def aeS(M:Mk X.K C f)(F:aG X.prog X.w X.K X.mg X.base CX k f fd ps sp)(hr:eG (k+1) X.A)(hb:Binds X.K fd ps ds)(hd:Vals dvs ds)
  (hx:Passes CX X E) (I:Inv X p_ σ H s) (r:Vals vs us)
  (h:∀x dx,H x=b_->H dx=b_->dx≠x->sp (.ref x::(vs++dvs)) (upd (upd H dx (.own x)) x (.ins C dx [])) (λv H2=>v=.aN/\Q (.ref x) H2) E) :
  wpAny (model X.prog X.w) X.A (call (.ref C) us) (EP X p_ σ Q) X.xe s:=by
 have hq:=h (s.zS+1) s.zS (I.aH.fresh (jy _)) (I.aH.fresh (aA _)) (cC (qW _));have I2:=Inv.made (C:=C) I;have r2:Vals (V.ref (s.zS+1)::(vs++dvs)) (dj (s.zS+1)::(us++ds)):=.cons xz (r.append hd)
 have hl:(dj (s.zS+1)::us++ds).length=ps.length:=by
  have e:=r2.length;rw[F.len _ _ _ _ hq]at e;exact e.symm
 refine Jz (afp (f:=f) I.eZ M.makes M.init (beq_iff_eq.mp M.fn) (Bb (F.run _ X.stack _ _ ⟨dj (s.zS+1)::us,[]⟩ (dj (s.zS+1)::(us++ds)) _ _ E (hr.make C us []) (I2.XS.make C us []) (hb _ (dj (s.zS+1)::us) I2.eZ hl) r2 hq) λr s' xY=>?_));cases r with
 | error e=>exact hx p_ σ _ _ e s' I2 xY
 | ok fl=>
  cases fl with
  | ret u=>
   obtain⟨v,H',I3,rv,ev,q3⟩:=I2.after xY;subst ev;exact⟨rv,⟨V.ref (s.zS+1),H',I3,xz,q3⟩⟩
  | next=>exact mH xY
  | brk=>exact mH xY
  | cont=>exact mH xY
def tf(M:Mk X.K C f)(F:aG X.prog X.w X.K X.mg X.base CX k f fd ps sp)(hr:eG (k+1) X.A)(hg:Gl X x)(hm:X.mg x=a_ (.ref C))(hb:Binds X.K fd ps ds)(hd:Vals dvs ds)(hx:Passes CX X E)
  (ha:PA X (e::es) t) (qQ:(x == ("__debug__" : Str))=false:=by decide) (he:bV (e::es) X.env=(d_,eval e X.env)::bV es X.env:=by rfl) (dG:(backTo pos (bV es X.env)).any (·.1)=false:=by rfl) :
  PE X (.Call (.Name x p) (e::es) [] pos) (ajX C sp dvs E t):=by
 intro p_ s σ H Q I h;refine yv (E4 I hg hm ?_ qQ);refine G_ (h₀:=X.base) I.ok.mod.xE M.kp (aR (ha pos p_ s σ H _ I h) λus s1 ⟨vs,H1,I1,r,q⟩=>⟨I1.eZ,?_⟩) he dG;exact aeS M F hr hb hd hx I1 r q
end
structure ba(N P:List Str)(sc:Scope):Prop where
 kind:sc.kind=.function
 co:sc.isCoroutine=d_
 gen:sc.isGenerator=d_
 nd:N.Nodup
 pre:N.take P.length=P
 par:∀x∈P,sc.names.lookup x=a_ .local\/sc.names.lookup x=a_ .cell
 aiy:∀y∈sc.names,y.2≠.free
def bj{N P:List Str}{sc:Scope}(a:sc.kind=.function:=by rfl)(b:sc.isCoroutine=false:=by rfl)(c:sc.isGenerator=false:=by rfl)(d:N.Nodup:=by decide +kernel)(e:N.take P.length=P:=by rfl)(f:∀x∈P,sc.names.lookup x=a_ .local\/ sc.names.lookup x=a_ .cell:=by decide +kernel)(g:∀y∈sc.names,y.2≠.free:=by decide +kernel):ba N P sc:=⟨a,b,c,d,e,f,g⟩
def Td{kindOf:Str->Option fo}:∀{binds:List (Str×f_)} {m:Str->Option f_},(∀v,(x,v)∉binds)->bindL kindOf binds m x=m x
 | [],_,_=>rfl
 | (n,v)::r,m,h=>by
  unfold bindL;rw[Td λw hw=>h w (eL _ hw)]
  split
  .have:x≠n:=by rintro rfl;exact h v du
   simp[this]
  .rfl
def Tf{kindOf:Str->Option fo}:∀{binds:List (Str×f_)} {m:Str->Option f_},(∀v,(x,v)∉binds)->bindC kindOf binds m x=m x
 | [],_,_=>rfl
 | (n,v)::r,m,h=>by
  unfold bindC;rw[Tf λw hw=>h w (eL _ hw)]
  split
  .rfl
  .have:x≠n:=by rintro rfl;exact h v du
   simp[this]
def Te{kindOf:Str->Option fo}:∀{P:List Str} {vs:List f_} {i:Nat} {m:Str->Option f_},P.Nodup->P[i]?=a_ x->vs[i]?=a_ v->kindOf x=a_ .local->
  bindL kindOf (P.zip vs) m x=a_ v
 | [],_,_,_,_,h,_,_=>by simp at h
 | _::_,[],_,_,_,_,h,_=>by simp at h
 | p::P,w::vs,0,m,nd,h1,h2,hk=>by
  simp at h1 h2;subst h1;subst h2;show bindL kindOf ((p,w)::P.zip vs) m p=_;unfold bindL;rw[Td λv hv=>(A7.mp nd).1 (sP hv).1,if_pos hk];simp
 | p::P,w::vs,i+1,m,nd,h1,h2,hk=>by
  show bindL kindOf ((p,w)::P.zip vs) m x=_;unfold bindL;exact Te (i:=i) (A7.mp nd).2 (by simpa using h1) (by simpa using h2) hk
def Tg{kindOf:Str->Option fo}:∀{P:List Str} {vs:List f_} {i:Nat} {m:Str->Option f_},P.Nodup->P[i]?=a_ x->vs[i]?=a_ v->kindOf x≠a_ .local->
  bindC kindOf (P.zip vs) m x=a_ v
 | [],_,_,_,_,h,_,_=>by simp at h
 | _::_,[],_,_,_,_,h,_=>by simp at h
 | p::P,w::vs,0,m,nd,h1,h2,hk=>by
  simp at h1 h2;subst h1;subst h2;show bindC kindOf ((p,w)::P.zip vs) m p=_;unfold bindC;rw[Tf λv hv=>(A7.mp nd).1 (sP hv).1,if_neg hk];simp
 | p::P,w::vs,i+1,m,nd,h1,h2,hk=>by
  show bindC kindOf ((p,w)::P.zip vs) m x=_;unfold bindC;exact Tg (i:=i) (A7.mp nd).2 (by simpa using h1) (by simpa using h2) hk
def start(N:List Str)(vs:List V):St:=vs.map a_++cW (N.length-vs.length) b_
def vv(CX:qI)(P:k_)(w:j_)(K:u_)(mg:Str->Option f_)(base:i_)(N:List Str)(qual:Str)(scope:Scope)(f:e_)(cd:f_)(A:h_)(outer:List Env)(s:g_)(H:Hp)(E:XK):Cx where
 prog:=P
 w:=w
 K:=K
 mg:=mg
 base:=base
 A:=A.deeper (envOfC qual scope s.zS f cd)
 N:=N
 s₀:=s
 H₀:=H
 env:=envOfC qual scope s.zS f cd
 outer:=outer
 stack:=envOfC qual scope s.zS f cd::outer
 ex:=[]
 calm:=c_
 fn:=λ_=>c_
 pn:=[]
 xe:=λe s'=>wpAny (model P w) (A.deeper (envOfC qual scope s.zS f cd)) (leaving (envOfC qual scope s.zS f cd) e) (λ_ OP=>CX outer H s E e OP) (λe' OP=>CX outer H s E e' OP) s'
def Uu{sc:Scope}{n:Nat}(h:sc.names.lookup x=a_ .cell):∃c,(cellsFrom n sc.names []).lookup x=a_ c:=by
 have q:=W.cellsFrom_some sc.names n [] (.inl h);exact Ql.mp q
def ad6{CX:qI}{P:k_}{w:j_}{K:u_}{mg:Str->Option f_}{base:i_}{scope:Scope}{outer:List Env}
  (S:ba N ps scope) (hd:A.handled=b_) (e0:xu P w K mg base A outer s H) (hl:vs.length=ps.length) (r:Vals vs us)
  (x:InCallC s s.zS (bindL (envOfC qual scope s.zS f cd).kindOf (ps.zip us) λ_=>b_) (cellsFrom (s.zS+1) scope.names []) (bindC (envOfC qual scope s.zS f cd).kindOf (ps.zip us) λ_=>b_) s1) :
  Inv (vv CX P w K mg base N qual scope f cd A outer s H E) [] (start N vs) H s1:=by
 have dG:ps.length<=N.length:=by have:=congrArg List.length S.pre;rw[gm]at this;omega
 obtain⟨h1,tk,rfl,hk⟩:=x.done;have sA:∀b:e_,b∉(vv CX P w K mg base N qual scope f cd A outer s H E).ex:=λb z=>absurd (show b∈([]:List e_) from z) (by simp);refine⟨⟨e0.mod,S.kind,xz,xz,aA _,λy z c h1 h2=>?_,λy hy=>?_,λy c _ h=>?_,λ_=>hd,aaT e0.frames,.inr ⟨xz,xz⟩,λb z=>absurd z (sA b),e0.bs,e0.nD,λb _ _=>sA b,λb z=>absurd z (sA b),e0.lS,e0.tU⟩,xz,e0.bare,Un.kept hk,⟨_,x.toInCall.ns,λi y v h1 h2 h3=>?_⟩,λy c h=>⟨_,x.cell y c h⟩,e0.aH.fresh (aA _),λy c h=>?_,λp hp=>absurd (show p∈([]:List (e_×Obj)) from hp) (by simp),e0.aH.kept hk,?_⟩
 .exact name_of_addr x.apart (t_ h1) (t_ h2)
 .have hy:scope.names.lookup y=a_ .cell\/scope.names.lookup y=a_ .free:=hy;rcases hy with hy | hy
  .exact Uu hy
  .exact absurd xz (S.aiy _ (t_ hy))
 .exact cY (x.above y c (t_ h))
 .have hi:i<vs.length:=by
   unfold start at h2
   by_cases hi:i<vs.length
   .exact hi
   .rw[nK (by simpa using hi)]at h2;rw[Io]at h2
    split at h2 <;> cases h2
  have ha:vs[i]?=a_ v:=by
   unfold start at h2;rw[kA (by simpa using hi),cO]at h2;cases e:vs[i]? with
   | none=>rw[e]at h2;cases h2
   | some a=>rw[e]at h2;cases h2;rfl
  obtain⟨u,hu,rv⟩:=r.get ha
  have hp:ps[i]?=a_ y:=by
   rw[<-S.pre,List.getElem?_take_of_lt om];exact h1
  have ZD:ps.Nodup:=by rw[<-S.pre];exact S.nd.sublist (abg _ _)
  refine⟨u,rv,?_⟩;rcases S.par y (bu hp)with k | k
  .exact .inl ⟨k,Te ZD hp hu k⟩
  .obtain⟨c,e⟩:=Uu (n:=s.zS+1) k;refine .inr ⟨.inl k,c,e,?_⟩;have q:=x.cell y c e;rw[Tg ZD hp hu (by show scope.names.lookup y≠_;rw[k];decide)]at q;exact q
 .exact e0.aH.fresh (cY (x.above y c (t_ h)))
 .unfold start;show _=N.length;rw[bL,aL,Du];omega
def wV{P:k_}{w:j_}{K:u_}{mg:Str->Option f_}{base:i_}{k:Nat}{dV kV doc pm aJ ct oc:f_}
  (lk:K.lookup f=a_ ⟨oc,od,.func (B_ name qual params body scope dV kV doc pm an aJ ct),jL⟩) (iU:W.codeIn K aJ qual=c_) (S:ba N ps scope)
  (len:∀vs H Q E,sp vs H Q E->vs.length=ps.length)
  (xc:∀(A:h_) (outer:List Env) (s:g_) (H:Hp) (vs:List V) (Q:VK) (E:XK),eG k (A.deeper (envOfC qual scope s.zS f aJ))->sp vs H Q E->
   ∃t,gd (vv CX P w K mg base N qual scope f aJ A outer s H E) body t/\t { nx:=λ_ H'=>Q .aN H',rt:=Q } (start N vs) H) :
  aG P w K mg base CX (k+1) f (B_ name qual params body scope dV kV doc pm an aJ ct) ps sp:=by
 refine⟨len,λA outer s H args us vs Q E hr e0 hb r pj=>?_⟩;have hl:=len _ _ _ _ pj;have KX:=e0.mod.xE.keeps λb o e=>(e0.bs b o e).1;have lim:=e0.mod.nolimit.keeps λb o e=>(e0.bs b o e).1
 have alV:∀y∈ps.zip us,scope.names.lookup y.1=a_ .local\/(scope.names.lookup y.1=a_ .cell/\((cellsFrom (s.zS+1) scope.names []).lookup y.1).isSome=c_):=λ⟨n,v⟩ hy=>by
  rcases S.par n (sP hy).1 with q | q
  .exact .inl q
  .exact .inr ⟨q,W.cellsFrom_some _ _ _ (.inl q)⟩
 refine codeAny_call_function hr.depth (KX _ _ lk) xz S.co S.gen xz (W.codeRec_of KX iU) (hb _ _ _ _ (wpAny_newFunctionEnv_cells S.kind alV λenv he s1 x=>?_));subst he;refine⟨lim.keeps x.toInCall.keep,codeAny_func ?_⟩;obtain⟨t,ht,hq⟩:=xc A outer s H vs Q E (hr.deeper _) pj;have I:Inv (vv CX P w K mg base N qual scope f aJ A outer s H E) [] (start N vs) H s1:=ad6 S hr.hd e0 hl r x;refine ie (ht [] s1 (start N vs) H _ I hq) (λfl s' hs=>?_) λe s' hs=>hs
 have fin:∀{σ':St} {H':Hp} {v:V} {u:f_},Inv (vv CX P w K mg base N qual scope f aJ A outer s H E) [] σ' H' s'->RelV v u->Q v H'->CE outer P w H s Q u s':=
  λ{σ' H' v u} J rv q=>⟨v,H',J.os,J.bare,J.base,J.aH,rv,q⟩
 cases fl with
 | ret u=>
  obtain⟨v,σ',H',J,rv,q⟩:=hs;exact fin J rv q
 | next=>
  obtain⟨σ',H',J,q⟩:=hs;exact fin (v:=V.aN) (u:=jz) J xz q
 | brk=>
  obtain⟨_,_,_,q⟩:=hs;exact mH q
 | cont=>
  obtain⟨_,_,_,q⟩:=hs;exact mH q
section
variable{X:Cx}{x:Str}{p pos:Pos}{e:Expr}{es:List Expr}{t:TA}{id T:String}{r:List V->Hp->VK->Prop}
def Oz(r:List V->Hp->VK->Prop)(t:TA):TE:=λσ H Q=>t σ H λvs H1=>r vs H1 Q
def bU(hc:jj X (.builtin id) r)(hg:Gl X x)(hm:X.mg x=b_)(hv:pK x=a_ (.builtin id))(ha:PA X (e::es) t)(hn:x ≠ "__name__":=by decide)(qQ:(x == ("__debug__" : Str))=false:=by decide)
  (he:bV (e::es) X.env=(d_,eval e X.env)::bV es X.env:=by rfl) (dG:(backTo pos (bV es X.env)).any (·.1)=false:=by rfl):PE X (.Call (.Name x p) (e::es) [] pos) (Oz r t):=by
 intro p_ s σ H Q I h;refine yv (rE I hg hm hv ?_ hn qQ);exact PyProof.Rows.callWith_builtin1 (aR (ha pos p_ s σ H _ I h) λus s1 ⟨vs,H1,I1,r1,q1⟩=>hc p_ s1 σ H1 vs us Q I1 r1 q1) he dG
def og(hc:jj X (.type T) r)(hg:Gl X x)(hm:X.mg x=b_)(hv:pK x=a_ (.type T))(ha:PA X (e::es) t)(hn:x ≠ "__name__":=by decide)(qQ:(x == ("__debug__" : Str))=false:=by decide)
  (he:bV (e::es) X.env=(d_,eval e X.env)::bV es X.env:=by rfl) (dG:(backTo pos (bV es X.env)).any (·.1)=false:=by rfl):PE X (.Call (.Name x p) (e::es) [] pos) (Oz r t):=by
 intro p_ s σ H Q I h;refine yv (rE I hg hm hv ?_ hn qQ);exact yq (aR (ha pos p_ s σ H _ I h) λus s1 ⟨vs,H1,I1,r1,q1⟩=>hc p_ s1 σ H1 vs us Q I1 r1 q1) he dG
end
end L2
namespace HT
section
variable{prog:k_}{w:j_}{A:h_}{E:f_->g_->Prop}{s:g_}
def cj(n d:Nat):Option Int->Nat
 | none=>d
 | some v=>if v<0 then (v+(n:Int)).toNat else min v.toNat n
def TX(n d:Nat):cj n d b_=d:=rfl
def UW(n d k:Nat):cj n d (a_ (k:Int))=min k n:=by
 show (if (k:Int)<0 then ((k:Int)+(n:Int)).toNat else min (k:Int).toNat n)=min k n;rw[if_neg om,di]
def aie(n d:Nat)(hd:d<=n)(o:Option Int):cj n d o<=n:=by
 cases o with
 | none=>exact hd
 | some v=>
  show (if v<0 then (v+(n:Int)).toNat else min v.toNat n)<=n
  by_cases hv:v<0
  .rw[if_pos hv];omega
  .rw[if_neg hv];exact Nat.min_le_right _ _
def Vo(v:Int)(n d:Nat):(if v<0 then max (v+(n:Int)) 0 else min v (n:Int))=((cj n d (a_ v):Nat):Int):=by
 show (if v<0 then max (v+(n:Int)) 0 else min v (n:Int))=(((if v<0 then (v+(n:Int)).toNat else min v.toNat n):Nat):Int)
 by_cases hv:v<0
 .simp only[if_pos hv];omega
 .simp only[if_neg hv];omega
def adb(lo hi:Option Int)(n:Nat):Qi lo hi 1 (n:Int)=(((cj n 0 lo:Nat):Int),((cj n n hi:Nat):Int)):=by
 have h1:¬((1:Int)<0):=om;unfold Qi;simp only[h1,if_false];refine Prod.ext ?_ ?_
 .cases lo with
  | none=>rfl
  | some v=>exact Vo v n 0
 .cases hi with
  | none=>rfl
  | some v=>exact Vo v n n
def acL(i j:Nat):Il (i:Int) (j:Int) 1=j-i:=by
 unfold Il;have h1:(1:Int) > 0:=om;simp only[h1,if_true,Int.ediv_one]
 split <;> omega
def RG(p:IsPart v o)(h:Q o s):wpAny (model prog w) A (Builtin.Slice.slicePartIndex v) Q E s:=by
 cases p with
 | none=>exact slicePart_none h
 | int i t=>exact slicePart_int h
def abm{sl:e_}{lo hi:Option Int}{n:Nat}{Q:Int×Int×Nat->g_->Prop}(hs:s.heap.IsSliceOf sl vl vu .none)(pl:IsPart vl lo)(pu:IsPart vu hi)
  (h:Q (((cj n 0 lo:Nat):Int),1,cj n n hi-cj n 0 lo) s):wpAny (model prog w) A (aal (.ref sl) (pure (n:Int))) Q E s:=by
 obtain⟨os,CP,qR,HM⟩:=id hs;unfold aal Builtin.Slice.sliceFields;refine ae (ae (kE CP HM (x:=vl) xz (ae (kE CP HM (x:=vu) xz (ae (kE CP HM (x:=.none) xz (aF (ae (slicePart_none ?_)))))))));show wpAny _ _ (if ((1:Int) == 0)=c_ then _ else _) _ _ s;rw[if_neg qc];refine ae (RG pl (ae (RG pu (ae (aF ?_)))));show wpAny _ _ (match Qi lo hi 1 (n:Int)with | (lo,hi)=>pure (lo,(1:Int),Il lo hi 1)) _ _ s;rw[adb lo hi n];show wpAny _ _ (pure (((cj n 0 lo:Nat):Int),(1:Int),Il ((cj n 0 lo:Nat):Int) ((cj n n hi:Nat):Int) 1)) _ _ s;rw[acL];exact aF h
def aeW(xs:Array f_)(i k:Nat):((List.range k).filterMap λ(m:Nat)=>xs[((i:Int)+(m:Int)*1).toNat]?).toArray=((xs.toList.drop i).take k).toArray:=by
 have e:(λ(m:Nat)=>xs[((i:Int)+(m:Int)*1).toNat]?)=λm=>xs[i+m]?:=by
  funext m
  have:((i:Int)+(m:Int)*1).toNat=i+m:=om;rw[this]
 rw[e];have:=pick_run xs i k;rw[List.filterMap_map]at this;have e2:((λx=>xs[x]?) ∘ λx=>i+x)=λm=>xs[i+m]?:=rfl;rw[e2]at this;rw[this]
def aa7{t sl:e_}{lo hi:Option Int}(ht:IsTup s.heap t items)(hs:s.heap.IsSliceOf sl vl vu .none)(pl:IsPart vl lo)(pu:IsPart vu hi)
  (hw:¬(cj items.size 0 lo=0/\cj items.size items.size hi=items.size))
  (h:Q (.ref s.zS) { s with heap:=s.heap.push { cls:=.type "tuple",data:=.seq ((items.toList.drop (cj items.size 0 lo)).take (cj items.size items.size hi-cj items.size 0 lo)).toArray } })
  (hsz:items.size<=bw):wpAny (model prog w) A (getItem (.ref t) (.ref sl)) Q E s:=by
 have FX:sizeOk (.seq ((items.toList.drop (cj items.size 0 lo)).take (cj items.size items.size hi-cj items.size 0 lo)).toArray):=by
  show ((items.toList.drop (cj items.size 0 lo)).take (cj items.size items.size hi-cj items.size 0 lo)).toArray.size<=bw;rw[cN,gm,sN,iu];omega
 have hj:cj items.size items.size hi<=items.size:=aie _ _ (aA _) hi;obtain⟨os,CP,qR,HM⟩:=id hs;have hTs:s.TypeIs (.ref sl) "slice":=⟨os,CP,qR⟩;unfold getItem
 try with_reducible refine jx ?_
 first | refine ae (aF ?_) | skip
 refine ae (wpAny_sequenceKey ht.typeIs qc ?_);refine ae (v9 (name:=pL "__getitem__") ht.typeIs Qe (sM Qe ht.typeIs entry_tuple_getitem ?_ (args_tuple_getitem _ _)));show wpAny _ _ (Builtin.Tuple.tupleItemsOf (.ref t) >>= _) _ _ s;refine ae (tupleItemsOf_ ht (ae (yI hTs ?_)));rw[if_pos qc];refine ae (abm hs pl pu ?_)
 have i9:¬((((cj items.size 0 lo:Nat):Int) == 0&&(1:Int) == 1&&(cj items.size items.size hi-cj items.size 0 lo) == items.size)=c_):=by
  intro q;rw[lK,lK]at q;have q1:=eq_of_beq q.1.1;have q2:=eq_of_beq q.2;exact hw ⟨om,om⟩
 show wpAny _ _ (if (((cj items.size 0 lo:Nat):Int) == 0&&(1:Int) == 1&&(cj items.size items.size hi-cj items.size 0 lo) == items.size)=c_ then _ else _) _ _ s;rw[if_neg i9,aeW]
 first
  | exact ae (m:=AR _) (nR (aF ⟨_,rfl,aF h⟩) FX)
  | exact ae (m:=AR _) (nR (ae (aF (aF ⟨_,rfl,aF h⟩))) FX)
  | exact ae (ae (m:=AR _) (nR (aF (aF ⟨_,rfl,aF h⟩)) FX))
  | exact ae (ae (m:=AR _) (nR (aF ⟨_,rfl,aF h⟩) FX))
end
end HT
namespace L2
abbrev TO:=St->Hp->(Option Int->Hp->Prop)->Prop
def PO(X:Cx)(e:Option Expr)(t:TO):Prop:=
 ∀(p_:List (e_×Obj)) (s:g_) (σ:St) (H:Hp) (Q:Option Int->Hp->Prop),Inv X p_ σ H s->t σ H Q->
  wpAny (model X.prog X.w) X.A (evalPart e X.env) (λu s'=>∃o H',Inv X p_ σ H' s'/\IsPart u o/\Q o H') X.xe s
def aga:TO:=λ_ H Q=>Q b_ H
def ajU(t:TE):TO:=λσ H Q=>t σ H λx H1=>∃i,x=.int i/\Q (a_ i) H1
def intsAre_of:∀{us:List f_},Vals (ns.map V.int) us->IntsAre us ns:=by
 induction ns with
 | nil=>intro us r;rw[Jr]at r;cases r;exact .nil
 | cons n ns ih=>
  intro us r;rw[gq]at r;cases r with
  | cons r1 r2=>
   obtain⟨t,e⟩:=r1;subst e;exact .cons n t (ih r2)
section
variable{X:Cx}{e:Expr}{te:TE}{lo hi:Option Expr}{tl th:TO}{pos p2:Pos}
def Bz:PO X b_ aga:=by
 intro p_ s σ H Q I h;rw[evalPart_none];exact aF ⟨b_,H,I,.none,h⟩
def By(h:PE X e te):PO X (a_ e) (ajU te):=by
 intro p_ s σ H Q I hw;rw[evalPart_some];refine aR (h p_ s σ H _ I hw) λu s1 ⟨x,H1,I1,r1,q1⟩=>?_;obtain⟨i,rfl,q⟩:=q1;obtain⟨t,rfl⟩:=r1;exact⟨a_ i,H1,I1,.int i t,q⟩
def OI(X:Cx)(r:V->Option Int->Option Int->Hp->VK->Prop):Prop:=
 ∀(p_:List (e_×Obj)) (s:g_) (σ:St) (H:Hp) (x:V) (v vl vu:f_) (lo hi:Option Int) (sl:e_) (Q:VK),Inv X p_ σ H s->RelV x v->s.heap.IsSliceOf sl vl vu .none->IsPart vl lo->IsPart vu hi->r x lo hi H Q->
  ∃T id,yQ (.type T) "__getitem__" = pure (a_ (.builtin id))/\s.TypeIs v T/\wpAny (model X.prog X.w) X.A (getItem v (.ref sl)) (EP X p_ σ Q) X.xe s
def tSl(r:V->Option Int->Option Int->Hp->VK->Prop)(te:TE)(tl th:TO):TE:=λσ H Q=>te σ H λx H1=>tl σ H1 λl H2=>th σ H2 λu H3=>r x l u H3 Q
def Bs(hr:OI X r)(he:PE X e te)(hl:PO X lo tl)(hu:PO X hi th):PE X (.Subscript e (.Slice lo hi b_ p2) pos) (tSl r te tl th):=by
 intro p_ s σ H Q I h;refine Subscript_ (aR (he p_ s σ H _ I h) λv s1 ⟨x,H1,I1,r1,q1⟩=>wpAny_Slice (aR (hl p_ s1 σ H1 _ I1 q1) λvl s2 ⟨l,H2,I2,pl,q2⟩=>aR (hu p_ s2 σ H2 _ I2 q2) λvu s3 ⟨u,H3,I3,pu,q3⟩=>?_));rw[evalPart_none];refine aF ?_;have I4:Inv X p_ σ H3 { s3 with heap:=s3.heap.push { cls:=.type "slice",data:=.fields #[vl,vu,.none] } }:=I3.kept (t':=s3.toks) λb ob q=>bh _ q;obtain⟨T,id,hT,ht,hg⟩:=hr p_ { s3 with heap:=s3.heap.push { cls:=.type "slice",data:=.fields #[vl,vu,.none] } } σ H3 x v vl vu l u s3.zS Q I4 r1 (Heap.IsSliceOf.new ..) pl pu q3;show wpAny (model X.prog X.w) X.A (Rf e (.Slice lo hi b_ p2) v (.ref s3.zS)) (EP X p_ σ Q) X.xe { s3 with heap:=s3.heap.push { cls:=.type "slice",data:=.fields #[vl,vu,.none] } };exact tail_any (ops:=[.ref s3.zS,v]) ht hT hg (by with_unfolding_all rfl)
def lV(xs:List V)(lo hi:Option Int):List V:=(xs.drop (HT.cj xs.length 0 lo)).take (HT.cj xs.length xs.length hi-HT.cj xs.length 0 lo)
def Rz(xs:List V)(lo hi:Option Int):(lV xs lo hi).length<=xs.length:=by
 unfold lV;rw[gm,sN];omega
def amq(K:u_):V->Option Int->Option Int->Hp->VK->Prop:=λx lo hi H Q=>∃a xs,x=.ref a/\aD K H a xs/\
 ¬(HT.cj xs.length 0 lo=0/\HT.cj xs.length xs.length hi=xs.length)/\∀p,H p=b_->Q (.ref p) (upd H p (.tup (lV xs lo hi)))
def VT:OI X (amq X.K):=by
 intro p_ s σ H x v vl vu lo hi sl Q I rx hs pl pu h;obtain⟨a,xs,rfl,hx,hw,q⟩:=h;cases rx;obtain⟨its,r,ht,hz⟩:=I.tuple hx;have hlen:its.toArray.size=xs.length:=by rw[cN];exact r.length.symm
 refine⟨"tuple",_,Qe.lookup,ht.typeIs,HT.aa7 ht hs pl pu (by rw[hlen];exact hw) ?_ (by rw[hlen];exact hz)⟩;rw[hlen];refine⟨.ref s.zS,_,I.laid (t':=s.toks) (o:=.tup (lV xs lo hi)) (λb ob q=>bh _ q) (aA _) ?_,xz,q _ (I.aH.fresh (aA _))⟩;exact⟨cu (Rz xs lo hi) hz,_,(r.drop (HT.cj xs.length 0 lo)).take (HT.cj xs.length xs.length hi-HT.cj xs.length 0 lo),Tj _ _⟩
end
def nC(n:Nat)(i:Int):Option Nat:=if 0<=i then (if i<n then a_ i.toNat else b_) else if -(n:Int)<=i then a_ (i+n).toNat else b_
def gY{α:Type}(xs:List α)(i:Int):Option α:=(nC xs.length i).bind λj=>xs[j]?
def Vh(h:nC n i=a_ j):J6 i n=a_ j/\j<n/\-(n:Int)<=i/\i<n:=by
 unfold nC at h
 by_cases h0:0<=i
 .rw[if_pos h0]at h
  by_cases h1:i<n
  .rw[if_pos h1]at h;have e:=cE h;exact⟨by rw[seqIndex_of h0 h1,e],om,om,h1⟩
  .rw[if_neg h1]at h;cases h
 .rw[if_neg h0]at h
  by_cases h1:-(n:Int)<=i
  .rw[if_pos h1]at h;have e:=cE h;exact⟨by rw[Rp om h1,e],om,h1,om⟩
  .rw[if_neg h1]at h;cases h
def Vt{α:Type}{xs:List α}{i:Int}{v:α}(h:gY xs i=a_ v):∃j,J6 i xs.length=a_ j/\xs[j]?=a_ v/\j<xs.length/\-(xs.length:Int)<=i/\i<xs.length:=by
 unfold gY at h;cases e:nC xs.length i with
 | none=>rw[e]at h;cases h
 | some j=>
  rw[e]at h;obtain⟨h1,h2,h3,h4⟩:=Vh e;exact⟨j,h1,h,h2,h3,h4⟩
def cx{α:Type}{xs:List α}{j:Nat}{v:α}(h:xs[j]?=a_ v):gY xs (j:Int)=a_ v:=by
 have hj:j<xs.length:=(bK.mp h).1
 have e:nC xs.length (j:Int)=a_ j:=by
  unfold nC;rw[if_pos om,if_pos om];simp
 unfold gY;rw[e];exact h
def Uv{α:Type}(xs:List α)(v:α):gY (xs++[v]) (-1)=a_ v:=by
 have hl:(xs++[v]).length=xs.length+1:=by simp
 have e:nC (xs++[v]).length (-1)=a_ xs.length:=by
  unfold nC;rw[hl,if_neg qc,if_pos om]
  congr 1
  omega
 unfold gY;rw[e];show (xs++[v])[xs.length]?=a_ v;simp
def ahO(b:Expr):Prop:=∀o i,subscripted b d_ o i=operate [o,i] (getItem o i)
def Cp(X:Cx)(r:R2):Prop:=
 ∀(value slice:Expr) (p_:List (e_×Obj)) (s:g_) (σ:St) (H:Hp) (x y:V) (v u:f_) (Q:VK),Inv X p_ σ H s->RelV x v->RelV y u->r x y H Q->
  subscripted slice d_ v u=operate [v,u] (getItem v u)->wpAny (model X.prog X.w) X.A (Rf value slice v u) (EP X p_ σ Q) X.xe s
def MtR(X:Cx)(id:String)(r:V->List V->Hp->VK->Prop):Prop:=
 ∀(p_:List (e_×Obj)) (s:g_) (σ:St) (H:Hp) (x:V) (xs:List V) (v:f_) (us:List f_) (Q:VK),Inv X p_ σ H s->RelV x v->Vals xs us->r x xs H Q->
  wpAny (model X.prog X.w) X.A (call (.builtin id) (v::us)) (EP X p_ σ Q) X.xe s
section
variable{X:Cx}{a b:Expr}{ta tb:TE}{pos:Pos}
def aP(hr:Cp X r)(ha:PE X a ta)(hb:PE X b tb)(hs:ahO b:=by intro _ _;rfl):PE X (.Subscript a b pos) (sg r ta tb):=by
 intro p_ s σ H Q I h;exact Subscript_ (N8 ha hb I h λv u s2 x y H2 I2 rx ry q=>hr a b p_ s2 σ H2 x y v u Q I2 rx ry q (hs _ _))
def B4(K:u_):R2:=λx y H Q=>∃p xs i v,x=.ref p/\y=.int i/\aj K H p xs/\gY xs i=a_ v/\Q v H
def xh(K:u_):R2:=λx y H Q=>∃p xs i v,x=.ref p/\y=.int i/\aD K H p xs/\gY xs i=a_ v/\Q v H
def cw:Cp X (B4 X.K):=by
 intro value slice p_ s σ H x y v u Q I rx ry h hs;obtain⟨p,xs,i,z,rfl,rfl,hq,he,q⟩:=h;cases rx;obtain⟨t,rfl⟩:=ry;obtain⟨its,r,pl,hz⟩:=I.list hq;obtain⟨j,h1,h2,h3,h4,h5⟩:=Vt he;obtain⟨w,ew,jK⟩:=r.get h2;have hl:=r.length;have hn:=BL;have fin:EP X p_ σ Q w s:=⟨z,H,I,jK,q⟩
 by_cases h0:0<=i
 .have hj:i.toNat=j:=by
   rw[seqIndex_of h0 h5]at h1;exact cE h1
  exact item_listR pl.isList h0 om (by rw[hj];simpa using ew) fin hs
 .have hj:(i+(its.toArray.size:Int)).toNat=j:=by
   rw[Rp om h4]at h1;rw[cN,<-hl];exact cE h1
  exact aay (x:=w) pl.isList.typeIs slot_list_getitem.lookup
   (wpAny_getItem_list_neg (Q:=λr s'=>r=w/\EP X p_ σ Q r s') pl.isList om (by rw[cN] <;> omega) om (by rw[hj];simpa using ew) ⟨xz,fin⟩) hs
def cc:Cp X (xh X.K):=by
 intro value slice p_ s σ H x y v u Q I rx ry h hs;obtain⟨p,xs,i,z,rfl,rfl,hq,he,q⟩:=h;cases rx;obtain⟨t,rfl⟩:=ry;obtain⟨its,r,pl,hz⟩:=I.tuple hq;obtain⟨j,h1,h2,h3,h4,h5⟩:=Vt he;obtain⟨w,ew,jK⟩:=r.get h2;have hl:=r.length;have hn:=BL;have fin:EP X p_ σ Q w s:=⟨z,H,I,jK,q⟩
 exact aay (x:=w) pl.typeIs slot_tuple_getitem.lookup
  (getItem_tuple (j:=j) (Q:=λr s'=>r=w/\EP X p_ σ Q r s') pl om om (by rw[cN,<-hl];exact h1) (by simpa using ew) ⟨xz,fin⟩) hs
def ac0(its:List f_)(n j:Nat)(u:f_):iw (·.setIfInBounds j u) { cls:=.type "list",data:=.seq its.toArray n }={ cls:=.type "list",data:=.seq (its.set j u).toArray n }:=by
 simp[iw]
def Inv.lst(I:Inv X p_ σ H s)(h:H p=a_ (.lst xs)) :
  ∃(its:List f_) (n:Nat),Vals xs its/\s.heap.get? p=a_ { cls:=.type "list",data:=.seq its.toArray n }/\xs.length<=bw:=by
 obtain⟨z,its,n,r,e⟩:=I.aH p _ h;exact⟨its,n,r,e,z⟩
def Inv.aiL{p_:List (e_×Obj)}{σ:St}{H:Hp}{s:g_}{p:e_}{xs ys:List V}{its ke:List f_}{n n':Nat}{f:Obj->Obj}(I:Inv X p_ σ H s)(h:H p=a_ (.lst xs))
  (ho:s.heap.get? p=a_ { cls:=.type "list",data:=.seq its.toArray n }) (hf:f { cls:=.type "list",data:=.seq its.toArray n }={ cls:=.type "list",data:=.seq ke.toArray n' }) (r:Vals ys ke) (hz:ys.length<=bw) (t:Nat) :
  Inv X p_ σ (upd H p (.lst ys)) { s with heap:=s.heap.update p f,toks:=t }:=by
 have e:(s.heap.update p f).get? p=a_ { cls:=.type "list",data:=.seq ke.toArray n' }:=by
  rw[yt f ho (by rw[hf] <;> rfl),hf]
 refine I.write (x:=p) (e:=p) (by rw[h];trivial) (.inl xz) (λb u hb q=>(aaC _ _ (cH hb)).trans q) ⟨_,e⟩ ?_;exact⟨hz,ke,n',r,e⟩
def aj6:V->V->V->Hp->(Hp->Prop)->Prop:=λo i v H Q=>∃p xs k j,o=.ref p/\i=.int k/\H p=a_ (.lst xs)/\nC xs.length k=a_ j/\Q (upd H p (.lst (xs.set j v)))
def set_list:N' X aj6:=by
 intro p_ s σ H o i v ov iv u Q I ro ri rv h;obtain⟨p,xs,k,j,rfl,rfl,hp,hj,q⟩:=h;cases ro;obtain⟨t,rfl⟩:=ri;obtain⟨its,n,r,ho,hz⟩:=I.lst hp;obtain⟨h1,h2,h3,h4⟩:=Vh hj;have hl:=r.length;have hn:=BL
 have I':Inv X p_ σ (upd H p (.lst (xs.set j v))) { s with heap:=s.heap.update p (iw (·.setIfInBounds j u)) }:=
  I.aiL hp ho (ac0 its n j u) (r.set rv j) (by rw[mD];exact hz) s.toks
 by_cases h0:0<=k
 .have hk:k.toNat=j:=by
   rw[seqIndex_of h0 h4]at h1;exact cE h1
  exact W.ki_setAt ho h0 om (by rw[cN,<-hl];exact h4) (by rw[hk];exact⟨_,I',q⟩)
 .have hk:(k+(its.toArray.size:Int)).toNat=j:=by
   rw[Rp om h3]at h1;rw[cN,<-hl];exact cE h1
  exact W.ki_setBack ho om (by rw[cN,<-hl];exact h3) om (by rw[hk];exact⟨_,I',q⟩)
def YE(i:Int)(n d:Nat):max 0 (min (if i<0 then i+(n:Int) else i) (n:Int))=((HT.cj n d (a_ i):Nat):Int):=by
 show _=(((if i<0 then (i+(n:Int)).toNat else min i.toNat n:Nat)):Int)
 by_cases h:i<0
 .rw[if_pos h,if_pos h];lia
 .rw[if_neg h,if_neg h];lia
def ab6(lo hi:Option Int)(n:Nat):(sliceBounds lo hi b_ n).1=((HT.cj n 0 lo:Nat):Int)/\(sliceBounds lo hi b_ n).2.1=((HT.cj n n hi:Nat):Int)/\(sliceBounds lo hi b_ n).2.2=1:=by
 refine⟨?_,?_,xz⟩
 .cases lo with
  | none=>rfl
  | some i=>exact(YE i n 0)
 .cases hi with
  | none=>rfl
  | some i=>exact(YE i n n)
def abU(its:List f_)(lo hi:Option Int):slicePick its.toArray lo hi b_=((its.drop (HT.cj its.length 0 lo)).take (HT.cj its.length its.length hi-HT.cj its.length 0 lo)).toArray:=by
 obtain⟨h1,h2,h3⟩:=ab6 lo hi its.toArray.size;unfold slicePick;rw[h1,h2,h3];simp only[sliceRange_one,pick_run,cN] <;> rfl
def amr(K:u_):V->Option Int->Option Int->Hp->VK->Prop:=λx lo hi H Q=>∃a xs,x=.ref a/\aj K H a xs/\∀p,H p=b_->Q (.ref p) (upd H p (.lst (lV xs lo hi)))
def K':OI X (amr X.K):=by
 intro p_ s σ H x v vl vu lo hi sl Q I rx hs pl pu h;obtain⟨a,xs,rfl,hx,q⟩:=h;cases rx;obtain⟨its,r,ht,hz⟩:=I.list hx;have hlen:=r.length;refine⟨"list",_,slot_list_getitem.lookup,ht.isList.typeIs,?_⟩;refine wpAny_getItem_list_slice ht.isList hs pl pu .none (by simp) ?_ (by rw[cN] <;> omega);rw[abU,<-hlen];refine⟨.ref s.zS,_,I.laid (t':=s.toks) (o:=.lst (lV xs lo hi)) (λb ob q=>bh _ q) (aA _) ?_,xz,q _ (I.aH.fresh (aA _))⟩;exact⟨cu (Rz xs lo hi) hz,_,0,(r.drop (HT.cj xs.length 0 lo)).take (HT.cj xs.length xs.length hi-HT.cj xs.length 0 lo),dh _ xz⟩
def tE:V->Bool
 | .aN=>c_
 | .bl _=>c_
 | .int _=>c_
 | .str _=>c_
 | _=>d_
def qD:V->V->Bool
 | .aN,.aN=>c_
 | .bl a,.bl b=>a == b
 | .bl a,.int b=>(if a then 1 else 0) == b
 | .int a,.bl b=>a == (if b then 1 else 0)
 | .int a,.int b=>a == b
 | .str a,.str b=>a == b
 | _,_=>d_
def ai9(ry:RelV y u)(rx:RelV x v)(fy:tE y=c_)(fx:tE x=c_):iX A s u v (qD y x):=by
 cases y with
 | aN=>
  cases ry;cases x with
  | aN=>cases rx;exact iX.same _
  | bl b=>cases rx;exact iX.none_bool b
  | int b=>obtain⟨t,rfl⟩:=rx;exact aaU b t
  | str b=>obtain⟨t,rfl⟩:=rx;exact iX.none_str b t
  | _=>exact absurd (show d_=c_ from fx) dU
 | bl a=>
  cases ry;cases x with
  | aN=>cases rx;exact iX.bool_none a
  | bl b=>cases rx;exact iX.bool_bool a b
  | int b=>obtain⟨t,rfl⟩:=rx;exact iX.bool_int a b t
  | str b=>obtain⟨t,rfl⟩:=rx;exact iX.bool_str a b t
  | _=>exact absurd (show d_=c_ from fx) dU
 | int a=>
  obtain⟨t',rfl⟩:=ry;cases x with
  | aN=>cases rx;exact aaV a t'
  | bl b=>cases rx;exact iX.int_bool a t' b
  | int b=>obtain⟨t,rfl⟩:=rx;exact iX.int_int a t' b t
  | str b=>obtain⟨t,rfl⟩:=rx;exact iX.int_str a t' b t
  | _=>exact absurd (show d_=c_ from fx) dU
 | str a=>
  obtain⟨t',rfl⟩:=ry;cases x with
  | aN=>cases rx;exact iX.str_none a t'
  | bl b=>cases rx;exact iX.str_bool a t' b
  | int b=>obtain⟨t,rfl⟩:=rx;exact iX.str_int a t' b t
  | str b=>obtain⟨t,rfl⟩:=rx;exact iX.str_str a t' b t
  | _=>exact absurd (show d_=c_ from fx) dU
 | _=>exact absurd (show d_=c_ from fy) dU
def tX(x:V)(u:f_):Bool:=match u with
 | .none=>qD .aN x
 | .bool b=>qD (.bl b) x
 | .int i _=>qD (.int i) x
 | .str z _=>qD (.str z) x
 | _=>d_
def Wq(r:RelV y u)(f:tE y=c_):tX x u=qD y x:=by
 cases y with
 | aN=>cases r;rfl
 | bl b=>cases r;rfl
 | int i=>obtain⟨t,rfl⟩:=r;rfl
 | str z=>obtain⟨t,rfl⟩:=r;rfl
 | _=>exact absurd (show d_=c_ from f) dU
def LB:∀{xs:List V} {us:List f_},Vals xs us->xs.all tE=c_->us.any (tX x)=xs.any λy=>qD y x
 | _,_,.nil,_=>rfl
 | y::xs,u::us,.cons r t,f=>by
  rw[Ba,lK]at f;rw[sS,sS,Wq r f.1,LB t f.2]
def Kt(rx:RelV x v)(fx:tE x=c_):∀{xs:List V} {us:List f_},Vals xs us->xs.all tE=c_->∀u∈us,iX A s u v (tX x u)
 | _,_,.nil,_=>λu hu=>by cases hu
 | y::xs,u::us,.cons r t,f=>λu' hu=>by
  rw[Ba,lK]at f;rcases bX.mp hu with rfl | hu
  .rw[Wq r f.1];exact ai9 r rx f.1 fx
  .exact Kt rx fx t f.2 u' hu
def Ci(x:V)(xs:List V):Bool:=xs.any λy=>qD y x
def rIn(K:u_)(neg:Bool):R2:=λx y H Q=>∃p xs,y=.ref p/\(aj K H p xs\/aD K H p xs)/\tE x=c_/\xs.all tE=c_/\Q (.bl (if neg then !Ci x xs else Ci x xs)) H
def Rm:eQ X (iH .NotIn) (rIn X.K c_):=by
 intro p_ s σ H x y v u Q I rx ry h;obtain⟨p,xs,rfl,hq,fx,fs,q⟩:=h;cases ry;rcases hq with hq | hq
 .obtain⟨its,r,pl,hz⟩:=I.list hq;refine SeqAt.notIn_listAt (tX x) pl.isList (λw hw=>Kt rx fx r fs w (by simpa using hw)) ⟨.bl _,H,I,xz,?_⟩;rw[show its.toArray.any (tX x)=its.any (tX x) by simp,LB r fs];exact q
 .obtain⟨its,r,pl,hz⟩:=I.tuple hq;refine SeqAt.notIn_tupleAt (tX x) pl (λw hw=>Kt rx fx r fs w (by simpa using hw)) ⟨.bl _,H,I,xz,?_⟩;rw[show its.toArray.any (tX x)=its.any (tX x) by simp,LB r fs];exact q
def eU:jj X (.builtin "len") (λxs H Q=>∃p ys,xs=[.ref p]/\(aj X.K H p ys\/aD X.K H p ys)/\Q (.int ys.length) H):=by
 intro p_ s σ H xs us Q I r h;obtain⟨p,ys,rfl,hq,q⟩:=h;obtain⟨u,rfl,rx⟩:=vals1 r;cases rx;have hn:=BL;rcases hq with hq | hq
 .obtain⟨its,r',pl,hz⟩:=I.list hq;have hlen:=r'.length;exact Calls.call_len_list pl.isList (by simp only[cN] <;> omega) ⟨.int ys.length,H,I.tok _,⟨s.toks+1,by rw[cN,hlen]⟩,q⟩
 .obtain⟨its,r',pl,hz⟩:=I.tuple hq;have hlen:=r'.length;exact len_tuple pl (by simp only[cN] <;> omega) ⟨.int ys.length,H,I.tok _,⟨s.toks+1,by rw[cN,hlen]⟩,q⟩
def Ro:jj X (.type "list") (λxs H Q=>∃p ys,xs=[.ref p]/\(aj X.K H p ys\/aD X.K H p ys)/\∀l,H l=b_->Q (.ref l) (upd H l (.lst ys))):=by
 intro p_ s σ H xs us Q I r h;obtain⟨p,ys,rfl,hq,q⟩:=h;obtain⟨u,rfl,rx⟩:=vals1 r;cases rx
 have fin:∀(its:List f_),Vals ys its->ys.length<=bw->∀(h':i_) (c':Nat),(∀b o',s.heap.get? b=a_ o'->h'.get? b=a_ o')->
   h'.get? s.zS=a_ { cls:=.type "list",dict:=b_,data:=.seq its.toArray c',slots:=#[] }->EP X p_ σ Q (.ref s.zS) { s with heap:=h' }:=λits r' hz h' c' kp e=>
  ⟨.ref s.zS,_,I.laid (t':=s.toks) kp (aA _) (show dI X.prog X.w _ h' _ (.lst ys) from ⟨hz,its,c',r',e⟩),xz,q _ (I.aH.fresh (aA _))⟩
 rcases hq with hq | hq
 .obtain⟨its,r',pl,hz⟩:=I.list hq;have hlen:=r'.length;obtain⟨o,ho,hc,n,hd⟩:=pl.isList;exact call_list_seq p (.inl xz) ho hc hd (λh' c' kp e=>fin its r' hz h' c' kp e) (by simp only[cN] <;> omega)
 .obtain⟨its,r',pl,hz⟩:=I.tuple hq;have hlen:=r'.length;obtain⟨o,ho,hc,n,hd⟩:=pl;exact call_list_seq p (.inr xz) ho hc hd (λh' c' kp e=>fin its r' hz h' c' kp e) (by simp only[cN] <;> omega)
def wz:jj X (.type "tuple") (λxs H Q=>∃p ys,xs=[.ref p]/\((aj X.K H p ys/\∀l,H l=b_->Q (.ref l) (upd H l (.tup ys)))\/(aD X.K H p ys/\Q (.ref p) H))):=by
 intro p_ s σ H xs us Q I r h;obtain⟨p,ys,rfl,h⟩:=h;obtain⟨u,rfl,rx⟩:=vals1 r;cases rx;rcases h with ⟨hq,q⟩ | ⟨hq,q⟩
 .obtain⟨its,r',pl,hz⟩:=I.list hq;have hlen:=r'.length;refine call_tuple_list pl.isList (λh' kp=>?_) (by simp only[cN] <;> omega);have I1:=I.kept (t':=s.toks) kp
  have I2:Inv X p_ σ (upd H h'.zH (.tup ys)) { s with heap:=h'.push { cls:=.type "tuple",data:=.seq its.toArray } }:=
   I1.laid (t':=s.toks) (λb o e=>bh _ e) (aA _) (show dI X.prog X.w _ _ _ (.tup ys) from ⟨hz,its,r',Tj _ _⟩)
  exact⟨.ref h'.zH,_,I2,xz,q _ (I1.aH.fresh (aA _))⟩
 .obtain⟨its,r',pl,hz⟩:=I.tuple hq;exact call_tuple_same pl ⟨.ref p,H,I,xz,q⟩
def YB(K:u_)(T:String)(x:V)(H:Hp):Prop:=match x with
 | .str _=>T = "str"
 | .int _=>T = "int"
 | .ref p=>(T = "list"/\∃xs,aj K H p xs)\/(T = "tuple"/\∃o,K.lookup p=a_ o/\o.cls=.type "tuple"/\o.dict=b_)\/
   (T = "dict"/\((∃kvs,H p=a_ (.dK kvs))\/∃kvs,H p=a_ (.dT kvs)))\/(T = "set"/\∃S n,H p=a_ (.set S n))
 | _=>False
def ahU(I:Inv X p_ σ H s)(r:RelV x v)(ty:YB X.K T x H) :
  s.TypeIs v T/\∀a,v=.ref a->∃ob,s.heap.get? a=a_ ob/\ob.dict=none:=by
 cases x with
 | str z=>
  obtain⟨t,rfl⟩:=r;cases (show T = "str" from ty);exact⟨typeIs_str s z t,λ_ e=>nomatch e⟩
 | int i=>
  obtain⟨t,rfl⟩:=r;cases (show T = "int" from ty);exact⟨typeIs_int s i t,λ_ e=>nomatch e⟩
 | ref p=>
  cases r;rcases ty with ⟨rfl,xs,hq⟩ | ⟨rfl,o,hk,hc,hd⟩ | ⟨rfl,hk⟩ | ⟨rfl,S,n,hk⟩
  .obtain⟨its,_,pl,_⟩:=I.list hq;refine⟨pl.isList.typeIs,λa e=>?_⟩;cases e;obtain⟨o,n,e,c,hd,_⟩:=pl;exact⟨o,e,hd⟩
  .refine⟨⟨o,I.eZ p o hk,hc⟩,λa e=>?_⟩;cases e;exact⟨o,I.eZ _ o hk,hd⟩
  .have z:∃o,s.heap.get? p=a_ o/\o.ExactDict:=by
    rcases hk with ⟨kvs,hk⟩ | ⟨kvs,hk⟩
    .obtain⟨_,_,_,_,o,_,_,e,ex,_⟩:=I.aH p _ hk;exact⟨o,e,ex⟩
    .obtain⟨_,_,_,_,o,_,_,e,ex,_⟩:=I.aH p _ hk;exact⟨o,e,ex⟩
   obtain⟨o,e,ex⟩:=z;refine⟨⟨o,e,ex.1⟩,λa e2=>?_⟩;cases e2;exact⟨o,e,ex.2.1⟩
  .obtain⟨o,_,_,_,e,ex,_⟩:=I.aH p _ hk;refine⟨⟨o,e,ex.1⟩,λa e2=>?_⟩;cases e2;exact⟨o,e,ex.2.1⟩
 | _=>exact mH ty
abbrev tBM(K:u_)(T:String)(r:V->List V->Hp->VK->Prop)(to:TE)(t:TA):TE:=λσ H Q=>to σ H λx H1=>YB K T x H1/\t σ H1 λxs H2=>r x xs H2 Q
variable{o e:Expr}{es:List Expr}{to:TE}{t:TA}{name:Str}{apos lg:Pos}{T id:String}{r:V->List V->Hp->VK->Prop}
def ik(pa:PlainAttrs T)(slot:Slot T name id)(uc:typeOf (.builtin id)=pure (.type "method_descriptor"))(hm:MtR X id r)(ho:PE X o to)(ha:PA X (e::es) t)
  (alX:D3 o name X.env (eval o X.env)=eval o X.env:=by rfl)
  (zZ:((backTo lg (bV (e::es) X.env)).all (λx=>!x.1)&&(uP lg (uF [] X.env)).all (λx=>x.1.isSome)
   && decide ((e::es).length+([]:List Keyword).length+(if ([]:List Keyword).isEmpty then 0 else 1)<30))=true:=by rfl)
  (alU:(apos.endLine == lg.line)=true:=by rfl) (hs:bV (e::es) X.env=(d_,eval e X.env)::bV es X.env:=by rfl) (ajG:(backTo lg (bV es X.env)).any (·.1)=false:=by rfl) :
  PE X (.Call (.Attribute o name apos) (e::es) [] lg) (tBM X.K T r to t):=by
 intro p_ s σ H Q I h;refine wpAny_Call_method_late alX zZ alU xz (aR (ho p_ s σ H _ I h) λv s1 ⟨x,H1,I1,r1,ty,q1⟩=>?_);obtain⟨h1,h2⟩:=ahU I1 r1 ty;refine⟨T,id,pa,slot,uc,h1,h2,?_⟩;have hA:=ha lg p_ s1 σ H1 _ I1 q1;rw[hs]at hA ⊢;refine aaD (by show (d_||(backTo lg (bV es X.env)).any (·.1))=d_;rw[ajG] <;> rfl) (aaQ ?_);exact aR hA λus s2 ⟨vs,H2,I2,r2,q2⟩=>hm p_ s2 σ H2 x vs v us Q I2 r1 r2 q2
end
def G6(X:Cx)(id:String)(r:V->List V->Hp->VK->Prop):Prop:=
 ∀(p_:List (e_×Obj)) (s:g_) (σ:St) (H:Hp) (x:V) (xs:List V) (v:f_) (us:List f_) (Q:VK),Inv X p_ σ H s->RelV x v->Vals xs us->r x xs H Q->
  wpAny (model X.prog X.w) X.A (call (.builtin id) (v::us)) (EP X p_ σ Q) X.xe s
def Vals.one:∀{x:V} {us:List f_},Vals [x] us->∃u,us=[u]/\RelV x u
 | _,_,.cons r .nil=>⟨_,xz,r⟩
def Vals.eraseIdx:∀{xs:List V} {us:List f_} (i:Nat),Vals xs us->Vals (xs.eraseIdx i) (us.eraseIdx i)
 | _,_,_,.nil=>.nil
 | _,_,0,.cons _ t=>t
 | _,_,i+1,.cons r t=>.cons r (Vals.eraseIdx i t)
def Vals.rep(h:Vals xs us):∀k:Nat,Vals (cW k xs).flatten (cW k us).flatten
 | 0=>.nil
 | k+1=>by
  rw[uw,uw,A3,A3];exact Vals.append h (Vals.rep h k)
def SU{α:Type}:∀(l:List α) (i:Nat),(l.eraseIdx i).length<=l.length
 | [],_=>aA _
 | _::_,0=>jy _
 | _::r,i+1=>wt (SU r i)
def foldl_rep(its:List f_):∀(k:Nat) (acc:List f_),Bk (λx1 x2=>x1++x2) acc.toArray (cW k its.toArray)=(acc++(cW k its).flatten).toArray
 | 0,acc=>by simp
 | k+1,acc=>by
  have e:acc.toArray++its.toArray=(acc++its).toArray:=by simp
  have e2:(acc++its)++(cW k its).flatten=acc++(cW (k+1) its).flatten:=by
   rw[uw,A3,pJ]
  rw[<-e2,<-foldl_rep its k (acc++its),<-e,uw,QU]
section
variable{X:Cx}{p_:List (e_×Obj)}{σ:St}{H:Hp}{s:g_}{l b:e_}{xs ys zs:List V}
def Inv.F4{its ke:List f_}{n:Nat}{f:Array f_->Array f_}{t':Nat}(I:Inv X p_ σ H s)(hH:H l=a_ (.lst xs))
  (e:s.heap.get? l=a_ { cls:=.type "list",data:=.seq its.toArray n }) (hf:f its.toArray=ke.toArray) (hv:Vals ys ke) (hz:ys.length<=bw) :
  Inv X p_ σ (upd H l (.lst ys)) { s with heap:=s.heap.update l (iw f),toks:=t' }:=by
 have q:=PySem.IsL.update e f;rw[hf]at q;refine I.write (x:=l) (e:=l) (by rw[hH];exact trivial) (.inl xz) (λb' u hb hu=>(aaC s.heap (iw f) (cH hb)).trans hu) ⟨_,q⟩ ?_;exact⟨hz,ke,_,hv,q⟩
def Inv.XF(I:Inv X p_ σ H s)(hv:Vals ys its)(hz:ys.length<=bw) :
  Inv X p_ σ (upd H s.zS (.lst ys)) { s with heap:=s.heap.push { cls:=.type "list",data:=.seq its.toArray },toks:=t' }:=
 I.laid (λ_ _ q=>bh _ q) (aA _) ⟨hz,its,0,hv,dh _ xz⟩
def Inv.fresh(I:Inv X p_ σ H s):H s.zS=none:=I.aH.fresh (aA _)
def Inv.qt(I:Inv X p_ σ H s)(hH:H l=a_ (.lst xs)):xs.length<=bw/\∃(its:List f_) (n:Nat),Vals xs its/\xs.length=its.length/\s.heap.get? l=a_ { cls:=.type "list",data:=.seq its.toArray n }:=by
 obtain⟨z,its,n,r,e⟩:=I.aH l _ hH;exact⟨z,its,n,r,r.length,e⟩
def Uc(h:n<=bw):Im n=false:=by
 unfold Im;exact decide_eq_false om
end
section
variable{X:Cx}
def agI:V->List V->Hp->VK->Prop:=λx vs H Q=>∃l xs y,x=.ref l/\vs=[y]/\H l=a_ (.lst xs)/\xs.length<bw/\Q .aN (upd H l (.lst (xs++[y])))
def jR:G6 X "list.append" agI:=by
 intro p_ s σ H x vs v us Q I rx rv h;obtain⟨l,xs,y,rfl,rfl,hH,hz,q⟩:=h;cases rx;obtain⟨u,rfl,ru⟩:=rv.one;obtain⟨z,its,n,r,hl,e⟩:=I.qt hH;refine yR F.slot_list_append ⟨_,e,xz⟩ F.entry_list_append (F.args_list_append_2 _ _) (PySem.list_append l its.toArray n u (by rw[cN];omega)) ⟨e,⟨.aN,_,I.F4 (ke:=its++[u]) hH e (by simp) (r.append (.cons ru .nil)) ?_,xz,q⟩⟩;rw[bL,aaG];omega
def agG:V->List V->Hp->VK->Prop:=λx vs H Q=>∃l b xs zs,x=.ref l/\vs=[.ref b]/\H l=a_ (.lst xs)/\H b=a_ (.lst zs)/\xs.length+zs.length<=bw/\Q .aN (upd H l (.lst (xs++zs)))
def En:G6 X "list.extend" agG:=by
 intro p_ s σ H x vs v us Q I rx rv h;obtain⟨l,b,xs,zs,rfl,rfl,hH,hB,hz,q⟩:=h;cases rx;obtain⟨u,rfl,ru⟩:=rv.one;cases ru;obtain⟨z,its,n,r,hl,e⟩:=I.qt hH;obtain⟨z2,vC,n2,r2,lx,e2⟩:=I.qt hB;have hsz:its.toArray.size+vC.toArray.size<=bw:=by rw[cN,cN];omega
 have NB:¬(!its.toArray.isEmpty&&Im (its.toArray.size+vC.toArray.size))=true:=by
  rw[Uc hsz,Bool.and_false];exact dU
 refine yR F.slot_list_extend ⟨_,e,xz⟩ F.entry_list_extend (F.args_list_extend_2 _ _)
  (AutoSeq1.list_extend_list_list_0 l its.toArray n b vC.toArray n2 NB (by rw[cN];omega) om) ⟨e,e2,?_⟩
 refine⟨.aN,_,I.F4 (ke:=its++vC) hH e (by simp) (r.append r2) ?_,xz,q⟩;rw[bL];omega
def aii:V->List V->Hp->VK->Prop:=λx vs H Q=>∃l xs i k y,x=.ref l/\vs=[.int i]/\H l=a_ (.lst xs)/\-(2^63)<=i/\i<2^63/\J6 i xs.length=a_ k/\xs[k]?=a_ y/\Q y (upd H l (.lst (xs.eraseIdx k)))
def afl:G6 X "list.pop" aii:=by
 intro p_ s σ H x vs v us Q I rx rv h;obtain⟨l,xs,i,k,y,rfl,rfl,hH,h1,h2,hk,hy,q⟩:=h;cases rx;obtain⟨u,rfl,ru⟩:=rv.one;obtain⟨t,rfl⟩:=ru;obtain⟨z,its,n,r,hl,e⟩:=I.qt hH;obtain⟨w,hw,jK⟩:=r.get hy
 refine yR F.slot_list_pop ⟨_,e,xz⟩ F.entry_list_pop (F.args_list_pop_2 _ _)
  (MeetsSeq.list_pop_at l its.toArray n i t k w (fitsIndex_both h1 h2) (by rw[cN,<-hl];exact hk) (by rw[<-pF];exact hw) (by rw[cN];omega)) ⟨e,?_⟩
 refine⟨y,_,I.F4 (ke:=its.eraseIdx k) hH e ?_ (r.eraseIdx k) ?_,jK,q⟩
 .show its.toArray.eraseIdxIfInBounds k=(its.eraseIdx k).toArray;rw[aab]
 .have:=SU xs k;omega
def amv:R2:=λx y H Q=>∃l b xs zs,x=.ref l/\y=.ref b/\H l=a_ (.lst xs)/\H b=a_ (.lst zs)/\xs.length+zs.length<=bw/\∀p,H p=b_->Q (.ref p) (upd H p (.lst (xs++zs)))
def BK:eQ X (rA .Add) amv:=by
 intro p_ s σ H x y v u Q I rx ry h;obtain⟨l,b,xs,zs,rfl,rfl,hH,hB,hz,q⟩:=h;cases rx;cases ry;obtain⟨z,its,n,r,hl,e⟩:=I.qt hH;obtain⟨z2,vC,n2,r2,lx,e2⟩:=I.qt hB;refine PySem.P.add_list e e2 ?_ (by rw[cN,cN];omega);have ea:its.toArray++vC.toArray=(its++vC).toArray:=by simp
 rw[ea];exact⟨.ref _,_,I.XF (t':=s.toks) (r.append r2) (by rw[bL];omega),xz,q _ I.fresh⟩
def ams:R2:=λx y H Q=>∃l k xs,x=.ref l/\y=.int k/\H l=a_ (.lst xs)/\-(2^63)<=k/\k<2^63/\xs.length*k.toNat<=bw/\
 ∀p,H p=b_->Q (.ref p) (upd H p (.lst (cW k.toNat xs).flatten))
def len_rep{α:Type}(xs:List α)(k:Nat):(cW k xs).flatten.length=k*xs.length:=by
 induction k with
 | zero=>simp
 | succ k ih=>rw[uw,A3,bL,ih,Bc,Nat.add_comm]
def Fg:eQ X (rA .Mult) ams:=by
 intro p_ s σ H x y v u Q I rx ry h;obtain⟨l,k,xs,rfl,rfl,hH,h1,h2,hz,q⟩:=h;cases rx;obtain⟨t,rfl⟩:=ry;obtain⟨z,its,n,r,hl,e⟩:=I.qt hH;have hlen:its.toArray.size*k.toNat<=bw:=by rw[cN,<-hl];exact hz
 have anP:¬its.toArray.size*k.toNat > (2^63-1)/8:=by
  have:(bw:Nat)<=(2^63-1)/8:=qc;omega
 have anJ:¬(!Builtin.List.listFitsIndex k)=true:=by
  rw[fitsIndex_both h1 h2];exact dU
 have NB:¬Im (its.toArray.size*k.toNat)=true:=by
  rw[Uc hlen];exact dU
 have Ca:Bk (λx1 x2=>x1++x2) #[] (cW (if its.toArray.isEmpty=c_ then 0 else k.toNat) its.toArray)=(cW k.toNat its).flatten.toArray:=by
  have f0:∀m:Nat,Bk (λx1 x2=>x1++x2) #[] (cW m its.toArray)=(cW m its).flatten.toArray:=λm=>by
   have:=foldl_rep its m [];rw[List.nil_append]at this;exact this
  rw[f0];cases its with
  | nil=>simp
  | cons a r'=>rw[if_neg (by simp)]
 refine wpAny_binaryOp_repeat_ref (T:="list") (U:="int") qc ⟨_,e,xz⟩ (λs'=>typeIs_int s' k t) noFill_list_mul F.fills_int_mul F.slot_int_rmul repeat_list F.slot_int_index.lookup
  (yR F.slot_int_rmul (typeIs_int s k t) F.entry_int_rmul (F.args_int_rmul_2 _ _) (int___rmul___int_list k t l its.toArray n) ⟨e,xz,⟨_,e,xz⟩,yR F.slot_list_mul ⟨_,e,xz⟩ F.entry_list_mul (F.args_list_mul_2 _ _) (AutoListH.list___mul___list_int_3 l its.toArray n k t anJ anP NB) ⟨e,?_⟩⟩)
 rw[Ca];exact⟨.ref _,_,I.XF (t':=s.toks) (r.rep k.toNat) (by rw[len_rep,Nat.mul_comm];exact hz),xz,q _ I.fresh⟩
end
section
variable{prog:k_}{w:j_}{A:h_}{E:f_->g_->Prop}{s:g_}
end
end L2
namespace Att
open PySem.W PySem.Calls
def abB{P:Params}:∀(ns:List Int) (vs:List f_),WellAll P h vs (ns.map WData.int)->IntsAre vs ns:=by
 intro ns
 induction ns with
 | nil=>
  intro vs w;rw[Jr]at w;cases w;exact .nil
 | cons n ns ih=>
  intro vs w;rw[gq]at w;cases w with
  | cons a b=>
   cases a;exact .cons _ _ (ih _ b)
def adv{l:OpenLaw}{n:Nat}(hn:l.most=a_ n){P:Params}{args:List WData}
  (Gi:l.row.toRowW.claim.pre args=c_) (km:WellAll P h vals args) :
  ∃a vs ns,vals=[dj a]/\args=[WData.list (ns.map WData.int)]/\h.get? a=a_ { cls:=.type "list",data:=.seq vs.toArray }/\IntsAre vs ns/\ns.length<=n:=by
 have hsh:WShape.hasAll [] args [.list .int]=true:=(pre_splitW Gi).1;have hc:l.pre.holds [] { args:=args }=true:=(pre_splitW Gi).2;obtain⟨d,r,rfl,h1,h2⟩:=hasAllW_cons hsh;obtain rfl:=hasAllW_nil h2;obtain⟨xs,rfl,h3⟩:=hasW_list h1;obtain⟨ns,rfl⟩:=items_int h3
 have hlen:ns.length<=n:=by
  unfold OpenLaw.pre at hc
  have h4:(WTm.not (.lt (.lit (.int (n:Int))) (.len (.arg 0)))).holds [] { args:=[.list (ns.map .int)] }=true:=by
   have h4:=(holds_andW hc).1;rw[hn]at h4;exact h4
  have h5:=condW_of h4 (w_not (w_lt w_lit (w_len_list (w_arg xz))));rw[aL]at h5;refine Nat.le_of_not_lt λq=>?_;have q':(n:Int)<((ns.length:Nat):Int):=om
  first
   | (rw[decide_eq_true q']at h5;exact absurd h5 qc)
   | (simp at h5;omega)
 cases km with
 | cons w1 w2=>
  cases w2;cases w1 with
  | list ho anS=>exact⟨_,_,ns,xz,xz,ho,abB ns _ anS,hlen⟩
def adA(l:OpenLaw)(args:List WData):l.row.toRowW.claim.post args (.bool c_) args=true:=
 postW_of (r:=l.row.toRowW) (X:=(c_ == c_))
  (show WShape.has [] (.bool c_) .bool=c_ by first | rfl | decide | simp[WShape.has,WShape.arms,WShape.armsAll])
  (show (WTm.eq .res (.lit (.bool c_))).value [] { args:=args,res:=a_ (.bool c_),after:=args }=a_ (.bool (c_ == c_)) from w_eq_bool (w_res xz) w_lit) xz
def acu{l:OpenLaw}{n:Nat}{XP:(Str->Option f_)->i_->Prop}{YP:j_->i_->Prop}{d:DefRec}
  (hn:l.most=a_ n) (PF:d.params.defaults=[])
  (call:∀(w:j_) (s₀ s₁:g_) (mg mb:Str->Option f_) (fa:e_) (o:Obj) (pm cd doc:f_) (a:e_) (vs:List f_) (ns:List Int),Ground q loose [] XP w s₀ mg mb s₁.heap->YP w s₁.heap->
   s₁.heap.get? fa=a_ o->o.data=.func (docDef d.name d.params d.body d.scope pm cd doc)->s₁.heap.CodeRec cd d.name->mg d.name=a_ (.ref fa)->
   s₁.heap.get? a=a_ { cls:=.type "list",data:=.seq vs.toArray }->IntsAre vs ns->ns.length<=n->s₁.gens=#[]->
   codeAny (model l.prog w) callerA (.call (.ref fa) ⟨[.ref a],[]⟩) (λr s'=>r=.ok (.ret (.bool c_))/\OldK s₁.heap s'.heap/\s'.os=s₁.os/\AllBare s'.gens) s₁) :
  WalkO q loose XP YP l.row.toRowW d [] (λf vs=>PySem.call f vs):=by
 intro w s₀ s₁ mg mb G Y fa o pm cd doc dV kV ho hd iU hD vX hg args vals as Gi apb hrd km pA;obtain rfl:dV=.none:=Dflts.none hD PF;obtain rfl:kV=.none:=Dflts.noKw hD;obtain⟨a,vs,ns,rfl,rfl,xx,hints,hlen⟩:=adv hn Gi km;refine enter_call (Bb (call w s₀ s₁ mg mb fa o pm cd doc a vs ns G Y ho (fd_plain hd) iU vX xx hints hlen hg) λr s' hq=>?_);obtain⟨rfl,h2,h3,h4⟩:=hq;exact⟨.inl ⟨.bool c_,.bool c_,[],xz,λ_=>rfl,.bool c_,adA l _,λ_=>⟨ID,λ_ hm=>(nomatch hm)⟩⟩,h2,h3,h4⟩
end Att
namespace L2
def JG:∀{vs:List f_} {ns:List Int},IntsAre vs ns->Vals (ns.map V.int) vs
 | _,_,.nil=>.nil
 | _,_,.cons n t h=>.cons ⟨t,xz⟩ (JG h)
abbrev aI:qI:=λ_ _ _ _ _ _=>False
abbrev E0:XK:=λ_ _ _=>False
def c9:Passes aI X E0:=λ_ _ _ _ _ _ _ h=>h.elim
structure aQ(K:u_)(x qual:Str)(st:Stmt)(f:e_)(fd:jS):Prop where
 ex:∃(oc:f_) (od:Option e_) (kV doc pm:f_) (an:Option e_) (aJ ct:f_) (jL:Array (Option f_)),fd=B_ x qual (kI st) (iL st) (aS st) .none kV doc pm an aJ ct/\K.lookup f=a_ ⟨oc,od,.func fd,jL⟩/\W.codeIn K aJ qual=c_
 kp:x_ K (.ref f)=c_
section
variable{P:k_}{w:j_}{K:u_}{mg:Str->Option f_}{base:i_}
def aQ.ok{st:Stmt}{k:Nat}(F:aQ K x qual st f fd)(S:ba N ps (aS st))
  (xc:∀(aJ:f_) (A:h_) (outer:List Env) (s:g_) (H:Hp) (vs:List V) (Q:VK) (E:XK),eG k (A.deeper (envOfC qual (aS st) s.zS f aJ))->sp vs H Q E->
   ∃t,gd (vv aI P w K mg base N qual (aS st) f aJ A outer s H E).vH (iL st) t/\t { nx:=λ_ H'=>Q .aN H',rt:=Q } (start N vs) H) (len:∀vs H Q E,sp vs H Q E->vs.length=ps.length:=by intro _ _ _ _ h;(repeat obtain⟨_,h⟩:=h);subst_vars;rfl):aG P w K mg base aI (k+1) f fd ps sp:=by
 obtain⟨oc,od,kV,doc,pm,an,aJ,ct,jL,rfl,lk,iU⟩:=F.ex;refine wV lk iU S len λA outer s H vs Q E hr pj=>?_;obtain⟨t,h,q⟩:=xc aJ A outer s H vs Q E hr pj;exact⟨t,h.vH,q⟩
def aQ.binds{st:Stmt}(F:aQ K x qual st f fd)
  (h:∀(kV doc pm:f_) (an:Option e_) (aJ ct:f_) (us:List f_),us.length=ps.length->uO (B_ x qual (kI st) (iL st) (aS st) .none kV doc pm an aJ ct) ⟨us,[]⟩=pure (ps.zip us)):Binds K fd ps []:=by
 obtain⟨oc,od,kV,doc,pm,an,aJ,ct,jL,rfl,lk,iU⟩:=F.ex;exact .all (h kV doc pm an aJ ct)
def Wn{st:Stmt}{kV doc pm aJ ct:f_}(l:K.lookup f=a_ ⟨oc,od,.func (B_ x qual (kI st) (iL st) (aS st) .none kV doc pm an aJ ct),jL⟩)
  (c:W.codeIn K aJ qual=c_) (k:x_ K (.ref f)=c_):aQ K x qual st f (B_ x qual (kI st) (iL st) (aS st) .none kV doc pm an aJ ct):=⟨⟨oc,od,kV,doc,pm,an,aJ,ct,jL,xz,l,c⟩,k⟩
end
def eh(h:n<=1000):n<bw:=we h qc
section
variable{X:Cx}
def pv(i:Nat)(hN:X.N[i]?=a_ x:=by rfl)(hv:GU X.env.scope x:=by first | exact aE xz | exact zA (aE xz) | exact zA (zA xz))(hd:(x == ("__debug__" : Str))=false:=by decide)
  (iU:(x == ("__classdict__" : Str))=false:=by decide):PE X (.Name x pos) (oF i):=Ma hN hv hd iU
end
def eW{A B:Prop}(h:B):if d_=c_ then A else B:=by
 rw[if_neg dU];exact h
def jW{A B:Prop}(h:A):if c_=c_ then A else B:=by
 rw[if_pos rfl];exact h
def W'{c A B:Prop}[Decidable c](hc:c)(h:B):if (!decide c)=c_ then A else B:=by
 rw[decide_eq_true hc];exact eW h
def af(H H':Hp):Prop:=∀b o,H b=a_ o->H' b=a_ o
def af.refl(H:Hp):af H H:=λ_ _ h=>h
def af.trans(a:af H H1)(b:af H1 H2):af H H2:=λc o h=>b c o (a c o h)
def af.free(e:af H H')(h:H' l=Option.none):H l=Option.none:=by
 cases q:H l with
 | none=>rfl
 | some o=>
  rw[e l o q]at h;cases h
section
variable{K:u_}{σ:St}{H:Hp}{Q:VK}{p C dx:e_}{xs:List V}{v:V}{i:Nat}{j:Int}{fs:List (Str×V)}{f:Str}
def vr(h:σ[i]?=a_ (a_ v))(q:Q v H):oF i σ H Q:=⟨v,h,q⟩
def rT(s:aD K H p xs)(a:gY xs j=a_ v)(q:Q v H):xh K (.ref p) (.int j) H Q:=⟨_,_,_,_,xz,xz,s,a,q⟩
def rL(s:aj K H p xs)(a:gY xs j=a_ v)(q:Q v H):B4 K (.ref p) (.int j) H Q:=⟨_,_,_,_,xz,xz,s,a,q⟩
def cL(s:aj K H p xs)(a:gY xs j=a_ v)(q:Q v H):tC (.int j) σ H λy H2=>B4 K (.ref p) y H2 Q:=⟨_,_,_,_,xz,xz,s,a,q⟩
def vT(h:σ[i]?=a_ (a_ (.ref p)))(s:aD K H p xs)(a:gY xs j=a_ v)(q:Q v H):sg (xh K) (oF i) (tC (.int j)) σ H Q:=⟨_,h,_,_,_,_,xz,xz,s,a,q⟩
def vF(h:σ[i]?=a_ (a_ (.ref p)))(e:H p=a_ (.ins C dx fs))(c:dg K C)(n:bT K C f)(l:fs.lookup f=a_ v)(q:Q v H):NJ K (oF i) f σ H Q:=⟨_,h,_,_,_,_,_,xz,e,c,n,l,q⟩
def vM{t:TA}(h:σ[i]?=a_ (a_ (.ref p)))(e:H p=a_ (.ins C dx fs))(l:fs.lookup m=b_)(q:t σ H λvs H2=>sp (.ref p::(vs++dvs)) H2 Q E):BP C m sp dvs E (oF i) t σ H Q:=⟨_,h,_,_,_,xz,e,l,q⟩
end
section
variable{K:u_}{σ:St}{H:Hp}{Q:VK}{p C dx:e_}{v:V}{fs:List (Str×V)}{f:Str}
def rM{R:Prop}(e:H p=a_ (.ins C dx fs))(l:fs.lookup m=b_)(q:R):∃a dx fs,V.ref p=.ref a/\H a=a_ (.ins C dx fs)/\fs.lookup m=b_/\R:=⟨_,_,_,xz,e,l,q⟩
def tk{R:Bool->Prop}{k:Bool}(q:R k):∃k',V.bl k=.bl k'/\R k':=⟨k,xz,q⟩
def rq{R:Bool->Prop}(s:NQ x y=c_)(q:R (decide (x=y))):GA x y H λz _=>∃k,z=.bl k/\R k:=⟨s,_,xz,q⟩
end
def qw{t:TS}(h:gd X ss t)(q:t D σ H):∃t,gd X ss t/\t D σ H:=⟨t,h,q⟩
section
variable{K:u_}{σ:St}{H:Hp}{Q:VK}{p:e_}{xs:List V}{v:V}{i j:Nat}
def gH(h:σ[i]?=a_ (a_ (.ref p)))(e:H p=a_ (.tup xs))(a:xs[j]?=a_ v)(q:Q v H):sg (xh K) (oF i) (tC (.int (j:Int))) σ H Q:=vT h (aD.of e) (cx a) q
def OF(e:H p=a_ (.lst xs))(a:xs[j]?=a_ v)(q:Q v H):tC (.int (j:Int)) σ H λy H2=>B4 K (.ref p) y H2 Q:=cL (σ:=σ) (aj.of e) (cx a) q
end
end L2
namespace L3
def tests(ifs:List Expr)(env:Env):Sem Bool:=
 forIn ifs c_ λc r=>if r=c_ then (do let ok <-isTrue c env (eval c env);pure (IU ok)) else pure (IU r)
section
variable{prog:k_}{w:j_}{A:h_}{R:Result->g_->Prop}{s:g_}
def aej(J:Nat->g_->Prop)
  (PY:∀e s',EE e s'->notedBy (model prog w) A env (λe s'=>R (.error e) s') e s')
  (turn:∀n s,J n s->wpAny (model prog w) A (pyNext it) (λr s₁=>(r=b_->R (.ok .next) s₁)/\∀v,r=a_ v->
   wpAny (model prog w) A (IM tg it v) (λ_ s₂=>wpAny (model prog w) A (assign tg env v) (λ_ s₃=>wpAny (model prog w) A (tests ifs env) (λok s₄=> (ok=c_->wpAny (model prog w) A (eval elt env) (λx s₅=>wpAny (model prog w) A (call (.builtin "list.append") [acc,x]) (λ_ s₆=>∃m,m<n/\J m s₆) EE s₅) EE s₄)/\ (ok=d_->∃m,m<n/\J m s₄)) EE s₃) EE s₂) EE s₁) EE s)
  (n:Nat) (h:J n s):codeAny (model prog w) A (.compLoop (.ListComp elt [⟨tg,iter,ifs,0⟩] sc pos) 0 it acc env) R s:=by
 refine codeAny_loop xz J (λn s hJ=>?_) n h;show wpAny _ A ((compTurn (.ListComp elt [⟨tg,iter,ifs,0⟩] sc pos) 0 it acc env).onRaise _) _ _ s;refine wpAny_noted (ie (E:=EE) ?_ (λ_ _ q=>q) λe s' q=>PY e s' q);rw[compTurn_list];refine ae (Rc (ae (ie (turn n s hJ) (λr s₁ h₁=>?_) λ_ _ q=>q)));cases r with
 | none=>exact aF (h₁.1 xz)
 | some v=>
  refine ae (ie (h₁.2 v xz) (λ_ s₂ h₂=>?_) λ_ _ q=>q);refine ae (ie h₂ (λ_ s₃ h₃=>?_) λ_ _ q=>q);refine ae (ie h₃ (λok s₄ h₄=>?_) λ_ _ q=>q);cases ok with
  | false=>exact aF ⟨xz,h₄.2 xz⟩
  | true=>
   refine ae (ae (ie (h₄.1 xz) (λx s₅ h₅=>?_) λ_ _ q=>q));exact ae (ie h₅ (λ_ s₆ h₆=>aF (aF ⟨xz,h₆⟩)) λ_ _ q=>q)
def adn(h:Q c_ s):wpAny (model prog w) A (tests [] env) Q E s:=aF h
def adm(h:wpAny (model prog w) A (isTrue c env (eval c env)) Q E s):wpAny (model prog w) A (tests [c] env) Q E s:=by
 unfold tests;rw[IT];exact ae (ae (ie h (λok s' q=>aF (aF q)) λ_ _ q=>q))
def f9(cells:List (Str×e_)):List (Str×fo)->List (Str×e_)->List (Str×e_)
 | [],acc=>acc
 | (n,k)::r,acc=>if k == .free then f9 cells r (match cells.lookup n with | some c=>(n,c)::acc | none=>acc) else f9 cells r acc
def Se:∀(names:List (Str×fo)) (acc:List (Str×e_)),(∀p∈names,p.2=.free->∃c,env.cells.lookup p.1=a_ c)->
  (forIn names acc λ(x:Str×fo) (cs:List (Str×e_))=>match x with
   | (name,kind)=>if (kind == qY)=c_ then (do let c <-cellOf env name;pure (IU ((name,c)::cs))) else (pure (IU cs):Sem (ForInStep (List (Str×e_)))))=pure (f9 env.cells names acc)
 | [],acc,_=>rfl
 | (n,k)::r,acc,h=>by
  have ih:=λacc=>Se r acc λp hp=>h p (eL _ hp);rw[IT]
  by_cases hk:(k == qY)=c_
  .obtain⟨c,hc⟩:=h (n,k) du (by simpa using hk);have e:cellOf env n=pure c:=by unfold cellOf;rw[hc]
   dsimp only;rw[if_pos hk,e];unfold f9;rw[if_pos hk,hc];exact ih _
  .dsimp only;rw[if_neg hk];unfold f9;rw[if_neg hk];exact ih _
def Jv(h:∀p∈sc.names,p.2=.free->∃c,env.cells.lookup p.1=a_ c):closureFor sc env=pure (f9 env.cells sc.names []):=by
 unfold closureFor;have e:=Se (env:=env) sc.names [] h;simp only[e];rfl
def EK:∀(names:List (Str×fo)) (acc:List (Str×e_)),(∀x c,acc.lookup x=a_ c->cells.lookup x=a_ c)->∀x c,(f9 cells names acc).lookup x=a_ c->cells.lookup x=a_ c
 | [],acc,h,x,c,e=>h x c e
 | (n,k)::r,acc,h,x,c,e=>by
  unfold f9 at e
  split at e
  .refine EK r _ (λy d q=>?_) x c e
   split at q
   .rename_i c' lD
    by_cases hy:y=n
    .subst hy;rw[AS]at q;cases q;exact lD
    .have hb:=beq_eq_false_iff_ne.mpr hy;rw[lJ,hb]at q;exact h y d q
   .exact h y d q
  .exact EK r acc h x c e
def J1:∀(names:List (Str×fo)) (acc:List (Str×e_)) (x:Str),(∃c,acc.lookup x=a_ c)->∃c,(f9 cells names acc).lookup x=a_ c
 | [],acc,x,h=>h
 | (n,k)::r,acc,x,h=>by
  unfold f9
  split
  .refine J1 r _ x ?_
   split
   .rename_i c' lD
    by_cases hy:x=n
    .subst hy;exact⟨c',AS⟩
    .have hb:=beq_eq_false_iff_ne.mpr hy;rw[lJ,hb];exact h
   .exact h
  .exact J1 r acc x h
def EL:∀(names:List (Str×fo)) (acc:List (Str×e_)) (x:Str),(x,qY)∈names->(∃c,cells.lookup x=a_ c)->∃c,(f9 cells names acc).lookup x=a_ c
 | [],acc,x,h,_=>by cases h
 | (n,k)::r,acc,x,h,hc=>by
  unfold f9;rcases bX.mp h with e | e
  .cases e;obtain⟨c,hc⟩:=hc;rw[if_pos (beq_self_eq_true _),hc];exact J1 r _ n ⟨c,AS⟩
  .split
   .exact EL r _ x e hc
   .exact EL r acc x e hc
end
end L3
namespace L2
open L3
def lU(X:Cx)(sc:Scope)(N:List Str)(s:g_)(H:Hp)(ex:List e_)(C:e_)(EE:f_->g_->Prop):Cx:=
 {X with N:=N,s₀:=s,H₀:=H,env:=compEnvC sc (f9 X.env.cells sc.names []) C X.env,outer:=X.stack,ex:=ex,fn:=λ_=>d_,pn:=[],xe:=EE }
def Aj(X:Cx)(sc:Scope)(N:List Str)(s:g_)(H:Hp)(ex:List e_)(C:e_):Cx:=lU X sc N s H ex C λ_ _=>False
structure dw(X:Cx)(sc:Scope)(N:List Str)(idx:List Nat):Prop where
 kind:sc.kind=.function
 Fh:∀y∈sc.names,y.2≠.cell
 locs:∀y∈sc.names,y.2=.local->sc.names.lookup y.1=a_ .local
 frees:∀y∈sc.names,y.2=.free->X.env.scope.names.lookup y.1=a_ .cell
 le:idx.length<=N.length
 YW:∀(k i:Nat) (x:Str),idx[k]?=a_ i->N[k]?=a_ x->X.N[i]?=a_ x/\sc.names.lookup x=a_ .free
def jX(idx:List Nat)(n:Nat)(σ:St):St:=idx.map (λi=>(σ[i]?).join)++cW (n-idx.length) b_
def KP(h:idx.length<=n):(jX idx n σ).length=n:=by
 unfold jX;rw[bL,aL,Du];lia
def KQ{n k:Nat}(h:(jX idx n σ)[k]?=a_ (a_ v)):∃i,idx[k]?=a_ i/\σ[i]?=a_ (a_ v):=by
 unfold jX at h
 by_cases hk:k<idx.length
 .rw[kA (by simpa using hk),cO]at h;cases e:idx[k]? with
  | none=>rw[e]at h;cases h
  | some i=>
   rw[e]at h;have h':(σ[i]?).join=a_ v:=cE h;refine au i xz ?_;cases e2:σ[i]? with
   | none=>rw[e2]at h';cases h'
   | some o=>rw[e2]at h';rw[show o=a_ v from h']
 .rw[nK (by simpa using hk),Io]at h
  split at h
  .cases h
  .cases h
def rl(env:Env)(p:Str×fo):Str×fo:=if (p.2 == qY&&env.scope.kind == .function&&env.kindOf p.1 == a_ .cell)=c_ then (p.1,fo.cell) else p
def L7{k:fo}(h:(k == qY&&env.scope.kind == .function&&env.kindOf n == a_ .cell)=c_):rl env (n,k)=(n,.cell):=if_pos h
def UX{k:fo}(h:¬(k == qY&&env.scope.kind == .function&&env.kindOf n == a_ .cell)=c_):rl env (n,k)=(n,k):=if_neg h
def Rk(hf:env.scope.kind=.function):∀{names:List (Str×fo)} {x:Str},names.lookup x=a_ .free->env.kindOf x=a_ .cell->(names.map (rl env)).lookup x=a_ .cell
 | [],_,h,_=>by simp at h
 | (n,k)::r,x,h,hc=>by
  have ih:=@Rk env hf r x;rw[gq]
  by_cases hx:x=n
  .subst hx;rw[AS]at h;cases h;rw[L7 (by rw[hf,hc];decide),AS]
  .have hb:=beq_eq_false_iff_ne.mpr hx;rw[lJ,hb]at h;have e:=ih h hc
   by_cases q:(k == qY&&env.scope.kind == .function&&env.kindOf n == a_ .cell)=c_
   .rw[L7 q,lJ,hb];exact e
   .rw[UX q,lJ,hb];exact e
def Jl:∀{names:List (Str×fo)} {x:Str} {kd:fo},(names.map (rl env)).lookup x=a_ kd->(x,kd)∈names\/(x,qY)∈names
 | [],_,_,h=>by simp at h
 | (n,k)::r,x,kd,h=>by
  have ih:=@Jl env r x kd;rw[gq]at h
  by_cases q:(k == qY&&env.scope.kind == .function&&env.kindOf n == a_ .cell)=c_
  .rw[L7 q]at h
   by_cases hx:x=n
   .subst hx
    have hk:k=.free:=by
     rw[lK,lK]at q;exact eq_of_beq q.1.1
    subst hk;exact .inr du
   .have hb:=beq_eq_false_iff_ne.mpr hx;rw[lJ,hb]at h;exact(ih h).elim (λe=>.inl (eL _ e)) λe=>.inr (eL _ e)
  .rw[UX q]at h
   by_cases hx:x=n
   .subst hx;rw[AS]at h;cases h;exact .inl du
   .have hb:=beq_eq_false_iff_ne.mpr hx;rw[lJ,hb]at h;exact(ih h).elim (λe=>.inl (eL _ e)) λe=>.inr (eL _ e)
def Inv.adopt(I:Inv X p_ σ H s)(hn:H a=b_)(ya:X.s₀.zS<=a)(hL:a≠X.env.locals)
  (hc:∀x c,X.env.cells.lookup x=a_ c->c≠a) (hp:∀p∈X.pn++p_,p.1≠a) (new:dI X.prog X.w (upd H a o) s.heap a o):Inv X p_ σ (upd H a o) s:=by
 have ne:∀b u,H b=a_ u->b≠a:=λb u e=>bp e hn;refine⟨I.ok,I.os,I.bare,⟨I.base.keep,I.base.slot,λb u q n hx=>?_,I.base.there,λb xs q=>?_,λb u xs q=>?_,λb ps q=>?_⟩,I.loc,I.cell,?_,λx c e=>?_,λp hq=>?_,λb u q=>?_,I.len⟩
 .rw[ai (cC (gj (bH q) ya))];exact I.base.free b u q n hx
 .have e:=I.base.tH b xs q;rw[ai (ne b _ e)];exact e
 .have e:=I.base.r6 b u xs q;rw[ai (ne b _ e)];exact e
 .exact oE (I.base.rW b ps q) λm e=>⟨m,by rw[ai (ne b _ e)];exact e⟩
 .rw[ai (cH hL)];exact I.free
 .rw[ai (hc x c e)];exact I.kR x c e
 .exact de (I.pin p hq) λe1 e2 e3=>eJ e1 (by rw[ai (hp p hq)];exact e2) e3
 .by_cases hb:b=a
  .subst hb;rw[ao]at q;cases q;exact new
  .rw[ai hb]at q;exact(I.aH b u q).tI (λ_ _ _ z=>z) (λc z=>by rw[ai (ne c _ z)];exact z) λc xs z=>by rw[ai (ne c _ z)];exact z
section
variable{X:Cx}{p_:List (e_×Obj)}{σ:St}{H:Hp}{s:g_}{sc:Scope}{N:List Str}{idx:List Nat}{fp:List e_}
abbrev eA:Obj:={ cls:=.type "list",data:=.seq ([]:List f_).toArray }
abbrev kG(s:g_):Shared:={ s with heap:=s.heap.push eA }
def aev(I:Inv X p_ σ H s)(h:iN X p_ H b):X.base.get? b=none:=by
 cases e:X.base.get? b with
 | none=>rfl
 | some o=>
  rcases h.2.2.2.1 with z | z
  .exact absurd z (I.ok.xn b o e)
  .exact absurd (gj (bH e) (cu I.ok.nD z)) (je _)
def afP(I:Inv X p_ σ H s)(S:dw X sc N idx)(hf:∀b∈fp,iN X p_ H b)(ho:∀b∈fp,∃o,s.heap.get? b=a_ o){t:Nat}
  (iT:h'.Ns (s.heap.push eA).zH m) (hk:∀b o,(s.heap.push eA).get? b=a_ o->h'.get? b=a_ o) :
  Inv (lU X sc N (kG s) H (s.zS::fp) (s.heap.push eA).zH EE) [] (jX idx N.length σ) H { kG s with heap:=h',toks:=t }:=by
 have I3:Inv X p_ σ H (kG s):=I.kept (t':=s.toks) λb o e=>bh _ e;have hC:(s.heap.push eA).zH=s.zS+1:=kC _ _;have mY:∀x c,(f9 X.env.cells sc.names []).lookup x=a_ c->X.env.cells.lookup x=a_ c:=EK sc.names [] (λx c e=>by cases e)
 have clt:∀x c,(f9 X.env.cells sc.names []).lookup x=a_ c->c<s.zS:=λx c e=>by
  exact oE (I.cell x c (mY x c e)) λv z=>z.lt
 have tV:∀b∈fp,b<s.zS:=λb hb=>by
  exact oE (ho b hb) λo e=>bH e
 have back:∀x,((relabel sc X.env).names.lookup x=a_ .cell\/(relabel sc X.env).names.lookup x=a_ .free)->(x,qY)∈sc.names:=λx h=>by
  rcases h with h | h
  .rcases Jl (env:=X.env) (names:=sc.names) (show (sc.names.map (rl X.env)).lookup x=_ from h)with e | e
   .exact absurd xz (S.Fh _ e)
   .exact e
  .rcases Jl (env:=X.env) (names:=sc.names) (show (sc.names.map (rl X.env)).lookup x=_ from h)with e | e
   .exact e
   .exact e
 have has:∀x,(x,qY)∈sc.names->∃c,(f9 X.env.cells sc.names []).lookup x=a_ c:=λx e=>
  EL sc.names [] x e (I.ok.has x (.inl (S.frees _ e xz)))
 refine⟨⟨I.ok.mod,S.kind,I.ok.glob,I.ok.blt,aA _,λx y c e1 e2=>I.ok.inj x y c (mY x c e1) (mY y c e2),λx h=>has x (back x h),λx c h=>(by cases h),I.ok.hd,I.ok.frames,.inl xz,λb hb=>?_,I3.bs,cu I.ok.nD I3.sz,λb o e hb=>?_,λb hb=>?_,I3.stack,I3.KZ⟩,I.os ▸ xz,I.bare,Un.kept hk,⟨m,iT,λk x v e1 e2 e3=>?_⟩,λx c e=>?_,I3.aH.fresh (aA _),λx c e=>I.kR x c (mY x c e),λp hp=>absurd (show p∈([]:List (e_×Obj)) from hp) (by simp),I3.aH.kept hk,KP S.le⟩
 .rcases bX.mp hb with e | hb
  .subst e;exact⟨by rw[hC];exact cC (qW _),λx c e=>cC (clt x c e)⟩
  .refine⟨by rw[hC];exact cC (nT (tV b hb)),λx c e=>(hf b hb).2.2.2.2.1 x c (mY x c e)⟩
 .rcases bX.mp hb with z | hb
  .subst z;exact absurd (bH (I.bk _ _ e)) (je _)
  .have e':X.base.get? b=a_ o:=e;rw[aev I (hf b hb)]at e';cases e'
 .intro hs;have Ay:=I.LI b hs;rcases bX.mp hb with z | hb
  .subst z;rcases bX.mp Ay with e | e
   .exact absurd I.lt (by rw[<-e];exact je _)
   .exact I.XE (aA _) e
  .rcases bX.mp Ay with e | e
   .exact(hf b hb).2.1 e
   .exact(hf b hb).2.2.1 e
 .refine aq (KQ e2) λi h1 h2=>oA (S.YW k i x h1 e1) λh3 h4=>?_;have ky:=t_ h4;have tG:X.env.scope.names.lookup x=a_ .cell:=S.frees _ ky rfl;refine aq I.loc λm' CU CY=>aq (CY i x v h3 h2 (.inr (.inl tG))) λu r l=>au u r (.inr ⟨.inl (Rk I.ok.kind h4 tG),?_⟩);rcases l with ⟨q,_⟩ | ⟨_,c,ec,z⟩
  .have q':X.env.scope.names.lookup x=a_ .local:=q;rw[tG]at q';cases q'
  .refine oE (has x ky) λc' Di=>?_;have:=mY x c' Di;rw[ec]at this;cases this;exact au c Di (z.keeps λb o e=>hk b o (bh _ e))
 .exact oE (I.cell x c (mY x c e)) λv z=>⟨v,z.keeps λb o e=>hk b o (bh _ e)⟩
def afO(I:Inv X p_ σ H s)(hf:∀b∈fp,iN X p_ H b)
  (I':Inv (lU X sc N (kG s) H (s.zS::fp) (s.heap.push eA).zH EE) pl σ' H' s'):Inv X p_ σ H' s':=by
 have I3:Inv X p_ σ H (kG s):=I.kept (t':=s.toks) λb o e=>bh _ e;have fa:=I.i8 (aA _) (I.aH.fresh (aA _));refine I3.Xg (ch:=s.zS::fp) (I'.os.trans xz) I'.base I'.aH I'.bare λb hb=>?_
 have q:iN X p_ H b:=by
  rcases bX.mp hb with e | hb
  .subst e;exact fa
  .exact hf b hb
 exact⟨q.2.2.2.1,q.2.1,q.2.2.2.2.1,q.2.2.2.2.2⟩
end
abbrev Cj:=St->Hp->(Bool->Hp->Prop)->Prop
def ng:Cj:=λ_ H Q=>Q c_ H
def Cm(X:Cx)(ifs:List Expr)(t:Cj):Prop:=
 ∀(p_:List (e_×Obj)) (s:g_) (σ:St) (H:Hp) (Q:Bool->Hp->Prop),Inv X p_ σ H s->t σ H Q->wpAny (model X.prog X.w) X.A (tests ifs X.env) (TP X p_ σ Q) X.xe s
def i3:Cm X [] ng:=λ_ _ _ H _ I h=>adn ⟨H,I,h⟩
def wJ{t:TT}(h:PT X c t):Cm X [c] t:=λp_ s σ H Q I q=>adm (h p_ s σ H Q I q)
def BZ(n:Nat)(σ σ2:St):Prop:=σ2.length=σ.length/\∀i,i<n->σ2[i]?=σ[i]?
def FV(J:It)(g:TG)(tc:Cj)(te:TE)(σ0:St)(H1:Hp)(K:List V->Hp->Prop):Prop:=
 ∃W:Nat->Nat->List V->Hp->Prop,(∃m,W 0 m [] H1)/\∀i m ys H,W i m ys H->
  (J.stop i H/\K ys H)\/
  (J.go i H/\ys.length<bw/\∃N:List V->Hp->Prop,(∀zs H',N zs H'->∃m',m'<m/\W (i+1) m' zs H')/\
   ∀x H',J.tP i H x H'->g x σ0 H' λσ2 H2=>tc σ2 H2 λb H3=>if b=c_ then te σ2 H3 (λy H4=>N (ys++[y]) H4) else N ys H3)
def MB(wi:TI)(g:TG)(tc:Cj)(te:TE)(idx:List Nat)(n:Nat):TE:=λσ H Q=>wi σ H λJ H1=>
 FV J g tc te (jX idx n σ) H1 λys H2=>ys.length<=bw/\∀p,H2 p=b_->Q (.ref p) (upd H2 p (.lst ys))
def zH(n:Nat)(g:TG):Prop:=∀x σ H Q,g x σ H Q->g x σ H λσ2 H2=>Q σ2 H2/\BZ n σ σ2
def Kx{n k:Nat}(h:n<=k):BZ n σ (σ.set k v):=⟨mD,λi hi=>lG li⟩
def iG{n k:Nat}(h:n<=k):zH n (i6 k):=λx σ H Q q=>⟨q,Kx h⟩
def Bh{K:u_}{n k l:Nat}(h:n<=k)(h':n<=l):zH n (XJ K 2 (Nh (i6 k) (Nh (i6 l) XM))):=λx σ H Q q=>by
 refine jf q λa xs e1 e2 e3 aa=>bQ aa λv r e4 aa=>eD aa λv' r' e5 e6 q=>⟨a,⟨xs,e1,e2,e3,v,r,e4,v',r',e5,e6,q,?_⟩⟩;have k1:BZ n σ (σ.set k (a_ v)):=Kx h;have k2:BZ n (σ.set k (a_ v)) ((σ.set k (a_ v)).set l (a_ v')):=Kx h';exact⟨k2.1.trans k1.1,λi hi=>(k2.2 i hi).trans (k1.2 i hi)⟩
def Tn(I:Inv X p_ σ2 H s)(k:BZ idx.length (jX idx n σ) σ2):Inv X p_ (jX idx n σ) H s:=
 I.weak k.1.symm λi v e=>by
  refine aq (KQ e) λj h1 _=>?_;rw[k.2 i (bK.mp h1).1];exact e
def gr{K:List V->Hp->Prop}(P:Nat->List V->Hp->Prop)(hn:n<=bw)(h0:P 0 [] H1)(hle:∀i ys H,P i ys H->ys.length<=i)
  (Pw:∀i ys H,i<n->P i ys H->J.go i H) (cB:∀ys H,P n ys H->J.stop n H)
  (hs:∀i ys H,i<n->P i ys H->∀x H',J.tP i H x H'->g x σ0 H' λσ2 H2=>tc σ2 H2 λb H3=>if b=c_ then te σ2 H3 (λy H4=>P (i+1) (ys++[y]) H4) else P (i+1) ys H3)
  (hd:∀ys H,P n ys H->K ys H):FV J g tc te σ0 H1 K:=by
 refine⟨λi m ys H=>m=n-i/\i<=n/\P i ys H,⟨n,by simp,a8 _,h0⟩,?_⟩;rintro i m ys H ⟨rfl,hi,p⟩
 by_cases bz:i<n
 .refine .inr (eJ (Pw i ys H bz p) (by have:=hle i ys H p;lia) ⟨P (i+1),λzs H' p'=>⟨n-(i+1),om,xz,bz,p'⟩,hs i ys H bz p⟩)
 .have e:i=n:=li;subst e;exact .inl ⟨cB ys H p,hd ys H p⟩
section
variable{X:Cx}{tg elt iter:Expr}{ifs:List Expr}{wi:TI}{g:TG}{tc:Cj}{te:TE}{sc:Scope}{N:List Str}{idx:List Nat}{pos:Pos}
def Us{K:List V->Hp->Prop}{RR:e_->f_->Result->g_->Prop}(hc:X.calm=c_)(S:dw X sc N idx)(gk:zH idx.length g)
  {fp:List e_} {tn:Nat->i_->Prop} {J:It} (hg:PG (lU X sc N (kG s) H (s.zS::fp) (s.heap.push eA).zH EE) tg g) (ht:Cm (lU X sc N (kG s) H (s.zS::fp) (s.heap.push eA).zH EE) ifs tc) (he:PE (lU X sc N (kG s) H (s.zS::fp) (s.heap.push eA).zH EE) elt te) (I:Inv X p_ σ H s) (T:Turn X.prog X.w X.K tg J fp it tn) (st:tn 0 s.heap) (hf:∀b∈fp,iN X p_ H b) (hW:FV J g tc te (jX idx N.length σ) H K)
  (PY:∀e s',EE e s'->notedBy (model X.prog X.w) X.A (compEnvC sc (f9 X.env.cells sc.names []) (s.heap.push eA).zH X.env) (λe s'=>RR (s.heap.push eA).zH (.ref s.zS) (.error e) s') e s')
  (hR:∀(s':g_) (ys:List V) (H':Hp) (m:Str->Option f_) (its:List f_) (n:Nat),K ys H'->Inv X p_ σ H' s'->s'.heap.Ns (s.heap.push eA).zH m->H' (s.heap.push eA).zH=b_->H' s.zS=b_->Vals ys its->
   s'.heap.get? s.zS=a_ { cls:=.type "list",data:=.seq its.toArray n }->RR (s.heap.push eA).zH (.ref s.zS) (.ok .next) s') :
  wpAny (model X.prog X.w) X.A (newList []) (λacc s₃=>wpAny (model X.prog X.w) X.A (newFunctionEnv sc X.env.globals (f9 X.env.cells sc.names []) [] X.env.qual b_ .none (a_ X.env)) (λYr s₄=>
   codeAny (model X.prog X.w) X.A (.compStart (.ListComp elt [⟨tg,iter,ifs,0⟩] sc pos) 0 (.ref it) acc { Yr with scope:=relabel sc X.env }) (RR Yr.locals acc) s₄) E s₃) E s:=by
 refine aq hW λW aa turn=>oE aa λm0 w0=>nR (wpAny_newFunctionEnv S.Fh (by intro y hy;cases hy) (λh' iT Ax=>?_) S.kind);have hC:(s.heap.push eA).zH=s.zS+1:=kC _ _;have hk:∀b o,(s.heap.push eA).get? b=a_ o->h'.get? b=a_ o:=λb o e=>(Ax.2 b (cC (bH e))).trans (bh _ e);have ho:∀b∈fp,∃o,s.heap.get? b=a_ o:=λb hb=>let ⟨o,e,_⟩:=T.obj _ _ st b hb;⟨o,e⟩
 have I0:=afP (EE:=EE) (t:=s.toks+([]:List (Str×f_)).length) I S hf ho iT hk
 have fn:∀b∈fp,b≠s.zS:=λb hb=>by
  exact oE (ho b hb) λo e=>cC (bH e)
 have accN:=I.aH.fresh (aA _)
 have P5:∀{H':Hp} {pl:List (e_×Obj)},(∀b∈fp,H' b=b_)->(∀p∈pl,p.1=s.zS)->∀b∈fp,iN (lU X sc N (kG s) H (s.zS::fp) (s.heap.push eA).zH EE) pl H' b:=λ{H' pl} hn hp b hb=>by
  refine⟨(hn b hb),((I0.ok.vL b (eL _ hb)).1),(I0.ok.vq b (eL _ hb)),(.inl (eL _ hb)),((I0.ok.vL b (eL _ hb)).2),(λp hq=>?_)⟩;have xY:p∈pl:=by simpa[lU]using hq
  rw[hp p xY];exact cH (fn b hb)
 have loop:codeAny (model X.prog X.w) X.A (.compLoop (.ListComp elt [⟨tg,iter,ifs,0⟩] sc pos) 0 (.ref it) (.ref s.zS) (compEnvC sc (f9 X.env.cells sc.names []) (s.heap.push eA).zH X.env))
   (RR (s.heap.push eA).zH (.ref s.zS)) { kG s with heap:=h',toks:=s.toks+([]:List (Str×f_)).length }:=by
  refine aej (EE:=EE) (λn s'=>∃i ys H' its k,Inv (lU X sc N (kG s) H (s.zS::fp) (s.heap.push eA).zH EE) [] (jX idx N.length σ) H' s'/\tn i s'.heap/\(∀b∈fp,H' b=b_)/\H' s.zS=b_/\
   Vals ys its/\s'.heap.get? s.zS=a_ { cls:=.type "list",data:=.seq its.toArray k }/\W i n ys H') PY ?_ m0 ?_
  .rintro n s3 ⟨i,ys,H3,its,kk,I3,gf,De,HZ,Hk,ac3,w3⟩
   have Gr:∀{H':Hp},H' s.zS=b_->iN (lU X sc N (kG s) H (s.zS::fp) (s.heap.push eA).zH EE) [] H' s.zS:=λ{H'} hn=>
    ⟨hn,(I0.ok.vL _ du).1,I0.ok.vq _ du,.inl du,(I0.ok.vL _ du).2,λp hq=>absurd (show p∈([]:List (e_×Obj)) from hq) (by simp)⟩
   have P3:Inv (lU X sc N (kG s) H (s.zS::fp) (s.heap.push eA).zH EE) [(s.zS,{ cls:=.type "list",data:=.seq its.toArray kk })] (jX idx N.length σ) H3 s3:=I3.uS λp hp=>by
    have e:p=(s.zS,{ cls:=.type "list",data:=.seq its.toArray kk }):=by simpa using hp
    subst e;exact⟨ac3,HZ,((Gr HZ).2.1),((Gr HZ).2.2.1),(λv z=>by cases z)⟩
   have one:∀p∈[((s.zS,{ cls:=.type "list",data:=.seq its.toArray kk }):e_×Obj)],p.1=s.zS:=λp hp=>by
    have e:p=(s.zS,{ cls:=.type "list",data:=.seq its.toArray kk }):=by simpa using hp
    rw[e]
   rcases turn i n ys H3 w3 with ⟨stop,kq⟩ | ⟨go,hz,NN,hNN,step⟩
   .refine aR (T.done (lU X sc N (kG s) H (s.zS::fp) (s.heap.push eA).zH EE) xz xz xz hc i _ s3 _ H3 _ P3 (P5 De one) gf stop) λr s4 ⟨hr,I4⟩=>⟨λ_=>?_,λv e=>(by rw[hr]at e;cases e)⟩;exact aq I4.loc λm' CU _=>hR s4 ys H3 m' its kk kq (afO I hf I4) CU I4.free HZ Hk (I4.pin _ (fb _ du)).1
   .refine aR (T.item (lU X sc N (kG s) H (s.zS::fp) (s.heap.push eA).zH EE) xz xz xz hc i _ s3 _ H3 _ P3 (P5 De one) gf go) λr s4 ⟨u,hr,h4⟩=>⟨λe=>(by rw[hr]at e;cases e),λv e=>?_⟩;rw[hr]at e;cases e;refine aR h4 λ_ s5 ⟨x,H5,I5,r5,y5,gZ,P4⟩=>?_;have Qc:=I5.pinned (P5 P4 one) (T.obj _ _ gZ);refine aR (hg _ s5 _ H5 x u _ Qc r5 (gk _ _ _ _ (step x H5 y5))) λ_ s6 zq=>eD zq λσ6 H6 I6 q6 k6=>thT (ht _ s6 σ6 H6 _ I6 q6) λok s7 H7 I7 q7=>⟨λe=>?_,λe=>?_⟩
    .subst e;rw[if_pos rfl]at q7;refine YC (he _ s7 σ6 H7 _ I7 q7) λv s8 y H8 I8 r8 n8=>aq (hNN _ _ n8) λm' hm w8=>?_;have pa:=I8.pin (s.zS,{ cls:=.type "list",data:=.seq its.toArray kk }) (fb _ (nN _ du));have hlen:=Hk.length;refine wpAny_list_append_plain (items:=its.toArray) ⟨kk,pa.1⟩ (λh9 pl9 Y8=>?_) (by rw[cN];lia);have Qb:=I8.uS λp hp=>I8.pin p (fb _ (fb _ hp))
     have I9:=Qb.turned (h':=h9) (t':=s8.toks) (it:=s.zS) (λb o hb e=>(Y8.2 b hb).trans e) pa.2.1 (Gr pa.2.1).2.1 (.inl du) (Gr pa.2.1).2.2.2.2.1 (λp hp=>by
      have AB:p∈BH fp s5.heap:=by simpa[lU]using hp
      exact fn p.1 (SK AB).1)
     refine oE pl9 λk9 e9=>⟨m',⟨hm,i+1,ys++[y],H8,its++[v],k9,Tn (I9.uS λp hp=>absurd hp (by simp)) k6,T.keep _ _ _ gZ λb hb o e=>?_,λb hb=>?_,pa.2.1,Hk.append (.cons r8 .nil),?_,w8⟩⟩
     .have q:=(Qb.pin (b,o) (fb _ (yO hb e))).1;exact(Y8.2 b (fn b hb)).trans q
     .exact aq (T.obj _ _ gZ b hb) λo e _=>(Qb.pin (b,o) (fb _ (yO hb e))).2.1
     .rw[e9];simp
    .subst e;rw[if_neg dU]at q7;refine aq (hNN _ _ q7) λm' hm w7=>?_;have pa:=I7.pin (s.zS,{ cls:=.type "list",data:=.seq its.toArray kk }) (fb _ (nN _ du));exact⟨m',⟨hm,i+1,ys,H7,its,kk,Tn (I7.uS λp hp=>absurd hp (by simp)) k6,T.keep _ _ _ gZ λb hb o e=>(I7.pin (b,o) (fb _ (fb _ (yO hb e)))).1,λb hb=>aq (T.obj _ _ gZ b hb) λo e _=>(I7.pin (b,o) (fb _ (fb _ (yO hb e)))).2.1,pa.2.1,Hk,pa.1,w7⟩⟩
  .exact⟨0,([]),H,([]),0,I0,(T.keep _ _ _ st λb hb o e=>hk b o (bh _ e)),(λb hb=>(hf b hb).1),accN,.nil,(hk _ _ (dh _ xz)),w0⟩
 exact codeAny_compStart_list loop (T.self _ 0 _ _ _ (T.keep _ _ _ st λb hb o e=>hk b o (bh _ e)) loop)
def iJ(hc:X.calm=c_)(S:dw X sc N idx)(gk:zH idx.length g)(hi:PI X tg iter wi)
  (hg:∀s H ex C,PG (Aj X sc N s H ex C) tg g) (ht:∀s H ex C,Cm (Aj X sc N s H ex C) ifs tc) (he:∀s H ex C,PE (Aj X sc N s H ex C) elt te)
  (hs:∀x,QG iter X.env x=pure x:=by intro _;rfl):PE X (.ListComp elt [⟨tg,iter,ifs,0⟩] sc pos) (MB wi g tc te idx N.length):=by
 intro p_ s σ H Q I h;rw[eval_ListComp];have jt:=Jv λp hp e=>I.ok.has p.1 (.inl (S.frees p hp e));refine aaq (use:=b_) xz hs jt S.kind S.locs (aR (hi p_ s σ H _ I h) λv s1 h1=>aR h1 λHt s2 h2=>D' h2 λit fp tn J H2 e I2 T dq f2 hW=>?_);subst e;refine Us (EE:=λ_ _=>False) (RR:=λC acc=>compPost (model X.prog X.w) X.A X.xe b_ (EP X p_ σ Q) acc C) hc S gk (hg _ _ _ _) (ht _ _ _ _) (he _ _ _ _) I2 T dq f2 hW (λ_ _ z=>z.elim) λs' ys H' m its n kq I' iT PZ Dd rv ea=>?_;have hC:(s2.heap.push eA).zH=s2.zS+1:=kC _ _;have fa:=I2.i8 (aA _) (I2.aH.fresh (aA _));have fC:iN X p_ H2 (s2.heap.push eA).zH:=I2.i8 (by rw[hC];exact jy _) (I2.aH.fresh (by rw[hC];exact jy _));have ya:=I2.sz;have I1:=Inv.adopt (o:=.lst ys) I' Dd ya fa.2.1 fa.2.2.2.2.1 fa.2.2.2.2.2 ⟨kq.1,its,n,rv,ea⟩;refine au m iT λh' sb=>(dP (.ref s2.zS) _ (I1.turned (h':=h') (t':=s'.toks) (it:=(s2.heap.push eA).zH) (λb o hb e=>(sb.2 b hb).trans e) ?_ fC.2.1 (.inr (by rw[hC];exact wm ya)) fC.2.2.2.2.1 fC.2.2.2.2.2) xz (kq.2 _ Dd));rw[ai (by rw[hC];exact II _)];exact PZ
def yM(hN:X.N.Nodup)(hx:X.N[i]?=a_ x)(hl:X.env.scope.names.lookup x=a_ .local)(hc:X.calm=c_)(S:dw X sc N idx)(gk:zH idx.length g)(hi:PI X tg iter wi)
  (hg:∀s H ex C,PG (Aj X sc N s H ex C) tg g) (ht:∀s H ex C,Cm (Aj X sc N s H ex C) ifs tc) (he:∀s H ex C,PE (Aj X sc N s H ex C) elt te)
  (hsw:Es (.ListComp elt [⟨tg,iter,ifs,0⟩] sc pos) (a_ (.Name x pos')) amU.line X.env=pure true:=by rfl)
  (hs:∀x,QG iter X.env x=pure x:=by intro _;rfl):PS X (.Assign [.Name x pos'] (.ListComp elt [⟨tg,iter,ifs,0⟩] sc pos) amU) (NK (MB wi g tc te idx N.length) (i6 i)):=by
 intro p_ s σ H D I h;rw[exec_Assign_Name_used _ _ _ _ hsw];refine ae (Rc (ae ?_));have jt:=Jv λp hp e=>I.ok.has p.1 (.inl (S.frees p hp e));show wpAny _ X.A (do let _ <-comprehension (.ListComp elt [⟨tg,iter,ifs,0⟩] sc pos) sc X.env _ (newList []) d_ (eval iter X.env) (a_ (assign (.Name x pos') X.env))) _ _ s;refine ae (ie (aaq (use:=a_ (assign (.Name x pos') X.env)) (Q:=λ_ s'=>SP X p_ D .next s') xz hs jt S.kind S.locs (aR (hi p_ s σ H _ I h) λv s1 h1=>aR h1 λHt s2 h2=>?_)) (λ_ s' q=>aF (aF q)) λ_ _ q=>q);obtain⟨it,fp,tn,J,H2,e,I2,T,dq,f2,hW⟩:=h2;subst e;refine Us (EE:=λ_ _=>False) (RR:=λC acc=>compPost (model X.prog X.w) X.A X.xe (a_ (assign (.Name x pos') X.env)) (λ_ s'=>SP X p_ D .next s') acc C) hc S gk (hg _ _ _ _) (ht _ _ _ _) (he _ _ _ _) I2 T dq f2 hW (λ_ _ z=>z.elim) λs' ys H' m its n kq I' iT PZ Dd rv ea=>?_;have hC:(s2.heap.push eA).zH=s2.zS+1:=kC _ _;have fa:=I2.i8 (aA _) (I2.aH.fresh (aA _));have fC:iN X p_ H2 (s2.heap.push eA).zH:=I2.i8 (by rw[hC];exact jy _) (I2.aH.fresh (by rw[hC];exact jy _));have ya:=I2.sz;have I1:=Inv.adopt (o:=.lst ys) I' Dd ya fa.2.1 fa.2.2.2.2.1 fa.2.2.2.2.2 ⟨kq.1,its,n,rv,ea⟩
 have anT:upd H' s2.zS (.lst ys) (s2.heap.push eA).zH=none:=by
  rw[ai (by rw[hC];exact II _)];exact PZ
 show wpAny (model X.prog X.w) X.A (assign (.Name x pos') X.env (.ref s2.zS)) _ X.xe s';refine wpAny_assign_Name (Su (v:=.ref s2.zS) I1 hN hx (.inl hl) xz (λs3 I3 ⟨a,sb,ha⟩=>?_) (.inr hl))
 have aC:(s2.heap.push eA).zH≠a:=by
  rcases ha with e | e
  .rw[e];exact fC.2.1
  .exact cH (fC.2.2.2.2.1 x a e)
 refine au m (iT.sameBut sb aC) λh' sb'=>(f7 _ _ (I3.turned (h':=h') (t':=s3.toks) (it:=(s2.heap.push eA).zH) (λb o hb e=>(sb'.2 b hb).trans e) anT fC.2.1 (.inr (by rw[hC];exact wm ya)) fC.2.2.2.2.1 fC.2.2.2.2.2) (kq.2 _ Dd))
end
end L2
namespace L2
open PySem.W
section
variable{cmp:Nat->Nat->(Bool->g_->Prop)->g_->Prop}{r:Nat->Int}{n:Nat}{p:Array Nat}{s:g_}
variable(hr:∀i j,i<n->j<n->r i=r j->i=j)(hc:∀i j (C:Bool->g_->Prop),i<n->j<n->i≠j->C (decide (r i<r j)) s->cmp i j C s)
include hr hc
end
end L2
namespace L2
open PySem.W
def ahc{h:i_}{a:e_}{m m':Str->Option f_}(x:h.Ns a m)(y:h.Ns a m'):m=m':=by
 obtain⟨o,es,ep,e,d,_,f⟩:=x;obtain⟨o',lF,AJ,e',d',_,f'⟩:=y;rw[e]at e';cases e';rw[d]at d';cases d'
 funext n
 exact(f n).symm.trans (f' n)
section
variable{X:Cx}{p_:List (e_×Obj)}{σ:St}{H:Hp}{s:g_}
def Inv.regrown{h':i_}{m:Str->Option f_}{t':Nat}{d':Drawn}(I:Inv X p_ σ H s)(h1:s.heap.Ns X.env.locals m)(h2:h'.Ns X.env.locals m)(k:∀b o,b≠X.env.locals->s.heap.get? b=a_ o->h'.get? b=a_ o) :
  Inv X p_ σ H { s with heap:=h',drawn:=d',toks:=t' }:=by
 refine I.step (g':=s.gens) (d':=d') (ch:=[]) (λ_ z=>nomatch z) (λb o hL _ _ e _=>k b o hL e) (λb o hL _ _ e _=>⟨o.slots,k b o hL e⟩) (λ_ _ _ _ n=>n) (λb o _ e=>?_) (λ_ _ e=>e) (λ_ _ _ e=>e)
  (λb ps e=>⟨#[],by rw[e];simp⟩) (λm' hm=>by rw[ahc hm h1];exact h2) (λb u e=>?_) I.bare
 .by_cases z:b=X.env.locals
  .obtain⟨o',_,_,q,_⟩:=h2;exact⟨o',by rw[z];exact q⟩
  .exact⟨o,k b o z e⟩
 .refine(I.aH b u e).tI (λd v hd q=>k d v (λz=>?_) q) (λ_ q=>q) λ_ _ q=>q;have fr:=I.free;rw[<-z]at fr;rcases hd with y | y
  .rw[y,e]at fr;cases fr
  .rw[y]at fr;cases fr
def acG{P:k_}{w:j_}{A:h_}{E:f_->g_->Prop}{a:e_}{vs:List f_}{n:Nat}{R:PySem.Fin->g_->Prop}(ho:s.heap.get? a=a_ (seqObj "list" vs.toArray n))(h1:vs.length<2)
  (k:∀h' e,(∀b o,b≠a->s.heap.get? b=a_ o->h'.get? b=a_ o)->h'.get? a=a_ (seqObj "list" vs.toArray e)->R (.done (.ret .none)) { s with heap:=h' }) :
  wpAny (model P w) A (Builtin.«list.sort» ⟨[.ref a],[]⟩) R E s:=by
 have la:=bH ho;have hn:vs.toArray.size<2:=by rw[cN];exact h1
 have zs:∀m:Nat,m<2->m<=bw:=λm hm=>by rw[fw];exact w5
 obtain⟨e1,q1⟩:∃e1,(s.heap.update a (iw λ_=>(#[]:Array f_))).get? a=a_ (seqObj "list" #[] e1):=⟨_,DJ ho λ_=>#[]⟩;rw[list_sort_plain];refine ae (listItems_at ho xz (ae (Jh ho xz (ae (Jt q1 xz (ae (IY (ae (Jg (jx ?_) (a8 _))) (zs _ (by simpa using h1)))))) (zs _ (by simpa using h1)) (a8 _))));have q3:=bh (seqObj "list" #[] 0) (bh (seqObj "tuple" vs.toArray 0) q1);dsimp only;rw[if_pos hn,if_pos hn];refine ae (aF ?_);rw[StateT.run_pure];refine ae (aF ?_);dsimp only
 have eo:(arrOf (JE general' (vs.toArray.zip vs.toArray) #[] 7 b_)).map (·.2)=vs.toArray:=by
  show (vs.toArray.zip vs.toArray).map (·.2)=vs.toArray;apply Array.toList_inj.mp;rw[abA,abz];show (vs.zip vs).map Prod.snd=vs;rw[abu (aA _)]
 rw[eo];refine ae (Jt q3 xz (ae (Jh q3 xz ?_ (a8 _) (cu (zs _ (by simpa using h1)) (jy _)))));rw[if_neg (by simp)];refine aF (k _ _ (λb o hb e=>?_) (DJ q3 λ_=>vs.toArray));rw[Dv _ _ _ _ hb];exact bh _ (bh _ (by rw[Dv _ _ _ _ hb];exact e))
end
end L2
namespace L2
open PySem.W L3
abbrev Ml(X:Cx)(sc:Scope)(qual:Str)(f:e_)(cd:f_)(L:e_):Env:=envX qual sc L f cd (f9 X.env.cells sc.names [])
def GP(X:Cx)(A:h_)(sc:Scope)(N:List Str)(qual:Str)(f:e_)(cd:f_)(s:g_)(H:Hp):Cx:=
 {X with A:=A.deeper (Ml X sc qual f cd s.zS),N:=N,s₀:=s,H₀:=H,env:=Ml X sc qual f cd s.zS,outer:=X.stack,stack:=Ml X sc qual f cd s.zS::X.stack,ex:=[],fn:=λ_=>d_,calm:=c_,pn:=[],xe:=λ_ _=>False }
section
variable{X:Cx}{p_:List (e_×Obj)}{σ:St}{H:Hp}{s:g_}{sc:Scope}{N:List Str}{idx:List Nat}{A:h_}{f:e_}{cd:f_}{qual px:Str}{k:Nat}{v:V}{u:f_}
def ahr(I:Inv X p_ σ H s)(S:dw X sc N idx)(hA:A.frames=a_ X.stack)(hh:A.handled=b_)(hk:N[k]?=a_ px)(hl:sc.names.lookup px=a_ .local)(hi:idx.length<=k)(r:RelV v u){t:Nat}
  (iT:h'.Ns s.zS m) (hm:m px=a_ u) (kp:∀b o,s.heap.get? b=a_ o->h'.get? b=a_ o) :
  Inv (GP X A sc N qual f cd s H) [] ((jX idx N.length σ).set k (a_ v)) H { s with heap:=h',toks:=t }:=by
 have mY:∀x c,(f9 X.env.cells sc.names []).lookup x=a_ c->X.env.cells.lookup x=a_ c:=EK sc.names [] (λx c e=>by cases e);have has:=λx e=>EL sc.names [] x e (I.ok.has x (.inl (S.frees _ e xz)));have sA:∀b:e_,b∉(GP X A sc N qual f cd s H).ex:=λb z=>absurd (show b∈([]:List e_) from z) (by simp);refine⟨⟨I.ok.mod,S.kind,xz,xz,aA _,λx y c e1 e2=>I.ok.inj x y c (mY x c e1) (mY y c e2),λx h=>?_,λx c h=>(by cases h),λ_=>hh,aaT hA,.inr ⟨xz,xz⟩,λb z=>absurd z (sA b),I.bs,cu I.ok.nD I.sz,λb _ _=>sA b,λb z=>absurd z (sA b),I.stack,I.KZ⟩,xz,I.bare,Un.kept kp,⟨m,iT,λj x w e1 e2 e3=>?_⟩,λx c e=>?_,I.aH.fresh (aA _),λx c e=>I.kR x c (mY x c e),λp hp=>absurd (show p∈([]:List (e_×Obj)) from hp) (by simp),I.aH.kept kp,by rw[mD];exact KP S.le⟩
 .have h2:sc.names.lookup x=a_ .cell\/sc.names.lookup x=a_ .free:=h;rcases h2 with z | z
  .exact absurd xz (S.Fh _ (t_ z))
  .exact has x (t_ z)
 .have P9:N[j]?=a_ x:=e1
  by_cases hj:j=k
  .subst hj;rw[hk]at P9;cases P9;have bz:j<(jX idx N.length σ).length:=by rw[KP S.le];exact(bK.mp hk).1
   rw[gC bz]at e2;cases e2;exact⟨u,r,.inl ⟨hl,hm⟩⟩
  .rw[lG (cH hj)]at e2;obtain⟨i,h1,h2⟩:=KQ e2;obtain⟨h3,h4⟩:=S.YW j i x h1 P9;have ky:=t_ h4;have tG:X.env.scope.names.lookup x=a_ .cell:=S.frees _ ky rfl;obtain⟨m',CU,CY⟩:=I.loc;obtain⟨u',r',l⟩:=CY i x w h3 h2 (.inr (.inl tG));refine⟨u',r',.inr ⟨.inr h4,?_⟩⟩;rcases l with ⟨q,_⟩ | ⟨_,c,ec,z⟩
   .have q':X.env.scope.names.lookup x=a_ .local:=q;rw[tG]at q';cases q'
   .obtain⟨c',Di⟩:=has x ky;have:=mY x c' Di;rw[ec]at this;cases this;exact⟨c,Di,z.keeps λb o e=>kp b o e⟩
 .obtain⟨v',z⟩:=I.cell x c (mY x c e);exact⟨v',z.keeps λb o e=>kp b o e⟩
def afs(I:Inv X p_ σ H s)(S:dw X sc N idx)(hA:A.frames=a_ X.stack)(hh:A.handled=b_)(Xk:A.depth<DX)(hk:N[k]?=a_ px)
  (hl:sc.names.lookup px=a_ .local) (hi:idx.length<=k) (r:RelV v u) (ho:s.heap.get? f=a_ (kla_obj "<lambda>" qual params body sc (f9 X.env.cells sc.names []) pm c' pE)) (iU:s.heap.CodeRec (.ref c') qual)
  (B1:uO (kla_fn "<lambda>" qual params body sc (f9 X.env.cells sc.names []) pm (.ref c') pE) ⟨[u],[]⟩=pure [(px,u)]) (PH:sc.isCoroutine=d_) (Oo:sc.isGenerator=d_)
  (hb:PE (GP X A sc N qual f (.ref c') s H) body te) (q:te ((jX idx N.length σ).set k (a_ v)) H Q):wpAny (model X.prog X.w) A (call (.ref f) [u]) (EP X p_ σ Q) E s:=by
 refine Jz (kla_callFunE Xk ho xz PH Oo xz iU ?_);rw[B1];refine aF (wpAny_newFunctionEnv S.Fh (λy hy=>?_) (λh1 iT Ax=>⟨I.nolimit.fresh _ Ax,?_⟩) S.kind)
 .have e:y=(px,u):=by simpa using hy
  rw[e];exact hl
 .have kp:∀b o,s.heap.get? b=a_ o->h1.get? b=a_ o:=λb o e=>Ax.extBut b o (cC (bH e)) (bh _ e);have J:=ahr (A:=A) (f:=f) (cd:=.ref c') (qual:=qual) (t:=s.toks+[(px,u)].length) I S hA hh hk hl hi r iT (by simp[lJ]) kp;refine kla_codeExpr (ie (hb [] _ _ H _ J q) (λw s2 hw=>?_) λ_ _ z=>mH z);obtain⟨v2,H2,J2,r2,q2⟩:=hw;exact⟨v2,H2,I.Xg (ch:=[]) (J2.os.trans xz) J2.base J2.aH J2.bare λb z=>absurd z (by simp),r2,q2⟩
end
def Ak(c:e_)(qual:Str):HO:=.ext λh=>h.CodeRec (.ref c) qual
def ajf{P:k_}{w:j_}(x:h.CodeRec (.ref c) qual):dI P w H h c (Ak c qual):=by
 obtain⟨c0,o,vs,t,e,q,r⟩:=id x;cases e;refine⟨x,⟨o,q⟩,λh1 h2 y k=>?_⟩;obtain⟨c1,o1,Ct,t1,e1,q1,r1⟩:=y;cases e1;exact⟨c,o1,Ct,t1,xz,k _ q1,r1⟩
def cQ(P:e_)(pos:Pos)(qual:Str)(H:Hp):Prop:=∃ps,H P=a_ (.eY ps)/\(ps=#[]\/∃c,ps=#[rawInt pos.line,rawInt pos.col,.ref c]/\H c=a_ (Ak c qual))
def vj(P:e_)(H H':Hp):Prop:=∀b o,b≠P->H b=a_ o->H' b=a_ o
def vj.refl{P:e_}(H:Hp):vj P H H:=λ_ _ _ e=>e
def tN(mg:Str->Option f_)(base:i_):Prop:=∃bm ob,mg "__builtins__" = a_ (.ref bm)/\bm≠rh/\bm≠eN/\base.get? bm=a_ ob/\ob.cls=.type "module"/\ob.dict=a_ rh/\ob.data=.plain
section
variable{X:Cx}{p_:List (e_×Obj)}{σ:St}{H:Hp}{s:g_}
def Inv.grow{P:e_}(I:Inv X p_ σ H s)(hP:H P=a_ (.eY ps))(k:∀b o,b≠P->s.heap.get? b=a_ o->h'.get? b=a_ o)(e:h'.get? P=a_ (tabObj (ps++more))) :
  Inv X p_ σ (upd H P (.eY (ps++more))) { s with heap:=h',toks:=t' }:=by
 have ne:∀b,H b=b_->b≠P:=λb n z=>by rw[z,hP]at n;cases n
 refine I.step (g':=s.gens) (d':=s.drawn) (ch:=[]) (λ_ z=>nomatch z) (λb o _ _ _ q n=>k b o (ne b n) q) (λb o _ _ _ q n=>⟨o.slots,k b o (ne b n) q⟩) (λb o _ q n=>by rw[ai (ne b n)];exact n) (λb o _ q=>?_) (λb xs q=>?_) (λb o u q=>?_) (λb qs q=>?_)
  (λm hm=>?_) (λb u q=>?_) I.bare
 .by_cases z:b=P
  .exact⟨_,by rw[z];exact e⟩
  .exact⟨o,k b o z q⟩
 .rw[ai (gU q hP (by intro z;cases z))];exact q
 .rw[ai (gU q hP (by intro z;cases z))];exact q
 .by_cases z:b=P
  .subst z;rw[hP]at q;cases q;exact⟨more,ao⟩
  .exact⟨#[],by rw[ai z,q];simp⟩
 .obtain⟨o,es,ep,q,r⟩:=hm;exact⟨o,es,ep,k _ o (ne _ I.free) q,r⟩
 .by_cases z:b=P
  .subst z;rw[ao]at q;cases q;exact e
  .rw[ai z]at q;refine(I.aH b u q).tI (λd v hd y=>k d v (λw=>?_) y) (λc y=>?_) λc xs y=>?_
   .rcases hd with y1 | y1
    .exact z (y1.symm.trans w)
    .rw[w,hP]at y1;cases y1
   .rw[ai (gU y hP (by intro z;cases z))];exact y
   .rw[ai (gU y hP (by intro z;cases z))];exact y
def Inv.F2(I:Inv X p_ σ H s)(g:iN X p_ H f)(e:s.heap.get? f=a_ o)(n:∀v,o.data≠.cell v):Inv X (p_++[(f,o)]) σ H s:=
 I.uS λp hp=>by
  rcases dH.mp hp with z | z
  .exact I.pin p (fb _ z)
  .have z':p=(f,o):=by simpa using z
   rw[z'];exact⟨e,g.1,g.2.1,g.2.2.1,n⟩
def afr{c P:e_}(I:Inv X p_ σ H s)(S:dw X sc N idx)(FY:X.env.code=.ref c)(C:CodeHd X.base c P)(B:tN X.mg X.base)
  (Oq:defaultsOf params X.env=([],[])) (h:cQ P pos (X.env.qual ++ "<lambda>") H)
  (k:∀f c' H' pm pE s',Inv X (p_++[(f,kla_obj "<lambda>" (X.env.qual ++ "<lambda>") params body sc (f9 X.env.cells sc.names []) pm c' pE)]) σ H' s'->vj P H H'->cQ P pos (X.env.qual ++ "<lambda>") H'->H' c'=a_ (Ak c' (X.env.qual ++ "<lambda>"))->R (.ref f) s') :
  wpAny (model X.prog X.w) X.A (eval (.Lambda params body sc pos) X.env) R E s:=by
 have jt:=Jv λp hp e=>I.ok.has p.1 (.inl (S.frees p hp e));obtain⟨ps,hP,dS⟩:=h;have oP:s.heap.get? P=a_ (tabObj ps):=I.aH P _ hP;obtain⟨bm,ob,b1,b2,b3,b4,b5,b6,b7⟩:=B
 have nP:∀b o,X.base.get? b=a_ o->b≠P:=λb o e z=>by
  have:=(I.bs b o e).2;rw[z,hP]at this;cases this
 have hgl:=I.mod.glob.keeps I.bk
 have gP:eN≠P:=by
  obtain⟨o,es,ep,e,_⟩:=I.mod.glob;exact nP _ _ e
 have hb:s.heap.BuiltinsAt X.mg P:=⟨bm,ob,b1,b2,b3,nP _ _ b4,I.bk _ _ b4,b5,b6,b7⟩;have CC:=C.keeps I.bk;refine kla_eval Oq ?_;rcases dS with rfl | ⟨c0,rfl,PK⟩
 .refine kla_makeFunction (mg:=X.mg) jt I.ok.glob hgl FY CC oP nZ xz gP hb λc' pE h' tk hx lC bz ank htb=>?_
  have I1:Inv X p_ σ (upd H P (.eY (#[] ++ #[rawInt pos.line,rawInt pos.col,.ref c']))) { s with heap:=h'.push (kla_obj "<lambda>" (X.env.qual ++ "<lambda>") params body sc (f9 X.env.cells sc.names []) ((X.mg "__name__").getD .none) c' pE),toks:=tk }:=
   I.grow hP (λb o n e=>bh _ (hx b o n e)) (bh _ htb)
  have ZM:=bH oP;have nc:=I.aH.fresh lC;have cP:=qZ (gj ZM lC);have nc1:upd H P (.eY (#[] ++ #[rawInt pos.line,rawInt pos.col,.ref c'])) c'=none:=by rw[ai cP];exact nc
  have fc:=I.i8 (b:=c') lC nc;have I2:=Inv.adopt (o:=Ak c' (X.env.qual ++ "<lambda>")) I1 nc1 (cu I.sz lC) fc.2.1 fc.2.2.2.2.1 fc.2.2.2.2.2 (ajf (ank.push _));have Px:=cu lC (cY bz);have fP:=qZ (gj ZM Px)
  have nf:upd (upd H P (.eY (#[] ++ #[rawInt pos.line,rawInt pos.col,.ref c']))) c' (Ak c' (X.env.qual ++ "<lambda>")) h'.zH=none:=by
   rw[ai (qZ bz),ai fP];exact I.aH.fresh Px
  have I3:=I2.F2 (I.i8 (b:=h'.zH) Px nf) (dh _ xz) (λv z=>by cases z);refine k _ c' _ _ pE _ I3 (λb o n e=>?_) ⟨_,by rw[ai (cH cP),ao],.inr ⟨c',by simp,ao⟩⟩ ao;rw[ai (bp e nc),ai n];exact e
 .have HP:s.heap.CodeRec (.ref c0) (X.env.qual ++ "<lambda>"):=(I.aH c0 _ PK).1;have hf:codeAmong pos (#[rawInt pos.line,rawInt pos.col,dj c0]:Array f_).toList=a_ (.ref c0):=by simp[codeAmong,rawInt]
  refine kla_makeFunctionHit (mg:=X.mg) jt I.ok.glob hgl FY CC oP (show TriplesOk [rawInt pos.line,rawInt pos.col,dj c0] from nZ) hf hb λpE h' tk kk lC=>?_;have I1:Inv X p_ σ H { s with heap:=h'.push (kla_obj "<lambda>" (X.env.qual ++ "<lambda>") params body sc (f9 X.env.cells sc.names []) ((X.mg "__name__").getD .none) c0 pE),toks:=tk }:=I.kept λb o e=>bh _ (kk b o e);have I3:=I1.F2 (I.i8 (b:=h'.zH) lC (I.aH.fresh lC)) (dh _ xz) (λv z=>by cases z);exact k _ c0 _ _ pE _ I3 (vj.refl H) ⟨_,hP,.inr ⟨c0,xz,PK⟩⟩ PK
end
end L2
namespace L2
open PySem.W
def Xh(ts:List e_)(H:Hp):Prop:=(∀b,H b=b_\/(∃o xs,H b=a_ (.lX o (.lst xs)))\/(b∈ts/\H b=a_ (.eY #[])))/\∀b∈ts,H b=a_ (.eY #[])
def ad0{P:k_}{w:j_}{K:u_}{mg mb:Str->Option f_}{k:Nat}
  (KX:K.In s₁.heap) (iT:s₁.heap.Ns eN mg) (hb:s₁.heap.Ns rh mb) (hbb:∀x:Str,x ≠ "__name__"->mb x=pK x) (anE:s₁.heap.NoLimit) (hg:s₁.gens=#[]) (v5:tN mg s₁.heap)
  (xX:∀b∈ts,s₁.heap.get? b=a_ (tabObj #[])) (htc:∀b∈ts,isCodeTable s₁.heap b) (HB:∀b∈ts,K.lookup b=b_)
  (ha:s₁.heap.get? a=a_ { cls:=.type "list",data:=.seq vs.toArray }) (hi:IntsAre vs ns) (hl:ns.length<=bw) (hr:eG k callerA)
  (F:∀base:i_,K.In base->base.Ns eN mg->tN mg base->aG P w K mg base CX k fa fd [x] sp) (B1:∀(s:g_) (u:f_),BindsTo s fd ⟨[u],[]⟩ [(x,u)])
  (pj:∀H:Hp,Xh ts H->aj K H a (ns.map V.int)->sp [.ref a] H (λv _=>v=.bl c_) λ_ _ _=>False)
  (hCX:∀H e s',CX [] H s₁ (λ_ _ _=>False) e s'->False) :
  codeAny (model P w) callerA (.call (.ref fa) ⟨[.ref a],[]⟩) (λr s'=>r=.ok (.ret (.bool c_))/\OldK s₁.heap s'.heap/\s'.os=s₁.os/\AllBare s'.gens) s₁:=by
 have rv:=JG hi;have amW:=hi.length
 have ant:a∉ts:=λz=>by
  have e:=xX a z;rw[ha]at e;cases e
 have core:∀H:Hp,Xh ts H->aj K H a (ns.map V.int)->eR P w H s₁.heap->(∀b,H b≠b_->b=a\/b∈ts)->(H a≠b_->K.lookup a=b_)->
   codeAny (model P w) callerA (.call (.ref fa) ⟨[.ref a],[]⟩) (λr s'=>r=.ok (.ret (.bool c_))/\OldK s₁.heap s'.heap/\s'.os=s₁.os/\AllBare s'.gens) s₁:=by
  intro H hO hS aH hA hK;have base_of:∀{b:e_} {o:Obj},s₁.heap.get? b=a_ o->H b=b_->(rY s₁.heap H).get? b=a_ o:=λe n=>afA e n
  have sA:∀{b:e_} {o:Obj},s₁.heap.get? b=a_ o->(∀xs n,o.data≠.seq xs n)->(∀xs,o.data≠.fields xs)->H b=none:=λ{b o} e d1 d2=>by
   cases q:H b with
   | none=>rfl
   | some u=>
    rcases hA b (by rw[q];simp)with z | z
    .subst z;rw[ha]at e;cases e;exact absurd xz (d1 _ _)
    .rw[xX b z]at e;cases e;exact absurd xz (d2 _)
  have Hm:∀{b:e_} {m:Str->Option f_},s₁.heap.Ns b m->(rY s₁.heap H).Ns b m:=λ{b m} ⟨o,es,ep,e,d,r⟩=>⟨o,es,ep,base_of e (sA e (λ_ _ z=>by rw[d]at z;cases z) λ_ z=>by rw[d]at z;cases z),d,r⟩
  have hKb:K.In (rY s₁.heap H):=λb o e=>base_of (KX b o e) (by
   cases q:H b with
   | none=>rfl
   | some u=>
    rcases hA b (by rw[q];simp)with z | z
    .subst z;rw[hK (by rw[q];simp)]at e;cases e
    .rw[HB b z]at e;cases e)
  have hB:tN mg (rY s₁.heap H):=by
   obtain⟨bm,ob,b1,b2,b3,b4,b5,b6,b7⟩:=v5;exact⟨bm,ob,b1,b2,b3,base_of b4 (sA b4 (λ_ _ z=>by rw[b7]at z;cases z) λ_ z=>by rw[b7]at z;cases z),b5,b6,b7⟩
  have hM:Mod K mg (rY s₁.heap H):=⟨hKb,Hm iT,⟨mb,Hm hb,hbb⟩,let ⟨mc,h1,h2⟩:=anE;⟨mc,Hm h1,h2⟩⟩;have e0:xu P w K mg (rY s₁.heap H) callerA [] s₁ H:=⟨xz,hM,λb o e=>ag9 e,pM (ad8 _ _),trivial,λb hb=>absurd (show b∈([]:List e_) from hb) (by simp),aH,.of_eq hg⟩;refine Bb ((F _ hKb (Hm iT) hB).run callerA [] s₁ H ⟨[.ref a],[]⟩ [.ref a] [.ref a] _ _ hr e0 (B1 s₁ (.ref a)) (.cons xz .nil) (pj H hO hS)) λr s' h=>?_;cases r with
  | error e=>exact(hCX H e s' h).elim
  | ok fl=>
   cases fl with
   | next=>exact mH h
   | brk=>exact mH h
   | cont=>exact mH h
   | ret u=>
    obtain⟨v,H',os,bare,un,Yg,r',q⟩:=h;have q':=q;subst q';obtain rfl:u=uH true:=r'
    have old:∀b o,s₁.heap.get? b=a_ o->asItWas s₁.heap s'.heap b o/\∃o',s'.heap.get? b=a_ o':=λb o e=>by
     cases q:H b with
     | none=>
      have:=un.keep b o e q (by intro z;exact absurd (show b∈([]:List e_) from z) (by simp)) (by simp);exact⟨.inl this,_,this⟩
     | some u=>
      rcases hO.1 b with z | ⟨ob,xs,z⟩ | ⟨hm,z⟩
      .rw[q]at z;cases z
      .have z2:=un.r6 b ob _ z;obtain⟨e1,_⟩:=aH b _ z;obtain⟨e2,_⟩:=Yg b _ z2;rw[e]at e1;cases e1;exact⟨.inl e2,_,e2⟩
      .obtain⟨more,z2⟩:=un.rW b _ z;have e2:s'.heap.get? b=a_ (tabObj (#[]++more)):=Yg b _ z2;have e1:=xX b hm;rw[e]at e1;cases e1;exact⟨.inr (.inl ⟨htc b hm,xz,#[],more,xz,e2⟩),_,e2⟩
    exact⟨xz,⟨λb o e=>(old b o e).1,λb o e=>(old b o e).2⟩,os,bare⟩
 have tok:∀b,b∈ts->dI P w (λb=>if b=a then b_ else if b∈ts then a_ (.eY #[]) else b_) s₁.heap b (.eY #[]):=λb hb=>xX b hb;cases hk:K.lookup a with
 | some o=>
  have e:=KX a o hk;rw[ha]at e;cases e;have hta:∀b∈ts,(λb=>if b∈ts then a_ (HO.eY #[]) else b_) b=a_ (.eY #[]):=λb hb=>if_pos hb;refine core (λb=>if b∈ts then a_ (.eY #[]) else b_) ⟨λb=>?_,hta⟩ (.inr ⟨_,vs.toArray,_,hk,xz,xz,xz,by rw[cN,amW];exact hl,by simpa using rv⟩) (λb u z=>?_) (λb z=>?_) λz=>absurd (if_neg ant) z
  .by_cases hb:b∈ts
   .exact .inr (.inr ⟨hb,if_pos hb⟩)
   .exact .inl (if_neg hb)
  .by_cases hb:b∈ts
   .have z':=(if_pos hb).symm.trans z;cases z';exact xX b hb
   .have z':=(if_neg hb).symm.trans z;cases z'
  .by_cases hb:b∈ts
   .exact .inr hb
   .exact absurd (if_neg hb) z
 | none=>
  have ne:∀b∈ts,b≠a:=λb hb z=>ant (z ▸ hb);refine core (λb=>if b=a then a_ (.lX { cls:=.type "list",data:=.seq vs.toArray } (.lst (ns.map V.int))) else if b∈ts then a_ (.eY #[]) else b_) ⟨λb=>?_,λb hb=>?_⟩ (.inl (.inr ⟨{ cls:=.type "list",data:=.seq vs.toArray },if_pos xz⟩)) (λb u z=>?_) (λb z=>?_) λ_=>hk
  .by_cases hb:b=a
   .exact .inr (.inl ⟨_,_,if_pos hb⟩)
   .by_cases hc:b∈ts
    .exact .inr (.inr ⟨hc,by dsimp only;rw[if_neg hb,if_pos hc]⟩)
    .exact .inl (by dsimp only;rw[if_neg hb,if_neg hc])
  .dsimp only;rw[if_neg (ne b hb),if_pos hb]
  .dsimp only at z
   by_cases hb:b=a
   .rw[if_pos hb]at z;cases z;subst hb;exact⟨ha,by rw[aL];exact hl,vs,_,rv,ha⟩
   .rw[if_neg hb]at z
    by_cases hc:b∈ts
    .rw[if_pos hc]at z;cases z;exact xX b hc
    .rw[if_neg hc]at z;cases z
  .by_cases hb:b=a
   .exact .inl hb
   .by_cases hc:b∈ts
    .exact .inr hc
    .exact absurd (show (if b=a then _ else if b∈ts then _ else b_)=b_ by rw[if_neg hb,if_neg hc]) z
end L2
namespace HT
open PySem.W L2
def Rj:∀{us:List f_} {xs:List Str},rB us xs=c_->Vals (xs.map V.str) us/\us.length=xs.length
 | [],[],_=>⟨.nil,xz⟩
 | .str y t::us,x::xs,h=>by
  have h:(decide (y=x)&&rB us xs)=true:=h;rw[lK]at h;obtain⟨a,b⟩:=Rj h.2;have e:=of_decide_eq_true h.1;subst e;exact⟨.cons ⟨t,xz⟩ a,by rw[fR,fR,b]⟩
 | [],_::_,h=>by simp[rB]at h
 | u::us,[],h=>by cases u <;> simp[rB]at h
 | .none::_,_::_,h=>by simp[rB]at h
 | .ref _::_,_::_,h=>by simp[rB]at h
 | .int _ _::_,_::_,h=>by simp[rB]at h
 | .bool _::_,_::_,h=>by simp[rB]at h
def af9{K:Frag}(h:tupS K a xs=c_)(hz:xs.length<=bw)(H:Hp):aD K H a (xs.map V.str):=by
 unfold tupS at h
 split at h
 .rename_i d its n sl e
  obtain⟨r,l⟩:=Rj h;exact .inr ⟨_,its,n,e,xz,xz,by rw[<-iu,l];exact hz,r⟩
 .cases h
end HT
namespace L3
def fY(b:Bool)(h:i_)(it l:e_)(i:Nat):Prop:=if b=c_ then h.IsListIter it l i else h.IsTupleIter it l i
def fZ(b:Bool)(h:i_)(l:e_)(xs:Array f_):Prop:=if b=c_ then h.IsList l xs else h.IsTuple l xs
def fY.ext(x:fY b h it l i)(e:Ju c h h')(n:it≠c):fY b h' it l i:=by
 cases b with
 | true=>exact(show h.IsListIter it l i from x).extBut e n
 | false=>exact(show h.IsTupleIter it l i from x).extBut e n
def fZ.ext(x:fZ b h l xs)(e:Ju c h h')(n:l≠c):fZ b h' l xs:=by
 cases b with
 | true=>exact(show h.IsList l xs from x).extBut e n
 | false=>exact(show h.IsTuple l xs from x).extBut e n
def fY.at(x:fY b h it l i)(e:∀o,h.get? it=a_ o->h'.get? it=a_ o):fY b h' it l i:=by
 cases b with
 | true=>exact(show h.IsListIter it l i from x).at e
 | false=>obtain⟨o,ho,r⟩:=(show h.IsTupleIter it l i from x);exact⟨o,e o ho,r⟩
def fZ.at(x:fZ b h l xs)(e:∀o,h.get? l=a_ o->h'.get? l=a_ o):fZ b h' l xs:=by
 cases b with
 | true=>exact(show h.IsList l xs from x).at e
 | false=>obtain⟨o,ho,r⟩:=(show h.IsTuple l xs from x);exact⟨o,e o ho,r⟩
def fY.obj(x:fY b h it l i):∃o vs,h.get? it=a_ o/\o.data=.fields vs:=by
 cases b with
 | true=>obtain⟨o,e,_,d⟩:=(show h.IsListIter it l i from x);exact⟨o,_,e,d⟩
 | false=>obtain⟨o,e,_,d⟩:=(show h.IsTupleIter it l i from x);exact⟨o,_,e,d⟩
section
variable{prog:k_}{w:j_}{A:h_}{E:f_->g_->Prop}{s:g_}
def abW{it t:e_}(a1:s.heap.IsTupleIter it t i)(a2:s.heap.IsTuple t its)(a3:its[i]?=a_ x)
  (k:∀h',h'.IsTupleIter it t (i+1)->fU it s.heap h'->Q x { s with heap:=h' }):wpAny (model prog w) A (sL (.ref it)) Q E s:=by
 obtain⟨o,e,c,d⟩:=id a1;obtain⟨ot,et,_,nt,dt⟩:=a2;unfold sL;refine ae (v9 (name:=pL "__next__") a1.typeIs Ij (sM Ij a1.typeIs aah ?_ (aaf _)));show wpAny _ _ (field (.ref it) 0 >>= _) _ _ s;refine ae (kE e d (x:=.ref t) xz ?_);show wpAny _ _ (if (dj t == jz)=c_ then _ else _) _ _ s;rw[if_neg (by exact dU)];show wpAny _ _ (field (.ref it) 1 >>= _) _ _ s;refine ae (kE e d (x:=.int i 0) xz ?_);show wpAny _ _ (J4 (.ref t) >>= _) _ _ s;refine ae (nU et dt ?_);simp only[di,a3];refine ae (wy e d (by simp) (aF ⟨x,xz,aF (k _ ⟨_,yt _ e (Obj.isFreed_of_fields (aa3 d _)),(Obj.cls_mapFields ..).trans c,?_⟩ (jQ ..))⟩));rw[aa3 d];simp[rawInt]
def ab9{it t:e_}(hh:A.handled=b_)(a1:s.heap.IsTupleIter it t i)(a2:s.heap.IsTuple t its)(a3:its[i]?=b_)
  (k:∀h' x,Ju it s.heap h'->(∃o,h'.get? x=a_ o/\o.cls=.type "StopIteration")->E (.ref x) { s with heap:=h' }):wpAny (model prog w) A (sL (.ref it)) Q E s:=by
 obtain⟨o,e,c,d⟩:=id a1;obtain⟨ot,et,_,nt,dt⟩:=a2;unfold sL;refine ae (v9 (name:=pL "__next__") a1.typeIs Ij (sM Ij a1.typeIs aah ?_ (aaf _)));show wpAny _ _ (field (.ref it) 0 >>= _) _ _ s;refine ae (kE e d (x:=.ref t) xz ?_);show wpAny _ _ (if (dj t == jz)=c_ then _ else _) _ _ s;rw[if_neg (by exact dU)];show wpAny _ _ (field (.ref it) 1 >>= _) _ _ s;refine ae (kE e d (x:=.int i 0) xz ?_);show wpAny _ _ (J4 (.ref t) >>= _) _ _ s;refine ae (nU et dt ?_);simp only[di,a3];refine ae (uG (ae (wy e d (by simp) ?_)));show wpAny _ _ (newExc (.type "StopIteration") [] >>= _) _ _ _;refine ae ?_;unfold newExc newTuple;refine ae (nR ?_ (by size_fits));refine ae (m:=IZ _ _) (Ea (a:=jz) (by first | rfl | (simp only[IZ];rfl)) (nR ?_ (by size_fits)));unfold raiseNew;refine ae (wpAny_handled ?_)
 first | rw[show A.in1.handled=b_ from hh] | rw[hh]
 exact ae (aF (wpAny_throw (k _ _ (((jQ ..).extBut.push _).push _) ⟨_,dh _ xz,xz⟩)))
def next_item(a1:fY b s.heap it l i)(a2:fZ b s.heap l xs)(a3:xs[i]?=a_ x)
  (k:∀h',fY b h' it l (i+1)->fU it s.heap h'->Q x { s with heap:=h' }):wpAny (model prog w) A (sL (.ref it)) Q E s:=by
 cases b with
 | true=>exact wpAny_nextOf_list_item a1 a2 a3 k
 | false=>exact abW a1 a2 a3 k
def next_end(hh:A.handled=b_)(a1:fY b s.heap it l i)(a2:fZ b s.heap l xs)(a3:xs[i]?=b_)
  (k:∀h' x,Ju it s.heap h'->(∃o,h'.get? x=a_ o/\o.cls=.type "StopIteration")->E (.ref x) { s with heap:=h' }):wpAny (model prog w) A (sL (.ref it)) Q E s:=by
 cases b with
 | true=>exact wpAny_nextOf_list_end hh a1 a2 a3 k
 | false=>exact ab9 hh a1 a2 a3 k
def aet{z TI TO i1 i2 l1 l2:e_}(D:ZipApart z TI TO i1 i2 l1 l2)
  (hz:IsZip s.heap z TI TO .none) (PR:IsPair s.heap TI (.ref i1) (.ref i2)) (PQ:IsPair s.heap TO a b) (n1:fY b1 s.heap i1 l1 k1) (n2:fY b2 s.heap i2 l2 k2) (m1:fZ b1 s.heap l1 xs) (m2:fZ b2 s.heap l2 ys)
  (hx:xs[k1]?=a_ x) (hy:ys[k2]?=a_ y)
  (hQ:∀h',IsZip h' z TI TO (rawInt s.heap.objs.size)->IsPair h' TO x y->fY b1 h' i1 l1 (k1+1)->fY b2 h' i2 l2 (k2+1)->IsPair h' s.heap.objs.size x y-> (∀c o,c≠z->c≠TO->c≠i1->c≠i2->s.heap.get? c=a_ o->h'.get? c=a_ o)->Q (a_ (.ref s.heap.objs.size)) { s with heap:=h' }):wpAny (model prog w) A (pyNext (.ref z)) Q E s:=by
 have hT:s.TypeIs (.ref z) "zip":=⟨_,hz,xz⟩;unfold pyNext;refine ae (A9 (v9 (name:=pL "__next__") hT IW (sM IW hT F.entry_zip_next ?_ (F.args_zip_next_1 _))));show wpAny _ _ (field (.ref z) 2 >>= _) _ _ s;refine ae (kE hz xz (x:=.bool d_) xz ?_);show wpAny _ _ (field (.ref z) 3 >>= _) _ _ s;refine ae (kE hz xz (x:=.ref TI) xz (ae (nU PR xz ?_)));show wpAny _ _ (Ih (.ref z) >>= _) _ _ s;unfold Ih;refine ae (ae (kE hz xz (x:=.none) xz (aF ?_)));simp only[if_true];refine ae (uG (ae (kE hz xz (x:=.ref TO) xz (ae (AX hz (by simp) λg1 fj s1=>?_)))));have fj:IsZip g1 z TI TO .ellipsis:=fj;simp only[QO,List.zipIdx_nil,IT,List.forIn_nil];refine ae (ae (ae (Jf ?_)));show wpAny _ _ (sL (.ref i1) >>= _) _ _ _;refine ae (next_item (n1.ext s1.extBut D.i1z) (m1.ext s1.extBut D.l1z) hx λg2 ZK s2=>aF ?_);have t2:IsPair g2 TO a b:=s2.extBut _ _ D.TOi1 (s1.extBut _ _ D.TOz PQ);refine ae (nU t2 xz (ae (Qw t2 λg3 t3 s3=>ae (yK (aF ?_)))));have t3:IsPair g3 TO x b:=t3;refine ae (ae (Jf ?_));show wpAny _ _ (sL (.ref i2) >>= _) _ _ _;refine ae (next_item (((n2.ext s1.extBut D.i2z).ext s2.extBut D.i12.symm).ext s3.extBut D.TOi2.symm) (((m2.ext s1.extBut D.l2z).ext s2.extBut D.l2i1).ext s3.extBut D.l2TO) hy λg4 n2' s4=>aF ?_);have t4:IsPair g4 TO x b:=s4.extBut _ _ D.TOi2 t3;refine ae (nU t4 xz (ae (Qw t4 λg5 t5 s5=>ae (yK (aF (aF ?_))))));have t5:IsPair g5 TO x y:=t5;refine ae (nU t5 xz (ae (IY ?_)));have hsz:g5.objs.size=s.heap.objs.size:=by rw[s5.1,s4.1,s3.1,s2.1,s1.1]
 have ZW:IsZip g5 z TI TO .ellipsis:=s5.extBut _ _ D.TOz.symm (s4.extBut _ _ D.i2z.symm (s3.extBut _ _ D.TOz.symm (s2.extBut _ _ D.i1z.symm fj)))
 have k5:∀c o,c≠z->c≠TO->c≠i1->c≠i2->s.heap.get? c=a_ o->g5.get? c=a_ o:=λc o c1 c2 c3 c4 e=>
  s5.extBut _ _ c2 (s4.extBut _ _ c4 (s3.extBut _ _ c2 (s2.extBut _ _ c3 (s1.extBut _ _ c1 e))))
 have CF:=((ZK.ext s3.extBut D.TOi1.symm).ext s4.extBut D.i12).ext s5.extBut D.TOi1.symm;have n25:=n2'.ext s5.extBut D.TOi2.symm;have Y4:=bH ZW;show wpAny _ _ (aaa (.ref z) (.ref g5.objs.size) >>= _) _ _ _;unfold aaa;have Pb:IsZip (g5.push { cls:=.type "tuple",data:=.seq #[x,y] }) z TI TO .ellipsis:=bh _ ZW;refine ae (ae (AX Pb (by simp) λg7 xT s7=>?_));have xT:IsZip g7 z TI TO (rawInt g5.objs.size):=xT;refine AX xT (by simp) λg8 Hu s8=>?_;have Hu:IsZip g8 z TI TO (rawInt g5.objs.size):=Hu;have up:∀c o,c≠z->g5.get? c=a_ o->g8.get? c=a_ o:=λc o c1 e=>s8.extBut _ _ c1 (s7.extBut _ _ c1 (bh _ e));have hT8:IsPair g8 g5.objs.size x y:=s8.extBut _ _ (qZ Y4) (s7.extBut _ _ (qZ Y4) (dh _ xz));rw[hsz]at Hu hT8;refine aF ⟨_,xz,?_⟩;show wpAny _ _ (pure (a_ (dj g5.objs.size)):Sem (Option f_)) _ _ _;rw[hsz];exact aF (hQ g8 Hu (up _ _ D.TOz t5) (CF.at λo e=>up _ o D.i1z e) (n25.at λo e=>up _ o D.i2z e) hT8 λc o c1 c2 c3 c4 e=>up c o c1 (k5 c o c1 c2 c3 c4 e))
def af3{z TI TO i1 i2 l1 l2:e_}(hh:A.handled=b_)(D:ZipApart z TI TO i1 i2 l1 l2)
  (hz:IsZip s.heap z TI TO .none) (PR:IsPair s.heap TI (.ref i1) (.ref i2)) (PQ:IsPair s.heap TO a b) (n1:fY b1 s.heap i1 l1 k1) (n2:fY b2 s.heap i2 l2 k2) (m1:fZ b1 s.heap l1 xs) (m2:fZ b2 s.heap l2 ys)
  (z0:xs[k1]?=b_\/ys[k2]?=b_)
  (hQ:∀h',(∀c o,c≠z->c≠TO->c≠i1->c≠i2->s.heap.get? c=a_ o->h'.get? c=a_ o)->Q b_ { s with heap:=h' }):wpAny (model prog w) A (pyNext (.ref z)) Q E s:=by
 have hT:s.TypeIs (.ref z) "zip":=⟨_,hz,xz⟩
 have fin:∀(h':i_) (e:e_),(∀c o,c≠z->c≠TO->c≠i1->c≠i2->s.heap.get? c=a_ o->h'.get? c=a_ o)->(∃o,h'.get? e=a_ o/\o.cls=.type "StopIteration")->
   wpAny (model prog w) A (do if <-JA (.ref e) (.type "StopIteration") then pure b_ else throw (.ref e)) Q E { s with heap:=h' }:=λh' e hk ⟨o,ho,hc⟩=>
  ae (Dx (T:="StopIteration") (b:=c_) ⟨o,ho,hc⟩ QY (aF (hQ _ hk)))
 unfold pyNext;refine ae (A9 (v9 (name:=pL "__next__") hT IW (sM IW hT F.entry_zip_next ?_ (F.args_zip_next_1 _))));show wpAny _ _ (field (.ref z) 2 >>= _) _ _ s;refine ae (kE hz xz (x:=.bool d_) xz ?_);show wpAny _ _ (field (.ref z) 3 >>= _) _ _ s;refine ae (kE hz xz (x:=.ref TI) xz (ae (nU PR xz ?_)));show wpAny _ _ (Ih (.ref z) >>= _) _ _ s;unfold Ih;refine ae (ae (kE hz xz (x:=.none) xz (aF ?_)));simp only[if_true];refine ae (uG (ae (kE hz xz (x:=.ref TO) xz (ae (AX hz (by simp) λg1 fj s1=>?_)))));have fj:IsZip g1 z TI TO .ellipsis:=fj;simp only[QO,List.zipIdx_nil,IT,List.forIn_nil];refine ae (ae (ae (Jf ?_)));show wpAny _ _ (sL (.ref i1) >>= _) _ _ _;cases hx:xs[k1]? with
 | none=>
  refine ae (next_end hh (n1.ext s1.extBut D.i1z) (m1.ext s1.extBut D.l1z) hx λg2 e s2 he=>?_);obtain⟨oe,yc,v3⟩:=he;have o7:IsZip g2 z TI TO .ellipsis:=s2 _ _ D.i1z.symm fj;have Pz:e≠z:=λq=>by subst q;rw[o7]at yc;cases yc;simp at v3
  exact AX o7 (by simp) λg3 _ s3=>fin g3 e (λc o c1 _ c3 _ q=>s3.extBut _ _ c1 (s2 _ _ c3 (s1.extBut _ _ c1 q))) ⟨oe,s3.extBut _ _ Pz yc,v3⟩
 | some x=>
  have hy:ys[k2]?=none:=by
   rcases z0 with q | q
   .rw[hx]at q;cases q
   .exact q
  refine ae (next_item (n1.ext s1.extBut D.i1z) (m1.ext s1.extBut D.l1z) hx λg2 ZK s2=>aF ?_);have t2:IsPair g2 TO a b:=s2.extBut _ _ D.TOi1 (s1.extBut _ _ D.TOz PQ);refine ae (nU t2 xz (ae (Qw t2 λg3 t3 s3=>ae (yK (aF (ae (ae (Jf ?_))))))));show wpAny _ _ (sL (.ref i2) >>= _) _ _ _;refine ae (next_end hh (((n2.ext s1.extBut D.i2z).ext s2.extBut D.i12.symm).ext s3.extBut D.TOi2.symm) (((m2.ext s1.extBut D.l2z).ext s2.extBut D.l2i1).ext s3.extBut D.l2TO) hy λg4 e s4 he=>?_);obtain⟨oe,yc,v3⟩:=he;have ZX:IsZip g4 z TI TO .ellipsis:=s4 _ _ D.i2z.symm (s3.extBut _ _ D.TOz.symm (s2.extBut _ _ D.i1z.symm fj));have Pz:e≠z:=λq=>by subst q;rw[ZX]at yc;cases yc;simp at v3
  exact AX ZX (by simp) λg5 _ s5=>fin g5 e (λc o c1 c2 c3 c4 q=>s5.extBut _ _ c1 (s4 _ _ c4 (s3.extBut _ _ c2 (s2.extBut _ _ c3 (s1.extBut _ _ c1 q))))) ⟨oe,s5.extBut _ _ Pz yc,v3⟩
abbrev rS(b:Bool)(l:e_):Obj:={ cls:=.type (if b=c_ then "list_iterator" else "tuple_iterator"),data:=.fields #[.ref l,.int 0 0] }
def EG(m:fZ b s.heap l xs)(k:Q (.ref s.heap.objs.size) { s with heap:=s.heap.push (rS b l) }):wpAny (model prog w) A (pyIter (.ref l)) Q E s:=by
 cases b with
 | true=>exact yz m k
 | false=>exact wpAny_pyIter_tuple m k
def Ui(e:h.get? a=a_ (rS b l)):fY b h a l 0:=by
 cases b with
 | true=>exact⟨_,e,xz,xz⟩
 | false=>exact⟨_,e,xz,xz⟩
end
abbrev Gw(b1:Bool)(h:i_)(l1:e_):Heap:=h.push (rS b1 l1)
abbrev Gv(b1 b2:Bool)(h:i_)(l1 l2:e_):Heap:=(Gw b1 h l1).push (rS b2 l2)
abbrev Gu(b1 b2:Bool)(h:i_)(l1 l2:e_):Heap:=(Gv b1 b2 h l1 l2).push { cls:=.type "tuple",data:=.seq #[.ref h.objs.size,.ref (Gw b1 h l1).objs.size] }
abbrev Gs(b1 b2:Bool)(h:i_)(l1 l2:e_):Heap:=(Gu b1 b2 h l1 l2).push { cls:=.type "tuple",data:=.seq #[.none,.none] }
abbrev Aa(b1 b2:Bool)(h:i_)(l1 l2:e_):Heap:=(Gs b1 b2 h l1 l2).push { cls:=.type "zip",data:=.fields #[.none,.bool d_,.bool d_,.ref (Gv b1 b2 h l1 l2).objs.size,.ref (Gu b1 b2 h l1 l2).objs.size] }
def fZ.push(x:fZ b h l xs)(o:Obj):fZ b (h.push o) l xs:=x.at λ_ e=>bh _ e
def af2(b1 b2:Bool)(l1 l2:e_)(xs ys:Array f_) :
  Meets (Builtin.«zip.__new__» ⟨[.type "zip",.ref l1,.ref l2],[]⟩) (λ_ R s=>fZ b1 s.heap l1 xs/\fZ b2 s.heap l2 ys/\R (.ok (.ret (.ref (Gs b1 b2 s.heap l1 l2).objs.size))) { s with heap:=Aa b1 b2 s.heap l1 l2 }):=
 .of_wp λprog w A R s h=>by
  obtain⟨hp,g,d,tk,os⟩:=s;obtain⟨m1,m2,h⟩:=h;have Gg:=sub_zip;have M1:=m1;have M2:fZ b2 (Shared.heap ⟨hp.push (rS b1 l1),g,d,tk,os⟩) l2 ys:=fZ.push m2 _
  wp_walk using EG M1,EG M2
  exact⟨_,xz,h⟩
section
variable{prog:k_}{w:j_}{A:h_}{E:f_->g_->Prop}{s:g_}
def aeu{l1 l2:e_}(m1:fZ b1 s.heap l1 xs)(m2:fZ b2 s.heap l2 ys)
  (k:∀h',IsZip h' (s.heap.objs.size+4) (s.heap.objs.size+2) (s.heap.objs.size+3) .none->IsPair h' (s.heap.objs.size+2) (.ref s.heap.objs.size) (.ref (s.heap.objs.size+1))->
   IsPair h' (s.heap.objs.size+3) .none .none->fY b1 h' s.heap.objs.size l1 0->fY b2 h' (s.heap.objs.size+1) l2 0->(∀c o,s.heap.get? c=a_ o->h'.get? c=a_ o)->Q (.ref (s.heap.objs.size+4)) { s with heap:=h' }) :
  wpAny (model prog w) A (call (.type "zip") [.ref l1,.ref l2]) Q E s:=by
 refine callType_new F.called_zip qc (F.typeCall_zip_2 _ _) (F.newCall_zip_2 _ _) (λobj=>F.args_object_init_3 obj _ _) F.entry_zip_new (af2 b1 b2 l1 l2 xs ys) ⟨m1,m2,?_⟩;have z1:(Gw b1 s.heap l1).objs.size=s.heap.objs.size+1:=kC ..;have z2:(Gv b1 b2 s.heap l1 l2).objs.size=s.heap.objs.size+2:=by rw[kC,z1]
 have z3:(Gu b1 b2 s.heap l1 l2).objs.size=s.heap.objs.size+3:=by rw[kC,z2]
 have z4:(Gs b1 b2 s.heap l1 l2).objs.size=s.heap.objs.size+4:=by rw[kC,z3]
 have q5:(Aa b1 b2 s.heap l1 l2).get? (Gs b1 b2 s.heap l1 l2).objs.size=a_ _:=dh _ rfl;have q4:(Aa b1 b2 s.heap l1 l2).get? (Gu b1 b2 s.heap l1 l2).objs.size=a_ _:=bh _ (dh _ xz);have q3:(Aa b1 b2 s.heap l1 l2).get? (Gv b1 b2 s.heap l1 l2).objs.size=a_ _:=bh _ (bh _ (dh _ xz));have q2:(Aa b1 b2 s.heap l1 l2).get? (Gw b1 s.heap l1).objs.size=a_ _:=bh _ (bh _ (bh _ (dh _ xz)));have q1:(Aa b1 b2 s.heap l1 l2).get? s.heap.objs.size=a_ _:=bh _ (bh _ (bh _ (bh _ (dh _ xz))));show _/\_;rw[z2,z3,z4]at q5;rw[z1,z2]at q3;rw[z3]at q4;rw[z1]at q2;rw[z4];exact⟨⟨_,q5,xz⟩,k _ q5 q3 q4 (Ui q1) (Ui q2) λc o x=>bh _ (bh _ (bh _ (bh _ (bh _ x))))⟩
end
end L3
namespace L3
open AutoSeq1 (wpAny_loadPart')
def aed(l:e_)(its:Array f_)(n:Nat)(HY:Option e_)(sl:Array (Option f_)) :
  Meets (Builtin.«enumerate.__new__» ⟨[.type "enumerate",.ref l],[]⟩) (λ_ R s=>s.heap.get? l=a_ { cls:=.type "tuple",dict:=HY,data:=.seq its n,slots:=sl }/\
   R (.ok (.ret (.ref (s.heap.push (rS d_ l)).objs.size))) { s with heap:=(s.heap.push (rS d_ l)).push { cls:=.type "enumerate",data:=.fields #[.none,.bool d_,.ref s.heap.objs.size,rawInt 0,.none,.none] } }):=
 .of_wp λprog w A R s h=>by
  obtain⟨hp,g,d,tk,os⟩:=s;obtain⟨q,h⟩:=h;have Gg:=sub_enumerate;have M:fZ d_ (Shared.heap ⟨hp,g,d,tk,os⟩) l its:=⟨_,q,xz,n,xz⟩
  wp_walk using QQ q
  refine wpAny_stack_any λst=>aF ?_
  split
  .rename_i c _ _ _ _ _
   cases (c == iW "enumerate") <;> (wp_walk using QQ q,EG M;exact⟨_,xz,h⟩)
  .wp_walk using QQ q,EG M
   exact⟨_,xz,h⟩
section
variable{prog:k_}{w:j_}{A:h_}{E:f_->g_->Prop}{s:g_}
def aee(m:fZ b s.heap l xs)
  (k:∀h',IsEnum h' (s.heap.objs.size+1) s.heap.objs.size 0 .none->fY b h' s.heap.objs.size l 0->(∀c o,s.heap.get? c=a_ o->h'.get? c=a_ o)->Q (.ref (s.heap.objs.size+1)) { s with heap:=h' }) :
  wpAny (model prog w) A (call (.type "enumerate") [.ref l]) Q E s:=by
 cases b with
 | true=>exact call_enumerate_list (show s.heap.IsList l xs from m) λh' a1 a2 _ a4=>k h' a1 a2 a4
 | false=>
  obtain⟨⟨c,HY,dt,sl⟩,hl,hc,n,hd⟩:=(show s.heap.IsTuple l xs from m);have hc:c=.type "tuple":=hc;have hd:dt=.seq xs n:=hd;subst hc hd;refine callType_new F.called_enumerate qc (F.typeCall_enumerate_1 _) (F.newCall_enumerate_1 _) (λobj=>aaP obj _) F.entry_enumerate_new (aed l xs n HY sl) ⟨hl,?_⟩;have hz:(s.heap.push (rS d_ l)).objs.size=s.heap.objs.size+1:=kC ..
  have he:IsEnum ((s.heap.push (rS d_ l)).push { cls:=.type "enumerate",data:=.fields #[.none,.bool d_,.ref s.heap.objs.size,rawInt 0,.none,.none] }) (s.heap.objs.size+1) s.heap.objs.size 0 .none:=by
   have q:=dh (s.heap.push (rS d_ l)) (o:={ cls:=.type "enumerate",data:=.fields #[.none,.bool d_,.ref s.heap.objs.size,rawInt 0,.none,.none] }) rfl;rw[hz]at q;exact q
  show _/\_;rw[hz];exact⟨⟨_,he,xz⟩,k _ he ⟨_,bh _ (dh _ xz),xz,xz⟩ λc o x=>bh _ (bh _ x)⟩
def aef(hh:A.handled=b_)(it l:e_)(dr:l≠it)(xs:Array f_):Draws prog w A it [it,l] xs.size (λi v=>xs[i]?=a_ v) (λi h=>fY b h it l i/\fZ b h l xs) where
 live:=λ_ _ st=>let ⟨o,_,e,_⟩:=st.1.obj;⟨o,e⟩
 frame:=λ_ _ _ st hk=>⟨st.1.at λo e=>hk it (by simp) o e,st.2.at λo e=>hk l (by simp) o e⟩
 item:=λi s Q E hi st hQ=>next_item st.1 st.2 (x:=xs[i]) (by simp[hi]) λh' n' sb=>hQ _ h' s.toks (by simp[hi]) ⟨n',st.2.ext sb.extBut dr⟩ sb
 done:=λs Q E st hE=>next_end hh st.1 st.2 (by simp) hE
end
end L3
namespace L2
open L3
def Inv.KW{X:Cx}{p_:List (e_×Obj)}{σ:St}{H:Hp}{s:g_}{h':i_}{t':Nat}{ch:List e_}(I:Inv X p_ σ H s)(k:∀b o,b∉ch->s.heap.get? b=a_ o->h'.get? b=a_ o)
  (hc:∀b∈ch,iN X p_ H b):Inv X p_ σ H { s with heap:=h',toks:=t' }:=by
 have vP:∀b u,H b=a_ u->b∉ch:=λb u e z=>by rw[(hc b z).1]at e;cases e
 refine I.step (g':=s.gens) (d':=s.drawn) (ch:=ch) (λb hb=>⟨(hc b hb).2.2.2.1,(hc b hb).2.1,(hc b hb).2.2.2.2.1,(hc b hb).2.2.2.2.2⟩) (λb o _ _ z e _=>k b o z e) (λb o _ _ z e _=>⟨o.slots,k b o z e⟩) (λ_ _ _ _ n=>n)
  (λb o z e=>⟨o,k b o z e⟩) (λ_ _ e=>e) (λ_ _ _ e=>e) (λb ps e=>⟨#[],by rw[e];simp⟩) (λm hm=>?_) (λb u e=>?_) I.bare
 .exact BR hm λo es ep ho r=>⟨o,es,ep,(k _ o (λz=>(hc _ z).2.1 xz) ho),r⟩
 .refine(I.aH b u e).tI (λc v hq q=>k c v ?_ q) (λ_ q=>q) λ_ _ q=>q;rcases hq with z | z
  .rw[z];exact vP b u e
  .exact vP c _ z
def Sq(b:Bool)(K:u_)(H:Hp)(a:e_)(xs:List V):Prop:=if b=c_ then aj K H a xs else aD K H a xs
def rP(I:Inv X p_ σ H s)(h:Sq b X.K H a xs):∃its:List f_,Vals xs its/\fZ b s.heap a its.toArray/\xs.length<=bw:=by
 cases b with
 | true=>
  exact a7 (I.list h) λits r p z=>dJ its r p.isList z
 | false=>
  exact a7 (I.tuple h) λits r p z=>dJ its r p z
def LJ(I:Inv X p_ σ H s)(h:Sq b X.K H a xs)(h':Sq b X.K H a ys):xs=ys:=by
 cases b with
 | true=>exact I.Uh h h'
 | false=>exact I.Ss h h'
def MD(I:Inv X p_ σ H s)(h:Sq b X.K H a xs):a<s.zS:=by
 refine a7 (rP I h) λits r p z=>?_;cases b with
 | true=>obtain⟨o,e,_⟩:=(show s.heap.IsList a its.toArray from p);exact bH e
 | false=>obtain⟨o,e,_⟩:=(show s.heap.IsTuple a its.toArray from p);exact bH e
def Y0(b1 b2:Bool)(K:u_)(l1 l2:e_):It:=
 ⟨λi H=>∃xs ys x y,Sq b1 K H l1 xs/\Sq b2 K H l2 ys/\xs[i]?=a_ x/\ys[i]?=a_ y,λi H v H'=>∃p x y,H p=b_/\v=.ref p/\H'=upd H p (.tup [x,y])/\∀xs ys,Sq b1 K H l1 xs->Sq b2 K H l2 ys->xs[i]?=a_ x/\ys[i]?=a_ y,λi H=>∃xs ys,Sq b1 K H l1 xs/\Sq b2 K H l2 ys/\(xs.length<=i\/ys.length<=i)⟩
def yL(x:fY b h it l i):∃o,h.get? it=a_ o/\∀v,o.data≠.cell v:=by
 exact bQ x.obj λo vs e d=>au o e (λv z=>by rw[d]at z;cases z)
def aez{P:k_}{w:j_}{K:u_}{es:List Expr}{x1:Nat}{pos:Pos}{b1 b2:Bool}{z TI TO i1 i2 l1 l2:e_}(D:ZipApart z TI TO i1 i2 l1 l2) :
  Turn P w K (.Tuple es x1 pos) (Y0 b1 b2 K l1 l2) [z,TI,TO,i1,i2] z (λi h=>IsZip h z TI TO .none/\IsPair h TI (.ref i1) (.ref i2)/\(∃a b,IsPair h TO a b)/\fY b1 h i1 l1 i/\fY b2 h i2 l2 i) where
 mem:=by simp
 obj:=λi h ⟨a1,a2,⟨a,b,a3⟩,a4,a5⟩ c hc=>by
  simp only[bX,qX,or_false]at hc;rcases hc with rfl | rfl | rfl | rfl | rfl
  .exact au _ a1 (λv z=>by cases z)
  .exact au _ a2 (λv z=>by cases z)
  .exact au _ a3 (λv z=>by cases z)
  .exact yL a4
  .exact yL a5
 keep:=λi h h' ⟨a1,a2,⟨a,b,a3⟩,a4,a5⟩ k=>⟨k z (by simp) _ a1,k TI (by simp) _ a2,⟨a,b,k TO (by simp) _ a3⟩,a4.at λo e=>k i1 (by simp) o e,a5.at λo e=>k i2 (by simp) o e⟩
 item:=by
  intro X hP hw hK hc i p_ s σ H E I hf ⟨a1,a2,⟨a,b,a3⟩,a4,a5⟩ hg;subst hP hw hK;refine lN hg λxs ys x y q1 aa=>de aa λq2 hx hy=>a7 (rP I q1) λCt r1 m1 _=>a7 (rP I q2) λY5 r2 m2 _=>aq (r1.get hx) λu hu ru=>aq (r2.get hy) λv hv rv=>aet D a1 a2 a3 a4 a5 m1 m2 (x:=u) (y:=v) (by simpa using hu) (by simpa using hv) λh' c1 c2 c3 c4 c5 kk=>?_;have hp:=I.aH.fresh (aA _)
  have lts:∀c∈[z,TI,TO,i1,i2],c<s.zS:=λc hc=>by
   simp only[bX,qX,or_false]at hc;rcases hc with rfl | rfl | rfl | rfl | rfl
   .exact bH a1
   .exact bH a2
   .exact bH a3
   .obtain⟨o,e,_⟩:=yL a4;exact bH e
   .obtain⟨o,e,_⟩:=yL a5;exact bH e
  refine au _ xz (wpAny_letOwnedTupleGo_zip c1 λym d1 sb=>?_);have sz:∀c∈[z,TI,TO,i1,i2],c≠s.zS:=λc hc=>cC (lts c hc)
  have k2:∀c o,c∉[z,TO,i1,i2]->s.heap.get? c=a_ o->ym.get? c=a_ o:=λc o hc e=>by
   simp only[bX,qX,or_false,not_or]at hc;exact(sb.2 c hc.1).trans (kk c o hc.1 hc.2.1 hc.2.2.1 hc.2.2.2 e)
  have fz:∀c∈[z,TO,i1,i2],iN X p_ H c:=λc hc=>hf c (by
   simp only[bX,qX,or_false]at hc ⊢;rcases hc with rfl | rfl | rfl | rfl <;> simp)
  have I1:=Inv.KW (t':=s.toks) I k2 fz;have pT:IsPair ym s.zS u v:=(sb.2 _ (cH (sz z (by simp)))).trans c5;have fT:=I.i8 (aA _) hp;have I2:Inv X p_ σ (upd H s.zS (.tup [x,y])) { s with heap:=ym }:=Inv.adopt I1 hp I.sz fT.2.1 fT.2.2.2.2.1 fT.2.2.2.2.2 ⟨by show 2<=bw;decide,[u,v],.cons ru (.cons rv .nil),⟨_,pT,xz,_,xz⟩⟩;refine⟨.ref s.zS,_,I2,xz,⟨_,x,y,hp,xz,xz,λxs' ys' p1 p2=>⟨by rw[LJ I p1 q1];exact hx,by rw[LJ I p2 q2];exact hy⟩⟩,⟨d1,(sb.2 _ D.TIz).trans (kk _ _ D.TIz D.TITO D.TIi1 D.TIi2 a2),⟨u,v,(sb.2 _ D.TOz).trans c2⟩,c3.at λo e=>(sb.2 _ D.i1z).trans e,c4.at λo e=>(sb.2 _ D.i2z).trans e⟩,λc hc=>?_⟩;rw[ai (sz c hc)];exact(hf c hc).1
 done:=by
  intro X hP hw hK hc i p_ s σ H E I hf ⟨a1,a2,⟨a,b,a3⟩,a4,a5⟩ hg;subst hP hw hK;refine eD hg λxs ys q1 q2 z0=>a7 (rP I q1) λCt r1 m1 _=>a7 (rP I q2) λY5 r2 m2 _=>?_;have l1':=r1.length;have l2':=r2.length;refine af3 (I.ok.hd hc) D a1 a2 a3 a4 a5 m1 m2 (by rcases z0 with q | q;exact .inl (by simp;lia);exact .inr (by simp;lia)) λh' kk=>⟨xz,?_⟩
  refine Inv.KW (t':=s.toks) (ch:=[z,TO,i1,i2]) I (λc o hc e=>?_) λc hc=>hf c (by
   simp only[bX,qX,or_false]at hc ⊢;rcases hc with rfl | rfl | rfl | rfl <;> simp)
  simp only[bX,qX,or_false,not_or]at hc;exact kk c o hc.1 hc.2.1 hc.2.2.1 hc.2.2.2 e
 self:=λ_ _ _ _ _ st h=>wpAny_pyIter_zip st.1 h
section
variable{X:Cx}{pos:Pos}
def amG(b1 b2:Bool)(K:u_)(ta:TA):TI:=λσ H R=>ta σ H λvs H1=>∃l1 l2 xs ys,vs=[.ref l1,.ref l2]/\Sq b1 K H1 l1 xs/\Sq b2 K H1 l2 ys/\R (Y0 b1 b2 K l1 l2) H1
def L9(hg:Gl X "zip")(hm:X.mg "zip" = b_)(ha:PA X [a,b] ta)
  (hs:bV [a,b] X.env=[(d_,eval a X.env),(d_,eval b X.env)]:=by rfl) (nG:bV [b] X.env=[(d_,eval b X.env)]:=by rfl):PI X (.Tuple es x1 B9) (.Call (.Name "zip" p) [a,b] [] pos) (amG b1 b2 X.K ta):=by
 intro p_ s σ H R I h;refine Call_ (rE I hg hm boot_zip (yq (Cd (ha pos p_ s σ H _ I h) λus s1 vs H1 I1 r1 q1=>?_) (by rw[hs,nG]) (by rw[nG];rfl)));obtain⟨l1,l2,xs,ys,e,q1,q2,q⟩:=q1;subst e;cases r1 with
 | cons r rr=>
  cases rr with
  | cons r' rr=>
   cases rr;cases r;cases r';obtain⟨Ct,_,m1,_⟩:=rP I1 q1;obtain⟨Y5,_,m2,_⟩:=rP I1 q2;have n1:=MD I1 q1;have n2:=MD I1 q2;refine aeu m1 m2 λh' c1 c2 c3 c4 c5 kk=>wpAny_pyIter_zip c1 (⟨_,_,_,_,H1,xz,(I1.kept (t':=s1.toks) kk),(aez (D:=zipApart_new n1 n2)),⟨c1,c2,⟨_,_,c3⟩,c4,c5⟩,(λc hc=>?_),q⟩)
   have lD:s1.zS<=c:=by
    simp only[bX,qX,or_false]at hc;rcases hc with rfl | rfl | rfl | rfl | rfl <;> lia
   exact I1.i8 lD (I1.aH.fresh lD)
def Y1(b:Bool)(K:u_)(l:e_):It:=
 ⟨λi H=>∃xs x,Sq b K H l xs/\xs[i]?=a_ x,λi H v H'=>∃p x,H p=b_/\v=.ref p/\H'=upd H p (.tup [.int i,x])/\∀xs,Sq b K H l xs->xs[i]?=a_ x,λi H=>∃xs,Sq b K H l xs/\xs.length<=i⟩
end
def adl{P:k_}{w:j_}{K:u_}{es:List Expr}{x1:Nat}{pos:Pos}{b:Bool}{e it l:e_}(n1:e≠it)(n2:l≠it)(n3:e≠l) :
  Turn P w K (.Tuple es x1 pos) (Y1 b K l) [e,it] e (λi h=>(∃old,IsEnum h e it i old)/\fY b h it l i) where
 mem:=by simp
 obj:=λi h ⟨⟨old,a1⟩,a2⟩ c hc=>by
  simp only[bX,qX,or_false]at hc;rcases hc with rfl | rfl
  .exact au _ a1 (λv z=>by cases z)
  .exact yL a2
 keep:=λi h h' ⟨⟨old,a1⟩,a2⟩ k=>⟨⟨old,k e (by simp) _ a1⟩,a2.at λo q=>k it (by simp) o q⟩
 item:=by
  intro X hP hw hK hc i p_ s σ H E I hf ⟨⟨old,a1⟩,a2⟩ hg;subst hP hw hK;refine bQ hg λxs x q1 hx=>a7 (rP I q1) λvs r1 m1 _=>aq (r1.get hx) λu hu ru=>?_
  have AE:i<vs.toArray.size:=by
   have:=(bK.mp hu).1;simpa using this
  have hh:X.A.in1.handled=none:=I.ok.hd hc;refine wpAny_pyNext_enum_itemD (n:=vs.toArray.size) (aef (b:=b) hh it l n2 vs.toArray) a1 ⟨a2,m1⟩ AE n1 (by simp;exact⟨n1,n3⟩) λy h' tk hy c1 c2 c3 c4 kk=>?_
  have ey:y=u:=by
   have:vs[i]?=a_ y:=by simpa using hy
   rw[hu]at this;exact(cE this).symm
  subst ey;have hp:=I.aH.fresh (aA _);have eS:e≠s.zS:=cC (bH a1)
  have iS:it≠s.zS:=by
   exact aq (yL a2) λo q _=>cC (bH q)
  refine au _ xz (wpAny_letOwnedTupleGo_enum c1 λym d1 sb=>?_)
  have k2:∀c o,c∉[e,it]->s.heap.get? c=a_ o->ym.get? c=a_ o:=λc o hc q=>by
   simp only[bX,qX,or_false,not_or]at hc;exact(sb.2 c hc.1).trans (kk c o hc.1 hc.2 q)
  have I1:Inv X p_ σ H { s with heap:=ym,toks:=tk+1 }:=Inv.KW I k2 hf;have pT:=(sb.2 _ (cH eS)).trans c3;have fT:=I.i8 (aA _) hp
  have I2:Inv X p_ σ (upd H s.zS (.tup [.int i,x])) { s with heap:=ym,toks:=tk+1 }:=Inv.adopt I1 hp I.sz fT.2.1 fT.2.2.2.2.1 fT.2.2.2.2.2
   ⟨by show 2<=bw;decide,[.int i tk,y],.cons ⟨_,xz⟩ (.cons ru .nil),⟨_,pT,xz,_,xz⟩⟩
  refine⟨(.ref s.zS),_,I2,xz,⟨_,x,hp,xz,xz,λxs' p1=>by rw[LJ I p1 q1];exact hx⟩,⟨⟨_,by simpa using d1⟩,c2.1.at λo q=>(sb.2 _ (cH n1)).trans q⟩,(λc hc=>?_)⟩;simp only[bX,qX,or_false]at hc;rcases hc with rfl | rfl
  .rw[ai eS];exact(hf _ (by simp)).1
  .rw[ai iS];exact(hf _ (by simp)).1
 done:=by
  intro X hP hw hK hc i p_ s σ H E I hf ⟨⟨old,a1⟩,a2⟩ hg;subst hP hw hK;refine aq hg λxs q1 z0=>a7 (rP I q1) λvs r1 m1 _=>?_;have hl:=r1.length;have hT:s.TypeIs (.ref e) "enumerate":=⟨_,a1,xz⟩;unfold pyNext;refine ae (A9 (v9 (name:=pL "__next__") hT aaK (sM aaK hT F.entry_enumerate_next ?_ (F.args_enumerate_next_1 _))));show wpAny _ _ (field (.ref e) 2 >>= _) _ _ s;refine ae (kE a1 xz (x:=.ref it) xz (ae (next_end (show X.A.in1.handled=b_ from I.ok.hd hc) a2 m1 (by simp;lia) λh' y hk ⟨o,ho,pq⟩=>ae (Dx (T:="StopIteration") (b:=c_) ⟨o,ho,pq⟩ QY (aF ⟨xz,I.turned (t':=s.toks) (it:=it) (λc q hc z=>hk c q hc z) (hf it (by simp)).1 (hf it (by simp)).2.1 (hf it (by simp)).2.2.2.1 (hf it (by simp)).2.2.2.2.1 (hf it (by simp)).2.2.2.2.2⟩)))))
 self:=λ_ _ _ _ _ st h=>let ⟨_,a1⟩:=st.1;wpAny_pyIter_enum a1 h
section
variable{X:Cx}{pos:Pos}
def akK(b:Bool)(K:u_)(ta:TA):TI:=λσ H R=>ta σ H λvs H1=>∃l xs,vs=[.ref l]/\Sq b K H1 l xs/\R (Y1 b K l) H1
def uU(hg:Gl X "enumerate")(hm:X.mg "enumerate" = b_)(ha:PA X [a] ta)
  (hs:bV [a] X.env=[(d_,eval a X.env)]:=by rfl):PI X (.Tuple es x1 B9) (.Call (.Name "enumerate" p) [a] [] pos) (akK b X.K ta):=by
 intro p_ s σ H R I h;refine Call_ (rE I hg hm boot_enumerate (yq (Cd (ha pos p_ s σ H _ I h) λus s1 vs H1 I1 r1 q1=>?_) hs xz));obtain⟨l,xs,e,q1,q⟩:=q1;subst e;cases r1 with
 | cons r rr=>
  cases rr;cases r;obtain⟨Ct,_,m1,_⟩:=rP I1 q1;have n1:=MD I1 q1;refine aee m1 λh' c1 c2 kk=>wpAny_pyIter_enum c1 (⟨_,_,_,_,H1,xz,(I1.kept (t':=s1.toks) kk),(adl (II _) (cC n1) (cH (cC (nT n1)))),⟨⟨_,c1⟩,c2⟩,(λc hc=>?_),q⟩)
  have lD:s1.zS<=c:=by
   simp only[bX,qX,or_false]at hc;rcases hc with rfl | rfl <;> lia
  exact I1.i8 lD (I1.aH.fresh lD)
end
end L2
namespace L2
open PySem.SeqAt L3
def XU:V->Option f_
 | .ty n=>a_ (.type n)
 | .ref a=>a_ (.ref a)
 | _=>b_
def afQ(h:XU c=a_ cv)(r:RelV c u):u=cv:=by
 cases c with
 | ty n=>cases h;exact r
 | ref a=>cases h;exact r
 | _=>cases h
def Xz(K:u_):List V->Hp->VK->Prop:=λxs H Q=>∃x c t cv b,xs=[x,c]/\gG K H x t/\XU c=a_ cv/\v_ K t cv=a_ b/\Q (.bl b) H
section
variable{X:Cx}
def iZ:jj X (.builtin "isinstance") (Xz X.K):=by
 intro p_ s σ H xs us Q I r h;refine fX h λx c t cv b aa=>wR aa λe ty hc hk q=>?_;subst e;cases r with
 | cons r1 r2=>
  cases r2 with
  | cons r2 r3=>
   cases r3;cases afQ hc r2;exact ad5 I r1 ty hk λtk=>(dP (.bl b) H (I.tok tk) xz q)
def range_all(bs:List Bool):(List.range bs.length).all (λi=>bs.getD i d_)=bs.all id:=by
 induction bs with
 | nil=>rfl
 | cons b r ih=>
  rw[fR,List.range_succ_eq_map,Ba,Be,Ba];simp only[List.getD_cons_zero,id]
  congr 1
def Tc:∀{bs:List Bool} {us:List f_},Vals (bs.map V.bl) us->us=bs.map uH
 | [],_,r=>by cases r;rfl
 | b::bs,_,r=>by
  cases r with
  | cons r1 r2=>
   cases r1;rw[gq,Tc r2]
def aci(bs:List Bool):TruthOf X.prog X.w A (λi v=>(bs.map uH).toArray[i]?=a_ v) (λi=>bs.getD i d_):=by
 intro i v s Q E h q;have h':(bs.map uH)[i]?=a_ v:=by simpa using h
 rw[cO]at h';cases e:bs[i]? with
 | none=>rw[e]at h';cases h'
 | some b=>
  rw[e]at h';have hv:=(cE h').symm;subst hv;have hq:bs.getD i d_=b:=by rw[gg,e];rfl
  have q':Q (bs.getD i d_) s:=q;rw[hq]at q';exact nQ q'
def amw(K:u_):List V->Hp->VK->Prop:=λxs H Q=>∃(p:e_) (bs:List Bool),xs=[.ref p]/\aj K H p (bs.map V.bl)/\Q (.bl (bs.all id)) H
def EN(hc:X.calm=c_):jj X (.builtin "all") (amw X.K):=by
 intro p_ s σ H xs us Q I r h;refine eD h λp bs e hq q=>?_;subst e;refine aq (vals1 r) λu aa rx=>?_;subst aa;cases rx;refine a7 (I.list hq) λits rv pl hz=>?_;have ei:=Tc rv;subst ei
 have dr:p≠s.zS:=by
  exact aq pl.isList λo e _=>cC (bH e)
 refine call_all_walk (yz pl.isList (⟨_,_,_,_,_,_,(gR _ xz (Eg (show X.A.in1.handled=b_ from I.ok.hd hc) _ p dr (bs.map uH).toArray) ⟨⟨_,dh _ xz,xz,xz⟩,pl.isList.push _⟩ (aci bs) λh' tk kk=>?_)⟩))
 have e2:(List.range (bs.map uH).toArray.size).all (λi=>bs.getD i d_)=bs.all id:=by
  rw[cN,aL];exact range_all bs
 rw[e2];refine dP (.bl _) H (I.kept λb o e=>kk b o (λz=>?_) (bh _ e)) xz q;have z':b=s.zS:=by simpa using z
 rw[z']at e;exact absurd (bH e) (je _)
mutual
inductive k8 (K:u_) (H:Hp):V->PyData->Prop
 | aN:k8 K H .aN .none
 | bl (b:Bool):k8 K H (.bl b) (.bool b)
 | int (i:Int):k8 K H (.int i) (.int i)
 | str (x:Str):k8 K H (.str x) (.str x)
 | lst {a:e_} {xs:List V} {ds:List PyData}:aj K H a xs->lQ K H xs ds->k8 K H (.ref a) (.list ds)
 | tup {a:e_} {xs:List V} {ds:List PyData}:aD K H a xs->lQ K H xs ds->k8 K H (.ref a) (.tuple ds)
inductive lQ (K:u_) (H:Hp):List V->List PyData->Prop
 | nil:lQ K H [] []
 | cons {x:V} {d:PyData} {xs:List V} {ds:List PyData}:k8 K H x d->lQ K H xs ds->lQ K H (x::xs) (d::ds)
end
variable{p_:List (e_×Obj)}{σ:St}{H:Hp}{s:g_}
mutual
def k8.reads(I:Inv X p_ σ H s):∀{v:V} {d:PyData} {u:f_},k8 X.K H v d->RelV v u->∃as,Reads s.heap u d as
 | _,_,_,.aN,r=>by cases r;exact⟨_,.none⟩
 | _,_,_,.bl b,r=>by cases r;exact⟨_,.bool b⟩
 | _,_,_,.int i,r=>by obtain⟨t,e⟩:=r;subst e;exact⟨_,.int i t⟩
 | _,_,_,.str x,r=>by obtain⟨t,e⟩:=r;subst e;exact⟨_,.str x t⟩
 | _,_,_,.lst hq hs,r=>by
  cases r;exact a7 (I.list hq) λits rv pl hz=>oE (lQ.reads I hs rv) λas h=>a7 pl.isList λo ho hc aa=>oE aa λn hd=>⟨_,.list ho hc hd (by simpa using h)⟩
 | _,_,_,.tup hq hs,r=>by
  cases r;exact a7 (I.tuple hq) λits rv pl hz=>oE (lQ.reads I hs rv) λas h=>a7 pl λo ho hc aa=>oE aa λn hd=>⟨_,.tuple ho hc hd (by simpa using h)⟩
def lQ.reads(I:Inv X p_ σ H s):∀{vs:List V} {ds:List PyData} {us:List f_},lQ X.K H vs ds->Vals vs us->∃as,ReadsAll s.heap us ds as
 | _,_,_,.nil,r=>by cases r;exact⟨_,.nil⟩
 | _,_,_,.cons h t,r=>by
  cases r with
  | cons r1 r2=>
   exact oE (k8.reads I h r1) λas q1=>oE (lQ.reads I t r2) λbs q2=>⟨_,.cons q1 q2⟩
end
def amu(K:u_)(neg:Bool):R2:=λx y H Q=>∃d e,k8 K H x d/\k8 K H y e/\shaped d=c_/\shaped e=c_/\noMix d e=c_/\Q (.bl (if neg=c_ then !same d e else same d e)) H
def aim(hu:X.A.units+64<cLine):eQ X (iH .NotEq) (amu X.K c_):=by
 intro p_ s σ H x y v u Q I rx ry h;exact fe h λd e h1 h2 h3 h4 h5 q=>oE (h1.reads I rx) λas q1=>oE (h2.reads I ry) λbs q2=>ne_dataH_same q1 q2 h3 h4 hu h5 (dP (.bl _) H I xz q)
end
structure Nx(K:u_)(C:e_)(m:Str)(f:e_):Prop where
 sp:W.specialIn K (.ref C) "__getattribute__" = a_ (a_ (.builtin "type.__getattribute__"))
 rd:W.readsIn K C (.type "type")=c_
 fc:W.findCls K (.ref C) (.type "type") m=a_ (.val (.ref f))
 kp:x_ K (.ref f)=c_
section
variable{X:Cx}{CX:qI}{k:Nat}{f C:e_}{fd:jS}{ps:List Str}{sp:Sp}{dvs:List V}{ds:List f_}{E:XK}{x m:Str}{p pos apos:Pos}{e o:Expr}{es:List Expr}{ta:TE}{t:TA}
def yN(c:Nx X.K C m f)(F:aG X.prog X.w X.K X.mg X.base CX k f fd ps sp)(hr:eG k X.A)(hg:Gl X x)(hm:X.mg x=a_ (.ref C))(hb:Binds X.K fd ps ds)(hd:Vals dvs ds)(hx:Passes CX X E)(ha:PA X (e::es) t)
  (qQ:(x == ("__debug__" : Str))=false:=by decide) (cB:bV (e::es) X.env=(d_,eval e X.env)::bV es X.env:=by rfl) (dG:(backTo pos (bV es X.env)).any (·.1)=false:=by rfl)
  (ht:eval (.Call (.Attribute (.Name x p) m apos) (e::es) [] pos) X.env=(do
   let ov <-eval (.Name x p) X.env
   standAt apos.atName
   let (f,first) <-holding [ov] (uJ ov m pl)
   y3 pos f first (backTo pos (bV (e::es) X.env)) (uP pos (uF [] X.env))):=by rfl) :
  PE X (.Call (.Attribute (.Name x p) m apos) (e::es) [] pos) (MC sp dvs E t):=by
 intro p_ s σ H Q I h;refine W.methodCall_KW (pl:=pl) (E4 I hg hm ?_ qQ) ht;refine W.method_cls I.eZ c.sp (W.cls_value I.eZ c.rd c.fc xz ?_);have I1:=I.tok (s.toks+1);refine G_ (first:=[]) (h₀:=X.base) I.ok.mod.xE c.kp (Cd (ha pos p_ _ σ H _ I1 h) λus s2 vs H2 I2 r q2=>⟨I2.eZ,?_⟩) cB dG;exact zk F hr hb hd hx I2 r q2
def ahX(P:k_)(w:j_)(K:u_)(mg:Str->Option f_)(base:i_)(CX:qI)(k:Nat)(m:Str)(E:XK)(ta:TE):TE:=λσ H Q=>ta σ H λx H1=>∃a C dx fs f fd ps sp,x=.ref a/\H1 a=a_ (.ins C dx fs)/\fs.lookup m=b_/\dg K C/\Meth K C m f/\
 aG P w K mg base CX k f fd ps sp/\Binds K fd ps []/\sp [.ref a] H1 Q E
def T5{P:k_}{w:j_}{K:u_}{mg:Str->Option f_}{base:i_}(he:PE X o ta)(hr:eG k X.A)(hx:Passes CX X E)(hP:X.prog=P:=by rfl)(hw:X.w=w:=by rfl)(hK:X.K=K:=by rfl)(vX:X.mg=mg:=by rfl)(C7:X.base=base:=by rfl)
  (ht:eval (.Call (.Attribute o m apos) [] [] pos) X.env=(do
   let ov <-eval o X.env
   standAt apos.atName
   let (f,first) <-holding [ov] (uJ ov m pl)
   y3 pos f first (backTo pos (bV [] X.env)) (uP pos (uF [] X.env))):=by rfl) :
  PE X (.Call (.Attribute o m apos) [] [] pos) (ahX P w K mg base CX k m E ta):=by
 subst hP hw hK vX C7;intro p_ s σ H Q I h;refine W.methodCall_KW (pl:=pl) (aR (he p_ s σ H _ I h) λu s1 hh=>?_) ht;refine eD hh λx H1 I1 rx aa=>fX aa λa C dx fs f aa=>gD aa λfd ps sp ex ea aa=>mX aa λl c hm F hb q=>?_;subst ex;obtain rfl:u=dj a:=rx;exact Ee I1 ea c hm l (W.callWith_K0 (first:=[.ref a]) I1.eZ hm.kp (zk (us:=[.ref a]) (vs:=[.ref a]) (dvs:=[]) (ds:=[]) F hr hb .nil hx I1 (.cons xz .nil) q))
end
def bG{c A B:Prop}[Decidable c](h1:c->A)(h2:¬c->B):if decide c=c_ then A else B:=by
 by_cases h:c
 .rw[decide_eq_true h];exact jW (h1 h)
 .rw[decide_eq_false h];exact eW (h2 h)
def tD{c A B:Prop}[Decidable c](h1:¬c->A)(h2:c->B):if (!decide c)=c_ then A else B:=by
 by_cases h:c
 .rw[decide_eq_true h];exact eW (h2 h)
 .rw[decide_eq_false h];exact jW (h1 h)
def vp{A B:Prop}(h1:b=c_->A)(h2:b=d_->B):if b=c_ then A else B:=by
 cases b with
 | true=>exact jW (h1 xz)
 | false=>exact eW (h2 xz)
def Nf{A B:Prop}(h1:b=d_->A)(h2:b=c_->B):if (!b)=c_ then A else B:=by
 cases b with
 | true=>exact eW (h2 xz)
 | false=>exact jW (h1 xz)
def Xx(sc out:Scope)(XN N:List Str)(idx:List Nat):Bool:=
 decide (sc.kind=.function)&&(sc.names.all (λy=>decide (y.2≠.cell))&&(sc.names.all (λy=>decide (y.2≠.local)||decide (sc.names.lookup y.1=a_ .local)) && (sc.names.all (λy=>decide (y.2≠.free)||decide (out.names.lookup y.1=a_ .cell))&&(decide (idx.length<=N.length)&&(idx.zip N).all λp=>decide (XN[p.1]?=a_ p.2)&&decide (sc.names.lookup p.2=a_ .free)))))
def dw.of(h:Xx sc X.env.scope X.N N idx=c_):dw X sc N idx:=by
 unfold Xx at h;simp only[lK,decide_eq_true_eq,IK,Bool.or_eq_true]at h;refine mX h λh1 h2 h3 h4 h5 h6=>⟨h1,h2,λy hy e=>?_,λy hy e=>?_,h5,λk i x a b=>?_⟩
 .rcases h3 y hy with z | z
  .exact absurd e z
  .exact z
 .rcases h4 y hy with z | z
  .exact absurd e z
  .exact z
 .have hm:(i,x)∈idx.zip N:=by
   have:(idx.zip N)[k]?=a_ (i,x):=by rw[aap];exact⟨a,b⟩
   exact bu this
  exact h6 (i,x) hm
end L2
namespace TL
open L2 L3
def kinds:List String:=["NoneType","bool","int","str","list",Y_]
def Wk:List String:=["int","bool","str",Y_,"list"]
def tJ(T U:String):Bool:=T == U||(T == "bool" && U == "int")
def aiQ(K:u_)(T U:String):v_ K (.type T) (.type U) =
  (if (iW T == iW U)=c_ then a_ c_ else if W.kitMeta U=c_ then (fastBuiltinMro T).map (·.contains (.type U)) else b_):=rfl
def ahs:∀T∈kinds,∀U∈Wk,(if (iW T == iW U)=c_ then a_ c_ else if W.kitMeta U=c_ then (fastBuiltinMro T).map (·.contains (.type U)) else b_)=a_ (tJ T U):=dk
def tyName(H:Hp):V->Option String
 | .aN=>a_ "NoneType"
 | .bl _=>a_ "bool"
 | .int _=>a_ "int"
 | .str _=>a_ "str"
 | .ref a=>match H a with
  | some (.lst _)=>a_ "list"
  | some (.tup _)=>a_ "tuple"
  | _=>b_
 | _=>b_
def Sr{K:u_}(h:tyName H v=a_ T):gG K H v (.type T)/\T∈kinds:=by
 cases v with
 | aN=>cases h;exact⟨.aN,qc⟩
 | bl b=>cases h;exact⟨.bl b,qc⟩
 | int i=>cases h;exact⟨.int i,qc⟩
 | str x=>cases h;exact⟨.str x,qc⟩
 | ref a=>
  unfold tyName at h;cases e:H a with
  | none=>simp only[e]at h;cases h
  | some o=>
   cases o with
   | lst xs=>simp only[e]at h;cases h;exact⟨.lst e,qc⟩
   | tup xs=>simp only[e]at h;cases h;exact⟨.tup e,qc⟩
   | _=>simp only[e]at h;cases h
 | _=>cases h
def oK{K:u_}(h:tyName H v=a_ T)(hU:U∈Wk):v_ K (.type T) (.type U)=a_ (tJ T U):=by
 rw[aiQ];exact ahs T (Sr (K:=K) h).2 U hU
def oS{K:u_}(h:tyName H v=a_ T):gG K H v (.type T):=(Sr h).1
def Rw(s:af H H')(h:tyName H v=a_ T):tyName H' v=a_ T:=by
 cases v with
 | ref a=>
  unfold tyName at h ⊢;cases e:H a with
  | none=>simp only[e]at h;cases h
  | some o=>simp only[s a o e];simp only[e]at h;exact h
 | _=>exact h
def tS:V->Bool
 | .int _=>c_
 | _=>d_
def Wl(h:tyName H v=a_ T):(tJ T "int" && !tJ T "bool")=tS v:=by
 cases v with
 | aN=>cases h;rfl
 | bl b=>cases h;rfl
 | int i=>cases h;rfl
 | str x=>cases h;rfl
 | ref a=>
  unfold tyName at h;cases e:H a with
  | none=>simp only[e]at h;cases h
  | some o=>
   cases o with
   | lst xs=>simp only[e]at h;cases h;rfl
   | tup xs=>simp only[e]at h;cases h;rfl
   | _=>simp only[e]at h;cases h
 | _=>cases h
def dB(w:Str):Option (List Int):=
 if w = T_ then a_ [4,k7] else if w = W_ then a_ [4,4] else if w = l_ then a_ [12,4] else if w = H_ then a_ [4,12] else if w = I_ then a_ [4,12]
 else if w = M_ then a_ [] else if w = Q_ then a_ [4,121] else b_
def nA:V->Int->Bool
 | .int i,b=>decide (0<=i)&&decide (i<b)
 | _,_=>d_
def stepOk:List V->Bool
 | .str w::ps=>match dB w with
  | none=>d_
  | some bs=>decide (ps.length=bs.length)&&(ps.zip bs).all λp=>nA p.1 p.2
 | _=>d_
def tu(H:Hp):V->Option (List V)
 | .ref a=>match H a with
  | some (.tup xs)=>a_ xs
  | _=>b_
 | _=>b_
def zl(H:Hp)(v:V):Bool:=match tu H v with
 | some xs=>stepOk xs
 | none=>d_
def adj(h:tu H v=a_ xs):∃a,v=.ref a/\H a=a_ (.tup xs):=by
 cases v with
 | ref a=>
  refine au a xz ?_;unfold tu at h;cases e:H a with
  | none=>simp only[e]at h;cases h
  | some o=>
   cases o with
   | tup ys=>simp only[e]at h;cases h;rfl
   | _=>simp only[e]at h;cases h
 | _=>cases h
def To(h:H a=a_ (.tup xs)):tu H (.ref a)=a_ xs:=by
 unfold tu;simp only[h]
def Eb(h:H a=a_ (.tup xs)):tyName H (.ref a)=a_ Y_:=by
 unfold tyName;simp only[h]
def V6(h:tyName H v=a_ T):tJ T Y_ = (tu H v).isSome:=by
 cases v with
 | aN=>cases h;rfl
 | bl b=>cases h;rfl
 | int i=>cases h;rfl
 | str x=>cases h;rfl
 | ref a=>
  unfold tyName at h;unfold tu;cases e:H a with
  | none=>simp only[e]at h;cases h
  | some o=>
   cases o with
   | lst xs=>simp only[e]at h ⊢;cases h;rfl
   | tup xs=>simp only[e]at h ⊢;cases h;rfl
   | _=>simp only[e]at h;cases h
 | _=>cases h
def Fs(h:tyName H v=a_ T):tJ T "str" = c_↔∃x,v=.str x:=by
 cases v with
 | str x=>cases h;exact⟨λ_=>⟨x,xz⟩,λ_=>rfl⟩
 | aN=>cases h;exact⟨λz=>(by cases z),λ⟨_,z⟩=>(by cases z)⟩
 | bl b=>cases h;exact⟨λz=>(by cases z),λ⟨_,z⟩=>(by cases z)⟩
 | int i=>cases h;exact⟨λz=>(by cases z),λ⟨_,z⟩=>(by cases z)⟩
 | ref a=>
  refine⟨λz=>?_,λ⟨_,z⟩=>by cases z⟩;unfold tyName at h;cases e:H a with
  | none=>simp only[e]at h;cases h
  | some o=>
   cases o with
   | lst xs=>simp only[e]at h;cases h;cases z
   | tup xs=>simp only[e]at h;cases h;cases z
   | _=>simp only[e]at h;cases h
 | _=>cases h
def aB(s:af H H')(h:H' p=b_):af H (upd H' p o):=λb u e=>by
 rw[ai (bp (s b u e) h)];exact s b u e
end TL
namespace L4
open PySem.Builtin PySem.Builtin.Str
abbrev Tl:=Str×List Nat
inductive cG (sz:Nat):Tl->Prop
 | put (r m:Nat):r<4->m<10^60->cG sz ("put",[r,m])
 | add (r o:Nat):r<4->o<4->cG sz ("add",[r,o])
 | set (n r:Nat):n<12->r<4->cG sz ("set",[n,r])
 | look (r n:Nat):r<4->n<12->cG sz ("look",[r,n])
 | swap (r n:Nat):r<4->n<12->cG sz ("swap",[r,n])
 | clear:cG sz ("clear",[])
 | skip (r q:Nat):r<4->q<=sz->q<=120->cG sz ("skip",[r,q])
def KY:(121:Nat)<=10^60:=dk
def cG.len{sz:Nat}{t:Tl}(g:cG sz t):t.2.length<=2:=by cases g <;> simp
abbrev Pt:=List Tl
structure kU(ps:List Pt):Prop where
 ne:1<=ps.length
 le:ps.length<=4
 part:∀p∈ps,p.length<=120/\∀t∈p,cG p.length t
def cG.mono{t:Tl}(g:cG a t)(h:a<=b):cG b t:=by
 cases g with
 | put r m h1 h2=>exact .put r m h1 h2
 | add r m h1 h2=>exact .add r m h1 h2
 | set r m h1 h2=>exact .set r m h1 h2
 | look r m h1 h2=>exact .look r m h1 h2
 | swap r m h1 h2=>exact .swap r m h1 h2
 | clear=>exact .clear
 | skip r q h1 h2 h3=>exact .skip r q h1 (cu h2 h) h3
end L4
namespace L2
open TL
def nw(n:H l=b_):∃H',upd H l o=H'/\af H H'/\H' l=a_ o:=⟨_,xz,aB (af.refl _) n,ao⟩
def sl(h:n<=1000:=by decide):n<=bw:=by rw[fw];exact cu h qc
end L2
set_option autoImplicit true
namespace L2
abbrev IV:=Nat->St->Hp->Prop
def pR(R:TS)(h:gd X l R):gd X l R:=h
end L2
namespace L2
structure Dp(P:k_)(w:j_)(K:u_)(mg:Str->Option f_)(base:i_)(k:Nat)(x:Str)(ps:List Str)(sp:Sp) where
 {f:e_}
 {fd:jS}
 G:aG P w K mg base aI k f fd ps sp
 k:x_ K (.ref f)=c_
 b:Binds K fd ps []
 m:mg x=a_ (.ref f)
structure Mt(P:k_)(w:j_)(K:u_)(mg:Str->Option f_)(base:i_)(C:e_)(k:Nat)(x:Str)(ps:List Str)(sp:Sp) where
 {f:e_}
 {fd:jS}
 G:aG P w K mg base aI k f fd ps sp
 b:Binds K fd ps []
 m:Meth K C x f
section
variable{X:Cx}{C:e_}{k:Nat}{ps:List Str}{sp:Sp}{x m:Str}{p pos apos:Pos}{e o:Expr}{es:List Expr}{ta:TE}{t:TA}
def dO(D:Dp X.prog X.w X.K X.mg X.base k x ps sp)(hr:eG k X.A)(hg:Gl X x)(ha:PA X (e::es) t)(qQ:(x == ("__debug__" : Str))=false:=by decide)(he:bV (e::es) X.env=(d_,eval e X.env)::bV es X.env:=by rfl)(dG:(backTo pos (bV es X.env)).any (·.1)=false:=by rfl) :
  PE X (.Call (.Name x p) (e::es) [] pos) (MC sp [] E0 t):=mQ D.G hr hg D.m D.k D.b .nil c9 ha qQ he dG
def jh(he:PE X o ta)(c:dg X.K C)(D:Mt X.prog X.w X.K X.mg X.base C k m ps sp)(hr:eG k X.A)(ha:PA X (e::es) t)
  (cB:bV (e::es) X.env=(d_,eval e X.env)::bV es X.env:=by rfl) (dG:(backTo pos (bV es X.env)).any (·.1)=false:=by rfl)
  (ht:eval (.Call (.Attribute o m apos) (e::es) [] pos) X.env=(do
   let ov <-eval o X.env
   standAt apos.atName
   let (f,first) <-holding [ov] (uJ ov m pl)
   y3 pos f first (backTo pos (bV (e::es) X.env)) (uP pos (uF [] X.env))):=by rfl) :
  PE X (.Call (.Attribute o m apos) (e::es) [] pos) (BP C m sp [] E0 ta t):=E1 he c D.m D.G hr D.b .nil c9 ha cB dG ht
def lM(he:PE X o ta)(c:dg X.K C)(D:Mt X.prog X.w X.K X.mg X.base C k m ps sp)(hr:eG k X.A)
  (ht:eval (.Call (.Attribute o m apos) [] [] pos) X.env=(do
   let ov <-eval o X.env
   standAt apos.atName
   let (f,first) <-holding [ov] (uJ ov m pl)
   y3 pos f first (backTo pos (bV [] X.env)) (uP pos (uF [] X.env))):=by rfl) :
  PE X (.Call (.Attribute o m apos) [] [] pos) (BP C m sp [] E0 ta NH):=EC he c D.m D.G hr D.b .nil c9 ht
end
end L2
namespace TL
open L2 L3
structure Bl(mg:Str->Option f_):Prop where
 iO:mg "isinstance" = b_
 int:mg "int" = b_
 bool:mg "bool" = b_
 str:mg "str" = b_
 tuple:mg Y_ = b_
 len:mg "len" = b_
 all:mg "all" = b_
 zip:mg "zip" = b_
structure Cn(mg:Str->Option f_):Prop where
 top:∃u,mg "TOP" = a_ u/\RelV (.int k7) u
 names:∃u,mg "NAMES" = a_ u/\RelV (.int 12) u
 fg:∃u,mg "REGISTERS" = a_ u/\RelV (.int 4) u
 long:∃u,mg "LONGEST" = a_ u/\RelV (.int 120) u
section
variable{P:k_}{w:j_}{K:u_}{mg:Str->Option f_}{base:i_}
def K1:Sp:=λvs H Q _=>∃v T,vs=[v]/\tyName H v=a_ T/\Q (.bl (tS v)) H
def agp:ba [ap7] [ap7] (aS BF):=bj
def T9(F:aQ K X_ X_ BF f fd)(B:Bl mg):aG P w K mg base aI 1 f fd [ap7] K1:=by
 refine F.ok agp λaJ A _ s H vs Q E hr h=>?_
 .refine eD h λv T aa ht k=>?_;clear h;subst aa;refine⟨_,av (aZ (Ff (bU iZ xz B.iO jd (ab (pv 0) (ab (pY (v:=.ty "int") xz B.int boot_int xz) ag))) (BI (Mb (bU iZ xz B.iO jd (ab (pv 0) (ab (pY (v:=.ty "bool") xz B.bool boot_bool xz) ag))))))),?_⟩;have e:=Wl ht;refine au v xz (dX _ _ _ _ (gR _ xz (oS ht) xz (oK ht qc) (au _ xz (vp (λh1=>?_) λh1=>?_))))
  .refine au v xz (dX _ _ _ _ (gR _ xz (oS ht) xz (oK ht qc) (au _ xz ?_)));rw[h1,D5]at e;rw[e];exact k
  .rw[h1,D0]at e;rw[e];exact k
def TH:Sp:=λvs H Q _=>∃x,vs=[.str x]/\(dB x=b_->Q .aN H)/\∀bs,dB x=a_ bs->∀p,H p=b_->Q (.ref p) (upd H p (.lst (bs.map V.int)))
def aeP:ba ["word"] ["word"] (aS Bx):=bj
def str_inj(h:V.str x=V.str y):x=y:=by injection h
def adI(F:aQ K ap6 ap6 Bx f fd)(C:Cn mg):aG P w K mg base aI 1 f fd ["word"] TH:=by
 refine F.ok aeP λaJ A _ s H vs Q E hr h=>?_
 .refine a7 h λx aa k0 k1=>?_;clear h;subst aa;refine aq C.top λuT mT rT=>aq C.names λuN mN rN=>aq C.fg λuR mR rR=>aq C.long λuL mL rL=>?_;refine let a:TS:=_;let b:TS:=_;let c:TS:=_;let d:TS:=_;let g:TS:=_;let i:TS:=_;let j:TS:=_;let k:TS:=_;let l:TS:=_;let m:TS:=_;⟨_,ar (b8 (bM c7 (pv 0) cR (bJ _)) (pR a (av (aZ (dW (ab (fq xz mR rR) (ab (fq xz mT rT) ag)))))) cp) (pR m (ar (b8 (bM c7 (pv 0) cR (bJ _)) (pR b (av (aZ (dW (ab (fq xz mR rR) (ab (fq xz mR rR) ag)))))) cp) (pR l (ar (b8 (bM c7 (pv 0) cR (bJ _)) (pR c (av (aZ (dW (ab (fq xz mN rN) (ab (fq xz mR rR) ag)))))) cp) (pR k (ar (b8 (PW.pt (pw_or (bM c7 (pv 0) cR (bJ _)) (pw_or1 (bM c7 (pv 0) cR (bJ _))))) (pR d (av (aZ (dW (ab (fq xz mR rR) (ab (fq xz mN rN) ag)))))) cp) (pR j (ar (b8 (bM c7 (pv 0) cR (bJ _)) (av (aZ (dW ag))) cp) (pR i (ar (b8 (bM c7 (pv 0) cR (bJ _)) (pR g (av (aZ (dW (ab (fq xz mR rR) (ab (br i5 (fq xz mL rL) aw) ag)))))) cp) (av (aZ mV)))))))))))),?_⟩;refine vr xz ⟨xz,⟨_,xz,bG (λe=>?_) λn1=>?_⟩⟩
  .cases str_inj e;exact⟨qc,λp hp=>k1 [4,k7] (by unfold dB;rw[if_pos rfl]) p hp⟩
  refine au _ xz ⟨xz,⟨_,xz,bG (λe=>?_) λn2=>?_⟩⟩
  .cases str_inj e;exact⟨qc,λp hp=>k1 [4,4] (by unfold dB;rw[if_neg dk,if_pos rfl]) p hp⟩
  refine au _ xz ⟨xz,⟨_,xz,bG (λe=>?_) λn3=>?_⟩⟩
  .cases str_inj e;exact⟨qc,λp hp=>k1 [12,4] (by unfold dB;rw[if_neg dk,if_neg dk,if_pos rfl]) p hp⟩
  refine au _ xz ⟨xz,⟨_,xz,bG (λe=>?_) λn4=>?_⟩⟩
  .cases str_inj e;exact jW ⟨qc,λp hp=>k1 [4,12] (by unfold dB;rw[if_neg dk,if_neg dk,if_neg dk,if_pos rfl]) p hp⟩
  refine vr xz ⟨xz,⟨_,xz,bG (λe=>?_) λn5=>?_⟩⟩
  .cases str_inj e;exact⟨qc,λp hp=>k1 [4,12] (by unfold dB;rw[if_neg dk,if_neg dk,if_neg dk,if_neg dk,if_pos rfl]) p hp⟩
  refine au _ xz ⟨xz,⟨_,xz,bG (λe=>?_) λn6=>?_⟩⟩
  .cases str_inj e;exact⟨qc,λp hp=>k1 [] (by unfold dB;rw[if_neg dk,if_neg dk,if_neg dk,if_neg dk,if_neg dk,if_pos rfl]) p hp⟩
  refine au _ xz ⟨xz,⟨_,xz,bG (λe=>?_) λn7=>?_⟩⟩
  .cases str_inj e;exact⟨_,⟨_,xz,xz,qc,λp hp=>k1 [4,121] (by unfold dB;rw[if_neg dk,if_neg dk,if_neg dk,if_neg dk,if_neg dk,if_neg dk,if_pos rfl]) p hp⟩⟩
  refine k0 ?_;have nn:∀{y:Str},¬V.str x=V.str y->¬x=y:=λh e=>h (by rw[e]);unfold dB;rw[if_neg (nn n1),if_neg (nn n2),if_neg (nn n3),if_neg (nn n4),if_neg (nn n5),if_neg (nn n6),if_neg (nn n7)]
def Tz:Sp:=λvs H Q _=>∃v T,vs=[v]/\tyName H v=a_ T/\(∀xs,tu H v=a_ xs->xs.length<=1000/\∀x∈xs,∃T,tyName H x=a_ T)/\∀H',af H H'->Q (.bl (zl H v)) H'
def TV:ba [ac1,"bounds"] [ac1] (aS EW):=bj
def NU(y:V)(ps:List V):HT.cj (y::ps).length 0 (a_ 1)=1:=by
 simp only[HT.cj,fR]
 first | omega | (simp;done) | (split <;> omega)
def N7(y:V)(ps:List V):lV (y::ps) (a_ 1) b_=ps:=by
 unfold lV;rw[NU];show List.take (HT.cj (y::ps).length (y::ps).length b_-1) ps=ps;exact jP (by simp[HT.cj])
def Sh{bs:List Int}(h:dB x=a_ bs):bs.length<=2:=by
 unfold dB at h
 repeat (first | (split at h;(cases h;decide)) | (cases h;done))
def WR:(["part","bound"]:List Str).Nodup:=dk
def adH(F:aQ K "is_step" "is_step" EW f fd)(B:Bl mg)(C:Cn mg)
  (FW:aQ K X_ X_ BF fW sk) (bW:Binds K sk [ap7] []) (mW:mg X_ = a_ (.ref fW)) (FB:aQ K ap6 ap6 Bx fB tW) (bB:Binds K tW ["word"] []) (mB:mg ap6 = a_ (.ref fB)) :
  aG P w K mg base aI 2 f fd [ac1] Tz:=by
 have GW:aG P w K mg base aI 1 fW sk [ap7] K1:=T9 FW B;have GB:aG P w K mg base aI 1 fB tW ["word"] TH:=adI FB C;refine F.ok TV λaJ A _ s H vs Q E hr h=>?_
 .refine jf h λv T aa ht hx k=>?_;clear h;subst aa
  refine let b:TS:=_;let d:TS:=_;let g:TS:=_;⟨_,ar (b8 (PW.pt (pw_or (ou (gu (bU iZ xz B.iO jd (ab (pv 0) (ab (pY (v:=.ty Y_) xz B.tuple rj xz) ag))))) (pw_or (bM c7 (bU eU xz B.len q_ (ab (pv 0) ag)) aw (bJ _)) (pw_or1 (ou (gu (bU iZ xz B.iO jd (ab (aP cc (pv 0) aw) (ab (pY (v:=.ty "str") xz B.str boot_str xz) ag))))))))) (av (aZ jU)) cp) (pR g (ar (bq (i:=1) TV.nd xz (aE xz) (mQ GB hr xz mB FB.kp bB .nil c9 (ab (aP cc (pv 0) aw) ag))) (pR d (ar (b8 (PW.pt (pw_or (bM Md (pv 1) mV (bJ _)) (pw_or1 (bM BQ (bU eU xz B.len q_ (ab (pv 0) ag)) (br i5 (bU eU xz B.len q_ (ab (pv 1) ag)) aw) (bJ _))))) (av (aZ jU)) cp) (pR b (av (aZ (bU (EN xz) xz B.all boot_all (ab (iJ (N:=["part","bound"]) (idx:=[]) xz (dw.of (by kernel_rfl)) (Bh (a8 _) (a8 _))
    (L9 (b1:=d_) (b2:=c_) xz B.zip (ab (Bs VT (pv 0) (By aw) Bz) (ab (pv 1) ag)))
    (λ_ _ _ _=>kK xz (dA (bA (i:=0) WR xz (aE xz) (.inr xz)) (dA (bA (i:=1) WR xz (aE xz) (.inr xz)) kH)))
    (λ_ _ _ _=>i3)
    λ_ _ _ _=>Ff (mQ GW hr xz mW FW.kp bW .nil c9 (ab (pv 0) ag)) (BI (ae0 MY zC aw (pv 0) (pv 1)))) ag))))))))),?_⟩
  cases hv:tu H v with
  | none=>
   have hi:tJ T Y_ = false:=by rw[V6 ht,hv];rfl
   have cB:zl H v=false:=by unfold zl;rw[hv]
   have kk:=k H (af.refl H);rw[cB]at kk;refine au v xz (dX _ _ _ _ (gR _ xz (oS ht) xz (oK ht qc) (au _ xz ?_)));rw[hi];exact jW (jW kk)
  | some xs=>
   refine aq (adj hv) λa e0 ha=>?_;subst e0;refine oA (hx xs hv) λhl uc=>?_;have hi:tJ T Y_ = true:=by rw[V6 ht,hv];rfl
   have kk:∀H',af H H'->Q (.bl (stepOk xs)) H':=λH' s=>by
    have q:=k H' s;unfold zl at q;rw[hv]at q;exact q
   refine vr xz (dX _ _ _ _ (gR _ xz (oS ht) xz (oK ht qc) (au _ xz ?_)));rw[hi];refine eW ?_;cases xs with
   | nil=>
    refine vr xz (dP a ([]) xz (.inr (aD.of ha)) ⟨xz,⟨_,xz,bG (λe=>?_) λn0=>absurd xz n0⟩⟩);exact jW (kk H (af.refl H))
   | cons y ps=>
    refine vr xz (dP a (y::ps) xz (.inr (aD.of ha)) ⟨xz,⟨_,xz,bG (λe=>?_) λn0=>?_⟩⟩)
    .injection e with e
     exact absurd e (by simp only[fR];omega)
    refine oE (uc y du) λTy hy=>gH (v:=y) (j:=0) xz ha xz (dX _ _ _ _ (gR _ xz (oS hy) xz (oK hy qc) (au _ xz (Nf (λh1=>?_) λh1=>?_))))
    .have e:stepOk (y::ps)=false:=by
      cases y with
      | str x=>exact absurd ((Fs hy).mpr ⟨x,xz⟩) (by rw[h1];exact dU)
      | _=>rfl
     have q:=kk H (af.refl H);rw[e]at q;exact q
    refine oE ((Fs hy).mp h1) λx0 e0=>?_;subst e0;refine gH (v:=.str x0) (j:=0) xz ha xz (dJ x0 xz (λhb=>?_) λbs hb p hp=>?_)
    .refine au _ xz ⟨xz,⟨_,xz,bG (λ_=>?_) λn=>absurd xz n⟩⟩
     have e:stepOk (.str x0::ps)=false:=by
      show (match dB x0 with | none=>d_ | some bs=>decide (ps.length=bs.length)&&(ps.zip bs).all λp=>nA p.1 p.2)=d_;rw[hb]
     have q:=kk H (af.refl H);rw[e]at q;exact jW q
    have s1:af H (upd H p (.lst (bs.map V.int))):=aB (af.refl H) hp;have HR:=s1 _ _ ha
    have eS:stepOk (.str x0::ps)=(decide (ps.length=bs.length)&&(ps.zip bs).all λp=>nA p.1 p.2):=by
     show (match dB x0 with | none=>d_ | some bs=>decide (ps.length=bs.length)&&(ps.zip bs).all λp=>nA p.1 p.2)=_;rw[hb]
    rw[eS]at kk;refine au _ xz ⟨xz,⟨_,xz,bG (λz=>by cases z) λ_=>vr xz ⟨a,⟨_,xz,.inr (aD.of HR),_,xz,p,_,xz,.inl (aj.of ao),_,_,xz,xz,xz,_,xz,tD (λne=>?_) λeq=>?_⟩⟩⟩⟩
    .have e:decide (ps.length=bs.length)=false:=decide_eq_false λz=>ne (by rw[fR,aL,z];rfl);rw[e,D0]at kk;exact kk _ s1
    have hlen:ps.length=bs.length:=by
     injection eq with eq
     rw[fR,aL]at eq;omega
    rw[decide_eq_true hlen,D5]at kk;refine au _ xz (au 1 xz ⟨a,⟨_,xz,aD.of HR,?_,λq hq=>?_⟩⟩)
    .intro z;have z1:=z.1;rw[NU]at z1;cases z1
    rw[N7];have s2:af H (upd (upd H p (.lst (bs.map V.int))) q (.tup ps)):=aB s1 hq;have vG:=bp ao hq;have ue:upd (upd H p (.lst (bs.map V.int))) q (.tup ps) p=a_ (.lst (bs.map V.int)):=by rw[ai vG];exact ao
    refine vr xz (⟨q,p,ps,(bs.map V.int),xz,(aD.of ao),(aj.of ue),?_⟩);generalize hH3:upd (upd H p (.lst (bs.map V.int))) q (.tup ps)=H3 at s2 ue;have ud:H3 q=a_ (.tup ps):=by rw[<-hH3];exact ao
    refine gr (n:=bs.length) (λi ys H'=>i<=bs.length/\af H3 H'/\ys=((ps.zip bs).take i).map λz=>V.bl (nA z.1 z.2)) ?_ ?_ ?_ ?_ ?_ ?_ ?_
    .have dM:=Sh hb;exact cY (eh w4)
    .exact eJ (a8 _) (af.refl _) xz
    .rintro i ys H' ⟨_,_,e⟩;rw[e,aL,gm];exact xl
    .rintro i ys H' hi ⟨_,s3,_⟩;exact⟨ps,(bs.map V.int),(ps[i]'wg),(V.int bs[i]),(aD.of (s3 _ _ ud)),(aj.of (s3 _ _ ue)),(by simp[hlen,hi]),(by simp[hi])⟩
    .rintro ys H' ⟨_,s3,_⟩;exact dP ps (bs.map V.int) (aD.of (s3 _ _ ud)) (aj.of (s3 _ _ ue)) (.inr (by rw[aL];exact aA _))
    .rintro i ys H' hi ⟨_,s3,e⟩ v iF ⟨r,x,y,dR,ev,eH,CL⟩;refine oA (CL ps (bs.map V.int) (aD.of (s3 _ _ ud)) (aj.of (s3 _ _ ue))) λdF xU=>?_;subst ev;subst eH
     have ju:y=V.int bs[i]:=by
      rw[cO,aM hi]at xU;exact(cE xU).symm
     subst ju;have s4:af H3 (upd H' r (.tup [x,V.int bs[i]])):=aB s3 dR;refine oE (uc x (eL _ (bu dF))) λTx PN=>?_;have Ot:=Rw (s2.trans s4) PN
     have zi:(ps.zip bs)[i]?=a_ (x,bs[i]):=by
      rw[aap];exact⟨dF,aM hi⟩
     have fin:∀c,c=nA x bs[i]->i+1<=bs.length/\af H3 (upd H' r (.tup [x,V.int bs[i]]))/\ys++[V.bl c]=((ps.zip bs).take (i+1)).map λz=>V.bl (nA z.1 z.2):=λc hc=>by
      refine eJ hi s4 ?_;rw[jv,zi,fv,<-e,hc];rfl
     refine⟨r,([x,V.int bs[i]]),xz,(aD.of ao),xz,(f7 x ([V.int bs[i]]) xz (dP (V.int bs[i]) ([]) xz xz ?_))⟩;dsimp only[ng];rw[if_pos rfl];refine vr xz (dP x Tx xz Ot (au _ xz ?_));cases x with
     | int j=>
      exact jW (au _ xz (f7 0 j xz ⟨xz,⟨_,xz,bG (λh0=>vr xz (dP j (bs[i]) xz xz (fin _ (by show _=(decide (0<=j)&&decide (j<bs[i]));rw[decide_eq_true h0,D5])))) λh0=>fin _ (by show _=(decide (0<=j)&&decide (j<bs[i]));rw[decide_eq_false h0,D0])⟩⟩))
     | _=>exact eW (fin _ xz)
    .rintro ys H' ⟨_,s3,e⟩;refine⟨?_,λr dR=>?_⟩
     .rw[e,aL,gm];have dM:=Sh hb;have:=eh (n:=bs.length) w4;omega
     have ey:ys=(((ps.zip bs).map λz=>nA z.1 z.2)).map V.bl:=by
      rw[e,jP (by rw[IS];omega),uD];rfl
     refine dP r ((ps.zip bs).map λz=>nA z.1 z.2) xz (aj.of (by rw[ao,ey])) ?_;rw[Be];exact kk _ (aB (s2.trans s3) dR)
def uX(K:u_):Sp:=λvs H Q _=>∃x C dx fs a xs,vs=[.ref x,.ref a]/\H x=a_ (.ins C dx fs)/\dg K C/\bT K C K_/\fs.length<900/\H a=a_ (.tup xs)/\Q .aN (upd H x (.ins C dx (aO K_ (.ref a) fs)))
def ah':ba zLa zLa (aS FH):=bj
def wK(F:aQ K L_ "Step.__init__" FH f fd)(B:mg Y_ = b_):aG P w K mg base aI 1 f fd [U_,ac1] (uX K):=by
 refine F.ok ah' λaJ A _ s H vs Q E hr h=>?_
 .refine mG h λx C dx fs a xs aa hx cl nP aT=>?_;subst aa;exact de aT λhl ha k=>qw (av (fV (pv 0) (og wz xz B rj (ab (pv 1) ag)) xz)) (vr xz (f7 a xs xz (.inr ⟨aD.of ha,_,xz,x,C,dx,fs,xz,hx,cl,nP,wa,k⟩)))
def zM(f:Str)(u:V):(aO f u []).length<1000:=by
 have h1:=q9 f u [];have h3:([]:List (Str×V)).length=0:=rfl;exact wb
def zL(f g:Str)(u v:V):(aO f u (aO g v [])).length<1000:=by
 have h1:=q9 f u (aO g v []);have h2:=q9 g v [];have h3:([]:List (Str×V)).length=0:=rfl;exact xi
structure wZ(K:u_)(mg:Str->Option f_)(cS fI:e_)(gI:jS):Prop where
 fn:aQ K L_ "Step.__init__" FH fI gI
 bi:Binds K gI zLa []
 cf:Nx K cS L_ fI
 at_:mg "Step" = a_ (.ref cS)
 tup:mg Y_ = b_
def oT(C:e_)(f1 f2:Str):Sp:=λvs H Q _=>∃x dx a xs v1 v2,vs=[.ref x,.ref a]/\H x=a_ (.ins C dx [])/\H a=a_ (.tup xs)/\xs[1]?=a_ v1/\xs[2]?=a_ v2/\
 Q .aN (upd H x (.ins C dx (aO f2 v2 (aO f1 v1 (aO K_ (.ref a) [])))))
def ah6:ba zLa zLa (aS FG):=bj
def agY(F:aQ K L_ "Put.__init__" FG f fd)(I:wZ K mg cS fI gI)(cl:dg K C)(nP:bT K C K_)(n1:bT K C O_)(n2:bT K C R_) :
  aG P w K mg base aI 2 f fd zLa (oT C O_ R_):=by
 have GI:aG P w K mg base aI 1 fI gI zLa (uX K):=wK I.fn I.tup;refine F.ok ah6 λaJ A _ s H vs Q E hr h=>?_
 .refine mG h λx dx a xs v1 v2 aa hx ha e1 aT=>?_;subst aa;refine oA aT λe2 k=>?_;refine let b:TS:=_;⟨_,ar (cX (yN I.cf GI hr xz I.at_ I.bi .nil c9 (ab (pv 0) (ab (pv 1) ag)))) (pR b (ar (fV (pv 0) (aP cc (pv 1) aw) xz) (av (fV (pv 0) (aP cc (pv 1) aw) xz)))),?_⟩;have hZ:=gU ha hx (by intro z;cases z);refine vr xz (vr xz ⟨x,⟨C,dx,[],a,xs,xz,hx,cl,nP,qc,ha,vT (v:=v1) xz (aD.of (by rw[ai hZ];exact ha)) (cx (j:=1) e1) ⟨_,xz,x,C,dx,_,xz,ao,cl,n1,zM _ _,vT (v:=v2) xz (aD.of (by rw[ai hZ,ai hZ];exact ha)) (cx (j:=2) e2) ⟨_,xz,x,C,dx,_,xz,ao,cl,n2,zL _ _ _ _,?_⟩⟩⟩⟩);rw[mM,mM];exact k
def aid:ba zLa zLa (aS FJ):=bj
def ag8(F:aQ K L_ "Add.__init__" FJ f fd)(I:wZ K mg cS fI gI)(cl:dg K C)(nP:bT K C K_)(n1:bT K C O_)(n2:bT K C ap5) :
  aG P w K mg base aI 2 f fd zLa (oT C O_ ap5):=by
 have GI:aG P w K mg base aI 1 fI gI zLa (uX K):=wK I.fn I.tup;refine F.ok aid λaJ A _ s H vs Q E hr h=>?_
 .refine mG h λx dx a xs v1 v2 aa hx ha e1 aT=>?_;subst aa;refine oA aT λe2 k=>?_;refine let b:TS:=_;⟨_,ar (cX (yN I.cf GI hr xz I.at_ I.bi .nil c9 (ab (pv 0) (ab (pv 1) ag)))) (pR b (ar (fV (pv 0) (aP cc (pv 1) aw) xz) (av (fV (pv 0) (aP cc (pv 1) aw) xz)))),?_⟩;have hZ:=gU ha hx (by intro z;cases z);refine vr xz (vr xz ⟨x,⟨C,dx,[],a,xs,xz,hx,cl,nP,qc,ha,vT (v:=v1) xz (aD.of (by rw[ai hZ];exact ha)) (cx (j:=1) e1) ⟨_,xz,x,C,dx,_,xz,ao,cl,n1,zM _ _,vT (v:=v2) xz (aD.of (by rw[ai hZ,ai hZ];exact ha)) (cx (j:=2) e2) ⟨_,xz,x,C,dx,_,xz,ao,cl,n2,zL _ _ _ _,?_⟩⟩⟩⟩);rw[mM,mM];exact k
def ah5:ba zLa zLa (aS FE):=bj
def agW(F:aQ K L_ "Set.__init__" FE f fd)(I:wZ K mg cS fI gI)(cl:dg K C)(nP:bT K C K_)(n1:bT K C J_)(n2:bT K C O_) :
  aG P w K mg base aI 2 f fd zLa (oT C J_ O_):=by
 have GI:aG P w K mg base aI 1 fI gI zLa (uX K):=wK I.fn I.tup;refine F.ok ah5 λaJ A _ s H vs Q E hr h=>?_
 .refine mG h λx dx a xs v1 v2 aa hx ha e1 aT=>?_;subst aa;refine oA aT λe2 k=>?_;refine let b:TS:=_;⟨_,ar (cX (yN I.cf GI hr xz I.at_ I.bi .nil c9 (ab (pv 0) (ab (pv 1) ag)))) (pR b (ar (fV (pv 0) (aP cc (pv 1) aw) xz) (av (fV (pv 0) (aP cc (pv 1) aw) xz)))),?_⟩;have hZ:=gU ha hx (by intro z;cases z);refine vr xz (vr xz ⟨x,⟨C,dx,[],a,xs,xz,hx,cl,nP,qc,ha,vT (v:=v1) xz (aD.of (by rw[ai hZ];exact ha)) (cx (j:=1) e1) ⟨_,xz,x,C,dx,_,xz,ao,cl,n1,zM _ _,vT (v:=v2) xz (aD.of (by rw[ai hZ,ai hZ];exact ha)) (cx (j:=2) e2) ⟨_,xz,x,C,dx,_,xz,ao,cl,n2,zL _ _ _ _,?_⟩⟩⟩⟩);rw[mM,mM];exact k
def agw:ba zLa zLa (aS Fd):=bj
def afb(F:aQ K L_ "Look.__init__" Fd f fd)(I:wZ K mg cS fI gI)(cl:dg K C)(nP:bT K C K_)(n1:bT K C O_)(n2:bT K C J_) :
  aG P w K mg base aI 2 f fd zLa (oT C O_ J_):=by
 have GI:aG P w K mg base aI 1 fI gI zLa (uX K):=wK I.fn I.tup;refine F.ok agw λaJ A _ s H vs Q E hr h=>?_
 .refine mG h λx dx a xs v1 v2 aa hx ha e1 aT=>?_;subst aa;refine oA aT λe2 k=>?_;refine let b:TS:=_;⟨_,ar (cX (yN I.cf GI hr xz I.at_ I.bi .nil c9 (ab (pv 0) (ab (pv 1) ag)))) (pR b (ar (fV (pv 0) (aP cc (pv 1) aw) xz) (av (fV (pv 0) (aP cc (pv 1) aw) xz)))),?_⟩;have hZ:=gU ha hx (by intro z;cases z);refine vr xz (vr xz ⟨x,⟨C,dx,[],a,xs,xz,hx,cl,nP,qc,ha,vT (v:=v1) xz (aD.of (by rw[ai hZ];exact ha)) (cx (j:=1) e1) ⟨_,xz,x,C,dx,_,xz,ao,cl,n1,zM _ _,vT (v:=v2) xz (aD.of (by rw[ai hZ,ai hZ];exact ha)) (cx (j:=2) e2) ⟨_,xz,x,C,dx,_,xz,ao,cl,n2,zL _ _ _ _,?_⟩⟩⟩⟩);rw[mM,mM];exact k
def ags:ba zLa zLa (aS E'):=bj
def ae7(F:aQ K L_ "Swap.__init__" E' f fd)(I:wZ K mg cS fI gI)(cl:dg K C)(nP:bT K C K_)(n1:bT K C O_)(n2:bT K C J_) :
  aG P w K mg base aI 2 f fd zLa (oT C O_ J_):=by
 have GI:aG P w K mg base aI 1 fI gI zLa (uX K):=wK I.fn I.tup;refine F.ok ags λaJ A _ s H vs Q E hr h=>?_
 .refine mG h λx dx a xs v1 v2 aa hx ha e1 aT=>?_;subst aa;refine oA aT λe2 k=>?_;refine let b:TS:=_;⟨_,ar (cX (yN I.cf GI hr xz I.at_ I.bi .nil c9 (ab (pv 0) (ab (pv 1) ag)))) (pR b (ar (fV (pv 0) (aP cc (pv 1) aw) xz) (av (fV (pv 0) (aP cc (pv 1) aw) xz)))),?_⟩;have hZ:=gU ha hx (by intro z;cases z);refine vr xz (vr xz ⟨x,⟨C,dx,[],a,xs,xz,hx,cl,nP,qc,ha,vT (v:=v1) xz (aD.of (by rw[ai hZ];exact ha)) (cx (j:=1) e1) ⟨_,xz,x,C,dx,_,xz,ao,cl,n1,zM _ _,vT (v:=v2) xz (aD.of (by rw[ai hZ,ai hZ];exact ha)) (cx (j:=2) e2) ⟨_,xz,x,C,dx,_,xz,ao,cl,n2,zL _ _ _ _,?_⟩⟩⟩⟩);rw[mM,mM];exact k
def agt:ba zLa zLa (aS Fb):=bj
def ae8(F:aQ K L_ "Skip.__init__" Fb f fd)(I:wZ K mg cS fI gI)(cl:dg K C)(nP:bT K C K_)(n1:bT K C O_)(n2:bT K C ac2) :
  aG P w K mg base aI 2 f fd zLa (oT C O_ ac2):=by
 have GI:aG P w K mg base aI 1 fI gI zLa (uX K):=wK I.fn I.tup;refine F.ok agt λaJ A _ s H vs Q E hr h=>?_
 .refine mG h λx dx a xs v1 v2 aa hx ha e1 aT=>?_;subst aa;refine oA aT λe2 k=>?_;refine let b:TS:=_;⟨_,ar (cX (yN I.cf GI hr xz I.at_ I.bi .nil c9 (ab (pv 0) (ab (pv 1) ag)))) (pR b (ar (fV (pv 0) (aP cc (pv 1) aw) xz) (av (fV (pv 0) (aP cc (pv 1) aw) xz)))),?_⟩;have hZ:=gU ha hx (by intro z;cases z);refine vr xz (vr xz ⟨x,⟨C,dx,[],a,xs,xz,hx,cl,nP,qc,ha,vT (v:=v1) xz (aD.of (by rw[ai hZ];exact ha)) (cx (j:=1) e1) ⟨_,xz,x,C,dx,_,xz,ao,cl,n1,zM _ _,vT (v:=v2) xz (aD.of (by rw[ai hZ,ai hZ];exact ha)) (cx (j:=2) e2) ⟨_,xz,x,C,dx,_,xz,ao,cl,n2,zL _ _ _ _,?_⟩⟩⟩⟩);rw[mM,mM];exact k
structure aW where
 (fW fB fS fO fI N5 N6 N4 Nm Nk Nl akU jY jZ iM jF jE rH i7:e_)
 (sk tW GL xF gI FQ FR FP Fv Ft Fu:jS)
structure rO(K:u_)(mg:Str->Option f_)(t:aW):Prop where
 bl:Bl mg
 cn:Cn mg
 OD:aQ K X_ X_ BF t.fW t.sk
 bW:Binds K t.sk [ap7] []
 mW:mg X_ = a_ (.ref t.fW)
 fnB:aQ K ap6 ap6 Bx t.fB t.tW
 bB:Binds K t.tW ["word"] []
 mB:mg ap6 = a_ (.ref t.fB)
 YV:aQ K "is_step" "is_step" EW t.fS t.GL
 bS:Binds K t.GL [ac1] []
 mS:mg "is_step" = a_ (.ref t.fS)
 GK:aQ K "step_of" "step_of" Lg t.fO t.xF
 bO:Binds K t.xF [ac1] []
 mO:mg "step_of" = a_ (.ref t.fO)
 init:wZ K mg t.akU t.fI t.gI
 ze:dg K t.rH
 ahf:bT K t.rH K_
 ahj:Mk K t.rH t.fI
 ahk:mg "Clear" = a_ (.ref t.rH)
 vg:dg K t.jY
 aku:bT K t.jY K_
 WX:bT K t.jY O_
 WV:bT K t.jY R_
 akx:Mk K t.jY t.N5
 WZ:mg "Put" = a_ (.ref t.jY)
 akN:aQ K L_ "Put.__init__" FG t.N5 t.FQ
 akX:Binds K t.FQ zLa []
 tF:dg K t.jZ
 akv:bT K t.jZ K_
 M8:bT K t.jZ O_
 WW:bT K t.jZ ap5
 mkAdd:Mk K t.jZ t.N6
 W0:mg "Add" = a_ (.ref t.jZ)
 akO:aQ K L_ "Add.__init__" FJ t.N6 t.FR
 akY:Binds K t.FR zLa []
 qm:dg K t.iM
 akt:bT K t.iM K_
 BS:bT K t.iM J_
 WU:bT K t.iM O_
 mkSet:Mk K t.iM t.N4
 M':mg "Set" = a_ (.ref t.iM)
 akM:aQ K L_ "Set.__init__" FE t.N4 t.FP
 akW:Binds K t.FP zLa []
 rG:dg K t.jF
 aiD:bT K t.jF K_
 Wd:bT K t.jF O_
 Fm:bT K t.jF J_
 aiI:Mk K t.jF t.Nm
 Wg:mg "Look" = a_ (.ref t.jF)
 ai3:aQ K L_ "Look.__init__" Fd t.Nm t.Fv
 ajl:Binds K t.Fv zLa []
 qe:dg K t.jE
 aiB:bT K t.jE K_
 Mf:bT K t.jE O_
 Fj:bT K t.jE J_
 aiG:Mk K t.jE t.Nk
 Wf:mg "Swap" = a_ (.ref t.jE)
 aiZ:aQ K L_ "Swap.__init__" E' t.Nk t.Ft
 ajj:Binds K t.Ft zLa []
 rF:dg K t.i7
 aiC:bT K t.i7 K_
 Wc:bT K t.i7 O_
 Fl:bT K t.i7 ac2
 aiH:Mk K t.i7 t.Nl
 Mg:mg "Skip" = a_ (.ref t.i7)
 ai1:aQ K L_ "Skip.__init__" Fb t.Nl t.Fu
 ajk:Binds K t.Fu zLa []
def da(t:aW)(x:Str):Addr:=if x = T_ then t.jY else if x = W_ then t.jZ else if x = l_ then t.iM else if x = H_ then t.jF else if x = I_ then t.jE else if x = M_ then t.rH else t.i7
def dY(v:V)(x:Str)(ps:List V):List (Str×V):=
 if x = T_ then aO R_ (ps.getD 1 .aN) (aO O_ (ps.getD 0 .aN) (aO K_ v []))
 else if x = W_ then aO ap5 (ps.getD 1 .aN) (aO O_ (ps.getD 0 .aN) (aO K_ v []))
 else if x = l_ then aO O_ (ps.getD 1 .aN) (aO J_ (ps.getD 0 .aN) (aO K_ v []))
 else if x = H_ then aO J_ (ps.getD 1 .aN) (aO O_ (ps.getD 0 .aN) (aO K_ v []))
 else if x = I_ then aO J_ (ps.getD 1 .aN) (aO O_ (ps.getD 0 .aN) (aO K_ v []))
 else if x = M_ then aO K_ v []
 else aO ac2 (ps.getD 1 .aN) (aO O_ (ps.getD 0 .aN) (aO K_ v []))
def ahn{α:Type}{l:List α}(h:l.length=2):∃a b,l=[a,b]:=by
 cases l with
 | nil=>cases h
 | cons a t=>
  exact oE (aaB.mp (show t.length=1 from ach h)) λb e=>oX a b (by rw[e])
def zg(h:stepOk (.str x::ps)=c_){b c:Int}{bs:List Int}(hb:dB x=a_ bs)(hl:bs=[b,c]:=by rfl):∃v1 v2,ps=[v1,v2]:=by
 subst hl;have h':(match dB x with | none=>d_ | some bs=>decide (ps.length=bs.length)&&(ps.zip bs).all λp=>nA p.1 p.2)=true:=h;rw[hb]at h';simp only[lK,decide_eq_true_eq]at h';exact ahn h'.1
def ad1(h:stepOk (.str x::ps)=c_)(n1:¬x = T_)(n2:¬x = W_)(n3:¬x = l_)(n4:¬x = H_)(n5:¬x = I_)(n6:¬x = M_):x = Q_:=by
 apply yr;intro n7
 have e:dB x=none:=by
  unfold dB;rw[if_neg n1,if_neg n2,if_neg n3,if_neg n4,if_neg n5,if_neg n6,if_neg n7]
 have h':(match dB x with | none=>d_ | some bs=>decide (ps.length=bs.length)&&(ps.zip bs).all λp=>nA p.1 p.2)=true:=h;rw[e]at h';cases h'
def Ey(t:aW):Sp:=λvs H Q _=>∃a x ps,vs=[.ref a]/\H a=a_ (.tup (.str x::ps))/\stepOk (.str x::ps)=c_/\(ps.length<=900/\∀y∈ps,∃T,tyName H y=a_ T)/\
 ∀z dx H',af H H'->H z=b_->H' z=a_ (.ins (da t x) dx (dY (.ref a) x ps))->Q (.ref z) H'
def TU:ba [ac1,"word"] [ac1] (aS Lg):=bj
def JQ{t:aW}(T:rO K mg t):aG P w K mg base aI 4 t.fO t.xF [ac1] (Ey t):=by
 have GS:aG P w K mg base aI 2 t.fS t.GL [ac1] Tz:=adH T.YV T.bl T.cn T.OD T.bW T.mW T.fnB T.bB T.mB;have GI:aG P w K mg base aI 1 t.fI t.gI zLa (uX K):=wK T.init.fn T.init.tup;have aoj:aG P w K mg base aI 2 t.N5 t.FQ zLa (oT t.jY O_ R_):=agY T.akN T.init T.vg T.aku T.WX T.WV;have aok:aG P w K mg base aI 2 t.N6 t.FR zLa (oT t.jZ O_ ap5):=ag8 T.akO T.init T.tF T.akv T.M8 T.WW;have aoi:aG P w K mg base aI 2 t.N4 t.FP zLa (oT t.iM J_ O_):=agW T.akM T.init T.qm T.akt T.BS T.WU;have al8:aG P w K mg base aI 2 t.Nm t.Fv zLa (oT t.jF O_ J_):=afb T.ai3 T.init T.rG T.aiD T.Wd T.Fm;have al6:aG P w K mg base aI 2 t.Nk t.Ft zLa (oT t.jE O_ J_):=ae7 T.aiZ T.init T.qe T.aiB T.Mf T.Fj;have al7:aG P w K mg base aI 2 t.Nl t.Fu zLa (oT t.i7 O_ ac2):=ae8 T.ai1 T.init T.rF T.aiC T.Wc T.Fl;refine T.GK.ok TU λaJ A _ s H vs Q E hr h=>?_
 .refine gD h λa x0 ps aa ha aT=>?_;clear h;subst aa;refine de aT λhk aa k=>oA aa λhl uc=>?_;have nn:∀{y:Str},¬V.str x0=V.str y->¬x0=y:=λh e=>h (by rw[e])
  refine let c:TS:=_;let d:TS:=_;let f:TS:=_;let g:TS:=_;let l:TS:=_;let m:TS:=_;let n:TS:=_;let p:TS:=_;let r:TS:=_;let u:TS:=_;let z:TS:=_;let B:TS:=_;let C:TS:=_;let D:TS:=_;⟨_,(ar (b8 (ou (gu (mQ GS (hr.mono qc) xz T.mS T.YV.kp T.bS .nil c9 (ab (pv 0) ag)))) sX cp)
   (pR D (ar (bq (i:=1) TU.nd xz (aE xz) (aP cc (pv 0) aw)) (pR C (ar (b8 (bM c7 (pv 1) cR (bJ _)) (pR c (av (aZ (tf T.akx aoj hr xz T.WZ T.akX .nil c9 (ab (pv 0) ag))))) cp) (pR B (ar (b8 (bM c7 (pv 1) cR (bJ _)) (pR d (av (aZ (tf T.mkAdd aok hr xz T.W0 T.akY .nil c9 (ab (pv 0) ag))))) cp) (pR z (ar (b8 (bM c7 (pv 1) cR (bJ _)) (pR f (av (aZ (tf T.mkSet aoi hr xz T.M' T.akW .nil c9 (ab (pv 0) ag))))) cp) (pR u (ar (b8 (bM c7 (pv 1) cR (bJ _)) (pR g (av (aZ (tf T.aiI al8 hr xz T.Wg T.ajl .nil c9 (ab (pv 0) ag))))) cp) (pR r (ar (b8 (bM c7 (pv 1) cR (bJ _)) (pR l (av (aZ (tf T.aiG al6 hr xz T.Wf T.ajj .nil c9 (ab (pv 0) ag))))) cp) (pR p (ar (b8 (bM c7 (pv 1) cR (bJ _)) (pR m (av (aZ (tf T.ahj GI (hr.mono qc) xz T.ahk T.init.bi .nil c9 (ab (pv 0) ag))))) cp)
   (pR n (av (aZ (tf T.aiH al7 hr xz T.Mg T.ajk .nil c9 (ab (pv 0) ag)))))))))))))))))))),?_⟩
  refine vr xz ⟨_,⟨_,xz,Eb ha,(λxs hv=>?_),λH1 hS=>?_⟩⟩
  .rw[To ha]at hv;cases hv;refine⟨by simp only[fR];exact wb,λy hy=>?_⟩;rcases bX.mp hy with e | hy
   .subst e;exact⟨_,xz⟩
   .exact uc y hy
  have cB:zl H (.ref a)=true:=by unfold zl;rw[To ha];exact hk
  rw[cB];refine au _ xz (eW (gH (v:=.str x0) (j:=0) xz ((hS _ _ ha)) xz (au _ xz ⟨xz,⟨_,xz,bG (λe=>?_) λn1=>?_⟩⟩)))
  .cases str_inj e;obtain⟨v1,v2,dS⟩:=zg hk (bs:=[4,k7]) (by unfold dB;rw[if_pos rfl]);subst dS;refine vr xz λx dx nx gJ As=>⟨x,dx,a,[.str T_,v1,v2],v1,v2,xz,ao,?_,xz,xz,xz,?_⟩
   .rw[ai (bp (hS _ _ ha) nx),ai (bp (hS _ _ ha) gJ)];exact hS _ _ ha
   .refine k x dx _ (λb o q=>?_) (hS.free nx) (by rw[ao];rfl);rw[ai (bp (hS b o q) nx),ai (bp (hS b o q) nx),ai (bp (hS b o q) gJ)];exact hS b o q
  refine au _ xz ⟨xz,⟨_,xz,bG (λe=>?_) λn2=>?_⟩⟩
  .cases str_inj e;obtain⟨v1,v2,dS⟩:=zg hk (bs:=[4,4]) (by unfold dB;rw[if_neg dk,if_pos rfl]);subst dS;refine vr xz λx dx nx gJ As=>⟨x,dx,a,[.str W_,v1,v2],v1,v2,xz,ao,?_,xz,xz,xz,?_⟩
   .rw[ai (bp (hS _ _ ha) nx),ai (bp (hS _ _ ha) gJ)];exact hS _ _ ha
   .refine k x dx _ (λb o q=>?_) (hS.free nx) (by rw[ao];rfl);rw[ai (bp (hS b o q) nx),ai (bp (hS b o q) nx),ai (bp (hS b o q) gJ)];exact hS b o q
  refine au _ xz ⟨xz,⟨_,xz,bG (λe=>?_) λn3=>?_⟩⟩
  .cases str_inj e;obtain⟨v1,v2,dS⟩:=zg hk (bs:=[12,4]) (by unfold dB;rw[if_neg dk,if_neg dk,if_pos rfl]);subst dS;refine vr xz λx dx nx gJ As=>⟨x,dx,a,[.str l_,v1,v2],v1,v2,xz,ao,?_,xz,xz,xz,?_⟩
   .rw[ai (bp (hS _ _ ha) nx),ai (bp (hS _ _ ha) gJ)];exact hS _ _ ha
   .refine k x dx _ (λb o q=>?_) (hS.free nx) (by rw[ao];rfl);rw[ai (bp (hS b o q) nx),ai (bp (hS b o q) nx),ai (bp (hS b o q) gJ)];exact hS b o q
  refine au _ xz ⟨xz,⟨_,xz,bG (λe=>?_) λn4=>?_⟩⟩
  .cases str_inj e;obtain⟨v1,v2,dS⟩:=zg hk (bs:=[4,12]) (by unfold dB;rw[if_neg dk,if_neg dk,if_neg dk,if_pos rfl]);subst dS;refine vr xz λx dx nx gJ As=>⟨x,dx,a,[.str H_,v1,v2],v1,v2,xz,ao,?_,xz,xz,xz,?_⟩
   .rw[ai (bp (hS _ _ ha) nx),ai (bp (hS _ _ ha) gJ)];exact hS _ _ ha
   .refine k x dx _ (λb o q=>?_) (hS.free nx) (by rw[ao];rfl);rw[ai (bp (hS b o q) nx),ai (bp (hS b o q) nx),ai (bp (hS b o q) gJ)];exact hS b o q
  refine au _ xz ⟨xz,⟨_,xz,bG (λe=>?_) λn5=>?_⟩⟩
  .cases str_inj e;obtain⟨v1,v2,dS⟩:=zg hk (bs:=[4,12]) (by unfold dB;rw[if_neg dk,if_neg dk,if_neg dk,if_neg dk,if_pos rfl]);subst dS;refine vr xz λx dx nx gJ As=>⟨x,dx,a,[.str I_,v1,v2],v1,v2,xz,ao,?_,xz,xz,xz,?_⟩
   .rw[ai (bp (hS _ _ ha) nx),ai (bp (hS _ _ ha) gJ)];exact hS _ _ ha
   .refine k x dx _ (λb o q=>?_) (hS.free nx) (by rw[ao];rfl);rw[ai (bp (hS b o q) nx),ai (bp (hS b o q) nx),ai (bp (hS b o q) gJ)];exact hS b o q
  refine au _ xz ⟨xz,⟨_,xz,bG (λe=>?_) λn6=>?_⟩⟩
  .cases str_inj e;refine vr xz λx dx nx gJ As=>⟨x,t.rH,dx,[],a,.str M_ :: ps,xz,ao,T.ze,T.ahf,qc,?_,xz,?_⟩
   .rw[ai (bp (hS _ _ ha) nx),ai (bp (hS _ _ ha) gJ)];exact hS _ _ ha
   .refine k x dx _ (λb o q=>?_) (hS.free nx) (by rw[ao];rfl);rw[ai (bp (hS b o q) nx),ai (bp (hS b o q) nx),ai (bp (hS b o q) gJ)];exact hS b o q
  have alS:=ad1 hk (nn n1) (nn n2) (nn n3) (nn n4) (nn n5) (nn n6);subst alS;obtain⟨v1,v2,dS⟩:=zg hk (bs:=[4,121]) (by unfold dB;rw[if_neg dk,if_neg dk,if_neg dk,if_neg dk,if_neg dk,if_neg dk,if_pos rfl]);subst dS;refine vr xz λx dx nx gJ As=>⟨x,dx,a,[.str Q_,v1,v2],v1,v2,xz,ao,?_,xz,xz,xz,?_⟩
  .rw[ai (bp (hS _ _ ha) nx),ai (bp (hS _ _ ha) gJ)];exact hS _ _ ha
  .refine k x dx _ (λb o q=>?_) (hS.free nx) (by rw[ao];rfl);rw[ai (bp (hS b o q) nx),ai (bp (hS b o q) nx),ai (bp (hS b o q) gJ)];exact hS b o q
end
end TL
namespace L2
section
variable{X:Cx}
def len_K(K:u_)(h:X.K=K:=by rfl):jj X (.builtin "len") (λxs H Q=>∃p ys,xs=[.ref p]/\(aj K H p ys\/aD K H p ys)/\Q (.int ys.length) H):=by subst h;exact eU
def BW(K:u_)(h:X.K=K:=by rfl):Cp X (B4 K):=by subst h;exact cw
def BV(K:u_)(h:X.K=K:=by rfl):Cp X (xh K):=by subst h;exact cc
def akP(K:u_)(he:PE X e ta)(hb:D3 e f X.env (eval e X.env)=eval e X.env)(h:X.K=K:=by rfl):PE X (.Attribute e f pos) (NJ K ta f):=by subst h;exact bC he hb
end
end L2
namespace L2
open PySem.SeqAt
mutual
def noDict:PyData->Bool
 | .dict _=>d_
 | .list xs=>uI xs
 | .tuple xs=>uI xs
 | _=>c_
def uI:List PyData->Bool
 | []=>c_
 | x::xs=>noDict x&&uI xs
end
mutual
def acV:∀d:PyData,noDict d=c_->noMix d d=c_/\same d d=c_
 | .none,_=>⟨xz,xz⟩
 | .bool b,_=>⟨xz,by simp[same]⟩
 | .int i,_=>⟨xz,by simp[same]⟩
 | .str x,_=>⟨xz,by simp[same]⟩
 | .list xs,h=>by
  rw[noMix,same];exact Je xs (by rw[noDict]at h;exact h)
 | .tuple xs,h=>by
  rw[noMix,same];exact Je xs (by rw[noDict]at h;exact h)
 | .dict _,h=>by rw[noDict]at h;cases h
def Je:∀xs:List PyData,uI xs=c_->noMixAll xs xs=c_/\sameAll xs xs=c_
 | [],_=>⟨by rw[noMixAll],by rw[sameAll]⟩
 | x::xs,h=>by
  rw[uI,lK]at h;refine oA (acV x h.1) λa b=>oA (Je xs h.2) λc d=>?_;rw[noMixAll,sameAll,a,b,c,d];exact⟨xz,xz⟩
end
mutual
def abX:∀d:PyData,d.canLay0=c_->noDict d=c_
 | .none,_=>rfl
 | .bool b,_=>rfl
 | .int i,_=>rfl
 | .str x,_=>rfl
 | .list xs,h=>by rw[noDict];exact IH xs (by rw[Ja]at h;exact h)
 | .tuple xs,h=>by rw[noDict];exact IH xs (by rw[Ja]at h;exact h)
 | .dict _,h=>by rw[Ja]at h;cases h
def IH:∀xs:List PyData,A1 xs=c_->uI xs=c_
 | [],_=>by rw[uI]
 | x::xs,h=>by
  rw[A1,lK]at h;rw[uI,abX x h.1,IH xs h.2];rfl
end
def Sg{α:Type}{f:α->PyData}:∀{l:List α},(∀a∈l,(f a).canLay0=c_)->A1 (l.map f)=c_
 | [],_=>by simp[A1]
 | a::l,h=>by
  rw[gq,A1,h a du,Sg λb hb=>h b (eL _ hb)];rfl
def S9{α:Type}{f:α->PyData}{k:Nat}:∀{l:List α},(∀a∈l,(f a).depth<=k)->IP (l.map f)<=k
 | [],_=>by simp[IP]
 | a::l,h=>by
  have h1:=h a du;have h2:=S9 λb hb=>h b (eL _ hb);simp only[gq,IP];lia
def Ta{α:Type}{K:u_}{F:V->α->Prop}{f:α->PyData}(h:∀v a,F v a->k8 K H v (f a)):∀{vs:List V} {l:List α},Paired F vs l->lQ K H vs (l.map f)
 | _,_,.nil=>.nil
 | _,_,.cons g t=>.cons (h _ _ g) (Ta h t)
def xG(h:i_)(dx:PyData)(u:f_):Bool:=@decide (∃d as,Reads h u d as/\sW d dx=c_) (Qs _)
def Wr(r:Reads h u d as):xG h dx u=sW d dx:=by
 unfold xG;cases e:sW d dx with
 | true=>exact @decide_eq_true _ (Qs _) ⟨d,as,r,e⟩
 | false=>
  refine @decide_eq_false _ (Qs _) ?_;rintro⟨d',as',r',e'⟩;refine oA (r.unique d' as' r') λq _=>?_;rw[q,e']at e;cases e
def Vu:∀{us:List f_} {ds:List PyData} {as:List e_},ReadsAll h us ds as->us.any (xG h dx)=ds.any λd=>sW d dx
 | _,_,_,.nil=>rfl
 | _,_,_,.cons r t=>by rw[sS,sS,Wr r,Vu t]
def Vb{A:h_}{s:g_}{v:f_}{dx:PyData}{bs:List e_}(rx:Reads s.heap v dx bs)(sx:shaped dx=c_)(hu:A.in1.units+64<cLine):∀{us:List f_} {ds:List PyData} {as:List e_},ReadsAll s.heap us ds as->(∀d∈ds,shaped d=c_)->∀u∈us,EqAt A.in1 s u v (xG s.heap dx u)
 | _,_,_,.nil,_=>λu hu=>by cases hu
 | _,_,_,.cons r t,h=>λu hm=>by
  rcases bX.mp hm with rfl | hm
  .rw[Wr r];exact W.keq_at r rx (h _ (by simp)) sx hu
  .exact Vb rx sx hu t (λd hd=>h d (eL _ hd)) u hm
def amt(K:u_)(neg:Bool):R2:=λx y H Q=>∃p xs ds dx,y=.ref p/\aj K H p xs/\lQ K H xs ds/\k8 K H x dx/\shaped dx=c_/\(∀d∈ds,shaped d=c_)/\Q (.bl (if neg=c_ then !(ds.any λd=>sW d dx) else ds.any λd=>sW d dx)) H
section
variable{X:Cx}
def adF(hu:X.A.units+65<cLine):eQ X (iH .NotIn) (amt X.K c_):=by
 intro p_ s σ H x y v u Q I rx ry h;obtain⟨p,xs,ds,dx,aa,hq,hd,hx,sx,sd,q⟩:=h;subst aa;cases ry;refine a7 (I.list hq) λits r pl hz=>oE (hd.reads I r) λas q1=>oE (hx.reads I rx) λbs q2=>notIn_listAt (xG s.heap dx) pl.isList (λw hw=>Vb q2 sx (by show X.A.units+1+64<cLine;exact w0) q1 sd w (by simpa using hw)) ⟨.bl _,H,I,xz,?_⟩;rw[show its.toArray.any (xG s.heap dx)=its.any (xG s.heap dx) by simp,Vu q1];exact q
end
def T7(hu:X.A.units+64<cLine):eQ X (iH .NotEq) (λx y H Q=>∃a b xs,x=.ref a/\y=.ref b/\H a=a_ (.lst xs)/\H b=a_ (.lst [])/\Q (.bl (!decide (xs=[]))) H):=by
 intro p_ s σ H x y v u Q I rx ry h;obtain⟨a,b,xs,rfl,rfl,ha,hb,q⟩:=h
 by_cases e:xs=[]
 .subst e;refine aim hu p_ s σ H _ _ v u Q I rx ry ⟨.list [],.list [],.lst (aj.of ha) .nil,.lst (aj.of hb) .nil,qc,qc,by simp[noMix,noMixAll],?_⟩;have e1:same (.list []) (.list [])=true:=by simp[same,sameAll]
  rw[if_pos xz,e1];exact q
 .cases rx;cases ry;obtain⟨z,its,n,r,hl,e1⟩:=I.qt ha;obtain⟨z2,vC,n2,r2,lx,e2⟩:=I.qt hb;rw[decide_eq_false e]at q;have hz:=ur.mp (by rw[<-lx];rfl);subst hz
  have hs:(its.toArray.size != ([]:List f_).toArray.size)=true:=by
   rw[bne_iff_ne,cN,<-hl];intro h0;exact e (ur.mp h0)
  show wpAny _ _ (richCompare .NotEq (.ref a) (.ref b)) _ _ s;exact richCompare_meets_room ⟨_,e1,xz⟩ ⟨_,e2,xz⟩ F.slot_list_ne F.entry_list_ne (F.args_list_ne_2 _ _) (list_ne_lengthsAt a b _ _ _ _ _ _ _ _ hs) ⟨e1,e2,(by intro z;cases z),⟨.bl c_,H,I,xz,q⟩⟩ om
end L2
namespace L2
open PySem.W L3
section
variable{X:Cx}{pz:List (e_×Obj)}{σ:St}{H:Hp}{s:g_}{ns:List Int}{kf:Int->Int}{l it sx f:e_}{R:Result->g_->Prop}
def ajs(kf:Int->Int)(ns:List Int)(sx:e_)(j:Nat)(h:i_):Prop:=(j=0/\∃c,h.get? sx=a_ (seqObj "list" #[] c))\/
 (0<j/\∃nb vb tb c,h.get? sx=a_ (seqObj "list" #[vb,.int (kf nb) tb] c)/\RelV (.int nb) vb/\nb∈ns/\∀i n,i<j->ns[i]?=a_ n->kf nb<=kf n)
def ajq(rv:Vals (ns.map V.int) vs){j:Nat}(e:vs[j]?=a_ v):∃n t,ns[j]?=a_ n/\v=.int n t:=by
 have hl:=rv.length;rw[aL]at hl;have hj:j<vs.length:=(bK.mp e).1;obtain⟨u,e',t,ru⟩:=rv.get (i:=j) (x:=.int ns[j]) (by simp[show j<ns.length by exact wg]);rw[e]at e';cases e';exact⟨ns[j],t,aM (by exact wg),ru⟩
def afn(hh:X.A.handled=b_)(hl:aj X.K H l (ns.map V.int))(h0:0<ns.length)(yg:l≠it)
  (turn:∀(n:Int) (u:f_) (pp:List (e_×Obj)) (s:g_),n∈ns->RelV (.int n) u->(∀p∈pz,p∈pp)->Inv X pp σ H s->wpAny (model X.prog X.w) X.A.in1 (call (.ref f) [u]) (EP X pp σ λv H'=>v=.int (kf n)/\H'=H) (λ_ _=>False) s)
  (hR:∀nb vb s',Inv X pz σ H s'->RelV (.int nb) vb->nb∈ns->(∀n∈ns,kf nb<=kf n)->R (.ok (.ret vb)) s') :
  ∀(r j:Nat) (s:g_),ns.length-j=r->j<=ns.length->Inv X pz σ H s->iN X pz H sx->iN X pz H it->sx≠it->s.heap.IsListIter it l j->ajs kf ns sx j s.heap->
   codeAny (model X.prog X.w) X.A (.builtin "min.loop" ⟨[.ref it,.ref f,.ref sx],[]⟩) R s:=by
 have B0:(toString "min" ++ toString ".loop" : String) = "min.loop":=qc;intro r
 induction r with
 | zero=>
  intro j s hr hj I fs fi xQ hit hb;have ej:j=ns.length:=li;rcases hb with ⟨z,_⟩ | ⟨_,nb,vb,tb,c,eS,rb,mb,best⟩
  .lia
  .obtain⟨vs,rv,pl,hz⟩:=I.list hl;have lv:=rv.length;rw[aL]at lv;have W:=Eg (prog:=X.prog) (w:=X.w) (A:=X.A.in1) hh it l yg vs.toArray;refine(mz PySem.F.entry_min_loop (?_:wpAny _ _ _ _ _ s));rw[(nO PySem.F.plain_min_loop _)];show wpAny _ X.A.in1 (J4 (.ref sx) >>= _) _ _ _;refine ae (nU eS xz (?_:wpAny _ X.A.in1 (tryCatch (pyNext (.ref it)) _ >>= _) _ _ _));refine ae (DU (W.done _ _ _ ⟨by rw[cN,<-lv,<-ej];exact hit,pl.isList⟩ λh' sv sG=>?_));have k1:∀b o,b≠it->s.heap.get? b=a_ o->h'.get? b=a_ o:=λb o n e=>sG b o (by simpa using n) e;have I1:Inv X pz σ H { s with heap:=h',toks:=sv }:=I.turned k1 fi.1 fi.2.1 fi.2.2.2.1 fi.2.2.2.2.1 fi.2.2.2.2.2;have e1:=k1 sx _ xQ eS;show wpAny _ X.A.in1 (Er sx (λ_=>#[]) >>= _) _ _ _;refine ae (A6 e1 xz (ae (yK (aF ?_))));have sb:=jQ h' sx (iw λ_=>(#[]:Array f_));refine hR nb vb _ (I1.turned (h':=_) (t':=sv) (it:=sx) (λb o n e=>(sb.2 b n).trans e) fs.1 fs.2.1 fs.2.2.2.1 fs.2.2.2.2.1 fs.2.2.2.2.2) rb mb λn hn=>?_;obtain⟨i,hi,e⟩:=pI hn;exact best i n (by exact wg) (by rw[<-e];exact aM hi)
 | succ r ih=>
  intro j s hr hj I fs fi xQ hit hb;have lt:j<ns.length:=li;obtain⟨vs,rv,pl,hz⟩:=I.list hl;have lv:=rv.length;rw[aL]at lv;have W:=Eg (prog:=X.prog) (w:=X.w) (A:=X.A.in1) hh it l yg vs.toArray
  have hS:∃xs c,s.heap.get? sx=a_ (seqObj "list" xs c)/\((j=0/\xs=#[])\/(0<j/\∃nb vb tb,xs=#[vb,.int (kf nb) tb]/\RelV (.int nb) vb/\nb∈ns/\∀i n,i<j->ns[i]?=a_ n->kf nb<=kf n)):=by
   rcases hb with ⟨z,c,e⟩ | ⟨z,nb,vb,tb,c,e,q⟩
   .exact⟨_,c,e,.inl ⟨z,xz⟩⟩
   .exact⟨_,c,e,.inr ⟨z,nb,vb,tb,xz,q⟩⟩
  obtain⟨xs,c,eS,hx⟩:=hS;refine(mz PySem.F.entry_min_loop (?_:wpAny _ _ _ _ _ s));rw[(nO PySem.F.plain_min_loop _)];show wpAny _ X.A.in1 (J4 (.ref sx) >>= _) _ _ _;refine ae (nU eS xz (?_:wpAny _ X.A.in1 (tryCatch (pyNext (.ref it)) _ >>= _) _ _ _));refine ae (DU (W.item j _ _ _ (by rw[cN];exact wf) ⟨hit,pl.isList⟩ λv h' sv hP ang sG=>?_));have hv:vs[j]?=a_ v:=by simpa using hP
  obtain⟨n,t,en,rfl⟩:=ajq rv hv;have mn:=bu en;have k1:∀b o,b≠it->s.heap.get? b=a_ o->h'.get? b=a_ o:=λb o z e=>sG b o (by simpa using z) e;have I1:Inv X pz σ H { s with heap:=h',toks:=sv }:=I.turned k1 fi.1 fi.2.1 fi.2.2.2.1 fi.2.2.2.2.1 fi.2.2.2.2.2;have e1:=k1 sx _ xQ eS;obtain⟨oI,hoI,pq,CQ⟩:=id ang.1
  have P1:Inv X ((pz++[(sx,seqObj "list" xs c)])++[(it,oI)]) σ H { s with heap:=h',toks:=sv }:=by
   have a:=I1.F2 fs e1 (λv z=>by cases z);refine a.F2 ⟨fi.1,fi.2.1,fi.2.2.1,fi.2.2.2.1,fi.2.2.2.2.1,λp hp=>?_⟩ hoI (λv z=>by rw[CQ]at z;cases z);rcases dH.mp hp with z | z
   .exact fi.2.2.2.2.2 p (nN _ z)
   .rcases dH.mp z with z | z
    .exact fi.2.2.2.2.2 p (fb _ z)
    .have z':p=(sx,seqObj "list" xs c):=by simpa using z
     rw[z'];exact xQ
  show wpAny _ X.A.in1 (tryCatch (holding [eO n t] (call (.ref f) [eO n t])) _ >>= _) _ _ _;refine ae (DU (jx (ie (turn n _ _ _ mn ⟨t,xz⟩ (λp hp=>nN _ (nN _ hp)) P1) (λw s2 hw=>?_) λ_ _ z=>z.elim)));obtain⟨v2,H2,J,r2,rfl,rfl⟩:=hw;obtain⟨t2,rfl⟩:=r2;have I2:=J.uS λp hp=>J.pin p (fb _ (nN _ (nN _ hp)));have e2:=(J.pin (sx,seqObj "list" xs c) (fb _ (nN _ (fb _ (by simp))))).1;have i2:=(J.pin (it,oI) (fb _ (fb _ (by simp)))).1
  have wr:∀(tk:Nat),(∀i m,i<j->ns[i]?=a_ m->kf n<=kf m)->codeAny (model X.prog X.w) X.A (.builtin "min.loop" ⟨[.ref it,.ref f,.ref sx],[]⟩) R { s2 with heap:=s2.heap.update sx (iw λ_=>#[.int n t,.int (kf n) t2]),toks:=tk }:=λtk alW=>by
   have sb:=jQ s2.heap sx (iw λ_=>#[eO n t,eO (kf n) t2]);have I3:Inv X pz σ H2 { s2 with heap:=s2.heap.update sx (iw λ_=>#[.int n t,.int (kf n) t2]),toks:=tk }:=I2.turned (it:=sx) (λb o z e=>(sb.2 b z).trans e) fs.1 fs.2.1 fs.2.2.2.1 fs.2.2.2.2.1 fs.2.2.2.2.2;refine ih (j+1) _ om (by exact xf) I3 fs fi xQ ⟨oI,(sb.2 it (cH xQ)).trans i2,pq,CQ⟩ (.inr ⟨Rt _,n,_,t2,_,DJ e2 λ_=>#[.int n t,.int (kf n) t2],⟨t,xz⟩,mn,λi m hi em=>?_⟩)
   by_cases z:i=j
   .subst z;rw[en]at em;cases em;exact Int.le_refl _
   .exact alW i m li em
  rcases hx with ⟨z,rfl⟩ | ⟨z,nb,vb,tb,rfl,rb,mb,best⟩
  .show wpAny _ X.A.in1 (Er sx (λ_=>#[.int n t,.int (kf n) t2]) >>= _) _ _ _;refine ae (A6 e2 xz ?_);rw[B0];exact aF ⟨nX PySem.F.plain_min_loop _,wr s2.toks λi m hi _=>absurd hi li⟩
  .show wpAny _ X.A.in1 (tryCatch (holding [.int n t,.int (kf n) t2] (richCompare .Lt (.int (kf n) t2) (.int (kf nb) tb) >>= _)) _ >>= _) _ _ _;refine ae (DU (jx (ae (lt_int (?_:wpAny _ _ _ _ _ _)))));refine ae (jx (nQ (ae (yK (aF ?_)))))
   by_cases bz:kf n<kf nb
   .simp only[bz,decide_true,if_true];refine ae (A6 e2 xz (ae (yK ?_)));rw[B0];refine aF ⟨nX PySem.F.plain_min_loop _,wr s2.toks λi m hi em=>?_⟩;have:=best i m hi em;lia
   .simp only[bz,decide_false,yy,if_false];refine ae (yK ?_);rw[B0];refine aF ⟨nX PySem.F.plain_min_loop _,ih (j+1) _ li (by exact xf) I2 fs fi xQ ⟨oI,i2,pq,CQ⟩ (.inr ⟨Rt _,nb,vb,tb,c,e2,rb,mb,λi m hi em=>?_⟩)⟩
    by_cases z2:i=j
    .subst z2;rw[en]at em;cases em;lia
    .exact best i m li em
end
section
variable{X:Cx}{p_:List (e_×Obj)}{σ:St}{H:Hp}{s:g_}{ns:List Int}{kf:Int->Int}{l f:e_}
def afo(I:Inv X pz σ H s)(hh:X.A.handled=b_)(hl:aj X.K H l (ns.map V.int))(h0:0<ns.length)
  (turn:∀(n:Int) (u:f_) (pp:List (e_×Obj)) (s:g_),n∈ns->RelV (.int n) u->(∀p∈pz,p∈pp)->Inv X pp σ H s->wpAny (model X.prog X.w) X.A.in1 (call (.ref f) [u]) (EP X pp σ λv H'=>v=.int (kf n)/\H'=H) (λ_ _=>False) s)
  (q:∀m∈ns,(∀n∈ns,kf m<=kf n)->Q (.int m) H):wpAny (model X.prog X.w) X.A (call (.builtin "min") [.ref l] [(pL "key",.ref f)]) (EP X pz σ Q) E s:=by
 have B0:(toString "min" ++ toString ".loop" : String) = "min.loop":=qc;obtain⟨vs,rv,pl,hz⟩:=I.list hl
 have hll:l<s.heap.objs.size:=by
  obtain⟨o,e,_⟩:=pl.isList;exact bH e
 refine kmk_tree PySem.F.kind_min PySem.F.plain_min PySem.F.entry_min (kmk_min_key _ _) (?_:wpAny _ X.A.in1 (aaj "min" ["key","default"] 0 ⟨[],[(pL "key",.ref f)]⟩ >>= _) _ _ s);refine ae (Ea (rfl:aaj "min" ["key","default"] 0 ⟨[],[(pL "key",.ref f)]⟩=pure [a_ (.ref f),b_]) (ae (aF (ae (yz pl.isList (ae (Jg ?_ (a8 _))))))));rw[B0];have z1:(s.heap.push { cls:=.type "list_iterator",data:=.fields #[.ref l,.int 0 0] }).objs.size=s.heap.objs.size+1:=kC _ _;have hI:=I.aH.fresh (aA _);have hS:H (s.heap.push { cls:=.type "list_iterator",data:=.fields #[.ref l,.int 0 0] }).objs.size=none:=I.aH.fresh (by rw[z1];exact jy _);refine aF ⟨nX PySem.F.plain_min_loop _,?_⟩;have I1:Inv X pz σ H { s with heap:=(s.heap.push { cls:=.type "list_iterator",data:=.fields #[.ref l,.int 0 0] }).push (seqObj "list" #[] 0) }:=I.kept (t':=s.toks) λb o e=>bh _ (bh _ e)
 refine afn (kf:=kf) (pz:=pz) (σ:=σ) hh hl h0 (cC hll) turn (λnb vb s' J rb mb best=>?_) (ns.length-0) 0 _ xz (a8 _) I1 (I.i8 (by rw[z1];exact jy _) hS) (I.i8 (aA _) hI) (by rw[z1];exact II _)
  ⟨_,bh _ (dh _ xz),xz,xz⟩ (.inl ⟨xz,0,dh _ xz⟩)
 exact⟨.int nb,H,J,rb,q nb mb best⟩
def XC(B:V->Hp->Prop):List V->Hp->Prop:=λvs H=>match vs with | [x]=>B x H | _=>False
def agP:∀{vs:List V} {H:Hp},XC B vs H->∃x,vs=[x]/\B x H
 | [x],_,h=>⟨x,xz,h⟩
 | [],_,h=>h.elim
 | _::_::_,_,h=>h.elim
def agb(K:u_)(P:e_)(zT:Pos)(qual:Str)(tl te:TE)(idx:List Nat)(n k:Nat):TE:=λσ H Q=>tl σ H λx H1=>∃(a:e_) (ns:List Int) (kf:Int->Int),x=.ref a/\aj K H1 a (ns.map V.int)/\0<ns.length/\cQ P zT qual H1/\
 ∀H2,vj P H1 H2->cQ P zT qual H2->aj K H2 a (ns.map V.int)/\(∀m∈ns,te ((jX idx n σ).set k (a_ (.int m))) H2 λv H'=>v=.int (kf m)/\H'=H2)/\∀m∈ns,(∀n∈ns,kf m<=kf n)->Q (.int m) H2
def adD{k:Nat}{le body:Expr}{c P:e_}(hc:X.calm=c_)(hrm:X.A.depth+5<DX)(hg:Gl X "min")(hm:X.mg "min" = b_)(hl:PE X le tl)(S:dw X sc N idx)
  (FY:X.env.code=.ref c) (C:CodeHd X.base c P) (B:tN X.mg X.base) (hk:N[k]?=a_ px) (pA:sc.names.lookup px=a_ .local) (hi:idx.length<=k) (hb:∀A qual f cd s H,PE (GP X A sc N qual f cd s H) body te)
  (B1:∀(qual:Str) (cl:List (Str×e_)) (pm cd pE u:f_),uO (kla_fn "<lambda>" qual params body sc cl pm cd pE) ⟨[u],[]⟩=pure [(px,u)]) (Oq:defaultsOf params X.env=([],[]):=by rfl) (PH:sc.isCoroutine=false:=by rfl) (Oo:sc.isGenerator=false:=by rfl)
  (he:backTo pos (bV [le] X.env)=(d_,eval le X.env)::backTo pos (bV [] X.env):=by rfl) (dG:(backTo pos (bV [le] X.env)).any (·.1)=false:=by rfl) (hs:bV [le] X.env=(d_,eval le X.env)::bV [] X.env:=by rfl) :
  PE X (.Call (.Name "min" p) [le] [⟨a_ "key",.Lambda params body sc zT,ao1⟩] pos) (agb X.K P zT (X.env.qual ++ "<lambda>") tl te idx N.length k):=by
 intro p_ s σ H Q I h;refine yv (rE I hg hm (show pK "min" = a_ (.builtin "min") from boot_min) ?_ qc qc)
 refine callWith_kw (aR (ab (X:=X) hl ag hs pos p_ s σ H (XC λx H1=>∃(a:e_) (ns:List Int) (kf:Int->Int),x=.ref a/\aj X.K H1 a (ns.map V.int)/\0<ns.length/\cQ P zT (X.env.qual ++ "<lambda>") H1/\
  ∀H2,vj P H1 H2->cQ P zT (X.env.qual ++ "<lambda>") H2->aj X.K H2 a (ns.map V.int)/\(∀m∈ns,te ((jX idx N.length σ).set k (a_ (.int m))) H2 λv H'=>v=.int (kf m)/\H'=H2)/\∀m∈ns,(∀n∈ns,kf m<=kf n)->Q (.int m) H2) I h) λus s1 ⟨vs,H1,I1,rv,q1⟩=>?_) he dG xz xz
 obtain⟨x,rfl,a,ns,kf,rfl,hL,h0,xB,hq⟩:=agP q1;obtain⟨u,rfl,ru⟩:=vals1 rv;cases ru;refine kws_cons (afr I1 S FY C B Oq xB λf c' H2 pm pE s2 I2 sm xw C5=>kws_nil ?_);obtain⟨lE,Pe,hQ⟩:=hq H2 sm xw;have hh:=I.ok.hd hc;refine YC (afo (kf:=kf) (f:=f) I2 hh lE h0 (λn u pp s3 hn ru hp I3=>?_) λm hm hb=>hQ m hm hb) λw s4 v H4 I4 r4 q4=>⟨v,H4,I4.Ew,r4,q4⟩;refine afs (A:=X.A.in1) (v:=.int n) I3 S I3.ok.frames hh (by show X.A.depth<_;lia) hk pA hi ru (I3.pin _ (fb _ (hp _ (fb _ du)))).1 (I3.aH c' _ C5).1 (B1 _ _ _ _ _ _) PH Oo (hb _ _ _ _ _ _) (Pe n hn)
end
end L2
namespace L2
open L3
structure vz(K:u_)(x qual:Str)(st:Stmt)(f:e_)(fd:jS)(c:e_):Prop where
 ex:∃(oc:f_) (od:Option e_) (kV doc pm:f_) (an:Option e_) (ct:f_) (jL:Array (Option f_)),fd=B_ x qual (kI st) (iL st) (aS st) .none kV doc pm an (.ref c) ct/\K.lookup f=a_ ⟨oc,od,.func fd,jL⟩/\W.codeIn K (.ref c) qual=c_
 kp:x_ K (.ref f)=c_
def ahB{K:u_}{st:Stmt}{kV doc pm ct:f_}(l:K.lookup f=a_ ⟨oc,od,.func (B_ x qual (kI st) (iL st) (aS st) .none kV doc pm an (.ref c) ct),jL⟩)
  (c1:W.codeIn K (.ref c) qual=c_) (k:x_ K (.ref f)=c_):vz K x qual st f (B_ x qual (kI st) (iL st) (aS st) .none kV doc pm an (.ref c) ct) c:=⟨⟨oc,od,kV,doc,pm,an,ct,jL,xz,l,c1⟩,k⟩
section
variable{P:k_}{w:j_}{K:u_}{mg:Str->Option f_}{base:i_}
def vz.ok{st:Stmt}{k:Nat}(F:vz K x qual st f fd c)(S:ba N ps (aS st))
  (xc:∀(A:h_) (outer:List Env) (s:g_) (H:Hp) (vs:List V) (Q:VK) (E:XK),eG k (A.deeper (envOfC qual (aS st) s.zS f (.ref c)))->sp vs H Q E->
   ∃t,gd (vv aI P w K mg base N qual (aS st) f (.ref c) A outer s H E).vH (iL st) t/\t { nx:=λ_ H'=>Q .aN H',rt:=Q } (start N vs) H) (len:∀vs H Q E,sp vs H Q E->vs.length=ps.length:=by intro _ _ _ _ h;(repeat obtain⟨_,h⟩:=h);subst_vars;rfl):aG P w K mg base aI (k+1) f fd ps sp:=by
 refine fX F.ex λoc od kV doc pm aa=>gD aa λan ct jL aa lk iU=>?_;subst aa;exact wV lk iU S len λA outer s H vs Q E hr pj=>aq (xc A outer s H vs Q E hr pj) λt h q=>au t h.vH q
def vz.fun{st:Stmt}(F:vz K x qual st f fd c):aQ K x qual st f fd:=by
 exact fX F.ex λoc od kV doc pm aa=>gD aa λan ct jL e lk iU=>⟨⟨oc,od,kV,doc,pm,an,_,ct,jL,e,lk,iU⟩,F.kp⟩
end
end L2
namespace L2
open PySem.W
section
variable{X:Cx}
def acB(M:Model)(h:i_)(i:Int)(t:Tok):Looks M h (typeOf (.int i t)) (.type "int"):=Looks.of_pure xz
end
def mi(xs:Array Nat):Prop:=xs.toList.Pairwise (· < ·)
def Fw(h:mi xs){i k:Nat}(hik:i<k)(hk:k<xs.size):xs[i]<xs[k]:=by
 have:=uq.mp h i k (by simpa using q8 hik hk) (by simpa using hk) hik;simpa using this
def KR(h:mi xs)(j:Nat):∀f lo hi,lo<=hi->hi<=xs.size->hi-lo<=f->(∀i (_:i<xs.size),i<lo->xs[i]<j)->(∀i (_:i<xs.size),hi<=i->j<=xs[i])->
  Iz xs j f lo hi<=xs.size/\(∀i (_:i<xs.size),i<Iz xs j f lo hi->xs[i]<j)/\∀i (_:i<xs.size),Iz xs j f lo hi<=i->j<=xs[i]
 | 0,lo,hi,h1,h2,h3,a,b=>by
  have:lo=hi:=li;subst this;exact eJ h2 a b
 | f+1,lo,hi,h1,h2,h3,a,b=>by
  unfold Iz
  by_cases bz:lo<hi
  .rw[if_pos bz];have hm:(lo+hi)/2<hi:=li;have lu:lo<=(lo+hi)/2:=li;have hms:=wh;have eg:xs.getD ((lo+hi)/2) j=xs[(lo+hi)/2]:=by simp[JF,hms]
   dsimp only;rw[eg]
   by_cases hb:xs[(lo+hi)/2]<j
   .rw[if_pos hb];refine KR h j f _ _ xf h2 om (λi C3 hl=>?_) b
    by_cases z:i=(lo+hi)/2
    .subst z;exact hb
    .exact q8 (Fw h li hms) hb
   .rw[if_neg hb];refine KR h j f _ _ lu w3 om a λi C3 hl=>?_
    by_cases z:i=(lo+hi)/2
    .subst z;omega
    .have:=Fw h (i:=(lo+hi)/2) (k:=i) li C3;omega
  .rw[if_neg bz];have:lo=hi:=li;subst this;exact eJ h2 a b
def Jw(h:mi xs)(j:Nat):fk xs j<=xs.size/\(∀i (_:i<xs.size),i<fk xs j->xs[i]<j)/\∀i (_:i<xs.size),fk xs j<=i->j<=xs[i]:=
 KR h j xs.size 0 xs.size (a8 _) (aA _) (aA _) (λ_ _ z=>absurd z (wx _)) λi hi z=>absurd hi (Nat.not_lt.mpr z)
def Sj(h:mi xs)(hi:i<xs.size):fk xs (xs[i]+1)=i+1:=by
 refine de (Jw h (xs[i]+1)) λh1 h2 h3=>?_;rcases IA (fk xs (xs[i]+1)) (i+1)with z | z | z
 .have:=h3 i hi li;lia
 .exact z
 .have hs:=wh;have a:=h2 (i+1) hs z;have b:=Fw h (i:=i) (k:=i+1) w1 hs;omega
def Si(h:mi xs):fk xs 0=0:=by
 refine de (Jw h 0) λh1 h2 h3=>?_;rcases Nat.eq_zero_or_pos (fk xs 0)with z | z
 .exact z
 .have:=h2 0 wh z;lia
def ada(h:mi xs)(hn:xs[fk xs j]? ≠ a_ j):mi (bE.insertAt xs (fk xs j) j):=by
 refine de (Jw h j) λh1 h2 h3=>?_;unfold mi;rw[bE.toList_insertAt]
 have ht:∀x∈xs.toList.take (fk xs j),x<j:=λx hx=>by
  refine oE (pI hx) λi aa=>oE aa λhi e=>?_;rw[gm,iu]at hi;rw[List.getElem_take,aaS]at e;rw[<-e];exact h2 i li li
 have hd:∀x∈xs.toList.drop (fk xs j),j<x:=λx hx=>by
  refine oE (pI hx) λi aa=>oE aa λhi e=>?_;rw[sN,iu]at hi;rw[List.getElem_drop,aaS]at e;have bz:fk xs j+i<xs.size:=om;have a:=h3 (fk xs j+i) bz li;rw[<-e];rcases Nat.lt_or_ge j xs[fk xs j+i]with z | z
  .exact z
  .exfalso;have eq:xs[fk xs j+i]=j:=li
   by_cases i0:i=0
   .subst i0;exact hn (by rw[Qj om];exact congrArg a_ eq)
   .have b:=h3 (fk xs j) li (aA _);have c:=Fw h (i:=fk xs j) (k:=fk xs j+i) li bz;omega
 refine yu.mpr (eJ (h.sublist (abg _ _)) (Iw.mpr ⟨hd,h.sublist (List.drop_sublist _ _)⟩) λx hx y hy=>?_);rcases bX.mp hy with z | z
 .rw[z];exact ht x hx
 .exact q8 (ht x hx) (hd y z)
structure lP(led:Bool)(t:bE):Prop where
 OE:t.dummies=#[]
 led:t.led=led
 asc:t.plain=c_->mi t.place
def adp(led:Bool):lP led (.fresh 0 0 led):=⟨xz,xz,λ_=>.nil⟩
def D7{t:bE}(h:lP led t)(n:Nat):lP led (t.standIn n):=⟨xz,h.led,λz=>by cases z⟩
def ahV{t:bE}(h:lP led t)(n:Nat):lP led (t.orStandIn n):=by
 unfold bE.orStandIn
 split
 .exact h
 .exact D7 h n
def has_none(j:Nat):Rr #[] j=false:=by simp[Rr]
def RK{t:bE}{hash:Nat->Int}{h:Int}(hd:t.dummies=#[])(dr:∀i,(hash i == h)=d_):∀f (p:bE.Probe) j d,p.dummy=b_->abd t hash h f p=a_ (.empty j d)->d=b_/\t.slot j=.empty
 | 0,p,j,d,_,e=>by cases e
 | f+1,p,j,d,hp,e=>by
  unfold abd at e;cases q:t.slot p.j with
  | empty=>
   rw[q]at e;simp only[wj,aoD]at e;refine oA e λaa aT=>?_;clear e;subst aa;subst aT;exact⟨hp,q⟩
  | dummy=>
   exfalso;unfold ab4 at q;rw[hd,has_none]at q;dsimp only at q
   split at q
   .cases q
   .simp at q
  | live i=>
   rw[q]at e;simp only[dr i,yy,if_false]at e;refine RK hd dr f _ j d ?_ e;unfold bE.advance
   split
   .exact hp
   .exact hp
def af'{t:bE}(h:lP led t)(hs:t.slot j=.empty):lP led (t.put j).1:=by
 refine⟨?_,h.led,λz=>?_⟩
 .show (if Rr t.dummies j then _ else t.dummies)=#[];rw[h.OE,has_none];rfl
 .refine ada (h.asc z) λe=>?_;unfold ab4 at hs;dsimp only at hs;rw[if_pos (by rw[e];simp)]at hs;cases hs
def acF{led:Bool}{t:bE}(ht:lP led t)(es:Array (Int×f_))(h:Int)(x:f_):lP led (layNew t es h x).2.1:=by
 unfold layNew
 split
 .rename_i slot wd e
  refine ahV ?_ _;unfold bE.freeSlot at e
  split at e
  .rename_i j d q
   obtain⟨hd,hs⟩:=RK ht.OE (λi=>by simp;lia) _ _ _ _ xz q;subst hd;simp only[Option.getD_none,Option.isSome_none,wj,Ji]at e;refine oA e λaa _=>?_;clear e;subst aa;exact af' ht hs
  .cases e
 .exact D7 ht _
def afW(g:Nat->Option Nat):mi ((((List.range (mask+1)).filterMap λj=>(g j).map (j,·)).map (·.1)).toArray):=by
 unfold mi;rw[aaX,List.map_filterMap];refine sT.filterMap (R:=(· < ·)) _ (λa b PM x hx y hy=>?_) aaA;cases ga:g a with
 | none=>rw[ga]at hx;simp at hx
 | some u=>
  cases gb:g b with
  | none=>rw[gb]at hy;simp at hy
  | some v=>
   rw[ga]at hx;rw[gb]at hy;simp at hx hy;lia
def ado{t:bE}(ht:lP led t)(es:Array (Int×f_))(wanted:Nat):lP led (Bw t es wanted).2.1:=by
 unfold Bw
 split
 .rename_i t' order e
  dsimp only
  split
  .unfold bE.relaid bE.laid at e;cases o:bE.layClean (bE.sizeAbove wanted-1) (es.map (·.1))with
   | none=>rw[o]at e;cases e
   | some owner=>
    rw[o]at e;simp only[Option.bind_eq_bind,Option.bind_some,Option.pure_def,wj,Ji]at e;refine oA e λaa _=>?_;clear e;subst aa;exact⟨xz,ht.led,λ_=>afW _⟩
  .exact D7 ht _
 .exact D7 ht _
def mf(w:j_):Bool:=w.params.followText "set-order"
def nu(P:k_)(w:j_)(e:Int×f_)(k:Int):Prop:=e.1=(intKind P w).hash k/\∃t,e.2=.int k t
def jG(P:k_)(w:j_)(h:i_)(a:e_)(ns:List Int):Prop:=
 ∃o es ep t ks,h.get? a=a_ o/\o.ExactSet/\o.data=.set es ep t/\Paired (nu P w) es.toList ks/\dN ks ns/\ns.Nodup/\t.fits es.size=c_/\lP (!mf w) t
def yF{α β:Type}{F:α->β->Prop}:∀{l:List α} {r:List β},Paired F l r->l.length=r.length
 | _,_,.nil=>rfl
 | _,_,.cons _ t=>by simp[yF t]
section
variable{P:k_}{w:j_}{A:h_}{E:f_->g_->Prop}{s:g_}{a:e_}{ns:List Int}
def Uq:∀{l:List (Int×f_)} {ks:List Int},Paired (nu P w) l ks->ElemsOf (intKind P w) l
 | _,_,.nil=>λe he=>nomatch he
 | _,_,.cons ⟨h1,t,h2⟩ r=>λe he=>by
  rcases bX.mp he with z | z
  .rw[z];exact⟨⟨_,by rw[h2];exact JB _ _ _ _,h1⟩,by rw[h2];rfl⟩
  .exact Uq r e z
def akF{k k':Int}{t:Tok}(e:v=.int k' t):(intKind P w).is k v=decide (k=k'):=by
 rw[e];exact KeyKind.is_eq_decide (JB _ _ _ _) k
def TR{k:Int}:∀{l:List (Int×f_)} {ks:List Int},Paired (nu P w) l ks->((l.findIdx? λe=>(intKind P w).is k e.2).isSome=c_↔k∈ks)
 | _,_,.nil=>by simp
 | _,_,.cons (a:=e) (b:=k') ⟨h1,t,h2⟩ r=>by
  have ih:=TR (k:=k) r;rw[List.findIdx?_cons,akF h2]
  by_cases z:k=k'
  .subst z;simp
  .rw[decide_eq_false z,if_neg dU,QH,ih,bX];exact⟨.inr,λh=>h.resolve_left z⟩
def Js(p:dN l' l)(h:Paired (nu P w) l ks):∃O7,dN O7 ks/\Paired (nu P w) l' O7:=by
 induction p generalizing ks with
 | nil=>cases h;exact⟨[],.nil,.nil⟩
 | cons x _ ih=>
  cases h with
  | cons hx r=>
   exact aq (ih r) λO7 q r'=>au _ (q.cons _) (.cons hx r')
 | swap x y l=>
  cases h with
  | cons hx r=>
   cases r with
   | cons hy r=>exact⟨_,.swap _ _ _,.cons hy (.cons hx r)⟩
 | trans _ _ Pa O9=>
  exact aq (O9 h) λk2 q2 r2=>aq (Pa r2) λk1 q1 r1=>au k1 (q1.trans q2) r1
def RM{k:Int}(hx:nu P w x k):∀{l:List (Int×f_)} {ks:List Int},Paired (nu P w) l ks->Paired (nu P w) (l++[x]) (ks++[k])
 | _,_,.nil=>.cons hx .nil
 | _,_,.cons h t=>.cons h (RM hx t)
def RJ{t t':bE}(q:s.heap.get? a=a_ o)(x:o.ExactSet)(d:o.data=.set es ep t)(r:Paired (nu P w) lF.toList ks)(p:dN ks ns)(nd:ns.Nodup)(f:t'.fits lF.size=c_)(tb:lP (!mf w) t') :
  (s.heap.update a (Bj lF t')).get? a=a_ { o with data:=.set lF (ep+1) t' }/\jG P w (s.heap.update a (Bj lF t')) a ns:=by
 have g:(s.heap.update a (Bj lF t')).get? a=a_ { o with data:=.set lF (ep+1) t' }:=by
  have z:=yt (Bj lF t') q (by rw[putSet_of lF t' d];rfl);rw[putSet_of lF t' d]at z;exact z
 exact⟨g,⟨_,lF,ep+1,t',ks,g,x,xz,r,p,nd,f,tb⟩⟩
def Sy{g:Bool->Sem Unit}(hg:∀(b:Bool) (s1:g_) (Q':Unit->g_->Prop),Q' () s1->wpAny (model P w) A (g b) Q' E s1){es ic:Array (Int×f_)}{ep:Nat}{t t2:bE}{wd:Bool}{R:Option Bool->g_->Prop}
  (q:s.heap.get? a=a_ o) (x:o.ExactSet) (d:o.data=.set es ep t) (r:Paired (nu P w) ic.toList ks) (p:dN ks ns) (nd:ns.Nodup) (lb:ic.size<Bq) (f:t2.fits ic.size=c_) (tb:lP (!mf w) t2)
  (k:∀h',fU a s.heap h'->jG P w h' a ns->R (a_ c_) { s with heap:=h' }) :
  wpAny (model P w) A (do storeSet a ic t2;if (!wd&&t2.tooFull)=c_ then (do g (Bw t2 ic (yG ic.size)).2.2;storeSet a (Bw t2 ic (yG ic.size)).1 (Bw t2 ic (yG ic.size)).2.1;pure (a_ c_)) else pure (a_ c_)) R E s:=by
 refine oA (RJ (s:=s) q x d r p nd f tb) λq1 S1=>?_;have b1:=jQ s.heap a (Bj ic t2);refine ae (wpAny_storeSet_of q d ?_ (fits_of_scanBound lb))
 split
 .have rp:=relayAll_perm t2 ic (yG ic.size);have rf:=relayAll_fits t2 ic (yG ic.size);have rt:=ado tb ic (yG ic.size);generalize Bw t2 ic (yG ic.size)=Y at rp rf rt ⊢;obtain⟨es2,t3,gv⟩:=Y;dsimp only at rp rf rt ⊢;refine aq (Js rp r) λks2 p2 r2=>?_;have zz:es2.size=ic.size:=by rw[<-iu,rp.length_eq,iu]
  refine ae (hg _ _ _ (ae (wpAny_storeSet_of q1 xz ?_ (fits_of_scanBound (by rw[zz];exact lb)))));exact oA (RJ (s:={ s with heap:=s.heap.update a (Bj ic t2) }) q1 x xz r2 (p2.trans p) nd rf rt) λ_ S2=>aF (k _ (b1.trans (jQ _ a _)) S2)
 .exact aF (k _ b1 S1)
def oM(k:Int)(ns:List Int):List Int:=if k∈ns then ns else ns++[k]
def aeJ{k:Int}{tk:Tok}{Q:Bool->g_->Prop}(S:jG P w s.heap a ns)(lb:ns.length+1<Bq)(h:∀b h',fU a s.heap h'->jG P w h' a (oM k ns)->Q b { s with heap:=h' }) :
  wpAny (model P w) A (setAddHashed a (.int k tk) ((intKind P w).hash k)) Q E s:=by
 refine D' S λo es ep t ks q x d r p aa=>de aa λnd f tb=>?_;have el:=Uq r;have hz:es.size=ns.length:=by rw[<-iu,yF r,p.length_eq]
 have kk:(intKind P w).is k (.int k tk)=true:=JB _ _ _ _;unfold setAddHashed setAddHashedIn;refine(jx (ae (A0 q d f ?_)));dsimp only;rw[byScan_of (knd:=intKind P w) (x:=.int k tk) xz li el];simp only[↓reduceIte];unfold setAddByScan;refine ae (ae (uG (ae (wpAny_setScan_of kk q d f el ?_))));have sm:=TR (k:=k) r;cases sc:List.findIdx? (λe=>(intKind P w).is k e.2) es.toList with
 | some j=>
  dsimp only;have mem:=p.mem_iff.mp (sm.mp (by rw[sc];rfl));refine aF (aF ?_);have e:oM k ns=ns:=if_pos mem;exact h d_ s.heap (fU.refl a s.heap) (by rw[e];exact⟨o,es,ep,t,ks,q,x,d,r,p,nd,f,tb⟩)
 | none=>
  dsimp only
  have nm:k∉ns:=λz=>by
   have:=sm.mpr (p.mem_iff.mpr z);rw[sc]at this;cases this
  have e:oM k ns=ns++[k]:=if_neg nm;have gw:∀(b:Bool) {s1:g_} {Q':Unit->g_->Prop},Q' () s1->wpAny (model P w) A (match b with | true=>rule "set.scan.the-table-gave-way" | false=>pure ()) Q' E s1:=λb s1 Q' z=>by cases b <;> first | exact aF z | exact uG z
  have lp:=layNew_perm t es ((intKind P w).hash k) (.int k tk);have lf:=layNew_fits t es ((intKind P w).hash k) (.int k tk);have lt:=acF tb es ((intKind P w).hash k) (.int k tk);generalize layNew t es ((intKind P w).hash k) (.int k tk)=Y at lp lf lt ⊢;obtain⟨ic,t1,wd,gv⟩:=Y;dsimp only at lp lf lt ⊢;rw[IG]at lp;refine aq (Js lp (RM (x:=((intKind P w).hash k,.int k tk)) (k:=k) ⟨xz,tk,xz⟩ r)) λks1 p1 r1=>?_;have pp:dN ks1 (oM k ns):=by rw[e];exact p1.trans (p.append_right _)
  have nn:(oM k ns).Nodup:=by
   rw[e];refine A2.mpr (eJ nd (by simp) λy hy z hz=>?_);rw[cD.mp hz];intro ez;exact nm (ez ▸ hy)
  have ZN:ic.size<Bq:=by
   rw[<-iu,lp.length_eq,bL,iu,hz];exact lb
  have fin:=λh'=>h c_ h';refine ae (gw _ ?_);have Zx:∀(b:Bool) (s1:g_) (Q':Unit->g_->Prop),Q' () s1->wpAny (model P w) A (match b with | true=>rule "set.scan.the-table-gave-way" | false=>pure ()) Q' E s1:=λb s1 Q' z=>gw b z
  split
  .refine ae ?_;rw[hashByValue_scannable 8 (x:=.int k tk) rfl];refine aF (Sy Zx q x d r1 pp nn ZN ?_ ?_ λh' sb S'=>?_)
   .split
    .exact lf
    .exact bE.fits_plain_off lf
   .split
    .exact lt
    .exact⟨lt.OE,lt.led,λz=>by cases z⟩
   .dsimp only;exact aF (fin h' sb S')
  .refine ae (aF ?_);simp only[↓reduceIte];refine Sy Zx q x d r1 pp nn ZN lf lt λh' sb S'=>?_;dsimp only;exact aF (fin h' sb S')
end
def jG.keep{P:k_}{w:j_}(S:jG P w h a ns)(k:∀o,h.get? a=a_ o->h'.get? a=a_ o):jG P w h' a ns:=
 let ⟨o,es,ep,t,ks,q,r⟩:=S;⟨o,es,ep,t,ks,k o q,r⟩
def ql(ns:List Int):List Int:=ns.foldl (λacc k=>oM k acc) []
def qk(val:Nat->Int)(i:Nat):List Int:=ql ((List.range i).map val)
def RQ(val:Nat->Int)(i:Nat):qk val (i+1)=oM (val i) (qk val i):=by
 unfold qk ql;rw[sO,fv,List.foldl_append];rfl
def afY(k:Int)(ns:List Int):(oM k ns).length<=ns.length+1:=by
 unfold oM
 split
 .exact jy _
 .rw[bL,aaG];exact aA _
def JP(val:Nat->Int):∀i,(qk val i).length<=i
 | 0=>aA _
 | i+1=>by
  rw[RQ];have:=afY (val i) (qk val i);have:=JP val i;lia
def afX{k x:Int}:x∈oM k ns↔x=k\/x∈ns:=by
 unfold oM
 split
 .rename_i h
  exact⟨.inr,λz=>z.elim (λe=>e ▸ h) id⟩
 .simp[or_comm]
def SX:∀{l acc:List Int},x∈l.foldl (λacc k=>oM k acc) acc↔x∈l\/x∈acc
 | [],acc=>by simp
 | k::l,acc=>by
  rw[QU,SX,afX,bX];constructor
  .rintro(h | h | h)
   .exact .inl (.inr h)
   .exact .inl (.inl h)
   .exact .inr h
  .rintro((h | h) | h)
   .exact .inr (.inl h)
   .exact .inl h
   .exact .inr (.inr h)
def ae1:x∈ql ns↔x∈ns:=by
 unfold ql;rw[SX];simp
section
variable{P:k_}{w:j_}{A:h_}{E:f_->g_->Prop}{s:g_}
def aeF{fp wr:List e_}{St:Nat->i_->Prop}(W:Walks P w A.in1 I fp wr n Pv St)(HU:S∉fp)(val:Nat->Int)(zU:∀i v,Pv i v->∃t,v=.int (val i) t)(hb:n+1<Bq) :
  ∀(k i:Nat) (s:g_),n-i=k->i<=n->St i s.heap->jG P w s.heap S (qk val i)->
   (∀h' tk,(∀b o,b∉S::wr->s.heap.get? b=a_ o->h'.get? b=a_ o)->jG P w h' S (qk val n)->R (.ok (.ret .none)) { s with heap:=h',toks:=tk })->
   codeAny (model P w) A (.builtin "set.update.loop" ⟨[.ref S,.ref I],[]⟩) R s:=by
 have hSw:S∉wr:=λh=>HU (W.sub _ h);intro k
 induction k with
 | zero=>
  intro i s hk hi st hS hR;have ei:i=n:=li;subst ei;refine(mz aav (?_:wpAny _ _ _ _ _ s));rw[(nO Qr _)];show wpAny _ A.in1 (pyNext (.ref I) >>= _) _ _ s;refine ae (W.done s _ _ st λh' tk kk=>(?_:wpAny _ A.in1 (ret jz) _ _ _));exact aF (hR h' tk (λb o hb e=>kk b o (λz=>hb (eL _ z)) e) (hS.keep λo e=>kk _ _ hSw e))
 | succ k ih=>
  intro i s hk hi st hS hR;refine(mz aav (?_:wpAny _ _ _ _ _ s));rw[(nO Qr _)];show wpAny _ A.in1 (pyNext (.ref I) >>= _) _ _ s;refine ae (W.item i s _ _ om st λv h' tk hP ay kk=>oE (zU i v hP) λt aa=>?_);subst aa;have hS1:=hS.keep (h':=h') λo e=>kk _ _ hSw e;refine(ae (jx (?_:wpAny _ A.in1 (setAdd S (.int (val i) t)) _ _ { s with heap:=h',toks:=tk })));unfold setAdd;refine jx (ae ((intKind P w).pyHash (k:=val i) (JB _ _ _ _) ?_));have hl:=JP val i;refine aeJ (s:={ s with heap:=h',toks:=tk+1 }) hS1 li λb h2 sb hS2=>?_;have so:∀b,b≠S->h2.get? b=h'.get? b:=λb z=>sb.2 b z;refine aF ⟨nX Qr _,ih (i+1) { s with heap:=h2,toks:=tk+1 } om li (W.frame _ _ _ ay λb hb o e=>?_) (by rw[RQ];exact hS2) λh3 tk3 k3 hS3=>?_⟩
  .rw[so b λz=>HU (z ▸ hb)];exact e
  .refine hR h3 tk3 (λb o hb e=>k3 b o hb ?_) hS3;rw[so b λz=>hb (z ▸ du)];exact kk b o (λz=>hb (eL _ z)) e
abbrev qb(w:j_):Obj:={ cls:=.type "set",dict:=b_,data:=.set #[] 0 (.fresh 0 0 (!mf w)) }
def aeI(e:h.get? a=a_ (qb w)):jG P w h a []:=⟨_,#[],0,_,[],e,⟨xz,xz,xz⟩,xz,.nil,.nil,.nil,xz,adp _⟩
def agl(x:f_)(h:Q (.ref s.zS) { s with heap:=s.heap.push (qb w) }):codeAny (model P w) A (.call (.builtin "set.__new__") ⟨[.type "set",x],[]⟩) (wants Q E) s:=by
 refine codeAny_of_tree (?_:wpAny _ A.in1 (do checkBuiltinCall "set.__new__" ⟨[.type "set",x],[]⟩;again (.builtin "set.__new__" ⟨[.type "set",x],[]⟩)) _ _ s);refine ae (Ea (F.newCall_set_1 x) (aF ⟨nX F.plain_set_new _,(mz F.entry_set_new (?_:wpAny _ _ _ _ _ s))⟩));rw[(nO F.plain_set_new _)];unfold Builtin.«set.__new__» Builtin.Frozenset.newClass;have Gg:=sub_set_self;obtain⟨hp,g,d,tk,os⟩:=s;dsimp only
 wp_walk
 refine QM (aF ?_);dsimp only;simp only[newObj];exact ae (wpAny_alloc (aF (aF h)))
set_option maxHeartbeats 6000000 in
def aeH(hh:A.handled=b_)(hl:s.heap.IsList l items)(hi:IntsAre items.toList ns)(hb:items.size+1<Bq)
  (h:∀(h':i_) (tk:Nat),jG P w h' s.zS (qk (λi=>ns.getD i 0) items.size)->(∀b o,s.heap.get? b=a_ o->h'.get? b=a_ o)->Q (.ref s.zS) { s with heap:=h',toks:=tk }) :
  wpAny (model P w) A (call (.type "set") [.ref l]) Q E s:=by
 refine vE wC.mro λc tl ao9=>?_;have aoL:=wC.made;have Gg:=wC.sub;refine Jz (codeAny_of_tree (?_:wpAny _ _ (callAny (.type "set") _) _ _ _));refine aF ⟨Code.quiet_builtin _ dk,(mz F.entry_type_call (?_:wpAny _ _ _ _ _ s))⟩;rw[Around.under_plain (weight_type_call_type "set" [.ref l] []) rfl];have h1:=wC.notType;have h2:=wC.canCreate;have hct:=F.typeCall_set_1 (.ref l)
 repeat (any_goals (first | assumption | wp_step))
 refine Bb (agl (.ref l) (E:=E) (Q:=λobj s₁=>obj=.ref s.zS/\s₁={ s with heap:=s.heap.push (qb w) }) ⟨xz,xz⟩) λr s₁ hr=>?_;cases r with
 | error e=>exact hr
 | ok fl=>
  cases fl with
  | ret obj=>
   refine oA hr λaa aT=>?_;clear hr;subst aa;subst aT;have hS:(s.heap.push (qb w)).get? s.zS=a_ (qb w):=dh _ rfl;have hT:Rg { s with heap:=s.heap.push (qb w) } (.ref s.zS) "set":=⟨_,hS,xz⟩;have yg:=wC.init.lookup;have hbi:=wC.init.bind (.ref s.zS)
   repeat (any_goals (first | assumption | wp_step))
   refine Bb (codeAny_call_builtin (R:=wants (λr s₂=>r=.none/\∃h' tk,s₂={ s with heap:=h',toks:=tk }/\jG P w h' s.zS (qk (λi=>ns.getD i 0) items.size)/\(∀b o,s.heap.get? b=a_ o->h'.get? b=a_ o)) E) wC.init.plain F.entry_set_init (check_set_init_1 hT ?_)) λr₂ s₂ HC=>?_
   .refine a7 hl λol uf jt aa=>oE aa λnl PB=>?_;obtain⟨aoZ,alP,aoJ,ajF⟩:=ol;simp only at jt PB;subst jt;subst PB;have anq:(s.heap.push (qb w)).get? l=a_ { cls:=.type "list",dict:=alP,data:=.seq items nl,slots:=ajF }:=bh _ uf;have ao5:=F.sub_list_set;have ao6:=F.sub_list_frozenset;have dr:(iW "list" == iW "dict")=false:=qc;have ly:(s.heap.push (qb w)).IsList l items:=⟨_,anq,xz,nl,xz⟩;unfold Builtin.«set.__init__» noKeywords Builtin.Frozenset.updateFrom;generalize hPI:pyIter=PI
    wp_walk
    subst hPI;refine(yz ly (ae (QW ?_)));have hlS:=bH uf;have hh3:A.in1.in1.in1.handled=none:=by simp[hh]
    have z1:(s.heap.push (qb w)).zH=s.zS+1:=kC _ _;have anu:l≠(s.heap.push (qb w)).zH:=by rw[z1];exact cC (nT hlS)
    have HU:s.zS∉[(s.heap.push (qb w)).zH,l]:=by
     rw[z1];simp only[bX,cD,abr,or_false,not_or];exact⟨cC (qW _),qZ hlS⟩
    have zU:∀(i:Nat) (v:f_),items[i]?=a_ v->∃t,v=.int ((λi=>ns.getD i 0) i) t:=λi v hv=>abT hi i v (by rw[pF];exact hv);refine aeF (Eg hh3 _ l anu items) HU (λi=>ns.getD i 0) zU hb (items.size-0) 0 _ li (a8 _) ⟨⟨_,dh _ xz,xz,xz⟩,(ly.push _)⟩ (aeI (bh _ hS)) λh' tk kk S'=>?_;refine(aF (?_:wpAny _ _ (ret jz) _ _ _));refine aF ⟨xz,⟨h',tk,xz,S',λb o e=>kk b o ?_ (bh _ (bh _ e))⟩⟩;have hb:=bH e;rw[z1];simp only[bX,cD,abr,or_false,not_or];exact⟨cC hb,cC (nT hb)⟩
   .cases r₂ with
    | error e=>exact HC
    | ok fl₂=>
     cases fl₂ with
     | ret r=>
      refine oA HC λaa aT=>?_;clear HC;subst aa;refine eD aT λh' tk aa PV sG=>?_;clear aT;subst aa
      repeat (any_goals (first | assumption | wp_step))
      exact h _ _ PV sG
     | _=>exact HC.elim
  | _=>exact hr.elim
end
namespace SF
def slot_next:Slot "set_iterator" "__next__" "set_iterator.__next__":=
 .of (owner:="set_iterator") (n:="__next__") (by rw[DG,Dt];kernel_rfl) dk dk dk (by first | exact .inl dk | exact .inr dk) (by rw[QX];kernel_rfl)
def entry_next:entryFor table "set_iterator.__next__" = a_ Builtin.«set_iterator.__next__»:=entryFor_of_tree (by kernel_rfl)
def args_next(a:f_):argsOk "set_iterator.__next__" ⟨[a],[]⟩:=by unfold argsOk;kernel_rfl
def ac7:entryFor table "set.__iter__" = a_ Builtin.«frozenset.__iter__»:=entryFor_alias (id':="frozenset.__iter__") (by kernel_rfl) xz dk (by kernel_rfl)
def aho:yQ (.type "set") "__len__" = pure (a_ (.builtin "set.__len__")):=by rw[DG,Dt];kernel_rfl
end SF
def Sb{α:Type}{l:List α}{i:Nat}(h:i<l.length):dN (l[i]::l.eraseIdx i) l:=by
 have e:l.take i++l[i]::l.drop (i+1)=l:=by rw[List.getElem_cons_drop,nM]
 rw[List.eraseIdx_eq_take_drop_succ];have p:dN (l[i]::(l.take i++l.drop (i+1))) (l.take i++l[i]::l.drop (i+1)):=List.perm_middle.symm;rw[e]at p;exact p
section
variable{M:Model}{A:h_}{E:f_->g_->Prop}{s:g_}
def ac8(hn:n≠0)(h:∀i d,i<n->Q i { s with drawn:=d }):wpAny M A (choose src n) Q E s:=
 λΓ p _=>⟨hn,h _ _ (Nat.mod_lt _ (aa4 hn))⟩
def S8{α:Type}:∀(n:Nat) (xs:List α) (s:g_) {Q:List α->g_->Prop},xs.length=n->(∀ys d,dN ys xs->Q ys { s with drawn:=d })->wpAny M A (drawOrder n xs) Q E s
 | 0,xs,s,Q,hl,h=>by
  have e:=ur.mp hl;subst e;exact aF (h [] s.drawn .nil)
 | n+1,[],s,Q,hl,h=>by cases hl
 | n+1,x::xs,s,Q,hl,h=>by
  unfold drawOrder;refine ae (ac8 (by simp) λi d hi=>?_);have e:(x::xs)[i]?=a_ ((x::xs)[i]):=aM hi;rw[e];dsimp only;exact ae (S8 n _ _ (by rw[aaO,if_pos hi,hl];rfl) λys d' hp=>aF (h _ d' ((hp.cons _).trans (Sb hi))))
end
def U2{α:Type}(next:Nat->Nat):∀(n k:Nat) (left:List α) (out:Array α),left.length=n->∃ys,dN ys left/\(Rq next n k left out).toList=out.toList++ys
 | 0,k,left,out,hl=>by
  have e:=ur.mp hl;subst e;exact au ([]) .nil (by unfold Rq;simp)
 | n+1,k,left,out,hl=>by
  have hi:next k%left.length<left.length:=Nat.mod_lt _ om;unfold Rq;rw[aM hi];dsimp only;obtain⟨ys,hp,e⟩:=U2 next n (k+1) (left.eraseIdx (next k%left.length)) (out.push left[next k%left.length]) (by rw[aaO,if_pos hi,hl];rfl);exact au (left[next k%left.length]::ys) ((hp.cons _).trans (Sb hi)) (by rw[e];simp)
def adB{α:Type}(next:Nat->Nat)(xs:Array α):dN (wH next xs).toList xs.toList:=by
 refine aq (U2 next xs.size 0 xs.toList #[] (by simp)) λys hp e=>?_;unfold wH;rw[e];simpa using hp
def slotAt(place:Array Nat)(i:Nat):Nat:=if i=0 then 0 else place.getD (i-1) 0+1
def Nw(P:k_)(w:j_)(h:i_)(a:e_)(es:Array (Int×f_))(ep:Nat)(t:bE)(ks ord:List Int)(first:f_)(i:Nat):Prop:=
 (mf w=c_/\(∃f u,first=.int f u)/\Paired (nu P w) (wH (w.params.setOrder a ep) es).toList ord)\/
 (mf w=d_/\(!t.plain&&decide (es.size > 1))=d_/\mi t.place/\ord=ks/\first=rawInt (slotAt t.place i))\/
 (mf w=d_/\∃(tp:e_) (pl:List Nat),first=.ref tp/\IsTup h tp (pl.map λj=>rawInt (j:Nat)).toArray/\dN pl (List.range es.size)/\ord=pl.map λj=>ks.getD j 0)
def vN(P:k_)(w:j_)(h:i_)(it a:e_)(ord:List Int)(i:Nat):Prop:=
 ∃o es ep t ks first,h.get? a=a_ o/\o.cls=.type "set"/\o.data=.set es ep t/\t.fits es.size=c_/\Paired (nu P w) es.toList ks/\t.led=(!mf w)/\ord.length=es.size/\a≠it/\
  h.get? it=a_ { cls:=.type "set_iterator",data:=.fields #[first,rawInt i,.ref a,rawInt es.size,rawInt ep] }/\Nw P w h a es ep t ks ord first i
section
variable{P:k_}{w:j_}{A:h_}{E:f_->g_->Prop}{s:g_}{it a:e_}{ord:List Int}{i:Nat}
def vN.keep(g:vN P w h it a ord i)(k:∀b o,o.cls≠.type "list"->h.get? b=a_ o->h'.get? b=a_ o):vN P w h' it a ord i:=by
 refine mG g λo es ep t ks first q c d f aa=>mX aa λr l n ne e m=>⟨o,es,ep,t,ks,first,(k _ _ (by rw[c];simp) q),c,d,f,r,l,n,ne,⟨k _ _ (by simp) e,?_⟩⟩;rcases m with m | m | ⟨m1,tp,pl,m2,⟨ot,e1,e2,e3⟩,m4⟩
 .exact .inl m
 .exact .inr (.inl m)
 .exact .inr (.inr ⟨m1,⟨tp,pl,m2,⟨ot,k _ _ (by rw[e2];simp) e1,e2,e3⟩,m4⟩⟩)
def JO(r:Paired (nu P w) es ks)(hj:j<ks.length):∃hh t,es[j]?=a_ (hh,.int ks[j] t):=by
 induction r generalizing j with
 | nil=>simp at hj
 | cons h _ ih=>
  cases j with
  | zero=>
   refine oA h λh1 aa=>oE aa λt h2=>?_
   rename_i e k _ _ _
   obtain⟨e1,e2⟩:=e;simp only at h2;subst h2;exact oX e1 t xz
  | succ j=>
   exact vE (ih (j:=j) (by simpa using hj)) λhh t e=>oX hh t (by simpa using e)
def Ep(h:Q (mf w) s):wpAny (model P w) A setsByText Q E s:=by
 unfold setsByText;exact ae (QM (aF h))
def SM{es:Array (Int×f_)}{ep slot given:Nat}{t:bE}{Q:Option (f_×Nat)->g_->Prop}(q:s.heap.get? a=a_ o)(d:o.data=.set es ep t)(f:t.fits es.size=c_)(hb:mf w=c_)
  (h:Q (((wH (w.params.setOrder a ep) es)[given]?).map λe=>(e.2,slot)) s):wpAny (model P w) A (setNext a slot given ep) Q E s:=by
 unfold setNext;refine ae (A0 q d f (ae (Ep ?_)));dsimp only;rw[hb,if_pos xz,if_neg (by simp)];unfold setWalk;refine ae (ae (A0 q d f (ae (Ep ?_))));rw[hb,if_pos rfl];exact ae (QM (aF (aF h)))
def RT{es:Array (Int×f_)}{ep slot given:Nat}{t:bE}{Q:Option (f_×Nat)->g_->Prop}(q:s.heap.get? a=a_ o)(d:o.data=.set es ep t)(f:t.fits es.size=c_)(hb:mf w=d_)(hl:t.led=c_)(hd:(!t.plain&&decide (es.size > 1))=d_)
  (h:Q (match es[fk t.place slot]?,t.place[fk t.place slot]? with | some (_,x),a_ j=>a_ (x,j+1) | _,_=>b_) s):wpAny (model P w) A (setNext a slot given ep) Q E s:=by
 unfold setNext;refine ae (A0 q d f (ae (Ep ?_)));dsimp only;rw[hb,if_neg dU];show wpAny _ _ (if (!t.plain&&decide (es.size > 1))=c_ then _ else _) _ _ _;rw[hd,if_neg dU];refine ae (?_:wpAny _ _ (if (!t.led && !es.isEmpty)=c_ then _ else _) _ _ _);rw[hl];exact aF (aF h)
def JV{t:bE}(f:t.fits n=c_):t.place.size=n:=by
 simp only[bE.fits,lK,beq_iff_eq]at f;exact f.1
def Fp{h:i_}{vs:Array f_}{j:Nat}{v:f_}(e:h.get? it=a_ { cls:=.type "set_iterator",data:=.fields vs }):(h.update it (uA (·.setIfInBounds j v))).get? it=a_ { cls:=.type "set_iterator",data:=.fields (vs.setIfInBounds j v) }:=
 yt _ e xz
def afx{Q:Option f_->g_->Prop}(g:vN P w s.heap it a ord i)(hi:i<ord.length)(k:∀h' t,vN P w h' it a ord (i+1)->fU it s.heap h'->Q (a_ (.int ord[i] t)) { s with heap:=h' }):wpAny (model P w) A (pyNext (.ref it)) Q E s:=by
 refine mG g λo es ep t ks first q c d f aa=>mX aa λr l n ne e m=>?_;have qJ:s.TypeIs (.ref it) "set_iterator":=⟨_,e,xz⟩;have kl:=yF r;rw[iu]at kl;unfold pyNext;refine ae (A9 (v9 (name:=pL "__next__") qJ SF.slot_next (sM SF.slot_next qJ SF.entry_next (?_:wpAny _ _ (fieldsOf (.ref it) >>= _) _ _ s) (SF.args_next _))));unfold fieldsOf;refine ae (ae (Ef e (aF ?_)));show wpAny _ _ (setEntries a >>= _) _ _ s;refine ae (QB q d f ?_);simp only[bne_self_eq_false,yy,if_false,di]
 have Ys:∀(nx:Nat) (u:Tok),Nw P w ((s.heap.update it (uA (·.setIfInBounds 0 (rawInt (nx:Nat))))).update it (uA (·.setIfInBounds 1 (rawInt ((i:Int)+1))))) a es ep t ks ord (rawInt (nx:Nat)) (i+1)->
   wpAny (model P w) A.in1 (do setField (.ref it) 0 (rawInt (nx:Nat));setField (.ref it) 1 (rawInt ((i:Int)+1));ret (.int ord[i] u)) (λfin s'=>∃v,fin=Fin.done (Flow.ret v)/\wpAny (model P w) A (pure (a_ v)) Q E s') (λe s'=>wpAny (model P w) A (do
     let __do_lift <-JA e (iW "StopIteration")
     if __do_lift=c_ then pure b_ else throw e) Q E s') s:=λnx u md=>by
  have e1:=Fp (j:=0) (v:=rawInt (nx:Nat)) e;have e2:=Fp (j:=1) (v:=rawInt ((i:Int)+1)) e1;refine ae (wy e xz (by simp) (ae (wy e1 xz (by simp) (aF (au _ xz (aF (k _ u ?_ ((jQ _ it _).trans (jQ _ it _)))))))));have sb:=(jQ s.heap it (uA (·.setIfInBounds 0 (rawInt (nx:Nat))))).trans (jQ _ it (uA (·.setIfInBounds 1 (rawInt ((i:Int)+1)))));exact⟨o,es,ep,t,ks,_,((sb.2 a ne).trans q),c,d,f,r,l,n,ne,⟨e2,md⟩⟩
 rcases m with ⟨m1,⟨f0,u0,rfl⟩,m3⟩ | ⟨m1,m2,m3,rfl,rfl⟩ | ⟨m1,tp,pl,rfl,m3,m4,m5⟩
 .refine vE (JO m3 hi) λhh u eu=>ae (SM q d f m1 ?_);have eg:(wH (w.params.setOrder a ep) es)[i]?=a_ (hh,.int ord[i] u):=by rw[<-pF];exact eu
  rw[eg];exact Ys _ u (.inl (eJ m1 ⟨_,_,xz⟩ m3))
 .have ps:=JV f;have hs:i<t.place.size:=om;refine vE (JO r hi) λhh u eu=>?_
  have eb:fk t.place ((slotAt t.place i:Nat):Int).toNat=i:=by
   rw[di];unfold slotAt
   by_cases z:i=0
   .rw[if_pos z,z];exact Si m3
   .rw[if_neg z];have:=Sj m3 (i:=i-1) om;rw[show t.place.getD (i-1) 0=t.place[i-1]' om by simp[JF,show i-1<t.place.size by omega],this];omega
  refine ae (RT q d f m1 (by rw[l,m1];rfl) m2 ?_);have eg:es[fk t.place ((slotAt t.place i:Nat):Int).toNat]?=a_ (hh,.int ord[i] u):=by rw[eb,<-pF];exact eu
  have AJ:t.place[fk t.place ((slotAt t.place i:Nat):Int).toNat]?=a_ (t.place[i]):=by rw[eb];exact Qj hs
  rw[eg,AJ];refine Ys _ u (.inr (.inl (⟨m1,m2,m3,xz,?_⟩)));unfold slotAt;rw[if_neg (QN _),Nat.add_sub_cancel,show t.place.getD i 0=t.place[i] by simp[JF,hs]]
 .have Zq:pl.length=es.size:=by have:=m4.length_eq;simpa using this
  have hp:i<pl.length:=om
  have hj:pl[i]<ks.length:=by
   have:=m4.mem_iff.mp (yB hp);rw[nW]at this;exact wf
  refine a7 (id m3) λot t1 t2 aa=>oE aa λn3 t3=>ae (nU t1 t3 ?_);have eg:((pl.map λj=>rawInt (j:Nat)).toArray)[i]?=a_ (rawInt (pl[i]:Nat)):=by simp[hp]
  dsimp only;rw[eg];refine vE (JO r hj) λhh u eu=>?_;show wpAny _ _ (setNextDrawn a ((pl[i]:Nat):Int).toNat ep >>= _) _ _ s;unfold setNextDrawn;refine ae (ae (A0 q d f ?_));dsimp only;rw[if_neg (by simp),di,<-pF,eu]
  have eo:ord[i]=ks[pl[i]]:=by
   subst m5;simp[hj]
  refine aF (ae (wy e xz (by simp) (aF (au _ xz (aF ?_)))));have e2:=Fp (j:=1) (v:=rawInt ((i:Int)+1)) e;have sb:=jQ s.heap it (uA (·.setIfInBounds 1 (rawInt ((i:Int)+1))))
  have Cz:tp≠it:=λz=>by
   rw[z,e]at t1;cases t1;simp at t2
  rw[<-eo];exact k _ u ⟨o,es,ep,t,ks,_,(sb.2 a ne).trans q,c,d,f,r,l,n,ne,e2,.inr (.inr ⟨m1,tp,pl,xz,⟨ot,(sb.2 tp Cz).trans t1,t2,n3,t3⟩,m4,m5⟩)⟩ sb
end
section
variable{P:k_}{w:j_}{A:h_}{E:f_->g_->Prop}{s:g_}{it a:e_}{ord:List Int}{i:Nat}
def UG{Q:Option f_->g_->Prop}{R:PySem.Fin->g_->Prop}(hh:A.handled=b_)(k:∀h',(∀b o,s.heap.get? b=a_ o->h'.get? b=a_ o)->Q b_ { s with heap:=h' }) :
  wpAny (model P w) A.in1 (do let e <-newExc (iW "StopIteration") [];raiseNew e) R (λe s'=>wpAny (model P w) A (do
     let __do_lift <-JA e (iW "StopIteration")
     if __do_lift=c_ then pure b_ else throw e) Q E s') s:=by
 refine ae ?_;simp only[newExc,newTuple];refine ae (nR (ae (m:=IZ _ _) (Ea (a:=jz) (by first | rfl | (simp only[IZ];rfl)) (nR ?_ (by size_fits)))) (by size_fits));simp only[raiseNew];refine ae (wpAny_handled ?_);rw[show A.in1.handled=b_ from hh];refine ae (aF (wpAny_throw ?_));refine(ae (Dx (T:="StopIteration") (b:=c_) ⟨_,dh _ xz,xz⟩ QY ?_));exact aF (k _ λb o e=>bh _ (bh _ e))
def afy{Q:Option f_->g_->Prop}(hh:A.handled=b_)(g:vN P w s.heap it a ord ord.length)(k:∀h',(∀b o,b≠it->s.heap.get? b=a_ o->h'.get? b=a_ o)->Q b_ { s with heap:=h' }):wpAny (model P w) A (pyNext (.ref it)) Q E s:=by
 refine mG g λo es ep t ks first q c d f aa=>mX aa λr l n ne e m=>?_;have qJ:s.TypeIs (.ref it) "set_iterator":=⟨_,e,xz⟩;have kl:=yF r;rw[iu]at kl;unfold pyNext;refine ae (A9 (v9 (name:=pL "__next__") qJ SF.slot_next (sM SF.slot_next qJ SF.entry_next (?_:wpAny _ _ (fieldsOf (.ref it) >>= _) _ _ s) (SF.args_next _))));unfold fieldsOf;refine ae (ae (Ef e (aF ?_)));show wpAny _ _ (setEntries a >>= _) _ _ s;refine ae (QB q d f ?_);simp only[bne_self_eq_false,yy,if_false,di]
 have Yq:wpAny (model P w) A.in1 (do setField (.ref it) 2 jz;let e <-newExc (iW "StopIteration") [];raiseNew e) (λfin s'=>∃v,fin=Fin.done (Flow.ret v)/\wpAny (model P w) A (pure (a_ v)) Q E s') (λe s'=>wpAny (model P w) A (do
     let __do_lift <-JA e (iW "StopIteration")
     if __do_lift=c_ then pure b_ else throw e) Q E s') s:=by
  have sb:=jQ s.heap it (uA (·.setIfInBounds 2 jz));exact ae (wy e xz (by simp) (UG hh λh' kk=>k h' λb o z y=>kk b o ((sb.2 b z).trans y)))
 rcases m with ⟨m1,⟨f0,u0,rfl⟩,m3⟩ | ⟨m1,m2,m3,rfl,rfl⟩ | ⟨m1,tp,pl,rfl,m3,m4,m5⟩
 .refine ae (SM q d f m1 ?_);have pl:=yF m3;rw[iu]at pl;rw[Qv li];exact Yq
 .have ps:=JV f;refine ae (RT q d f m1 (by rw[l,m1];rfl) m2 ?_)
  have eb:fk t.place (slotAt t.place ord.length)=ord.length:=by
   unfold slotAt
   by_cases z:ord.length=0
   .rw[if_pos z,z];exact Si m3
   .rw[if_neg z];have:=Sj m3 (i:=ord.length-1) om;rw[show t.place.getD (ord.length-1) 0=t.place[ord.length-1]' om by simp[JF,show ord.length-1<t.place.size by omega],this];omega
  have eg:es[fk t.place (slotAt t.place ord.length)]?=none:=by rw[eb];exact Qv li
  simp only[di];rw[eg];exact Yq
 .refine a7 (id m3) λot t1 t2 aa=>oE aa λn3 t3=>?_;have Zq:pl.length=ord.length:=by rw[m5,aL]
  refine ae (nU t1 t3 ?_);have eg:((pl.map λj=>rawInt (j:Nat)).toArray)[ord.length]?=none:=Qv (by simp[Zq]);dsimp only;rw[eg];have e1:=Fp (j:=0) (v:=rawInt 0) e;have sb:=(jQ s.heap it (uA (·.setIfInBounds 0 (rawInt 0)))).trans (jQ _ it (uA (·.setIfInBounds 2 jz)));exact ae (wy e xz (by simp) (ae (wy e1 xz (by simp) (UG hh λh' kk=>k h' λb o z y=>kk b o ((sb.2 b z).trans y)))))
def afI(hh:A.handled=b_)(hSi:S≠it)(hz:ord.length<=bw):∀(k i:Nat) (s:g_) (acc:List f_) (c:Nat),ord.length-i=k->i<=ord.length->vN P w s.heap it a ord i->s.heap.get? S=a_ { cls:=.type "list",data:=.seq acc.toArray c }->IntsAre acc (ord.take i)->
  (∀h' oQ c',(∀b o,b≠it->b≠S->s.heap.get? b=a_ o->h'.get? b=a_ o)->h'.get? S=a_ { cls:=.type "list",data:=.seq oQ.toArray c' }->IntsAre oQ ord->R (.ok (.ret res)) { s with heap:=h' })->
  codeAny (model P w) A (.builtin "list.extend.loop" ⟨[.ref S,.ref it,res],[]⟩) R s:=by
 intro k
 induction k with
 | zero=>
  intro i s acc c hk hi g eS ha hR;have ei:i=ord.length:=li;subst ei;refine(mz aa1 (?_:wpAny _ _ _ _ _ s));rw[(nO Dw _)];refine(ae (afy (A:=A.in1) hh g λh' kk=>?_):wpAny _ A.in1 (pyNext (.ref it) >>= _) _ _ s);rw[A5]at ha;exact aF (hR h' acc c (λb o z _ y=>kk b o z y) (kk S _ hSi eS) ha)
 | succ k ih=>
  intro i s acc c hk hi g eS ha hR;have bz:i<ord.length:=li;refine(mz aa1 (?_:wpAny _ _ _ _ _ s));rw[(nO Dw _)];refine(ae (afx (A:=A.in1) g bz λh' t g' sb=>?_):wpAny _ A.in1 (pyNext (.ref it) >>= _) _ _ s);have P7:=(sb.2 S hSi).trans eS;have al:acc.length=i:=by rw[ha.length,gm];exact xk
  have Cv:=jQ h' S (iw (·.push (eO ord[i] t)));show wpAny _ A.in1 (Er S (·.push (eO ord[i] t)) >>= _) _ _ _;refine ae (A6 P7 xz (aF ⟨nX Dw _,?_⟩) (by rw[cN];lia) (by show (acc.toArray.push (eO ord[i] t)).size<=bw+1;rw[Array.size_push,cN];lia))
  have Dk:(h'.update S (iw (·.push (eO ord[i] t)))).get? S=a_ { cls:=.type "list",data:=.seq (acc++[eO ord[i] t]).toArray (c+1) }:=by
   have:=yt (iw (·.push (eO ord[i] t))) P7 rfl;rw[this];simp[iw]
  refine ih (i+1) _ (acc++[eO ord[i] t]) (c+1) li xf (g'.keep λb o z y=>(Cv.2 b λw=>?_).trans y) Dk ?_ λh3 oQ c' kk e3 a3=>?_
  .rw[w,P7]at y;cases y;exact z xz
  .rw[jv,aM bz];exact ksk_snoc ha
  .refine hR h3 oQ c' (λb o z1 z2 y=>kk b o z1 z2 ((Cv.2 b z2).trans ((sb.2 b z1).trans y))) e3 a3
end
def aep(h:xs.size<=1):mi xs:=by
 obtain⟨l⟩:=xs;unfold mi
 match l,h with
 | [],_=>exact .nil
 | [x],_=>exact Ds _ _
 | _::_::_,h=>simp at h
def range_getD(ks:List Int):(List.range ks.length).map (λj=>ks.getD j 0)=ks:=by
 apply List.ext_getElem
 .simp
 .intro i h1 h2;simp[h2]
section
variable{P:k_}{w:j_}{A:h_}{E:f_->g_->Prop}{s:g_}{a:e_}{ns:List Int}
def aeG(S:jG P w s.heap a ns)(hz:ns.length<=bw)(k:∀it ord h' d,dN ord ns->s.heap.objs.size<=it->vN P w h' it a ord 0->(∀b o,s.heap.get? b=a_ o->h'.get? b=a_ o)->Q (.ref it) { s with heap:=h',drawn:=d }) :
  wpAny (model P w) A (pyIter (.ref a)) Q E s:=by
 refine D' S λo es ep t ks q x d r p aa=>de aa λnd f tb=>?_;have qJ:s.TypeIs (.ref a) "set":=⟨o,q,x.1⟩;have kl:=yF r;rw[iu]at kl;have la:=bH q
 refine wpAny_pyIter_slot qJ F.slot_set_iter (sM F.slot_set_iter qJ SF.ac7 (?_:wpAny _ _ (do
  let n <-aas a
  let first <-if <-setDrawn a then newTuple ((<-drawOrder n (List.range n)).map λ(i:Nat)=>rawInt i) else pure (rawInt 0)
  ret (<-newFields "set_iterator" [first,rawInt 0,.ref a,rawInt n,rawInt (<-setEpoch a)])) _ _ s) (F.args_set_iter_1 _))
 unfold aas setDrawn;refine ae (ae (QB q d f (aF (ae (ae (A0 q d f (ae (Ep (aF ?_)))))))));show wpAny _ _ (if (!mf w&&(!t.plain&&decide (es.size > 1)))=c_ then _ else _) _ _ _
 have mk:∀(first:f_) (ord:List Int) (h1:i_) (d1:Drawn),dN ord ks->(∀b o,s.heap.get? b=a_ o->h1.get? b=a_ o)->s.heap.objs.size<=h1.objs.size->(∀h2:i_,(∀b o,h1.get? b=a_ o->h2.get? b=a_ o)->Nw P w h2 a es ep t ks ord first 0)->
   wpAny (model P w) A.in1 (do ret (<-newFields "set_iterator" [first,rawInt 0,.ref a,rawInt es.size,rawInt (<-setEpoch a)])) (λfin s'=>∃v,fin=Fin.done (Flow.ret v)/\∃T f,s'.TypeIs v T/\yQ (.type T) "__next__" = pure (a_ f)/\Q v s') E { s with heap:=h1,drawn:=d1 }:=λfirst ord h1 d1 po k1 hs md=>by
  refine ae (wpAny_setEpoch_of (k1 _ _ q) d f (ae (nR (aF (au _ xz (dP ("set_iterator") _ ⟨_,dh _ xz,xz⟩ SF.slot_next.lookup ?_))))));have kp:∀b o,h1.get? b=a_ o->(h1.push { cls:=.type "set_iterator",data:=.fields [first,rawInt 0,.ref a,rawInt es.size,rawInt ep].toArray }).get? b=a_ o:=λb o e=>bh _ e;refine k _ ord _ d1 (po.trans p) hs ⟨o,es,ep,t,ks,first,kp _ _ (k1 _ _ q),x.1,d,f,r,tb.led,by rw[po.length_eq,kl],cC (gj la hs),dh _ xz,md _ kp⟩ λb o e=>kp b o (k1 b o e)
 by_cases hb:mf w=c_
 .refine aq (Js (adB (w.params.setOrder a ep) es) r) λord p1 r1=>?_;rw[if_neg (by rw[hb];simp)];exact ae (aF (mk (rawInt 0) ord s.heap s.drawn p1 (λ_ _ e=>e) (aA _) λh2 _=>.inl (eJ hb ⟨_,_,xz⟩ r1)))
 .have uj:mf w=false:=by simpa using hb
  by_cases hd:(!t.plain&&decide (es.size > 1))=c_
  .rw[if_pos (by rw[uj,hd];rfl)];refine ae (S8 es.size (List.range es.size) s (by simp) λys d1 hp=>ae (IY ?_ ?_))
   .have ht:∀h2:i_,(∀b o,(s.heap.push { cls:=.type "tuple",data:=.seq (ys.map λ(i:Nat)=>rawInt i).toArray }).get? b=a_ o->h2.get? b=a_ o)->IsTup h2 s.heap.objs.size (ys.map λ(i:Nat)=>rawInt (i:Nat)).toArray:=λh2 k2=>⟨_,k2 _ _ (dh _ xz),xz,_,xz⟩;refine mk (.ref s.heap.objs.size) (ys.map λj=>ks.getD j 0) (s.heap.push { cls:=.type "tuple",data:=.seq (ys.map λ(i:Nat)=>rawInt i).toArray }) d1 ?_ (λb o e=>bh _ e) (by rw[kC];exact jy _) λh2 k2=>.inr (.inr ⟨uj,_,ys,xz,ht h2 k2,hp,xz⟩);have:=hp.map λj=>ks.getD j 0;rw[kl,range_getD]at this;exact this
   .rw[aL,hp.length_eq,lH,kl,p.length_eq];exact hz
  .have mw:(!t.plain&&decide (es.size > 1))=false:=by simpa using hd
   rw[if_neg (by rw[mw];simp)];refine ae (aF (mk (rawInt 0) ks s.heap s.drawn (DZ _) (λ_ _ e=>e) (aA _) λh2 _=>.inr (.inl (⟨uj,mw,?_,xz,xz⟩))));cases hp:t.plain with
   | true=>exact tb.asc hp
   | false=>
    rw[hp]at mw;refine aep ?_;rw[JV f];simpa using mw
def acq(hh:A.handled=b_)(S:jG P w s.heap a ns)(hz:ns.length<=bw)(k:∀vs ord h' d,IntsAre vs ord->dN ord ns->(∀b o,s.heap.get? b=a_ o->h'.get? b=a_ o)->Q vs { s with heap:=h',drawn:=d }) :
  wpAny (model P w) A (collect (.ref a)) Q E s:=by
 have la:a<s.heap.objs.size:=by
  exact U5 S λo es ep t ks q _=>bH q
 unfold collect;refine ae (QW (mz aaM (?_:wpAny _ _ _ _ _ s)));rw[(nO aaL _)];show wpAny _ A.in1 (newList [] >>= λl=>again (.builtin "list.__iadd__" ⟨[l,.ref a],[]⟩)) _ _ s;refine(ae (nR (aF ⟨nX IF _,(mz F.entry_list_iadd ?_)⟩)));rw[(nO IF _)];show wpAny _ A.in1 (Ii (.ref s.heap.objs.size) (.ref a) (.ref s.heap.objs.size)) _ _ _;unfold Ii;generalize hH:s.heap.push { cls:=.type "list",data:=.seq ([]:List f_).toArray }=H1;have kp:∀b o,s.heap.get? b=a_ o->H1.get? b=a_ o:=λb o e=>by rw[<-hH];exact bh _ e
 have eS:H1.get? s.heap.objs.size=a_ { cls:=.type "list",data:=.seq ([]:List f_).toArray }:=by rw[<-hH];exact dh _ xz
 have z1:H1.objs.size=s.heap.objs.size+1:=by rw[<-hH];exact kC _ _
 have S1:=S.keep λo e=>kp _ _ e
 have qJ:Rg { s with heap:=H1 } (.ref a) "set":=by
  exact fX S1 λo es ep t ks aa=>de aa λq x _=>au o q x.1
 refine ae (yI qJ ?_);have g1:Qo (.ref s.heap.objs.size) (.ref a)=false:=by simp[Qo,qZ la]
 have g2:(iW "set" == iW "list")=false:=qc;have g3:(iW "set" == iW "tuple")=false:=qc;simp only[g1,g2,g3,Bool.or_false,yy,if_false];refine ae (aeG (s:={ s with heap:=H1 }) S1 hz λit ord h2 d2 po lC g k2=>ae (jx ?_))
 have Oc:Rg { s with heap:=h2,drawn:=d2 } (.ref a) "set":=by
  exact aq qJ λo e c=>au o (k2 _ _ e) c
 unfold aai;refine ae (IL Oc SF.aho ?_)
 wp_delta
 refine(ae (Dx Oc (b:=c_) (by rw[QX];kernel_rfl) (?_:wpAny _ A.in1 (typeOf (dj a) >>= _) _ _ _)));refine ae (yI Oc (aF ?_));rw[if_pos qc];have nS:s.heap.objs.size≠it:=λz=>absurd lC (by rw[<-z,z1];exact Nat.not_succ_le_self _);have Dk:=k2 _ _ eS;have eS3:=yt (iw (·.push jz)) Dk rfl;have eS4:=yt (iw (·.pop)) eS3 rfl;have sb:=(jQ h2 s.heap.objs.size (iw (·.push jz))).trans (jQ _ s.heap.objs.size (iw (·.pop)));refine ae (uG (ae (?_:wpAny _ A.in1 (Er s.heap.objs.size (·.push .none) >>= λ_=>Er s.heap.objs.size (·.pop)) _ _ _)));refine ae (A6 Dk xz (A6 eS3 xz (aF ⟨nX Dw _,afI (P:=P) (w:=w) (it:=it) (a:=a) (ord:=ord) hh nS (by rw[po.length_eq];exact hz) (ord.length-0) 0 _ [] 2 xz (a8 _) (g.keep λb o z y=>(sb.2 b λw=>?_).trans y) eS4 .nil λh3 acc c k3 e3 a3=>?_⟩)))
 .rw[w,Dk]at y;cases y;exact z xz
 show wpAny _ A (load s.heap.objs.size >>= _) _ _ _;refine(ae (Ef e3 (aF ?_)))
 have nb:∀b o,s.heap.get? b=a_ o->b≠it/\b≠s.heap.objs.size:=λb o e=>by
  have:=bH e;have Yl:H1.objs.size<=it:=lC;rw[z1]at Yl;exact⟨cC (gj this (cu (jy _) Yl)),cC this⟩
 exact k _ ord h3 d2 a3 po λb o e=>k3 b o (nb b o e).1 (nb b o e).2 ((sb.2 b (nb b o e).2).trans (k2 b o (kp b o e)))
end
def B3(P:k_)(w:j_)(a:e_)(ns:List Int):HO:=.ext λh=>jG P w h a ns
def agn{P:k_}{w:j_}(S:jG P w h a ns):dI P w H h a (B3 P w a ns):=by
 exact U5 (id S) λo es ep t ks q _=>eJ S ⟨o,q⟩ λh1 h2 g k=>g.keep k
def U4(ns:List Int):qk (λi=>ns.getD i 0) ns.length=ql ns:=by
 unfold qk;rw[range_getD]
def T8(ns:List Int):(ql ns).length<=ns.length:=by
 rw[<-U4];exact JP _ _
section
variable{X:Cx}
def WL(P:k_)(w:j_)(K:u_):List V->Hp->VK->Prop:=λxs H Q=>∃(p:e_) (ns:List Int),xs=[.ref p]/\aj K H p (ns.map V.int)/\ns.length<4000/\∀a,H a=b_->Q (.ref a) (upd H a (B3 P w a (ql ns)))
def aek(hc:X.calm=c_):jj X (.type "set") (WL X.prog X.w X.K):=by
 intro p_ s σ H xs us Q I r h;refine jf h λp ns aa hl hz q=>?_;clear h;subst aa;refine aq (vals1 r) λu aa rx=>?_;subst aa;cases rx;refine a7 (I.list hl) λits rv pl o7=>?_;have il:=rv.length;rw[aL]at il;have hs:its.toArray.size=its.length:=cN;refine aeH (items:=its.toArray) (ns:=ns) (I.ok.hd hc) pl.isList (by rw[aaX];exact intsAre_of rv) (by rw[hs];unfold Bq;lia) λh' tk S k=>?_;rw[hs,<-il,U4]at S;have hn:=I.aH.fresh (aA _);have f:=I.i8 (b:=s.heap.objs.size) (aA _) hn;have J:Inv X p_ σ H { s with heap:=h',toks:=tk }:=I.kept k;exact dP (.ref s.heap.objs.size) _ (Inv.adopt (o:=B3 X.prog X.w s.heap.objs.size (ql ns)) J hn I.sz f.2.1 f.2.2.2.2.1 f.2.2.2.2.2 (agn S)) xz (q _ hn)
end
end L2
namespace TL
open L2 L3
variable{P:k_}{w:j_}{K:u_}{mg:Str->Option f_}{base:i_}
structure Ent where
 (t n num d:Int)
 deriving DecidableEq
def cA(es:List Ent)(i:Nat):List Ent:=es.filter λe=>decide (e.n=(i:Int))
def zI(H:Hp)(v:V)(e:Ent):Prop:=∃p s,v=.ref p/\H p=a_ (.tup [.int e.t,.ref s])/\H s=a_ (.tup [.int e.n,.int e.num,.int e.d])
def GZ(H:Hp)(b:e_)(es:List Ent):Prop:=∃vs,H b=a_ (.lst vs)/\Paired (zI H) vs es
def VD:List Str:=[W_,"latest","fronts","take","is_empty","listed","twin"]
structure lh(tn:Int)(es:List Ent):Prop where
 asc:es.Pairwise λx y=>x.t<y.t
 nm:∀e∈es,0<=e.n/\e.n<12
 lt:∀e∈es,e.t<tn
structure dC(H:Hp)(a C:e_)(kd:Str)(tn:Int)(es:List Ent)(q:e_)(qr:List e_):Prop where
 obj:∃dx fs,H a=a_ (.ins C dx fs)/\fs.lookup (S_ : Str)=a_ (V.str kd)/\fs.lookup ("turn" : Str)=a_ (V.int tn)/\fs.lookup ("queues" : Str)=a_ (V.ref q)/\(∀m∈VD,fs.lookup m=b_)/\fs.length<=20
 qs:H q=a_ (.lst (qr.map V.ref))
 len:qr.length=12
 nd:qr.Nodup
 nq:q∉qr
 jq:∀i b,qr[i]?=a_ b->GZ H b (cA es i)
 wf:lh tn es
structure gx(F:List e_)(H H':Hp):Prop where
 k:∀b o,b∉F->(∀ps,o≠.eY ps)->H b=a_ o->H' b=a_ o
 t:∀b,H' b=b_->H b=b_
def gx.of(s:af H H'):gx F H H':=⟨λb o _ _ e=>s b o e,λb h=>s.free h⟩
def gx.trans(a:gx F H H1)(b:gx F H1 H2):gx F H H2:=⟨λc o h1 h2 e=>b.k c o h1 h2 (a.k c o h1 h2 e),λc h=>a.t c (b.t c h)⟩
def gx.YG{P:e_}(s:vj P H H')(hP:H P=a_ (.eY ps))(PX:H' P=a_ (.eY Zp)):gx [] H H':=
 ⟨λb o _ n e=>s b o (λz=>by rw[z,hP]at e;cases e;exact n ps xz) e,λb h=>by
  cases e:H b with
  | none=>rfl
  | some o=>
   by_cases z:b=P
   .rw[z,PX]at h;cases h
   .rw[s b o z e]at h;cases h⟩
def yP{P:e_}{pos:Pos}{qual:Str}{F:List e_}{H H':Hp}(h:cQ P pos qual H)(k:∀b o,b∉F->H b=a_ o->H' b=a_ o)(hF:∀b∈F,∀o,H b=a_ o->(∃C dx fs,o=.ins C dx fs)\/∃xs,o=.lst xs):cQ P pos qual H':=by
 refine aq h λps hP hc=>?_
 have nP:P∉F:=λz=>by
  rcases hF P z _ hP with ⟨_,_,_,e⟩ | ⟨_,e⟩ <;> cases e
 refine au ps (k P _ nP hP) ?_;rcases hc with e | ⟨c,e,hc⟩
 .exact .inl e
 .refine .inr (au c e (k c _ (λz=>?_) hc));rcases hF c z _ hc with ⟨_,_,_,e⟩ | ⟨_,e⟩ <;> cases e
def lL{P:e_}{pos:Pos}{qual:Str}{H H':Hp}(h:cQ P pos qual H)(k:af H H'):cQ P pos qual H':=yP (F:=[]) h (λb o _ e=>k b o e) λb hb=>nomatch hb
def zI.keep{F:List e_}(h:zI H v e)(k:∀b xs,H b=a_ (.tup xs)->H' b=a_ (.tup xs)):zI H' v e:=let ⟨p,s,e1,e2,e3⟩:=h;⟨p,s,e1,k _ _ e2,k _ _ e3⟩
def E2{α β:Type}{F G:α->β->Prop}(f:∀a b,F a b->G a b):∀{l:List α} {r:List β},Paired F l r->Paired G l r
 | _,_,.nil=>.nil
 | _,_,.cons h t=>.cons (f _ _ h) (E2 f t)
def GZ.keep(h:GZ H b es)(kb:∀o,H b=a_ o->H' b=a_ o)(k:∀b xs,H b=a_ (.tup xs)->H' b=a_ (.tup xs)):GZ H' b es:=let ⟨vs,e,r⟩:=h;⟨vs,kb _ e,E2 (λ_ _ z=>z.keep (F:=[]) k) r⟩
def dC.keep(T:dC H a C kd tn es q qr)(k:∀b∈a::q::qr,∀o,H b=a_ o->H' b=a_ o)(kt:∀b xs,H b=a_ (.tup xs)->H' b=a_ (.tup xs)):dC H' a C kd tn es q qr:=by
 obtain⟨⟨dx,fs,e,r⟩,qs,len,nd,nq,jq,wf⟩:=T;exact⟨⟨dx,fs,k a (by simp) _ e,r⟩,k q (by simp) _ qs,len,nd,nq,λi b hb=>(jq i b hb).keep (λo=>k b (by simp[bu hb]) o) kt,wf⟩
def dC.akC(T:dC H a C kd tn es q qr)(k:gx F H H')(hF:∀b∈F,b∉a::q::qr)(hT:∀b∈F,∀xs,H b≠a_ (.tup xs)):dC H' a C kd tn es q qr:=by
 refine T.keep (λb hb o e=>k.k b o (λz=>hF b z hb) (λps z=>?_) e) λb xs e=>k.k b _ (λz=>hT b z xs e) (λps z=>by cases z) e;subst z;rcases bX.mp hb with z | z
 .refine bQ T.obj λdx fs e' _=>?_;rw[z,e']at e;cases e
 .rcases bX.mp z with z | z
  .rw[z,T.qs]at e;cases e
  .refine oE (pI z) λi aa=>oE aa λhi ez=>?_;obtain⟨vs,e',_⟩:=T.jq i b (by rw[<-ez];exact aM hi);rw[e']at e;cases e
def dC.oz(T:dC H a C kd tn es q qr)(k:gx [] H H'):dC H' a C kd tn es q qr:=T.akC k (λb hb=>nomatch hb) λb hb=>nomatch hb
def dC.kinds(T:dC H a C kd tn es q qr):∀b∈a::q::qr,∀o,H b=a_ o->(∃C dx fs,o=.ins C dx fs)\/∃xs,o=.lst xs:=λb hb o e=>by
 rcases bX.mp hb with z | z
 .refine bQ T.obj λdx fs e' _=>?_;rw[z,e']at e;cases e;exact .inl (⟨_,_,_,xz⟩)
 .rcases bX.mp z with z | z
  .rw[z,T.qs]at e;cases e;exact .inr ⟨_,xz⟩
  .refine oE (pI z) λi aa=>oE aa λhi ez=>?_;obtain⟨vs,e',_⟩:=T.jq i b (by rw[<-ez];exact aM hi);rw[e']at e;cases e;exact .inr ⟨_,xz⟩
def dC.there(T:dC H a C kd tn es q qr):∀b∈a::q::qr,∃o,H b=a_ o:=λb hb=>by
 rcases bX.mp hb with z | z
 .exact bQ T.obj λdx fs e' _=>⟨_,by rw[z];exact e'⟩
 .rcases bX.mp z with z | z
  .exact⟨_,by rw[z];exact T.qs⟩
  .refine oE (pI z) λi aa=>oE aa λhi ez=>?_;obtain⟨vs,e',_⟩:=T.jq i b (by rw[<-ez];exact aM hi);exact⟨_,e'⟩
def pZ(es:List Ent)(i:Nat):Option Ent:=(cA es i).getLast?
def kM(es:List Ent):List Int:=((List.range 12).filter λi=>decide (cA es i≠[])).map λ(i:Nat)=>(i:Int)
def iy(kd:Str)(es:List Ent):List Int:=if kd = P_ then (es.head?.map (·.n)).toList else kM es
def ji(es:List Ent)(n:Int):List Ent:=es.eraseP λe=>decide (e.n=n)
def agJ(i:Nat):cA [] i=[]:=rfl
def UZ(es:List Ent)(e:Ent)(i:Nat):cA (es++[e]) i=if e.n=(i:Int) then cA es i++[e] else cA es i:=by
 unfold cA;rw[yw]
 by_cases h:e.n=(i:Int)
 .rw[if_pos h];simp[h]
 .rw[if_neg h];simp[h]
def Bn:n∈kM es↔∃i:Nat,i<12/\n=i/\cA es i≠[]:=by
 unfold kM;rw[eM];constructor
 .rintro⟨i,hi,rfl⟩;rw[jw,nW]at hi;exact dJ i hi.1 xz (by simpa using hi.2)
 .rintro⟨i,h1,rfl,h2⟩;exact au i (by rw[jw,nW];exact⟨h1,by simpa using h2⟩) xz
def Uk{i:Nat}(h:es.head?=a_ e)(hi:e.n=(i:Int)):(cA es i).head?=a_ e:=by
 cases es with
 | nil=>cases h
 | cons x r=>
  cases h;unfold cA;rw[yC,if_pos (by simpa using hi)];rfl
def ahS(w:lh tn es)(h0:0<=n)(h1:n<12):lh (tn+1) (es++[⟨tn,n,num,d⟩]):=by
 refine⟨yu.mpr ⟨w.asc,Ds _ _,λx hx y hy=>?_⟩,λe he=>?_,λe he=>?_⟩
 .rw[cD.mp hy];exact w.lt x hx
 .rcases dH.mp he with z | z
  .exact w.nm e z
  .rw[cD.mp z];exact⟨h0,h1⟩
 .rcases dH.mp he with z | z
  .have:=w.lt e z;lia
  .rw[cD.mp z];show tn<tn+1;lia
def af5(w:lh tn es)(n:Int):lh tn (ji es n):=by
 have sub:(ji es n).Sublist es:=List.eraseP_sublist;exact⟨w.asc.sublist sub,λe he=>w.nm e (sub.subset he),λe he=>w.lt e (sub.subset he)⟩
def aeT(es:List Ent)(n:Int)(i:Nat):cA (ji es n) i=if n=(i:Int) then (cA es i).tail else cA es i:=by
 induction es with
 | nil=>unfold ji cA;simp
 | cons e r ih=>
  unfold ji at ih ⊢;rw[List.eraseP_cons]
  by_cases h:e.n=n
  .rw[decide_eq_true h,cond_true];unfold cA
   by_cases hi:n=(i:Int)
   .rw[if_pos hi,yC,if_pos (by simpa using h.trans hi)];rfl
   .rw[if_neg hi,yC,if_neg (by simpa using λz:e.n=(i:Int)=>hi (h.symm.trans z))]
  .rw[decide_eq_false h,cond_false];unfold cA at ih ⊢;rw[yC,yC]
   by_cases he:e.n=(i:Int)
   .have HH:¬n=(i:Int):=λz=>h (he.trans z.symm);rw[if_neg HH]at ih;simp only[decide_eq_true he,if_true];rw[if_neg HH,ih]
   .simp only[decide_eq_false he,yy,if_false];rw[ih]
structure BT(mg:Str->Option f_):Prop where
 iO:mg "isinstance" = b_
 int:mg "int" = b_
 bool:mg "bool" = b_
 str:mg "str" = b_
 len:mg "len" = b_
 all:mg "all" = b_
 range:mg "range" = b_
 enum:mg "enumerate" = b_
 min:mg "min" = b_
 sorted:mg "sorted" = b_
structure kT(K:u_)(C:e_):Prop where
 cl:dg K C
 kind:bT K C S_
 turn:bT K C "turn"
 uY:bT K C "queues"
def Tr:Sp:=λvs H Q _=>∃v T,vs=[v]/\tyName H v=a_ T/\Q (.bl (tS v)) H
def aeK:ba [ap7] [ap7] (aS Lc):=bj
def adG(F:aQ K X_ X_ Lc f fd)(B:BT mg):aG P w K mg base aI 1 f fd [ap7] Tr:=by
 refine F.ok aeK λaJ A _ s H vs Q E hr h=>?_
 .refine eD h λv T aa ht k=>?_;clear h;subst aa;refine⟨_,av (aZ (Ff (bU iZ xz B.iO jd (ab (pv 0) (ab (pY (v:=.ty "int") xz B.int boot_int xz) ag))) (BI (Mb (bU iZ xz B.iO jd (ab (pv 0) (ab (pY (v:=.ty "bool") xz B.bool boot_bool xz) ag))))))),?_⟩;have e:=Wl ht;refine au v xz (dX _ _ _ _ (gR _ xz (oS ht) xz (oK ht qc) (au _ xz (vp (λh1=>?_) λh1=>?_))))
  .refine au v xz (dX _ _ _ _ (gR _ xz (oS ht) xz (oK ht qc) (au _ xz ?_)));rw[h1,D5]at e;rw[e];exact k
  .rw[h1,D0]at e;rw[e];exact k
def Xs(C:e_):Sp:=λvs H Q _=>∃x dx kd,vs=[.ref x,.str kd]/\H x=a_ (.ins C dx [])/\∀H' q qr,dC H' x C kd 0 [] q qr->(∀b o,b≠x->H b=a_ o->H' b=a_ o)->(∀b∈q::qr,H b=b_)->Q .aN H'
def amm:ba [U_,S_] [U_,S_] (aS Gz):=bj
def ahe:([J_]:List Str).Nodup:=dk
def akB(f:Str)(u:V):(aO f u []).length<1000:=by
 have h1:=q9 f u [];have h3:([]:List (Str×V)).length=0:=rfl;exact wb
def akA(f g:Str)(u v:V):(aO f u (aO g v [])).length<1000:=by
 have h1:=q9 f u (aO g v []);have h2:=q9 g v [];have h3:([]:List (Str×V)).length=0:=rfl;exact xi
def UD:∀m∈VD,¬m = S_/\¬m = "turn"/\¬m = "queues":=dk
def qB(kd:Str)(q:e_):(aO "queues" (.ref q) (aO "turn" (.int 0) (aO S_ (.str kd) [])))=[((S_ : Str),V.str kd),(("turn" : Str),V.int 0),(("queues" : Str),V.ref q)]:=by
 have n1:¬(S_ : Str) = "turn":=dk;have n2:¬(S_ : Str) = "queues":=dk;have n3:¬("turn" : Str) = "queues":=dk;simp only[aO,n1,n2,n3,if_false]
def akd(F:aQ K L_ "Tray.__init__" Gz f fd)(B:BT mg)(cT:kT K C)(mN:∃u,mg "NAMES" = a_ u/\RelV (.int 12) u):aG P w K mg base aI 1 f fd [U_,S_] (Xs C):=by
 refine aq mN λuN mN rN=>F.ok amm λaJ A _ s H vs Q E hr h=>?_
 .refine gD h λx dx kd aa hx k=>?_;clear h;subst aa
  refine let a:TS:=_;let d:TS:=_;⟨_,ar (fV (pv 0) (pv 1) xz) (pR d (ar (fV (pv 0) aw xz) (pR a (av (fV (pv 0) (iJ (N:=[J_]) (idx:=[]) xz (dw.of (by kernel_rfl)) (iG (a8 _))
   (oa xz B.range (ab (fq xz mN rN) ag)) (λ_ _ _ _=>bA (i:=0) ahe xz (aE xz) (.inr xz)) (λ_ _ _ _=>i3) λ_ _ _ _=>dW ag) xz))))),?_⟩
  refine vr xz (vr xz (kF x C dx ([]) xz hx cT.cl cT.kind qc (au _ xz (⟨x,C,dx,(jB _ xz ao cT.cl cT.turn (akB _ _) ?_)⟩))));rw[mM];refine⟨12,xz,qc,qc,?_⟩;generalize C9:upd H x (.ins C dx (aO "turn" (.int 0) (aO S_ (.str kd) [])))=H1;have dF:H1 x=a_ (.ins C dx (aO "turn" (.int 0) (aO S_ (.str kd) []))):=by rw[<-C9];exact ao
  have n1:∀b,H1 b=b_->H b=none:=λb e=>by
   rw[<-C9]at e
   by_cases z:b=x
   .rw[z,ao]at e;cases e
   .rwa[ai z]at e
  refine gr (n:=12) (λi ys H'=>∃qr:List e_,ys=qr.map V.ref/\qr.length=i/\qr.Nodup/\(∀b∈qr,H' b=a_ (.lst [])/\H1 b=b_)/\af H1 H') qc ⟨[],xz,xz,.nil,(λb hb=>nomatch hb),af.refl _⟩ ?_ ?_ ?_ ?_ ?_
  .rintro i ys H' ⟨qr,rfl,hl,_⟩;rw[aL,hl];exact aA _
  .rintro i ys H' hi _;exact hi
  .rintro ys H' _;exact aA _
  .rintro i ys H' hi ⟨qr,rfl,hl,nd,hq,sm⟩ y iF ⟨eH,ey⟩;subst eH;dsimp only[i6,ng];rw[if_pos rfl];refine⟨qc,λp hp=>⟨qr++[p],by simp,by simp[hl],?_,λb hb=>?_,aB sm hp⟩⟩
   .refine A2.mpr (eJ nd (by simp) λb hb c hc=>?_);rw[cD.mp hc];exact bp (hq b hb).1 hp
   .rcases dH.mp hb with z | z
    .exact⟨by rw[ai (bp (hq b z).1 hp)];exact(hq b z).1,(hq b z).2⟩
    .rw[cD.mp z];refine⟨ao,?_⟩;cases e:H1 p with
     | none=>rfl
     | some o=>rw[sm _ _ e]at hp;cases hp
  .rintro ys H' ⟨qr,rfl,hl,nd,hq,sm⟩;refine⟨by rw[aL,hl];decide,λq AA=>?_⟩;have nx:=bp (sm _ _ dF) AA;refine vr xz (⟨x,C,dx,(jB _ xz (by rw[ai nx];exact sm _ _ dF) cT.cl cT.uY (akA _ _ _ _) ?_)⟩);have Af:q∉qr:=λz=>by rw[(hq q z).1]at AA;cases AA
   have xqr:x∉qr:=λz=>by have:=(hq x z).2;rw[dF]at this;cases this
   refine k _ q qr ⟨⟨dx,_,ao,?_,?_,?_,?_,?_⟩,by rw[ai (cH nx),ao],hl,nd,Af,λi b hb=>⟨[],?_,by rw[agJ];exact .nil⟩,⟨.nil,(λe he=>nomatch he),(λe he=>nomatch he)⟩⟩ (λb o hb e=>?_) λb hb=>?_
   .rw[eV,if_neg dk,eV,if_neg dk,eV,if_pos rfl]
   .rw[eV,if_neg dk,eV,if_pos rfl]
   .rw[eV,if_pos rfl]
   .intro m hm;refine de (UD m hm) λm1 m2 m3=>?_;rw[eV,if_neg m3,eV,if_neg m2,eV,if_neg m1];rfl
   .rw[qB];show 3<=20;decide
   .have hm:=bu hb;have nbx:b≠x:=λz=>xqr (z ▸ hm);have nbq:b≠q:=λz=>Af (z ▸ hm);rw[ai nbx,ai nbq];exact(hq b hm).1
   .have e1:H1 b=a_ o:=by rw[<-C9,ai hb];exact e
    have e2:=sm _ _ e1;rw[ai hb,ai (bp e2 AA)];exact e2
   .refine n1 b ?_;rcases bX.mp hb with z | z
    .subst z;cases e:H1 b with
     | none=>rfl
     | some o=>rw[sm _ _ e]at AA;cases AA
    .exact(hq b z).2
def FU(F:List e_)(H H':Hp):Prop:=∀b o,b∉F->H b=a_ o->H' b=a_ o
def aiN(h:n<=20000):n<bw:=by rw[fw];exact wb
def agK(es:List Ent)(i:Nat):(cA es i).length<=es.length:=uu _ _
def RO{α β:Type}{F:α->β->Prop}{a:α}{b:β}:∀{l:List α} {r:List β},Paired F l r->F a b->Paired F (l++[a]) (r++[b])
 | _,_,.nil,h=>.cons h .nil
 | _,_,.cons g t,h=>.cons g (RO t h)
def dC.XA{tn:Int}(T:dC H a C kd tn es q qr){n:Int}(h0:0<=n)(h1:n<12):∃i:Nat,n=i/\i<12/\∃b,qr[i]?=a_ b/\gY (qr.map V.ref) n=a_ (.ref b):=by
 have hl:=T.len;obtain⟨i,rfl⟩:∃i:Nat,n=i:=⟨n.toNat,xm⟩;have hi:i<qr.length:=li;refine dJ i xz li (au (qr[i]) (aM hi) (cx ?_));rw[cO,aM hi];rfl
def Wj:∀(fs:List (Str×V)) (u:V),fs.lookup f=a_ v->(aO f u fs).length=fs.length
 | [],_,e=>by cases e
 | (g,x)::r,u,e=>by
  by_cases h:g=f
  .simp only[aO,if_pos h,fR]
  .simp only[aO,if_neg h,fR];rw[Wj r u];have hb:(f == g)=false:=by simpa using λz=>h z.symm
   rw[lJ,hb]at e;exact e
def WH(C:e_):Sp:=λvs H Q _=>∃a n num d kd tn es q qr,vs=[.ref a,.int n,.int num,.int d]/\dC H a C kd tn es q qr/\0<=n/\n<12/\es.length<=20000/\
 ∀H',dC H' a C kd (tn+1) (es++[⟨tn,n,num,d⟩]) q qr->FU (a::q::qr) H H'->Q .aN H'
def ah4:ba zLk zLk (aS MF):=bj
def agV(F:aQ K W_ "Tray.add" MF f fd)(cT:kT K C):aG P w K mg base aI 1 f fd zLk (WH C):=by
 refine F.ok ah4 λaJ A _ s H vs Q E hr h=>?_
 .refine fX h λa n num d kd aa=>lN aa λtn es q qr aa aT=>?_;subst aa;obtain⟨T,h0,h1,hz,k⟩:=aT;refine⟨_,ar (cX (ik m_ n_ o_ jR (aP cw (bC (pv 0) xz) (pv 1)) (ab (fJ (ab (bC (pv 0) xz) (ab (fJ (ab (pv 1) (ab (pv 2) (ab (pv 3) ag)))) ag))) ag))) (av (adz (pv 0) aw aiX)),?_⟩;refine fe (id T.obj) λdx fs ea e1 e2 e3 em el=>a7 (T.XA h0 h1) λi aa hi aT=>?_;subst aa;refine aq aT λb hb hat=>aq (T.jq i b hb) λvs eb rb=>?_;have v5:=bu hb;have lv:=r_ rb;have lq:=agK es i;refine vF xz ea cT.cl cT.uY e3 (vr xz (rL (v:=.ref b) (aj.of T.qs) (hat) ⟨.inl ⟨xz,_,aj.of eb⟩,vF xz ea cT.cl cT.turn e2 (au _ xz (vr xz (vr xz ⟨(sl (n:=3)),(λst cB=>⟨(sl (n:=2)),λp hp=>?_⟩)⟩)))⟩));have Aq:∀c o,H c=a_ o->c≠st:=λc o e=>bp e cB;have np:=λc o e=>bp (by rw[ai (Aq c o e)];exact e) hp;have nsp:=bp ao hp;have up:∀c o,H c=a_ o->upd (upd H st (.tup [.int (i:Int),.int num,.int d])) p (.tup [.int tn,.ref st]) c=a_ o:=λc o e=>by rw[ai (np c o e),ai (Aq c o e)];exact e
  have CD:=gU ea eb (by intro z;cases z);have OU:q≠b:=λz=>T.nq (z ▸ v5);refine pU b vs (.ref p) xz xz (up _ _ eb) (aiN li) (au _ xz (dX a C dx fs (jB _ xz (by rw[ai CD];exact up _ _ ea) cT.cl cT.turn e2 ⟨_,_,xz,xz,dx,fs,by rw[ai CD];exact up _ _ ea,wb,?_⟩)));have pb:=cH (np b _ eb);have pa:=cH (np a _ ea);have sb:=cH (Aq b _ eb);have sa:=cH (Aq a _ ea);generalize C8:upd (upd (upd (upd H st (.tup [.int (i:Int),.int num,.int d])) p (.tup [.int tn,.ref st])) b (.lst (vs++[.ref p]))) a (.ins C dx (aO "turn" (.int (tn+1)) fs))=H2;have g0:∀c o,c≠a->c≠b->H c=a_ o->H2 c=a_ o:=λc o z1 z2 e=>by rw[<-C8,ai z1,ai z2];exact up c o e
  have ga:H2 a=a_ (.ins C dx (aO "turn" (.int (tn+1)) fs)):=by rw[<-C8];exact ao
  have gb:H2 b=a_ (.lst (vs++[.ref p])):=by rw[<-C8,ai (cH CD)];exact ao
  have gp:H2 p=a_ (.tup [.int tn,.ref st]):=by rw[<-C8,ai pa,ai pb];exact ao
  have gs:H2 st=a_ (.tup [.int (i:Int),.int num,.int d]):=by rw[<-C8,ai sa,ai sb,ai nsp];exact ao
  have kt:∀c xs,H c=a_ (.tup xs)->H2 c=a_ (.tup xs):=λc xs e=>g0 c _ (gU e ea (by intro z;cases z)) (gU e eb (by intro z;cases z)) e;refine k H2 ⟨⟨dx,_,ga,?_,?_,?_,λm hm=>?_,?_⟩,g0 q _ (gU T.qs ea (by intro z;cases z)) OU T.qs,T.len,T.nd,T.nq,λj c hc=>?_,ahS T.wf h0 h1⟩ λc o hc e=>g0 c o (λz=>hc (by simp[z])) (λz=>hc (by simp[z,v5])) e
  .rw[eV,if_neg dk];exact e1
  .rw[eV,if_pos rfl]
  .rw[eV,if_neg dk];exact e3
  .rw[eV,if_neg (UD m hm).2.1];exact em m hm
  .have:=Wj fs (.int (tn+1)) e2;exact w7
  .rw[UZ]
   by_cases z:j=i
   .subst z;rw[hb]at hc;cases hc;rw[if_pos rfl];exact au _ gb (RO (E2 (λ_ _ y=>y.keep (F:=[]) kt) rb) ⟨p,st,xz,gp,gs⟩)
   .rw[if_neg λy=>z (by have:(i:Int)=(j:Int):=y;lia)]
    have OY:c≠b:=λy=>z (by
     subst y;have n1:=bK.mp hc;have n2:=bK.mp hb;refine oE n1 λp1 q1=>oE n2 λp2 q2=>?_;rcases IA j i with y | y | y
     .exact absurd (q1.trans q2.symm) (uq.mp T.nd j i p1 p2 y)
     .exact y
     .exact absurd (q2.trans q1.symm) (uq.mp T.nd i j p2 p1 y))
    refine(T.jq j c hc).keep (λo e=>g0 c o (λy=>?_) OY e) kt;refine aq (T.jq j c hc) λoZ e' _=>?_;rw[y,ea]at e';cases e'
def acM{α β:Type}{F:α->β->Prop}{r:List β}(h:Paired F [] r):r=[]:=by cases h;rfl
def Rl:∀{vs:List V} {l:List Ent},Paired (zI H) vs l->vs≠[]->∃oZ v e,vs=oZ++[v]/\l.getLast?=a_ e/\zI H v e
 | _,_,.nil,h=>absurd xz h
 | _,_,.cons (a:=v) (b:=e) g t,_=>by
  cases t with
  | nil=>exact⟨[],v,e,xz,xz,g⟩
  | cons h t=>
   exact gD (Rl (.cons h t) (by simp)) λoZ v' e' q1 q2 q3=>⟨(v::oZ),v',e',(by rw[q1];rfl),(by rw[List.getLast?_cons_cons];exact q2),q3⟩
def Tw(C:e_):Sp:=λvs H Q _=>∃a n kd tn es q qr,vs=[.ref a,.int n]/\dC H a C kd tn es q qr/\0<=n/\n<12/\es.length<=20000/\
 (pZ es n.toNat=b_->Q .aN H)/\∀e st,pZ es n.toNat=a_ e->H st=a_ (.tup [.int e.n,.int e.num,.int e.d])->Q (.ref st) H
def Sz:ba [U_,J_,"queue"] zLf (aS Km):=bj
def acQ(F:aQ K "latest" "Tray.latest" Km f fd)(B:BT mg)(cT:kT K C):aG P w K mg base aI 1 f fd zLf (Tw C):=by
 refine F.ok Sz λaJ A _ s H vs Q E hr h=>?_
 .refine fX h λa n kd tn es aa=>jf aa λq qr aa T h0 aT=>?_;subst aa;refine oH aT λh1 hz k0 k1=>?_;refine let c:TS:=_;⟨_,ar (bq (i:=2) Sz.nd xz (aE xz) (aP cw (bC (pv 0) xz) (pv 1))) (pR c (av (aZ (Ks (bM c7 (bU eU xz B.len q_ (ab (pv 2) ag)) aw (bJ _)) mV (aP cc (aP cw (pv 2) (MV VC aw)) aw))))),?_⟩;refine fe (id T.obj) λdx fs ea e1 e2 e3 em el=>a7 (T.XA h0 h1) λi aa hi aT=>?_;subst aa;refine aq aT λb hb hat=>?_;rw[di]at k0 k1;refine aq (T.jq i b hb) λvs eb rb=>vF xz ea cT.cl cT.uY e3 (vr xz (rL (v:=.ref b) (aj.of T.qs) (hat) (vr xz ⟨b,⟨_,xz,.inl (aj.of eb),xz,_,xz,bG (λz=>?_) λz=>?_⟩⟩)))
  .have hv:vs=[]:=by
    injection z with z
    exact ur.mp li
   subst hv;refine k0 ?_;unfold pZ;rw[acM rb];rfl
  .have hv:vs≠[]:=λy=>z (by rw[y];rfl);refine gD (Rl rb hv) λoZ v e q1 q2 aa=>eD aa λp st aa q3 q4=>?_;subst aa;subst q1;refine vr xz (au _ xz (rL (v:=.ref p) (aj.of eb) (Uv _ _) (rT (v:=.ref st) (aD.of q3) (xz) (k1 e st q2 q4))))
def UM(C:e_):Sp:=λvs H Q _=>∃a kd tn es q qr,vs=[.ref a]/\dC H a C kd tn es q qr/\∀H',af H H'->Q (.bl (decide (es=[]))) H'
def aeM:ba zLc zLc (aS Le):=bj
def afj:(["queue"]:List Str).Nodup:=dk
def adg{tn:Int}(w:lh tn es)(h:∀i,i<12->cA es i=[]):es=[]:=by
 cases es with
 | nil=>rfl
 | cons e r=>
  refine oA (w.nm e du) λh0 h1=>?_;have:=h e.n.toNat li;unfold cA at this;rw[yC,if_pos (by simp;lia)]at this;cases this
def all_empty{tn:Int}(w:lh tn es):((List.range 12).map λi=>decide (cA es i=[])).all id=decide (es=[]):=by
 by_cases h:es=[]
 .subst h;rfl
 .rw[decide_eq_false h,Be];cases e:(List.range 12).all (id ∘ λi=>decide (cA es i=[]))with
  | false=>rfl
  | true=>
   exfalso;exact h (adg w λi hi=>by simpa using IK.mp e i (nW.mpr hi))
def adN(F:aQ K "is_empty" "Tray.is_empty" Le f fd)(B:BT mg)(cT:kT K C):aG P w K mg base aI 1 f fd zLc (UM C):=by
 refine F.ok aeM λaJ A _ s H vs Q E hr h=>?_
 .refine fX h λa kd tn es q aa=>a7 aa λqr aa T k=>?_;subst aa
  refine⟨_,av (aZ (bU (EN xz) xz B.all boot_all (ab (iJ (N:=["queue"]) (idx:=[]) xz (dw.of (by kernel_rfl)) (iG (a8 _)) (pX (bC (pv 0) xz))
   (λ_ _ _ _=>bA (i:=0) afj xz (aE xz) (.inr xz)) (λ_ _ _ _=>i3) λ_ _ _ _=>BA c7 (bU (len_K K) xz B.len q_ (ab (pv 0) ag)) aw (bJ _)) ag))),?_⟩
  refine fe (id T.obj) λdx fs ea e1 e2 e3 em el=>au _ xz (dX a C dx fs (jB _ xz ea cT.cl cT.uY e3 (dJ q xz ⟨_,aj.of T.qs⟩ ?_)));have hl:=T.len;refine gr (n:=12) (λi ys H'=>H'=H/\ys=(List.range i).map λj=>V.bl (decide (cA es j=[]))) qc ⟨xz,xz⟩ ?_ ?_ ?_ ?_ ?_
  .rintro i ys H' ⟨_,rfl⟩;rw[aL,lH];exact aA _
  .rintro i ys H' hi ⟨rfl,_⟩;exact f7 _ (V.ref (qr[i]'wg)) (aj.of T.qs) (by rw[cO,aM wg];rfl)
  .rintro ys H' ⟨rfl,_⟩;exact au _ (aj.of T.qs) (by rw[aL,hl];exact aA _)
  .rintro i ys H' hi ⟨rfl,rfl⟩ y iF ⟨eH,hy⟩;subst eH;have xU:=hy _ (aj.of T.qs);rw[cO,aM wg]at xU;cases xU;refine aq (T.jq i _ (aM wg)) λvs eb rb=>?_;dsimp only[i6,ng];rw[if_pos rfl];refine vr xz ⟨_,⟨_,xz,.inl (aj.of eb),xz,xz,?_⟩⟩;rw[sO,fv]
   congr 1
   have lv:=r_ rb;simp only[gq,Jr,Ti.injEq,V.bl.injEq,and_true];refine decide_eq_decide.mpr ⟨λz=>?_,λz=>?_⟩
   .injection z with z
    exact ur.mp li
   .rw[z]at lv;rw[lv];rfl
  .rintro ys H' ⟨rfl,rfl⟩;refine⟨by rw[aL,lH];decide,λp hp=>dP p ((List.range 12).map λj=>decide (cA es j=[])) xz (aj.of (by rw[ao,uD];rfl)) ?_⟩;rw[all_empty T.wf];exact k _ (aB (af.refl _) hp)
def vc(es:List Ent)(i:Nat):List Int:=((List.range i).filter λj=>decide (cA es j≠[])).map λ(j:Nat)=>(j:Int)
def RD(es:List Ent)(i:Nat):vc es (i+1)=vc es i++(if cA es i≠[] then [(i:Int)] else []):=by
 unfold vc;rw[sO,yw,fv]
 congr 1
 by_cases h:cA es i≠[]
 .rw[if_pos h,Qq (by simpa using h)];rfl
 .rw[if_neg h,aau (by simpa using h)];rfl
def Sl(es:List Ent)(i:Nat):(vc es i).length<=i:=by
 unfold vc;rw[aL];have h:=uu (λj=>decide (cA es j≠[])) (List.range i);rw[lH]at h;exact h
def vI(es:List Ent)(n:Int):Int:=((cA es n.toNat).head?.map (·.t)).getD 0
def D6(w:lh tn es)(h:es.head?=a_ e):e.n∈kM es:=by
 have hm:e∈es:=by
  cases es with
  | nil=>cases h
  | cons x r=>cases h;exact du
 refine oA (w.nm e hm) λh0 h1=>Bn.mpr (dJ e.n.toNat li xm λz=>?_);have:=Uk (i:=e.n.toNat) h xm;rw[z]at this;cases this
def agC(w:lh tn es)(hm:m∈kM es)(hb:∀n∈kM es,vI es m<=vI es n):(es.head?.map (·.n)).toList=[m]:=by
 refine a7 (Bn.mp hm) λi hi aa dr=>?_;subst aa;cases es with
 | nil=>exact absurd xz dr
 | cons e r=>
  have h1:=hb e.n (D6 w xz);refine oA (w.nm e du) λn0 n1=>?_
  have k1:vI (e::r) e.n=e.t:=by
   unfold vI;rw[Uk (i:=e.n.toNat) (e:=e) xz xm];rfl
  cases q:cA (e::r) i with
  | nil=>exact absurd q dr
  | cons x l=>
   have k2:vI (e::r) (i:Int)=x.t:=by
    unfold vI;rw[di,q];rfl
   have hx:x∈cA (e::r) i:=by rw[q];exact du
   unfold cA at hx;refine oA (jw.mp hx) λdF vS=>?_;have hn:x.n=(i:Int):=by simpa using vS
   rcases bX.mp dF with z | z
   .show [e.n]=[(i:Int)];rw[<-z,hn]
   .have:=(Iw.mp w.asc).1 x z;rw[k1,k2]at h1;lia
def agD(w:lh tn es)(h:¬1<(kM es).length):(es.head?.map (·.n)).toList=kM es:=by
 cases es with
 | nil=>rfl
 | cons e r=>
  have hm:=D6 (e:=e) w xz
  match q:kM (e::r)with
  | []=>rw[q]at hm;cases hm
  | [x]=>
   rw[q]at hm;rw[<-cD.mp hm];rfl
  | _::_::_=>
   rw[q]at h;simp at h
abbrev LP:Pos:=⟨216,35,216,71⟩
abbrev LQ:Str:=("Tray.fronts" : Str) ++ ".<locals>." ++ "<lambda>"
def Ka(C PT:e_):Sp:=λvs H Q _=>∃a kd tn es q qr,vs=[.ref a]/\dC H a C kd tn es q qr/\cQ PT LP LQ H/\
 ∀H' l,gx [] H H'->cQ PT LP LQ H'->H l=b_->H' l=a_ (.lst ((iy kd es).map V.int))->Q (.ref l) H'
def SA:ba [U_,"names"] zLc (aS EA):=bj
def WS:([J_,"queue"]:List Str).Nodup:=dk
def NL(h:V.str x=V.str y):x=y:=by injection h
def acJ{PT:e_}(s:af H H1)(t:vj PT H1 H2)(hP:H1 PT=a_ (.eY ps))(PX:H2 PT=a_ (.eY Zp)):gx [] H H2:=(gx.of s).trans (gx.YG t hP PX)
def RS{f C PT c:e_}(F:vz K "fronts" "Tray.fronts" EA f fd c)(B:BT mg)(cT:kT K C)(hC:W.CodeHd base c PT)(hB:tN mg base):aG P w K mg base aI 2 f fd zLc (Ka C PT):=by
 refine F.ok SA λA outer s H vs Q E hr h=>?_
 .refine fX h λa kd tn es q aa=>cJ aa λqr aa T xB k=>?_;subst aa;have hrm:=hr.dp
  refine let d:TS:=_;let g:TS:=_;⟨_,ar (yM (i:=1) (N:=[J_,"queue"]) (idx:=[]) SA.nd xz xz xz (dw.of (by kernel_rfl)) (Bh (a8 _) (a8 _)) (uU (b:=c_) xz B.enum (ab (bC (pv 0) xz) ag))
    (λ_ _ _ _=>kK xz (dA (bA (i:=0) WS xz (aE xz) (.inr xz)) (dA (bA (i:=1) WS xz (aE xz) (.inr xz)) kH)))
    (λ_ _ _ _=>wJ (bM wQ (bU (len_K K) xz B.len q_ (ab (pv 1) ag)) aw (bJ _))) λ_ _ _ _=>pv 0)
   (pR g (ar (b8 (PW.pt (pw_and (bM c7 (bC (pv 0) xz) cR (bJ _)) (pw_and1 (bM wQ (bU eU xz B.len q_ (ab (pv 1) ag)) aw (bJ _))))) (pR d (av (aZ (dW (ab (adD (N:=[U_,J_]) (idx:=[0]) (k:=1) (px:=J_) (P:=PT) xz (by show A.depth+1+5<_;have h1:A.depth+1+3*1+5<DX:=hrm;lia) xz B.min (pv 1) (dw.of (by kernel_rfl)) xz hC hB xz xz qc
     (λ_ _ _ _ _ _=>aP (BV K) (aP (BW K) (aP (BW K) (akP K (pv 0) xz) (pv 1)) aw) aw) λ_ _ _ _ _ _=>rfl) ag))))) cp)
   (av (aZ (pv 1))))),?_⟩
  refine fe (id T.obj) λdx fs ea e1 e2 e3 em el=>?_;have hl:=T.len;refine vF xz ea cT.cl cT.uY e3 ⟨q,⟨_,xz,aj.of T.qs,gr (n:=12) (λi ys H'=>af H H'/\ys=(vc es i).map V.int) qc ⟨af.refl _,xz⟩ ?_ ?_ ?_ ?_ ?_⟩⟩
  .rintro i ys H' ⟨_,rfl⟩;rw[aL];exact Sl es i
  .rintro i ys H' hi ⟨sm,_⟩;exact f7 _ (V.ref (qr[i]'wg)) (aj.of (sm _ _ T.qs)) (by rw[cO,aM wg];rfl)
  .rintro ys H' ⟨sm,_⟩;exact au _ (aj.of (sm _ _ T.qs)) (by rw[aL,hl];exact aA _)
  .rintro i ys H' hi ⟨sm,rfl⟩ y iF ⟨p,x,hp,ey,eH,hx⟩;subst ey;subst eH;have dF:=hx _ (aj.of (sm _ _ T.qs));rw[cO,aM wg]at dF;cases dF;refine aq (T.jq i _ (aM wg)) λvs eb rb=>?_;have s2:af H (upd H' p (.tup [.int i,.ref qr[i]])):=aB sm hp;have lv:=r_ rb;refine⟨p,⟨_,xz,aD.of ao,xz,_,_,xz,_,_,xz,xz,vr xz ⟨_,⟨_,xz,.inl (aj.of (s2 _ _ eb)),_,_,xz,xz,_,xz,bG (λz=>?_) λz=>?_⟩⟩⟩⟩
   .refine vr xz ⟨s2,?_⟩;rw[RD,if_pos (λy=>by rw[y]at lv;rw[lv]at z;exact absurd z (by simp)),fv];rfl
   .refine⟨s2,?_⟩;rw[RD,if_neg λy=>y (ur.mp li),sQ]
  .rintro ys H' ⟨sm,rfl⟩;have wl:=Sl es 12;refine⟨by rw[aL];exact cY (eh w4),λl1 yd=>?_⟩;have s1:af H (upd H' l1 (.lst ((vc es 12).map V.int))):=aB sm yd;generalize C9:upd H' l1 (.lst ((vc es 12).map V.int))=H1 at s1;have ly:H1 l1=a_ (.lst ((kM es).map V.int)):=by rw[<-C9];exact ao
   have Zz:H l1=none:=by
    cases e:H l1 with
    | none=>rfl
    | some o=>rw[sm _ _ e]at yd;cases yd
   have vA:=lL xB s1;have T1:=T.oz (gx.of s1);refine fe (id T1.obj) λv8 sI Dj f1 f2 f3 _ _=>?_;have done:(kM es).length<=12:=wl;refine au _ xz (dX a C v8 sI (⟨_,xz,Dj,cT.cl,cT.kind,f1,xz,(au _ xz ?_)⟩))
   by_cases hk:kd = P_
   .rw[decide_eq_true (show V.str kd=V.str P_ by rw[hk])];refine jW (vr xz ⟨l1,⟨_,xz,.inl (aj.of ly),_,_,xz,xz,_,xz,bG (λz=>?_) λz=>?_⟩⟩)
    .rw[aL]at z;refine au _ xz (pU l1 (kM es) (vI es) xz (aj.of ly) li vA λH2 sp xw=>aq (id vA) λps hPT _=>aq (id xw) λZp Yp _=>?_);have kp:=gx.YG sp hPT Yp;have T2:=T1.oz kp;have lx:=kp.k l1 _ (by simp) (λps z=>by cases z) ly;refine eJ (aj.of lx) (λm hm=>?_) λm hm hb=>?_
     .refine a7 (Bn.mp hm) λi hi aa dr=>?_;subst aa;refine fe (id T2.obj) λuo qS ea2 g1 g2 g3 _ _=>aq (T2.jq i _ (aM wg)) λvs eb rb=>?_;cases OQ:cA es i with
      | nil=>exact absurd OQ dr
      | cons x r=>
       rw[OQ]at rb;cases rb with
       | cons hx vW=>
        refine eD hx λp st aa q1 q2=>?_;clear hx;subst aa;refine vF xz ea2 cT.cl cT.uY g3 (vr xz (rL (v:=.ref (qr[i]'wg)) (aj.of T2.qs) ((cx (by rw[cO,aM wg];rfl))) (OF (v:=.ref p) (j:=0) eb xz (rT (v:=.int x.t) (aD.of q1) (cx (j:=0) xz) ⟨?_,xz⟩))))
        .unfold vI;rw[di,OQ];rfl
     .refine⟨(sl (n:=1)),λl hn=>k _ l ((acJ s1 sp hPT Yp).trans (gx.of (aB (af.refl _) hn))) (lL xw (aB (af.refl _) hn)) ?_ ?_⟩
      .cases e:H l with
       | none=>rfl
       | some o=>
        by_cases zp:l=PT
        .refine aq xw λps2 h2 _=>?_;rw[zp,h2]at hn;cases hn
        .rw[sp _ _ zp (s1 _ _ e)]at hn;cases hn
      .rw[ao];unfold iy;rw[if_pos hk,agC T.wf hm hb];rfl
    .rw[aL]at z;refine vr xz (k H1 l1 (gx.of s1) vA Zz ?_);rw[ly];unfold iy;rw[if_pos hk,agD T.wf li]
   .rw[decide_eq_false (show ¬V.str kd=V.str P_ from λz=>hk (NL z))];refine eW (eW (vr xz (k H1 l1 (gx.of s1) vA Zz ?_)));rw[ly];unfold iy;rw[if_neg hk]
def ahw(n:Int)(ns:List Int):Ci (.int n) (ns.map V.int)=decide (n∈ns):=by
 unfold Ci
 induction ns with
 | nil=>rfl
 | cons m r ih=>
  rw[gq,sS,ih]
  by_cases h:m=n
  .subst h;simp[qD]
  .have:qD (.int m) (.int n)=false:=by simp[qD,h]
   rw[this,Ri];exact decide_eq_decide.mpr ⟨λz=>eL _ z,λz=>(bX.mp z).resolve_left λy=>h y.symm⟩
def aec(ns:List Int):(ns.map V.int).all tE=true:=by
 rw[Be];exact IK.mpr λ_ _=>rfl
def JU(w:lh tn es)(h:n∈iy kd es):∃i:Nat,i<12/\n=i/\∃e r,cA es i=e::r:=by
 have hw:n∈kM es:=by
  unfold iy at h
  by_cases hk:kd = P_
  .rw[if_pos hk]at h;cases es with
   | nil=>cases h
   | cons e r=>
    have e1:n=e.n:=by simpa using h
    rw[e1];exact D6 w xz
  .rw[if_neg hk]at h;exact h
 refine a7 (Bn.mp hw) λi hi e dr=>dJ i hi e ?_;cases q:cA es i with
 | nil=>exact absurd q dr
 | cons x r=>exact⟨x,r,xz⟩
def VJ(C PT:e_):Sp:=λvs H Q _=>∃a n kd tn es q qr,vs=[.ref a,.int n]/\dC H a C kd tn es q qr/\cQ PT LP LQ H/\n∈iy kd es/\
 ∀H' e st,(cA es n.toNat).head?=a_ e->dC H' a C kd tn (ji es n) q qr->gx (a::q::qr) H H'->cQ PT LP LQ H'->H' st=a_ (.tup [.int e.n,.int e.num,.int e.d])->Q (.ref st) H'
def agr:ba zLf zLf (aS LR):=bj
def ae6{f fW fF C PT c:e_}(F:aQ K "take" "Tray.take" LR f fd)(B:BT mg)(cT:kT K C)(hC:W.CodeHd base c PT)(hB:tN mg base)
  (FW:aQ K X_ X_ Lc fW sk) (bW:Binds K sk [ap7] []) (mW:mg X_ = a_ (.ref fW)) (FF:vz K "fronts" "Tray.fronts" EA fF fdF c) (bF:Binds K fdF zLc []) (mF:Meth K C "fronts" fF):aG P w K mg base aI 3 f fd zLf (VJ C PT):=by
 have GW:aG P w K mg base aI 1 fW sk [ap7] Tr:=adG FW B;have GF:aG P w K mg base aI 2 fF fdF zLc (Ka C PT):=RS FF B cT hC hB;refine F.ok agr λaJ A _ s H vs Q E hr h=>?_
 .refine fX h λa n kd tn es aa=>jf aa λq qr aa T xB aT=>?_;subst aa;refine oA aT λjO k1=>?_;clear aT h
  refine let d:TS:=_;⟨_,ar (b8 (PW.pt (pw_or (ou (gu (mQ GW (hr.mono qc) xz mW FW.kp bW .nil c9 (ab (pv 1) ag))))
    (pw_or1 (bM Rm (pv 1) (EC (pv 0) cT.cl mF GF hr bF .nil c9) xz)))) sX cp)
   (pR d (av (aZ (aP cc (ik m_ PySem.F.slot_list_pop PySem.F.type_list_pop afl (aP cw (bC (pv 0) xz) (pv 1)) (ab aw ag)) aw)))),?_⟩
  refine fe (id T.obj) λdx fs ea e1 e2 e3 em el=>vr xz (dP (.int n) ("int") xz xz (au _ xz (eW (vr xz (vM xz ea (em "fronts" dk) (⟨a,kd,tn,es,q,qr,xz,T,xB,(λH1 l kp vA hn hl=>⟨l,⟨_,xz,.inl (aj.of hl),xz,aec _,_,xz,?_⟩⟩)⟩))))));rw[if_pos xz,ahw];refine Nf (λz=>absurd jO (of_decide_eq_false z)) λ_=>?_
  .have T1:=T.oz kp;refine a7 (JU T.wf jO) λi hi aa aT=>?_;subst aa;refine vE aT λe r he=>fe (id T1.obj) λv8 sI Dj f1 f2 f3 fm fl=>?_;have apc:=T1.len;have hb:qr[i]?=a_ (qr[i]'wg):=aM wg;refine aq (T1.jq i _ hb) λvs eb rb=>?_;have v5:=bu hb;generalize qr[i]'wg=b at hb eb v5;rw[he]at rb;cases rb with
   | cons hx vW=>
    refine eD hx λp st aa q1 q2=>?_;clear hx;subst aa
    rename_i oZ
    refine au _ xz (dX a C v8 sI (jB _ xz Dj cT.cl cT.uY f3 (vr xz (rL (v:=.ref b) (aj.of T1.qs) (cx (by rw[cO,hb];rfl)) ⟨.inl ⟨xz,_,aj.of eb⟩,?_⟩))));refine⟨b,_,0,0,(.ref p),xz,xz,eb,qc,qc,(by simp[J6]),xz,?_⟩;have npb:=gU q1 eb (by intro z;cases z);have nsb:=gU q2 eb (by intro z;cases z);refine rT (v:=.ref st) (aD.of (by rw[ai npb];exact q1)) (cx (j:=1) xz) ?_
    have ka:FU (a::q::qr) H1 (upd H1 b (.lst oZ)):=λc o hc ec=>by
     rw[ai λz=>hc (by simp[z,v5])];exact ec
    have kt:∀c xs,H1 c=a_ (.tup xs)->upd H1 b (.lst oZ) c=a_ (.tup xs):=λc xs ec=>by rw[ai (gU ec eb (by intro z;cases z))];exact ec
    have CD:=gU Dj eb (by intro z;cases z);have OU:q≠b:=λz=>T1.nq (z ▸ v5)
    refine k1 _ e st (by rw[di,he];rfl) ⟨⟨v8,sI,by rw[ai CD];exact Dj,f1,f2,f3,fm,fl⟩,by rw[ai OU];exact T1.qs,T1.len,T1.nd,T1.nq,λj c hc=>?_,af5 T1.wf _⟩
     ⟨λc o hc ht ec=>ka c o hc (kp.k c o (by simp) ht ec),λc h=>kp.t c (by
      by_cases z:c=b
      .rw[z,ao]at h;cases h
      .rwa[ai z]at h)⟩ (yP vA ka T1.kinds) (by rw[ai nsb];exact q2)
    rw[aeT]
    by_cases zj:j=i
    .subst zj;rw[hb]at hc;cases hc;rw[if_pos xz,he];exact au oZ ao (E2 (λ_ _ y=>y.keep (F:=[]) kt) vW)
    .rw[if_neg λy=>zj (by have:(i:Int)=(j:Int):=y;lia)]
     have OY:c≠b:=λy=>zj (by
      subst y;refine oE (bK.mp hc) λp1 q1=>?_;refine oE (bK.mp hb) λp2 q2=>?_;rcases IA j i with y | y | y
      .exact absurd (q1.trans q2.symm) (uq.mp T1.nd j i p1 p2 y)
      .exact y
      .exact absurd (q2.trans q1.symm) (uq.mp T1.nd i j p2 p1 y))
     exact(T1.jq j c hc).keep (λo e=>by rw[ai OY];exact e) kt
def Ts(C:e_):Sp:=λvs H Q _=>∃kd,vs=[.str kd]/\(kd = P_\/kd = J_\/kd = "none")/\∀H' x q qr,dC H' x C kd 0 [] q qr->FU [] H H'->(∀b∈x::q::qr,H b=b_)->Q (.ref x) H'
def aeL:ba [S_] [S_] (aS Ld):=bj
def aht{x:Str}(h:x = P_\/x = J_\/x = "none"):Ci (.str x) [.str P_,.str J_,.str "none"]=true:=by
 rcases h with rfl | rfl | rfl <;> decide +kernel
def adM{f fI C aK:e_}{fd gI:jS}(F:aQ K "tray_of" "tray_of" Ld f fd)(B:BT mg)(cT:kT K C)(M:Mk K C fI)(FI:aQ K L_ "Tray.__init__" Gz fI gI)(bI:Binds K gI [U_,S_] [])(mT:mg "Tray" = a_ (.ref C))(mN:∃u,mg "NAMES" = a_ u/\RelV (.int 12) u)
  (mK:mg "KINDS" = a_ (.ref aK)) (hK:∀H:Hp,aD K H aK [.str P_,.str J_,.str "none"]):aG P w K mg base aI 3 f fd [S_] (Ts C):=by
 have GI:aG P w K mg base aI 1 fI gI [U_,S_] (Xs C):=akd FI B cT mN;refine F.ok aeL λaJ A _ s H vs Q E hr h=>?_
 .refine a7 h λx aa hk k=>?_;subst aa;refine let a:TS:=_;⟨_,ar (b8 (PW.pt (pw_or (ou (gu (bU iZ xz B.iO jd (ab (pv 0) (ab (pY (v:=.ty "str") xz B.str boot_str xz) ag))))) (pw_or1 (bM Rm (pv 0) (fq (v:=.ref aK) xz mK xz) xz)))) sX cp) (pR a (av (aZ (tf M GI hr xz mT bI .nil c9 (ab (pv 0) ag))))),?_⟩;refine vr xz (dX _ _ _ _ (gR _ xz (oS (H:=H) (v:=.str x) (T:="str") xz) xz (oK (H:=H) (v:=.str x) (T:="str") xz qc) (au _ xz (eW (vr xz ⟨aK,⟨_,xz,.inr (hK H),xz,xz,_,xz,?_⟩⟩)))));rw[if_pos xz,aht hk];refine eW (vr xz λo dx no gJ ne=>⟨o,dx,x,xz,ao,(λH' q qr T1 kp fr=>⟨xz,k H' o q qr T1 (λb u _ e=>kp b u (bp e no) ?_) λb hb=>?_⟩)⟩)
  .rw[ai (bp e no),ai (bp e gJ)];exact e
  .rcases bX.mp hb with z | z
   .rw[z];exact no
   .have:=fr b z;have nbo:b≠o:=λe=>by rw[e,ao]at this;cases this
    rw[ai nbo]at this;have nbd:b≠dx:=λe=>by rw[e,ao]at this;cases this
    rw[ai nbd]at this;exact this
end TL
open L2
namespace TS
section
variable{M:Model}{A:h_}{E:f_->g_->Prop}{s:g_}
def af4{σ:Type}{Q:PUnit->σ->Prop}{x st:σ}(h:Q ⟨⟩ x):wpS M A E s (set x) Q st:=aF ⟨xz,h⟩
def gQ{st:SortSt}(h:arr[i]?=a_ x)(q:Q x st):wpS M A E s (elem' arr i) Q st:=by
 rw[elem'_eq,h];exact a9 q
def yU{st:SortSt}(h:Q ⟨⟩ st):wpS M A E s (liftM (rule n)) Q st:=wpS_lift (uG ⟨xz,h⟩)
def cF{α:Type}{c:Prop}[Decidable c]{m m':StateT SortSt Sem α}{Q:α->SortSt->Prop}{st:SortSt}(h1:c->wpS M A E s m Q st)(h2:¬c->wpS M A E s m' Q st):wpS M A E s (if c then m else m') Q st:=by
 by_cases h:c
 .rw[if_pos h];exact h1 h
 .rw[if_neg h];exact h2 h
structure Sm(st ay:SortSt):Prop where
 k:kindOf ay=kindOf st
 a:arrOf ay=arrOf st
 p:cZ ay=cZ st
 f:rk ay=rk st
def Et{f:SortSt->SortSt}{st Cu:SortSt}(h0:Sm Cu st)(hf:Sm st (f st))(q:∀ay,Sm Cu ay->Q ⟨⟩ ay):wpS M A E s (modify f) Q st:=wG (q _ ⟨hf.k.trans h0.k,hf.a.trans h0.a,hf.p.trans h0.p,hf.f.trans h0.f⟩)
def Eu{β:Type}{Q:β->SortSt->Prop}{st:SortSt}{c:Prop}[Decidable c]{X Y J:StateT SortSt Sem β}(P:Prop)(h1:c->(P->wpS M A E s J Q st)->wpS M A E s X Q st)(h2:¬c->P/\Y=J)(t:P->wpS M A E s J Q st):wpS M A E s (if c then X else Y) Q st:=cF (λh=>h1 h t) λh=>by rw[(h2 h).2];exact t (h2 h).1
def Sk{β:Type}{Q:β->SortSt->Prop}{st:SortSt}{c:Prop}[Decidable c]{X Y:StateT SortSt Sem β}{J:Nat->StateT SortSt Sem β}(h1:(∀v,wpS M A E s (J v) Q st)->wpS M A E s X Q st)(h2:(∀v,wpS M A E s (J v) Q st)->wpS M A E s Y Q st)(t:∀v,wpS M A E s (J v) Q st):wpS M A E s (if c then X else Y) Q st:=cF (λ_=>h1 t) λ_=>h2 t
def lp{γ:Type}{n:Nat}(P:Nat->Nat->Prop){F:Nat->Option γ×Nat×Nat->StateT SortSt Sem (ForInStep (Option γ×Nat×Nat))}{R:Option γ×Nat×Nat->SortSt->Prop}{st:SortSt}{x y:Nat}(h0:P x y)(q:∀l o,P l o->R (b_,l,o) st)
  (hF:∀i l o (R:ForInStep (Option γ×Nat×Nat)->SortSt->Prop),P l o->R (.done (b_,l,o)) st->(∀l' o',P l' o'->R (.yield (b_,l',o')) st)->wpS M A E s (F i (b_,l,o)) R st):wpS M A E s (forIn [:n] (b_,x,y) F) R st:=by
 refine nY (I:=λ_ c ay=>ay=st/\∃l o,c=(b_,l,o)/\P l o) ?_ ?_ ⟨xz,x,y,xz,h0⟩
 .rintro i c ay _ _ ⟨rfl,l,o,rfl,p⟩;exact hF i l o _ p (q l o p) λl' o' p'=>⟨xz,l',o',xz,p'⟩
 .rintro c ay ⟨rfl,l,o,rfl,p⟩;exact q l o p
end
def Y3:=Bool->Keyed->Array Keyed->Nat->Nat->Nat->StateT SortSt Sem (Option Nat)
def bey(left:Bool)(key:Keyed)(arr:Array Keyed)(base i:Nat):StateT SortSt Sem (Option Bool):=do
 let x <-elem' arr (base+i)
 if left=c_ then lt' x key
 else do
  let r <-lt' key x
  pure (r.map λx=>!x)
def BC(g:Y3):Prop:=∀(M:Model) (A:h_) (E:f_->g_->Prop) (s:g_) (left:Bool) (key:Keyed) (arr:Array Keyed) (base n hint:Nat) (st:SortSt) (Q:Option Nat->SortSt->Prop),hint<n->
 (∀i,i<n->∀Q:Option Bool->SortSt->Prop,(∀b,Q (a_ b) st)->wpS M A E s (bey left key arr base i) Q st)->(∀k,k<=n->Q (a_ k) st)->wpS M A E s (g left key arr base n hint) Q st
def tZ(M:Model)(A:h_)(E:f_->g_->Prop)(s:g_)(κ:mJ)(a0:List Keyed):Prop:=∀(st:SortSt) (x y:Keyed) (Q:Option Bool->SortSt->Prop),kindOf st=κ->x∈a0->y∈a0->(∀b,Q (a_ b) st)->wpS M A E s (lt' x y) Q st
def Of(a0:List Keyed)(a:Array Keyed):Prop:=∀x∈a.toList,x∈a0
def Of.at'(h:Of a0 a)(hi:i<a.size):∃x,a[i]?=a_ x/\x∈a0:=⟨a[i],by simp[hi],h _ (by simp)⟩
def Ag{κ:mJ}(G:BC g)(C:tZ M A E s κ a0){left:Bool}{base n hint:Nat}{st:SortSt}(hn:base+n<=arr.size)(hκ:kindOf st=κ)(hU:Of a0 arr)(hk:key∈a0)(hh:hint<n)(q:∀k,k<=n->Q (a_ k) st):wpS M A E s (g left key arr base n hint) Q st:=by
 refine G M A E s left key arr base n hint st Q hh (λi hi Q' q'=>?_) q;obtain⟨x,hx,ux⟩:=hU.at' (show base+i<arr.size by lia);refine aV (gQ hx ?_);cases left
 .exact aV (C st _ _ _ hκ hk ux λb=>a9 (q' _))
 .exact C st _ _ _ hκ ux hk q'
def YZ:=Array Keyed->Array Keyed->StateT SortSt Sem (Array Keyed)
abbrev UP(a b o:Array Keyed):Prop:=o.toList.Perm (a.toList++b.toList)
def FT(m:YZ):Prop:=∀(M:Model) (A:h_) (E:f_->g_->Prop) (s:g_) (κ:mJ) (a0:List Keyed),tZ M A E s κ a0->∀(a b:Array Keyed) (st:SortSt) (Q:Array Keyed->SortSt->Prop),kindOf st=κ->Of a0 a->Of a0 b->1<=a.size->1<=b.size->(∀r ay,Sm st ay->UP a b r->Q r ay)->wpS M A E s (m a b) Q st
def WM(p q r t:List Keyed):((p++q)++(r++t)).Perm ((p++r)++(q++t)):=by
 rw[pJ,pJ];exact AU _ (by rw[<-pJ,<-pJ];exact Qu _ wc)
def zO(a:Array Keyed)(i k:Nat):(a.extract i (i+k)).toList=(a.toList.drop i).take k:=by simp[List.extract_eq_drop_take]
def XO(a:Array Keyed)(i:Nat):(a.extract i).toList=a.toList.drop i:=by
 simp;exact jP (by simp)
section
variable{a b o:Array Keyed}{i j k:Nat}{x:Keyed}
abbrev MI(a b o:Array Keyed)(i j:Nat):Prop:=o.toList.Perm (a.toList.take i++b.toList.take j)
def MI.swap(h:MI a b o i j):MI b a o j i:=h.trans wc
def YK{o x y z:List Keyed}(h:o.Perm (x++y)):(o++z).Perm ((x++z)++y):=(Qu _ h).trans (by rw[pJ,pJ];exact AU _ wc)
def MI.add(h:MI a b o i j)(k:Nat):MI a b (o++a.extract i (i+k)) (i+k) j:=by
 unfold MI;rw[AW,zO,List.take_add];exact YK h
def MI.one(h:MI a b o i j)(hx:a[i]?=a_ x):MI a b (o.push x) (i+1) j:=by
 unfold MI;rw[IG,jv,show a.toList[i]?=a_ x by simpa using hx];exact YK h
def MI.fin(h:MI a b o i j):UP a b (o++a.extract i++b.extract j):=by
 unfold UP;rw[AW,AW,XO,XO,pJ];refine(Qu _ h).trans ((WM _ _ _ _).trans ?_);rw[nM,nM]
def MI.tL(h:MI a b o i j):UP a b (o++b.extract j++a.extract i):=h.swap.fin.trans wc
abbrev MR(a b o:Array Keyed)(i j:Nat):Prop:=o.toList.Perm (a.toList.drop i++b.toList.drop j)
def MR.swap(h:MR a b o i j):MR b a o j i:=h.trans wc
def MR.add(h:MR a b o i j)(hk:k<=i):MR a b (o++(a.extract k i).reverse) k j:=by
 unfold MR;have e:=nM (i-k) (a.toList.drop k);rw[Jd,aaW hk]at e;have e2:=zO a k (i-k);rw[aaW hk]at e2;rw[AW,aaR,e2];refine(AU _ (abh _)).trans (wc.trans ((AU _ h).trans ?_));rw[<-pJ,e]
def MR.one(h:MR a b o i j)(hi:1<=i)(hx:a[i-1]?=a_ x):MR a b (o.push x) (i-1) j:=by
 unfold MR;obtain⟨h1,h2⟩:=bK.mp (show a.toList[i-1]?=a_ x by simpa using hx);rw[IG,Qh h1,h2,Nat.sub_add_cancel hi];exact wc.trans (dN.cons x h)
def MR.fin(h:MR a b o i j):UP a b (a.extract 0 i++b.extract 0 j++o.reverse):=by
 unfold UP;have e1:=zO a 0 i;have e2:=zO b 0 j;rw[Nat.zero_add]at e1 e2;rw[AW,AW,aaR,e1,e2,QZ,QZ];refine(AU _ ((abh _).trans h)).trans ((WM _ _ _ _).trans ?_);rw[nM,nM]
def MR.tL(h:MR a b o i j):UP a b (b.extract 0 j++a.extract 0 i++o.reverse):=h.swap.fin.trans wc
def XR(o a:Array Keyed)(i:Nat):o++a.extract i (i+0)=o:=by
 simp;exact DN _ _
def XQ(o a:Array Keyed)(i:Nat):o++(a.extract i i).reverse=o:=by
 simp;exact DN _ _
end
structure G(κ:mJ)(a0:List Keyed)(pd:Array (Nat×Nat×Nat))(st:SortSt):Prop where
 k:kindOf st=κ
 f:rk st=b_
 a:(arrOf st).toList.Perm a0
 p:cZ st=pd
def G.size{κ:mJ}{st:SortSt}(g:G κ a0 pd st):(arrOf st).size=a0.length:=by rw[<-iu,g.a.length_eq]
def G.of{κ:mJ}{st:SortSt}(g:G κ a0 pd st):Of a0 (arrOf st):=λ_ h=>g.a.mem_iff.mp h
def RB:Prop:=∀(M:Model) (A:h_) (E:f_->g_->Prop) (s:g_) (κ:mJ) (a0:List Keyed),tZ M A E s κ a0->∀(i sa na pa nb pb:Nat) (pd:Array (Nat×Nat×Nat)) (st:SortSt) (Q:Bool->SortSt->Prop),G κ a0 pd st->pd[i]?=a_ (sa,na,pa)->pd[i+1]?=a_ (sa+na,nb,pb)->1<=na->1<=nb->sa+na+nb<=a0.length->
 (∀ay,G κ a0 ((pd.setIfInBounds i (sa,na+nb,pa)).eraseIdxIfInBounds (i+1)) ay->Q c_ ay)->wpS M A E s (mergeAt' i) Q st
def U0:∀(l:List Keyed) (n0:Nat) (arr:Array Keyed),sa+n0+l.length<=arr.size->∀i,(Bk (λ(a:Array Keyed) (x:Keyed×Nat)=>match x with | (p,j)=>a.setIfInBounds (sa+j) p) arr (l.zipIdx n0))[i]?=if sa+n0<=i/\i<sa+n0+l.length then l[i-(sa+n0)]? else arr[i]?
 | [],n0,arr,h,i=>by
  rw[if_neg (by simp)];rfl
 | x::l,n0,arr,h,i=>by
  have hl:(x::l).length=l.length+1:=rfl;rw[QO,QU,U0 l (n0+1) _ (by rw[Array.size_setIfInBounds];lia)]
  by_cases e:i=sa+n0
  .subst e;rw[if_neg li,if_pos li,uB,Array.getElem?_setIfInBounds_self_of_lt li];rfl
  .by_cases c:sa+(n0+1)<=i/\i<sa+(n0+1)+l.length
   .rw[if_pos c,if_pos li,show i-(sa+n0)=(i-(sa+(n0+1)))+1 by lia,Qp]
   .rw[if_neg c,if_neg li,Array.getElem?_setIfInBounds_ne li]
def aeU(h:sa+l.length<=arr.size):(Bk (λ(a:Array Keyed) (x:Keyed×Nat)=>match x with | (p,j)=>a.setIfInBounds (sa+j) p) arr l.zipIdx).toList=arr.toList.take sa++l++arr.toList.drop (sa+l.length):=by
 apply A4;intro i;have:=U0 l 0 arr (sa:=sa) om i;rw[pF,this];have hs:arr.toList.length=arr.size:=iu;have ht:(arr.toList.take sa).length=sa:=by rw[gm];lia
 by_cases c:i<sa
 .rw[if_neg li,pJ,kA li,aa5,if_pos c];simp
 .by_cases d:i<sa+l.length
  .rw[if_pos li,pJ,nK li,ht,kA li];rfl
  .rw[if_neg li,nK (by rw[bL];lia),bL,ht,Iy];rw[show sa+l.length+(i-(sa+l.length))=i by lia];simp
def YO{γ S α β δ ε:Type}{m n:Nat}{P:S->Prop}{R:Nat->α->β->δ->ε->Prop}{G:Nat->γ->S->Prop}{f:α->β->δ->ε->γ}(h:∀w a b d e s,w<n->P s->R w a b d e->G w (f a b d e) s):∀w c s,m<=w->w<n->(P s/\∃a b d e,c=f a b d e/\R w a b d e)->G w c s:=by
 rintro w c s _ l ⟨p,a,b,d,e,rfl,r⟩;exact h _ _ _ _ _ _ l p r
def YN{γ S α β δ ε κ:Type}{m n:Nat}{s0:S}{R:Nat->α->β->δ->ε->κ->Prop}{G:Nat->γ->S->Prop}{f:α->β->δ->ε->κ->γ}(h:∀w a b d e k,w<n->R w a b d e k->G w (f a b d e k) s0):∀w c s,m<=w->w<n->(s=s0/\∃a b d e k,c=f a b d e k/\R w a b d e k)->G w c s:=by
 rintro w c s _ l ⟨rfl,a,b,d,e,k,rfl,r⟩;exact h _ _ _ _ _ _ l r
def YM{γ S α β δ ε κ ι:Type}{m n:Nat}{P:S->Prop}{R:Nat->α->β->δ->ε->κ->ι->Prop}{G:Nat->γ->S->Prop}{f:α->β->δ->ε->κ->ι->γ}(h:∀w a b d e k i s,w<n->P s->R w a b d e k i->G w (f a b d e k i) s):∀w c s,m<=w->w<n->(P s/\∃a b d e k i,c=f a b d e k i/\R w a b d e k i)->G w c s:=by
 rintro w c s _ l ⟨p,a,b,d,e,k,i,rfl,r⟩;exact h _ _ _ _ _ _ _ _ l p r
def ir{γ S ρ ο:Type}{P:S->Prop}{T:ρ->Prop}{G:γ->S->Prop}{g:ρ->ο->γ}(h:∀s r o,P s->T r->G (g r o) s):∀c s,(P s/\∃r o,c=g r o/\T r)->G c s:=by
 rintro c s ⟨p,r,o,rfl,t⟩;exact h _ _ _ p t
def YS{γ S α β δ ε κ ρ ο:Type}{s0:S}{R:α->β->δ->ε->κ->Prop}{T:ρ->Prop}{G:γ->S->Prop}{f:α->β->δ->ε->κ->γ}{g:ρ->ο->γ}(h:∀a b d e k,R a b d e k->G (f a b d e k) s0)(h2:∀r o,T r->G (g r o) s0):∀c s,(s=s0/\((∃a b d e k,c=f a b d e k/\R a b d e k)\/∃r o,c=g r o/\T r))->G c s:=by
 rintro c s ⟨rfl,⟨a,b,d,e,k,rfl,r⟩ | ⟨r,o,rfl,t⟩⟩
 .exact h _ _ _ _ _ r
 .exact h2 _ _ t
def YR{γ S α β δ ε κ ι ρ ο:Type}{P:S->Prop}{R:α->β->δ->ε->κ->ι->Prop}{T:ρ->Prop}{G:γ->S->Prop}{f:α->β->δ->ε->κ->ι->γ}{g:ρ->ο->γ}(h:∀a b d e k i s,P s->R a b d e k i->G (f a b d e k i) s)(h2:∀s r o,P s->T r->G (g r o) s):∀c s,(P s/\((∃a b d e k i,c=f a b d e k i/\R a b d e k i)\/∃r o,c=g r o/\T r))->G c s:=by
 rintro c s ⟨p,⟨a,b,d,e,k,i,rfl,r⟩ | ⟨r,o,rfl,t⟩⟩
 .exact h _ _ _ _ _ _ _ p r
 .exact h2 _ _ _ p t
end TS
open L2
namespace TS
def YH(h:i+1<n)(k:¬i+1+1=n):i+1+1<n:=li
def YI(h:i<n)(k:¬i+1=n):i+1<n:=li
def acZ:∃(g:Y3) (ml mh:YZ),BC g/\(BC g->FT ml)/\(BC g->FT mh)/\(BC g->FT ml->FT mh->RB):=by
 apply Ru;apply Ru;apply Ru;refine⟨?a,?b,?c,?d⟩
 case d=>
  intro G ML MH M A E s κ a0 C i sa na pa nb pb pd st Q g h1 h2 hna CS hsz q;have hs:=g.size;have U:=g.of;have l0:(arrOf st).toList.length=a0.length:=by rw[iu,hs]
  obtain⟨x,hx,ux⟩:=U.at' (show sa+na<(arrOf st).size by lia);rw[<-g.p]at h1 h2 q;refine aV (wpS_get ?_);simp only[cZ]at h1 h2;rw[h1,h2];refine aV (af4 (aV (gQ hx (aV (Ag G C li g.k U ux li λk hk=>cF (λ_=>a9 (q _ ⟨g.k,g.f,g.a,xz⟩)) λe=>?_)))));have nk:¬na-k=0:=λy=>e (beq_iff_eq.mpr y);obtain⟨z,hz,uz⟩:=U.at' (show sa+k+(na-k)-1<(arrOf st).size by lia);refine aV (gQ hz (aV (Ag G C li g.k U uz li λk2 Pr=>cF (λ_=>a9 (q _ ⟨g.k,g.f,g.a,xz⟩)) λe'=>?_)));have nk2:¬k2=0:=λy=>e' (beq_iff_eq.mpr y);have ea:((arrOf st).extract (sa+k) (sa+na)).toList=((arrOf st).toList.drop (sa+k)).take (na-k):=by rw[show sa+na=(sa+k)+(na-k) by lia,zO]
  have eb:=zO (arrOf st) (sa+na) k2;have Ux:Of a0 ((arrOf st).extract (sa+k) (sa+na)):=λy hy=>U y (by rw[ea]at hy;exact Qy (Iq hy));have Uy:Of a0 ((arrOf st).extract (sa+na) (sa+na+k2)):=λy hy=>U y (by rw[eb]at hy;exact Qy (Iq hy));have zx:1<=((arrOf st).extract (sa+k) (sa+na)).size:=by rw[aa6];lia
  have zy:1<=((arrOf st).extract (sa+na) (sa+na+k2)).size:=by rw[aa6];lia
  have fin:∀(r:Array Keyed) (ay:SortSt),kindOf ay=kindOf st->arrOf ay=arrOf st->rk ay=rk st->cZ ay=((cZ st).setIfInBounds i (sa,na+nb,pa)).eraseIdxIfInBounds (i+1)->UP ((arrOf st).extract (sa+k) (sa+na)) ((arrOf st).extract (sa+na) (sa+na+k2)) r->
    ∀dq:SortSt,kindOf dq=kindOf ay->rk dq=rk ay->cZ dq=cZ ay->arrOf dq=Bk (λ(a:Array Keyed) (x:Keyed×Nat)=>match x with | (p,j)=>a.setIfInBounds (sa+k+j) p) (arrOf ay) r.toList.zipIdx->Q (rk dq).isNone dq:=by
   intro r ay k1 k2' k3 k4 pr dq s1 s2 s3 s4
   have pr:r.toList.Perm (((arrOf st).toList.drop (sa+k)).take (na-k+k2)):=by
    rw[List.take_add,Jd,show sa+k+(na-k)=sa+na by lia,<-ea,<-eb];exact pr
   have lr:r.toList.length=na-k+k2:=by
    rw[pr.length_eq,gm,sN];lia
   rw[s2,k3,g.f];refine q dq ⟨s1.trans (k1.trans g.k),s2.trans (k3.trans g.f),dN.trans ?_ g.a,s3.trans k4⟩;rw[s4,k2',aeU (by rw[lr];lia),lr];refine((AU _ pr).append_right _).trans ?_;generalize sa+k=u;rw[pJ,<-Jd,nM,nM]
  exact cF (λ_=>aV (ML M A E s κ a0 C _ _ _ _ g.k Ux Uy zx zy λr ay sm pr=>aV (wG (aV (wpS_get (a9 (fin r ay sm.k sm.a sm.f sm.p pr _ xz xz xz xz))))))) λ_=>aV (MH M A E s κ a0 C _ _ _ _ g.k Ux Uy zx zy λr ay sm pr=>aV (wG (aV (wpS_get (a9 (fin r ay sm.k sm.a sm.f sm.p pr _ xz xz xz xz))))))
 case a=>
  intro M A E s left key arr base n hint st Q hh hb q;refine aV (hb hint hh _ λb=>?_);cases b
  .refine aV (lp (λ_ _=>True) trivial (λl o _=>aV (lp (λ_ h=>h<=n) li (λl o p=>a9 (q o p)) λi l o R p r1 r2=>cF (λ_=>a9 r1) λho=>aV (hb _ (by have:¬l ≥ o:=ho;show l+(o-l)/2<n;lia) _ λc=>?_))) λi l o R _ r1 r2=>cF (λ_=>a9 r1) λho=>aV (hb _ (by show hint-o<n;lia) _ λc=>?_))
   .cases c
    .exact a9 (r2 _ _ (by have:¬l ≥ o:=ho;show l+(o-l)/2<=n;lia))
    .exact a9 (r2 _ _ p)
   .cases c
    .exact a9 (r2 _ _ trivial)
    .exact a9 r1
  .refine aV (lp (λ_ _=>True) trivial (λl o _=>aV (lp (λ_ h=>h<=n) li (λl o p=>a9 (q o p)) λi l o R p r1 r2=>cF (λ_=>a9 r1) λho=>aV (hb _ (by have:¬l ≥ o:=ho;show l+(o-l)/2<n;lia) _ λc=>?_))) λi l o R _ r1 r2=>cF (λ_=>a9 r1) λho=>aV (hb _ (by have:¬o ≥ n-hint:=ho;show hint+o<n;lia) _ λc=>?_))
   .cases c
    .exact a9 (r2 _ _ (by have:¬l ≥ o:=ho;show l+(o-l)/2<=n;lia))
    .exact a9 (r2 _ _ p)
   .cases c
    .exact a9 r1
    .exact a9 (r2 _ _ trivial)
 case b=>
  intro G M A E s κ a0 C a b st Q hκ Ua Ub ha hb q;have xP:Sm st st:=⟨xz,xz,xz,xz⟩;obtain⟨b0,hb0,_⟩:=Ub.at' hb
  have m0:MI a b #[b0] 0 1:=by
   have:=(MI.one (a:=b) (b:=a) (o:=#[]) (i:=0) (j:=0) (DZ _) hb0).swap;exact this
  refine aV (yU (aV (gQ hb0 (cF (λ_=>a9 (q _ _ xP m0.fin)) λe1=>cF (λ_=>a9 (q _ _ xP m0.tL)) λe2=>?_))));have ju:¬1=b.size:=λz=>e1 (beq_iff_eq.mpr z);have HR:¬0+1=a.size:=λz=>e2 (beq_iff_eq.mpr z)
  let I1:Nat->Option (Array Keyed)×Array Keyed×Nat×Nat×Nat->SortSt->Prop:=λi c ay=>Sm st ay/\∃out ia ib mg,c=(b_,out,ia,ib,mg)/\MI a b out ia ib/\ia+1<a.size/\ib<b.size/\i+1<=ia+ib
  let Q1:Option (Array Keyed)×Array Keyed×Nat×Nat×Nat->SortSt->Prop:=λc ay=>Sm st ay/\∃(r:Array Keyed) (o:_),c=(a_ r,o)/\UP a b r
  refine aV (wpS_get (aV (sZ (nY (I:=I1) (Q:=Q1) ?_ ?_ ⟨xP,_,_,_,_,xz,m0,li,li,li⟩) ?_)))
  .refine YO λw out ia ib mg jJ hw sm r=>?_;have m1:=r.1;have h1:=r.2.1;have h2:=r.2.2.1;have h3:=r.2.2.2
   let I2:Nat->Option (Array Keyed)×Array Keyed×Nat×Nat×Nat×Nat->SortSt->Prop:=λj c ay=>ay=jJ/\∃out ia ib ac bc,c=(b_,out,ia,ib,ac,bc)/\MI a b out ia ib/\ia+1<a.size/\ib<b.size/\w+1+j<=ia+ib
   let Q2:Option (Array Keyed)×Array Keyed×Nat×Nat×Nat×Nat->SortSt->Prop:=λc ay=>ay=jJ/\((∃out ia ib ac bc,c=(b_,out,ia,ib,ac,bc)/\MI a b out ia ib/\ia+1<a.size/\ib<b.size/\w+2<=ia+ib)\/∃(r:Array Keyed) (o:_),c=(a_ r,o)/\UP a b r)
   refine aV (sZ (nY (I:=I2) (Q:=Q2) ?_ ?_ ⟨xz,_,_,_,_,_,xz,m1,h1,h2,h3⟩) ?_)
   .refine YN λj out ia ib ac bc hj r=>?_;have m2:=r.1;have h1:=r.2.1;have h2:=r.2.2.1;have h3:=r.2.2.2;obtain⟨y,y1,Uy⟩:=Ub.at' h2;obtain⟨x,x1,Ux⟩:=Ua.at' (abf h1);refine aV (gQ y1 (aV (gQ x1 (aV (C _ _ _ _ (sm.k.trans hκ) Uy Ux λc=>?_)))));cases c
    .have m3:=m2.one x1;refine aV (gQ x1 (cF (λ_=>a9 ⟨xz,.inr ⟨_,_,xz,m3.tL⟩⟩) λe=>?_));have p1:=YH h1 λz=>e (beq_iff_eq.mpr z);exact cF (λ_=>a9 ⟨xz,.inl ⟨_,_,_,_,_,xz,m3,p1,h2,li⟩⟩) λ_=>a9 ⟨xz,_,_,_,_,_,xz,m3,p1,h2,li⟩
    .have m3:=(m2.swap.one y1).swap;refine aV (gQ y1 (cF (λ_=>a9 ⟨xz,.inr ⟨_,_,xz,m3.fin⟩⟩) λe=>?_));have p1:=YI h2 λz=>e (beq_iff_eq.mpr z);exact cF (λ_=>a9 ⟨xz,.inl ⟨_,_,_,_,_,xz,m3,h1,p1,li⟩⟩) λ_=>a9 ⟨xz,_,_,_,_,_,xz,m3,h1,p1,li⟩
   .rintro c dq ⟨rfl,out,ia,ib,ac,bc,rfl,m2,h1,h2,h3⟩;exact⟨xz,.inl ⟨_,_,_,_,_,xz,m2,h1,h2,li⟩⟩
   refine YS (λout ia ib ac bc r=>?_) λr o g=>a9 ⟨sm,_,_,xz,g⟩;have m2:=r.1;have h1:=r.2.1;have h2:=r.2.2.1;have h3:=r.2.2.2
   let I3:Nat->Option (Array Keyed)×Array Keyed×Nat×Nat×Nat×Nat×Nat->SortSt->Prop:=λj c ay=>Sm st ay/\∃out ia ib mg ac bc,c=(b_,out,ia,ib,mg,ac,bc)/\MI a b out ia ib/\ia+1<a.size/\ib<b.size/\w+2<=ia+ib
   let Q3:Option (Array Keyed)×Array Keyed×Nat×Nat×Nat×Nat×Nat->SortSt->Prop:=λc ay=>Sm st ay/\((∃out ia ib mg ac bc,c=(b_,out,ia,ib,mg,ac,bc)/\MI a b out ia ib/\ia+1<a.size/\ib<b.size/\w+2<=ia+ib)\/∃(r:Array Keyed) (o:_),c=(a_ r,o)/\UP a b r)
   refine aV (yU (aV (sZ (nY (I:=I3) (Q:=Q3) ?_ ?_ ⟨sm,_,_,_,_,_,_,xz,m2,h1,h2,h3⟩) ?_)))
   .refine YM λj out ia ib mg ac bc gf hj lj r=>?_;have m3:=r.1;have h1:=r.2.1;have h2:=r.2.2.1;have h3:=r.2.2.2;obtain⟨y,y1,Uy⟩:=Ub.at' h2;apply Sk
    case h1=>
     intro T;generalize (b_,out,ia,ib,mg,ac,bc).snd.snd.snd.snd.fst-1=v;exact T v
    case h2=>exact λT=>T _
    case t=>
     intro mg2;refine aV (Et lj ⟨xz,xz,xz,xz⟩ λt8 g9=>aV (gQ y1 (aV (Ag G C li (g9.k.trans hκ) Ua Uy li λk hk=>?_))));have m4:=m3.add k;apply Eu (P:=ia+k+1<a.size)
     case h1=>
      intro C0 T;refine cF (λ_=>a9 ⟨g9,.inr ⟨_,_,xz,m4.tL⟩⟩) λe=>cF (λ_=>a9 ⟨g9,.inr ⟨_,_,xz,m4.fin⟩⟩) λe'=>T ?_;have n1:¬ia+k+1=a.size:=λz=>e (beq_iff_eq.mpr z);have n2:¬ia+k=a.size:=λz=>e' (beq_iff_eq.mpr z);lia
     case h2=>
      intro C0;have kz:=aaz C0;have e:out++a.extract ia (ia+k)=out:=by rw[kz];exact XR _ _ _
      refine⟨by rw[kz];exact h1,?_⟩;rw[e,kz];rfl
     case t=>
      intro h5;have m6:=(m4.swap.one y1).swap;refine aV (gQ y1 (cF (λ_=>a9 ⟨g9,.inr ⟨_,_,xz,m6.fin⟩⟩) λe1=>?_));have n3:=YI h2 λz=>e1 (beq_iff_eq.mpr z);obtain⟨x,x1,Ux⟩:=Ua.at' (abf h5);refine aV (gQ x1 (aV (Ag G C li (g9.k.trans hκ) Ub Ux li λk2 Pr=>?_)));have m7:=(m6.swap.add k2).swap;apply Eu (P:=ib+1+k2<b.size)
      case h1=>
       intro hq T;refine cF (λ_=>a9 ⟨g9,.inr ⟨_,_,xz,m7.fin⟩⟩) λe3=>T ?_;have n4:¬ib+1+k2=b.size:=λz=>e3 (beq_iff_eq.mpr z);lia
      case h2=>
       intro hq;have kz:=aaz hq;have e:∀o:Array Keyed,o++b.extract (ib+1) (ib+1+k2)=o:=λo=>by rw[kz];exact XR _ _ _
       refine⟨li,?_⟩;rw[e,kz]
      case t=>
       intro h8;have m9:=m7.one x1;refine aV (gQ x1 (cF (λ_=>a9 ⟨g9,.inr ⟨_,_,xz,m9.tL⟩⟩) λe4=>?_));have h9:=YH h5 λz=>e4 (beq_iff_eq.mpr z);have w9:w+2<=ia+k+1+(ib+1+k2):=li;exact cF (λ_=>a9 ⟨g9,.inl ⟨_,_,_,_,_,_,xz,m9,h9,h8,w9⟩⟩) λ_=>a9 ⟨g9,_,_,_,_,_,_,xz,m9,h9,h8,w9⟩
   .rintro c gf ⟨lj,out,ia,ib,mg,ac,bc,rfl,m3,h1,h2,h3⟩;exact⟨lj,.inl ⟨_,_,_,_,_,_,xz,m3,h1,h2,h3⟩⟩
   exact YR (λout ia ib mg ac bc gf lj r=>aV (Et lj ⟨xz,xz,xz,xz⟩ λt8 g9=>a9 ⟨g9,_,_,_,_,xz,r⟩)) λgf r o lj g=>a9 ⟨lj,_,_,xz,g⟩
  .rintro c ay ⟨sm,out,ia,ib,mg,rfl,_,h1,h2,h3⟩;lia
  .exact ir λay r o sm g=>a9 (q _ _ sm g)
 case c=>
  intro G M A E s κ a0 C a b st Q hκ Ua Ub ha hb q;have xP:Sm st st:=⟨xz,xz,xz,xz⟩;obtain⟨az,hz,_⟩:=Ua.at' (show a.size-1<a.size by lia);have m0:MR a b #[az] (a.size-1) b.size:=MR.one (a:=a) (b:=b) (o:=#[]) (i:=a.size) (j:=b.size) (by unfold MR;rw[Qt (by simp),Qt (by simp)];exact DZ _) ha hz;refine aV (yU (aV (gQ hz (cF (λ_=>a9 (q _ _ xP m0.fin)) λe1=>cF (λ_=>a9 (q _ _ xP m0.tL)) λe2=>?_))));have HR:¬a.size-1=0:=λz=>e1 (beq_iff_eq.mpr z);have ju:¬b.size=1:=λz=>e2 (beq_iff_eq.mpr z)
  let I4:Nat->Option (Array Keyed)×Nat×Nat×Array Keyed×Nat->SortSt->Prop:=λi c ay=>Sm st ay/\∃na nb out mg,c=(b_,na,nb,out,mg)/\MR a b out na nb/\1<=na/\na<=a.size/\2<=nb/\nb<=b.size/\na+nb+i<a.size+b.size
  let Q4:Option (Array Keyed)×Nat×Nat×Array Keyed×Nat->SortSt->Prop:=λc ay=>Sm st ay/\∃(r:Array Keyed) (o:_),c=(a_ r,o)/\UP a b r
  refine aV (wpS_get (aV (sZ (nY (I:=I4) (Q:=Q4) ?_ ?_ ⟨xP,_,_,_,_,xz,m0,li,li,li,li,li⟩) ?_)))
  .refine YO λw na nb out mg jJ hw sm r=>?_;have m1:=r.1;have h1:=r.2.1;have h2:=r.2.2.1;have h3:=r.2.2.2.1;have h4:=r.2.2.2.2.1;have h5:=r.2.2.2.2.2
   let I5:Nat->Option (Array Keyed)×Nat×Nat×Array Keyed×Nat×Nat->SortSt->Prop:=λj c ay=>ay=jJ/\∃na nb out ac bc,c=(b_,na,nb,out,ac,bc)/\MR a b out na nb/\1<=na/\na<=a.size/\2<=nb/\nb<=b.size/\na+nb+w+j<a.size+b.size
   let Q5:Option (Array Keyed)×Nat×Nat×Array Keyed×Nat×Nat->SortSt->Prop:=λc ay=>ay=jJ/\((∃na nb out ac bc,c=(b_,na,nb,out,ac,bc)/\MR a b out na nb/\1<=na/\na<=a.size/\2<=nb/\nb<=b.size/\na+nb+(w+1)<a.size+b.size)\/∃(r:Array Keyed) (o:_),c=(a_ r,o)/\UP a b r)
   refine aV (sZ (nY (I:=I5) (Q:=Q5) ?_ ?_ ⟨xz,_,_,_,_,_,xz,m1,h1,h2,h3,h4,h5⟩) ?_)
   .refine YN λj na nb out ac bc hj r=>?_;have m2:=r.1;have h1:=r.2.1;have h2:=r.2.2.1;have h3:=r.2.2.2.1;have h4:=r.2.2.2.2.1;have h5:=r.2.2.2.2.2;obtain⟨y,y1,Uy⟩:=Ub.at' (show nb-1<b.size by lia);obtain⟨x,x1,Ux⟩:=Ua.at' (show na-1<a.size by lia);refine aV (gQ y1 (aV (gQ x1 (aV (C _ _ _ _ (sm.k.trans hκ) Uy Ux λc=>?_)))));cases c
    .have m3:=(m2.swap.one li y1).swap;refine aV (gQ y1 (cF (λ_=>a9 ⟨xz,.inr ⟨_,_,xz,m3.tL⟩⟩) λe=>?_));have n1:¬nb-1=1:=λz=>e (beq_iff_eq.mpr z);exact cF (λ_=>a9 ⟨xz,.inl ⟨_,_,_,_,_,xz,m3,h1,h2,li,li,li⟩⟩) λ_=>a9 ⟨xz,_,_,_,_,_,xz,m3,h1,h2,li,li,li⟩
    .have m3:=m2.one h1 x1;refine aV (gQ x1 (cF (λ_=>a9 ⟨xz,.inr ⟨_,_,xz,m3.fin⟩⟩) λe=>?_));have n1:¬na-1=0:=λz=>e (beq_iff_eq.mpr z);exact cF (λ_=>a9 ⟨xz,.inl ⟨_,_,_,_,_,xz,m3,li,li,h3,h4,li⟩⟩) λ_=>a9 ⟨xz,_,_,_,_,_,xz,m3,li,li,h3,h4,li⟩
   .rintro c dq ⟨rfl,na,nb,out,ac,bc,rfl,m2,h1,h2,h3,h4,h5⟩;exact⟨xz,.inl ⟨_,_,_,_,_,xz,m2,h1,h2,h3,h4,li⟩⟩
   refine YS (λna nb out ac bc r=>?_) λr o g=>a9 ⟨sm,_,_,xz,g⟩;have m2:=r.1;have h1:=r.2.1;have h2:=r.2.2.1;have h3:=r.2.2.2.1;have h4:=r.2.2.2.2.1;have h5:=r.2.2.2.2.2
   let I6:Nat->Option (Array Keyed)×Nat×Nat×Array Keyed×Nat×Nat×Nat->SortSt->Prop:=λj c ay=>Sm st ay/\∃na nb out mg ac bc,c=(b_,na,nb,out,mg,ac,bc)/\MR a b out na nb/\1<=na/\na<=a.size/\2<=nb/\nb<=b.size/\na+nb+(w+1)<a.size+b.size
   let Q6:Option (Array Keyed)×Nat×Nat×Array Keyed×Nat×Nat×Nat->SortSt->Prop:=λc ay=>Sm st ay/\((∃na nb out mg ac bc,c=(b_,na,nb,out,mg,ac,bc)/\MR a b out na nb/\1<=na/\na<=a.size/\2<=nb/\nb<=b.size/\na+nb+(w+1)<a.size+b.size)\/∃(r:Array Keyed) (o:_),c=(a_ r,o)/\UP a b r)
   refine aV (yU (aV (sZ (nY (I:=I6) (Q:=Q6) ?_ ?_ ⟨sm,_,_,_,_,_,_,xz,m2,h1,h2,h3,h4,h5⟩) ?_)))
   .refine YM λj na nb out mg ac bc gf hj lj r=>?_;have m3:=r.1;have h1:=r.2.1;have h2:=r.2.2.1;have h3:=r.2.2.2.1;have h4:=r.2.2.2.2.1;have h5:=r.2.2.2.2.2;obtain⟨y,y1,Uy⟩:=Ub.at' (show nb-1<b.size by lia);apply Sk
    case h1=>
     intro T;generalize (b_,na,nb,out,mg,ac,bc).snd.snd.snd.snd.fst-1=v;exact T v
    case h2=>exact λT=>T _
    case t=>
     intro mg2;refine aV (Et lj ⟨xz,xz,xz,xz⟩ λt8 g9=>aV (gQ y1 (aV (Ag G C li (g9.k.trans hκ) Ua Uy li λk hk=>?_))));have m4:=m3.add hk;apply Eu (P:=1<=k)
     case h1=>
      intro C0 T;exact cF (λ_=>a9 ⟨g9,.inr ⟨_,_,xz,m4.fin⟩⟩) λe=>T (aa4 λz=>e (beq_iff_eq.mpr z))
     case h2=>
      intro C0
      have kz:k=na:=by
       have:¬na-k > 0:=C0;lia
      have e:out++(a.extract k na).reverse=out:=by rw[kz];exact XQ _ _ _
      refine⟨li,?_⟩;rw[e,kz]
     case t=>
      intro h5a;have m6:=(m4.swap.one li y1).swap;refine aV (gQ y1 (cF (λ_=>a9 ⟨g9,.inr ⟨_,_,xz,m6.tL⟩⟩) λe1=>?_));have n3:¬nb-1=1:=λz=>e1 (beq_iff_eq.mpr z);obtain⟨x,x1,Ux⟩:=Ua.at' (show k-1<a.size by lia);refine aV (gQ x1 (aV (Ag G C li (g9.k.trans hκ) Ub Ux li λk2 Pr=>?_)));have m7:=(m6.swap.add Pr).swap;apply Eu (P:=2<=k2)
      case h1=>
       intro hq T;refine cF (λ_=>a9 ⟨g9,.inr ⟨_,_,xz,m7.tL⟩⟩) λe3=>cF (λ_=>a9 ⟨g9,.inr ⟨_,_,xz,m7.fin⟩⟩) λe3'=>T ?_;have n4:¬k2=1:=λz=>e3 (beq_iff_eq.mpr z);have n5:¬k2=0:=λz=>e3' (beq_iff_eq.mpr z);lia
      case h2=>
       intro hq
       have ZO:k2=nb-1:=by
        have:¬nb-1-k2 > 0:=hq;lia
       have e:∀o:Array Keyed,o++(b.extract k2 (nb-1)).reverse=o:=λo=>by rw[ZO];exact XQ _ _ _
       refine⟨li,?_⟩;rw[e,ZO]
      case t=>
       intro h8a;have m9:=m7.one h5a x1;refine aV (gQ x1 (cF (λ_=>a9 ⟨g9,.inr ⟨_,_,xz,m9.fin⟩⟩) λe4=>?_));have n9:¬k-1=0:=λz=>e4 (beq_iff_eq.mpr z);have q1:1<=k-1:=li;have q2:k-1<=a.size:=li;have h8b:k2<=b.size:=li;have q3:k-1+k2+(w+1)<a.size+b.size:=li;exact cF (λ_=>a9 ⟨g9,.inl ⟨_,_,_,_,_,_,xz,m9,q1,q2,h8a,h8b,q3⟩⟩) λ_=>a9 ⟨g9,_,_,_,_,_,_,xz,m9,q1,q2,h8a,h8b,q3⟩
   .rintro c gf ⟨lj,na,nb,out,mg,ac,bc,rfl,m3,h1⟩;exact⟨lj,.inl ⟨_,_,_,_,_,_,xz,m3,h1⟩⟩
   exact YR (λna nb out mg ac bc gf lj r=>aV (Et lj ⟨xz,xz,xz,xz⟩ λt8 g9=>a9 ⟨g9,_,_,_,_,xz,r⟩)) λgf r o lj g=>a9 ⟨lj,_,_,xz,g⟩
  .rintro c ay ⟨sm,na,nb,out,mg,rfl,_,h1,h2,h3,h4,h5⟩;lia
  .exact ir λay r o sm g=>a9 (q _ _ sm g)
def acY:RB:=by
 obtain⟨g,ml,mh,a,b,c,d⟩:=acZ;exact d a (b a) (c a)
end TS
open L2
namespace TS
variable{M:Model}{A:h_}{E:f_->g_->Prop}{s:g_}{κ:mJ}{a0:List Keyed}{pd:Array (Nat×Nat×Nat)}{st:SortSt}
def zD(C:tZ M A E s κ a0)(g:G κ a0 pd st)(hi:i<a0.length)(hj:j<a0.length)(q:∀b,Q (a_ b) st):wpS M A E s (ltAt' i j) Q st:=by
 obtain⟨x,hx,ux⟩:=g.of.at' (show i<(arrOf st).size by rw[g.size];exact hi);obtain⟨y,hy,uy⟩:=g.of.at' (show j<(arrOf st).size by rw[g.size];exact hj);rw[ltAt'_eq];exact aV (wpS_get (aV (gQ hx (aV (gQ hy (C st _ _ _ g.k ux uy q))))))
def G.rev(g:G κ a0 pd st){lo j:Nat}(q:∀ay,G κ a0 pd ay->Q ⟨⟩ ay):wpS M A E s (reverseSlice' lo j) Q st:=by
 rw[reverseSlice'_eq];exact wG (q _ ⟨g.k,g.f,(aam.mp (mirror_perm _ _ _ _)).trans g.a,g.p⟩)
def G.move(g:G κ a0 pd st)(q:∀ay,G κ a0 pd ay->Q ⟨⟩ ay):wpS M A E s (moveDown' i j) Q st:=by
 rw[moveDown'_eq];exact wG (q _ ⟨g.k,g.f,(aam.mp (bubble_perm _ _ _)).trans g.a,g.p⟩)
def aji(C:tZ M A E s κ a0){lo n ok:Nat}(g:G κ a0 pd st)(hn:lo+n<=a0.length)(q:∀ay,G κ a0 pd ay->Q c_ ay):wpS M A E s (binarySort' lo n ok) Q st:=by
 rw[binarySort'_eq];refine aV (sZ (nY (I:=λ_ c ay=>c=(b_,())/\G κ a0 pd ay) (Q:=λc ay=>c=(b_,())/\G κ a0 pd ay) ?_ (λ_ _ h=>h) ⟨xz,g⟩) ?_)
 .rintro k c jJ _ hk ⟨rfl,g1⟩;refine aV (lp (λ_ r=>r<=k) (aA k) (λl r p=>aV (g1.move λdq g2=>a9 ⟨xz,g2⟩)) λi l r R p r1 r2=>cF (λ_=>a9 r1) λho=>aV (zD C g1 li (by have:¬l ≥ r:=ho;show lo+(l+r)/2<_;lia) λb=>?_));cases b
  .exact a9 (r2 _ _ p)
  .exact a9 (r2 _ _ (by have:¬l ≥ r:=ho;show (l+r)/2<=k;lia))
 .rintro c jJ ⟨rfl,g1⟩;exact a9 (q _ g1)
def YL{γ:Type}{n0 nrem:Nat}{F:Nat->Option γ×Nat->StateT SortSt Sem (ForInStep (Option γ×Nat))}{R:Option γ×Nat->SortSt->Prop}(g:G κ a0 pd st)(h:n0<=nrem)(q:∀n ay,G κ a0 pd ay->n0<=n->n<=nrem->R (b_,n) ay)
  (hF:∀i n st (R:ForInStep (Option γ×Nat)->SortSt->Prop),G κ a0 pd st->n<nrem->R (.done (b_,n)) st->R (.yield (b_,n+1)) st->wpS M A E s (F i (b_,n)) R st):wpS M A E s (forIn [n0:nrem] (b_,n0) F) R st:=by
 refine nY (I:=λi c ay=>G κ a0 pd ay/\∃n,c=(b_,n)/\n0<=n/\n<=i) ?_ ?_ ⟨g,n0,xz,aA _,aA _⟩
 .rintro i c ay _ hi ⟨g',n,rfl,h1,h2⟩;exact hF i n ay _ g' li (q n ay g' h1 li) ⟨g',n+1,xz,li,li⟩
 .rintro c ay ⟨g',n,rfl,h1,h2⟩;exact q n ay g' h1 li
def lpD{γ:Type}{n0 nrem e0:Nat}{F:Nat->Option γ×Nat×Nat->StateT SortSt Sem (ForInStep (Option γ×Nat×Nat))}{R:Option γ×Nat×Nat->SortSt->Prop}(g:G κ a0 pd st)(h:n0<=nrem)(q:∀n e ay,G κ a0 pd ay->n0<=n->n<=nrem->R (b_,n,e) ay)
  (hF:∀i n e st (R:ForInStep (Option γ×Nat×Nat)->SortSt->Prop),G κ a0 pd st->n<nrem->R (.done (b_,n,e)) st->(∀e ay,G κ a0 pd ay->R (.yield (b_,n+1,e)) ay)->wpS M A E s (F i (b_,n,e)) R st):wpS M A E s (forIn [n0:nrem] (b_,n0,e0) F) R st:=by
 refine nY (I:=λi c ay=>G κ a0 pd ay/\∃n e,c=(b_,n,e)/\n0<=n/\n<=i) ?_ ?_ ⟨g,n0,e0,xz,aA _,aA _⟩
 .rintro i c ay _ hi ⟨g',n,e,rfl,h1,h2⟩;exact hF i n e ay _ g' li (q n e ay g' h1 li) λe dq g2=>⟨g2,n+1,e,xz,li,li⟩
 .rintro c ay ⟨g',n,e,rfl,h1,h2⟩;exact q n e ay g' h1 li
def VB{β:Type}{Q:β->SortSt->Prop}{c:Prop}[Decidable c]{X Y J:StateT SortSt Sem β}(h1:c->(∀ay,G κ a0 pd ay->wpS M A E s J Q ay)->wpS M A E s X Q st)(h2:Y=J)(g:G κ a0 pd st)(t:∀ay,G κ a0 pd ay->wpS M A E s J Q ay):wpS M A E s (if c then X else Y) Q st:=cF (λh=>h1 h t) λh=>by rw[h2];exact t _ g
def aif(C:tZ M A E s κ a0){lo nrem:Nat}{Q:Option Nat->SortSt->Prop}(g:G κ a0 pd st)(hn:lo+nrem<=a0.length)(h1:1<=nrem)(q:∀ay k,G κ a0 pd ay->1<=k->k<=nrem->Q (a_ k) ay):wpS M A E s (countRun' lo nrem) Q st:=by
 rw[countRun'_eq];refine aV (YL g h1 (λn jJ g1 b1 b2=>?_) λi n jJ R g1 hn r1 r2=>aV (zD C g1 li li λb=>?_))
 .refine cF (λ_=>a9 (q _ n g1 b1 b2)) λe=>?_
  have bz:n+1<=nrem:=by
   have:¬n=nrem:=λz=>e (beq_iff_eq.mpr z);lia
  refine VB (λ_ T=>?_) xz g1 λdq g2=>?_
  .refine aV (zD C g1 li (by show lo+n-1<_;lia) λb=>?_);cases b
   .exact aV (g1.rev λdq g2=>T dq g2)
   .exact a9 (q _ n g1 b1 b2)
  .refine aV (yU (aV (lpD g2 bz (λn e gf g3 c1 c2=>?_) λi n e gf R g3 hn r1 r2=>aV (zD C g3 li li λb=>?_))))
   .refine VB (λ_ T=>aV (g3.rev λt8 g4=>T t8 g4)) xz g3 λt8 g4=>?_;refine aV (g4.rev λgZ g5=>aV (YL g5 c2 (λk Y7 g6 k1 k2=>a9 (q _ k g6 li k2)) λi n Y7 R g6 hn r1 r2=>aV (zD C g6 li li λb=>?_)));cases b
    .exact a9 r2
    .exact a9 r1
   .cases b
    .refine aV (zD C g3 li li λb=>?_);cases b
     .exact a9 (r2 _ _ g3)
     .exact a9 r1
    .exact cF (λ_=>cF (λ_=>aV (g3.rev λt8 g4=>a9 (r2 _ _ g4))) λ_=>a9 (r2 _ _ g3)) λz=>absurd xz z
 .cases b
  .exact a9 r2
  .exact a9 r1
end TS
open L2
namespace TS
variable{M:Model}{A:h_}{E:f_->g_->Prop}{s:g_}{κ:mJ}{a0:List Keyed}{pd:Array (Nat×Nat×Nat)}{st:SortSt}
def Runs:List (Nat×Nat×Nat)->Nat->Nat->Prop
 | [],i,j=>i=j
 | (b,n,_)::l,i,j=>b=i/\1<=n/\Runs l (i+n) j
def Runs.le:∀{l:List (Nat×Nat×Nat)} {i j:Nat},Runs l i j->i<=j
 | [],i,j,h=>pM h
 | (b,n,_)::l,i,j,⟨_,_,h⟩=>cu (Dy _ _) h.le
def Runs.app:∀{l l':List (Nat×Nat×Nat)} {i j:Nat},Runs (l++l') i j↔∃k,Runs l i k/\Runs l' k j
 | [],l',i,j=>⟨λh=>⟨i,xz,h⟩,λ⟨k,e,h⟩=>(show i=k from e) ▸ h⟩
 | (b,n,p)::l,l',i,j=>⟨λ⟨h1,h2,h3⟩=>aq (Runs.app.mp h3) λk h5 h6=>⟨k,⟨h1,h2,h5⟩,h6⟩,λ⟨k,⟨h1,h2,h5⟩,h6⟩=>⟨h1,h2,Runs.app.mpr ⟨k,h5,h6⟩⟩⟩
def Runs.pw:∀{l l':List (Nat×Nat×Nat)} {i j:Nat},l.map (λx=>(x.1,x.2.1))=l'.map (λx=>(x.1,x.2.1))->Runs l i j->Runs l' i j
 | [],[],i,j,_,h=>h
 | [],_::_,_,_,e,_=>by cases e
 | _::_,[],_,_,e,_=>by cases e
 | (b,n,p)::l,(b',n',p')::l',i,j,e,⟨h1,h2,h4⟩=>by
  have e1:=(ab5 e).1;have eb:b=b':=congrArg Prod.fst e1;have en:n=n':=congrArg Prod.snd e1;subst eb en;exact⟨h1,h2,h4.pw (ab5 e).2⟩
structure SS(κ:mJ)(a0:List Keyed)(lo:Nat)(st:SortSt):Prop where
 g:G κ a0 (cZ st) st
 r:Runs (cZ st).toList 0 lo
 h:lo<=a0.length
def SS.merge(C:tZ M A E s κ a0){lo i:Nat}(S:SS κ a0 lo st)(hi:i+1<(cZ st).size)(q:∀ay,SS κ a0 lo ay->Q c_ ay):wpS M A E s (mergeAt' i) Q st:=by
 have hl:(cZ st).toList.length=(cZ st).size:=iu
 have split:(cZ st).toList=(cZ st).toList.take i++(cZ st).toList[i]::(cZ st).toList[i+1]::(cZ st).toList.drop (i+2):=by
  rw[<-Qh,<-Qh,nM]
 have e1:(cZ st).toList[i]?=a_ ((cZ st).toList[i]):=aM _;have e2:(cZ st).toList[i+1]?=a_ ((cZ st).toList[i+1]):=aM _;have r:=S.r;rw[split]at r;generalize (cZ st).toList[i]=P1 at e1 r split;generalize (cZ st).toList[i+1]=P2 at e2 r split;obtain⟨sa,na,pa⟩:=P1;obtain⟨sb,nb,pb⟩:=P2;obtain⟨t,r1,h1,h2,h4,h5,r2⟩:=Runs.app.mp r;subst h1;subst h4;have hle:=r2.le;have gh:=S.h;refine acY M A E s κ a0 C i sa na pa nb pb _ st Q S.g (by simpa using e1) (by simpa using e2) h2 h5 li λay g'=>q ay ⟨⟨g'.k,g'.f,g'.a,xz⟩,?_,gh⟩
 have ep:(cZ ay).toList=(cZ st).toList.take i++(sa,na+nb,pa)::(cZ st).toList.drop (i+2):=by
  rw[g'.p];have lt:((cZ st).toList.take i).length=i:=by rw[gm];lia
  have:(((cZ st).setIfInBounds i (sa,na+nb,pa)).eraseIdxIfInBounds (i+1)).toList=((cZ st).toList.set i (sa,na+nb,pa)).eraseIdx (i+1):=by
   simp
  rw[this,split];generalize (cZ st).toList.take i=l1 at lt;generalize (cZ st).toList.drop (i+2)=l2;subst lt;simp;rw[List.eraseIdx_append_of_length_le li];simp
 rw[ep];refine Runs.app.mpr ⟨sa,r1,xz,li,?_⟩;rw[<-Nat.add_assoc];exact r2
def ahh(p:Array (Nat×Nat×Nat))(i pw:Nat):((p.modify i λx=>(x.1,x.2.1,pw)).toList.map λx=>(x.1,x.2.1))=p.toList.map λx=>(x.1,x.2.1):=by
 apply A4;intro j;rw[cO,cO,pF,pF,Array.getElem?_modify]
 by_cases e:i=j
 .rw[if_pos e];cases p[j]? with
  | none=>rfl
  | some x=>rfl
 .rw[if_neg e]
def aiT{c:Prop}[Decidable c](h1:a+1<n)(h2:b+1<n):(if c then a else b)+1<n:=by
 by_cases h:c
 .rw[if_pos h];exact h1
 .rw[if_neg h];exact h2
def SS.push{lo n:Nat}(S:SS κ a0 lo st)(h1:1<=n)(h2:lo+n<=a0.length):SS κ a0 (lo+n) (setPending st ((cZ st).push (lo,n,0))):=
 ⟨⟨S.g.k,S.g.f,S.g.a,xz⟩,by show Runs ((cZ st).push _).toList 0 _;rw[IG];exact Runs.app.mpr ⟨lo,S.r,xz,h1,xz⟩,h2⟩
def ahR{β:Type}{Q:β->SortSt->Prop}(P:Nat->SortSt->Prop){c:Prop}[Decidable c]{X Y:StateT SortSt Sem β}{J:Nat->StateT SortSt Sem β}(h1:c->(∀v ay,P v ay->wpS M A E s (J v) Q ay)->wpS M A E s X Q st)(h2:(∀v ay,P v ay->wpS M A E s (J v) Q ay)->wpS M A E s Y Q st)(t:∀v ay,P v ay->wpS M A E s (J v) Q ay):wpS M A E s (if c then X else Y) Q st:=cF (λh=>h1 h t) λh=>h2 t
def agj(C:tZ M A E s κ a0){Q:Unit->SortSt->Prop}(hκ:kindOf st=κ)(hf:rk st=b_)(hp:cZ st=#[])(ha:(arrOf st).toList=a0)(q:∀ay,rk ay=b_->(arrOf ay).toList.Perm a0->Q () ay):wpS M A E s sortRuns' Q st:=by
 have sz:(arrOf st).size=a0.length:=by rw[<-iu,ha]
 rw[sortRuns'_eq];refine aV (wpS_get (aV (sZ (nY (I:=λ_ c ay=>∃lo,c=(b_,lo)/\SS κ a0 lo ay) (Q:=λc ay=>∃lo,c=(b_,lo)/\SS κ a0 lo ay) ?_ (λ_ _ h=>h) ⟨0,xz,⟨hκ,hf,by rw[ha],xz⟩,by rw[hp];rfl,a8 _⟩) ?_)))
 .rintro i c jJ _ hi ⟨lo,rfl,S⟩;refine cF (λe=>a9 ⟨lo,xz,S⟩) λe=>?_
  have bz:lo<a0.length:=by
   have:¬lo ≥ (arrOf st).size:=e;lia
  refine aV (aif C (lo:=lo) (nrem:=(arrOf st).size-lo) S.g li li λdq k g2 k1 k2=>?_);have S2:SS κ a0 lo dq:=⟨⟨g2.k,g2.f,g2.a,xz⟩,by rw[g2.p];exact S.r,S.h⟩;apply ahR (λn ay=>SS κ a0 lo ay/\1<=n/\lo+n<=a0.length)
  case h1=>
   intro e2 T;have e3:k<minRun' (arrOf st).size (arrOf st).size 0:=e2;refine aV (yU (aV (aji C S2.g li λgf g3=>cF (λz=>absurd z qc) λ_=>?_)));have f1:1<=min ((arrOf st).size-lo) (minRun' (arrOf st).size (arrOf st).size 0):=li;have f2:lo+min ((arrOf st).size-lo) (minRun' (arrOf st).size (arrOf st).size 0)<=a0.length:=li;generalize min ((arrOf st).size-lo) (minRun' (arrOf st).size (arrOf st).size 0)=N3 at f1 f2 ⊢;exact T N3 gf ⟨⟨⟨g3.k,g3.f,g3.a,xz⟩,by rw[g3.p];exact S2.r,S.h⟩,f1,f2⟩
  case h2=>exact λT=>T k dq ⟨S2,k1,li⟩
  case t=>
   rintro n gf ⟨S3,n1,n2⟩;refine aV (wpS_get ?_);cases hb:(cZ gf).back? with
   | none=>exact aV (wG (a9 ⟨lo+n,xz,S3.push n1 n2⟩))
   | some P=>
    obtain⟨s1,m1,pw1⟩:=P;refine aV (sZ (nY (I:=λ_ c ay=>c=(b_,())/\SS κ a0 lo ay) (Q:=λc ay=>c=(b_,())/\SS κ a0 lo ay) ?_ (λ_ _ h=>h) ⟨xz,S3⟩) ?_)
    .rintro j c gZ _ _ ⟨rfl,S5⟩;refine aV (wpS_get ?_);dsimp only
     by_cases jN:(cZ gZ).size > 1
     .obtain⟨⟨x1,x2,x3⟩,hX⟩:∃X,(cZ gZ)[(cZ gZ).size-2]?=a_ X:=⟨(cZ gZ)[(cZ gZ).size-2],by simp⟩;rw[if_pos jN,hX];exact cF (λ_=>a9 ⟨xz,S5⟩) λ_=>aV (S5.merge C li λY7 S6=>cF (λz=>absurd z qc) λ_=>a9 ⟨xz,S6⟩)
     .rw[if_neg jN];exact a9 ⟨xz,S5⟩
    .rintro c gZ ⟨rfl,S5⟩;refine aV (wG (aV (wG (a9 ⟨lo+n,xz,SS.push ⟨⟨S5.g.k,S5.g.f,S5.g.a,xz⟩,S5.r.pw ?_,S5.h⟩ n1 n2⟩))));exact(ahh _ _ _).symm
 .rintro c jJ ⟨lo,rfl,S⟩;refine aV (sZ (nY (I:=λ_ c ay=>c=(b_,())/\SS κ a0 lo ay) (Q:=λc ay=>c=(b_,())/\SS κ a0 lo ay) ?_ (λ_ _ h=>h) ⟨xz,S⟩) ?_)
  .rintro i c dq _ hi ⟨rfl,S2⟩;refine aV (wpS_get (cF (λe=>a9 ⟨xz,S2⟩) λe=>?_));have e':=e;exact aV (S2.merge C (aiT li li) λgf S3=>cF (λz=>absurd z qc) λ_=>a9 ⟨xz,S3⟩)
  .rintro c dq ⟨rfl,S2⟩;exact a9 (q dq S2.g.f S2.g.a)
end TS
open PySem.W L2
namespace TS
section
variable{P:k_}{w:j_}{A:h_}{E:f_->g_->Prop}{s:g_}{κ:mJ}{vs:List f_}
def Ask(P:k_)(w:j_)(A:h_)(κ:mJ)(vs:List f_)(s:g_):Prop:=∀x y (C:Bool->g_->Prop),x∈vs->y∈vs->(∀b,C b s)->wpAny (model P w) A (keyLt' κ x y) C (λ_ _=>False) s
def aje(ask:Ask P w A κ vs s):tZ (model P w) A E s κ (vs.zip vs):=λst x y Q hκ hx hy q=>by
 have a:=ask x.1 y.1 (λ_ s'=>s'=s) (sP hx).1 (sP hy).1 λ_=>rfl;rw[lt'_eq];refine aV (wpS_get (aV (wpS_lift (A9 ?_))));rw[hκ];exact ie a (λb s' h=>⟨h,a9 (q b)⟩) λ_ _ z=>z.elim
def aeD(ask:Ask P w A κ vs s)(q:∀(st:SortSt),((arrOf st).map (·.2)).toList.Perm vs->rk st=b_->Q ((),st) s) :
  wpAny (model P w) A (sortRuns'.run (JE κ (vs.toArray.zip vs.toArray) #[] 7 b_)) Q E s:=by
 have ez:(arrOf (JE κ (vs.toArray.zip vs.toArray) #[] 7 b_)).toList=vs.zip vs:=by
  show (vs.toArray.zip vs.toArray).toList=vs.zip vs;rw[abz]
 have key:=agj (E:=E) (aje (E:=E) ask) (st:=JE κ (vs.toArray.zip vs.toArray) #[] 7 b_) (Q:=λ_ st=>Q ((),st) s) xz xz xz ez (λst k2 pm=>q st (by
  rw[abA];have:=pm.map (·.2);rwa[abu (aA _)]at this) k2)
 exact ie key (λa s' h=>by rw[h.1];exact h.2) λ_ _ z=>z
def adq(ho:s.heap.get? a=a_ (seqObj "list" vs.toArray n))(h1:2<=vs.length)(line:vs.length<=bw)
  (hk:∀s':g_,(∀b o,b≠a->s.heap.get? b=a_ o->s'.heap.get? b=a_ o)->(∀Q:mJ->g_->Prop,Q κ s'->wpAny (model P w) A (keyKind' vs.toArray) Q (λ_ _=>False) s')/\Ask P w A κ vs s')
  (k:∀h' e (out:List f_),out.Perm vs->(∀b o,b≠a->s.heap.get? b=a_ o->h'.get? b=a_ o)->h'.get? a=a_ (seqObj "list" out.toArray e)->R (.done (.ret .none)) { s with heap:=h' }) :
  wpAny (model P w) A (Builtin.«list.sort» ⟨[.ref a],[]⟩) R E s:=by
 have la:=bH ho;have hn:¬vs.toArray.size<2:=by rw[cN];lia
 have zs:vs.toArray.size<=bw:=by rw[cN];exact line
 obtain⟨e1,q1⟩:∃e1,(s.heap.update a (iw λ_=>(#[]:Array f_))).get? a=a_ (seqObj "list" #[] e1):=⟨_,DJ ho λ_=>#[]⟩;rw[list_sort_plain];refine ae (listItems_at ho xz (ae (Jh ho xz (ae (Jt q1 xz (ae (IY (ae (Jg (jx ?_) (a8 _))) (by simpa using zs))))) zs (a8 _))));have q3:=bh (seqObj "list" #[] 0) (bh (seqObj "tuple" vs.toArray 0) q1);have kp:∀b o,b≠a->s.heap.get? b=a_ o->(((s.heap.update a (iw λ_=>(#[]:Array f_))).push (seqObj "tuple" vs.toArray 0)).push (seqObj "list" #[] 0)).get? b=a_ o:=λb o hb e=>bh _ (bh _ (by rw[Dv _ _ _ _ hb];exact e));dsimp only;rw[if_neg hn,if_neg hn];have hq:=hk { s with heap:=((s.heap.update a (iw λ_=>(#[]:Array f_))).push (seqObj "tuple" vs.toArray 0)).push (seqObj "list" #[] 0) } kp;refine ae (ie (hq.1 _ ?_) (λ_ _ z=>z) λ_ _ z=>z.elim);refine ae (aeD hq.2 λst pm ef=>?_);dsimp only;rw[show (arrOf st).map (·.2)=((arrOf st).map (·.2)).toList.toArray from Array.toArray_toList.symm];generalize ((arrOf st).map (·.2)).toList=out at pm ⊢;refine ae (Jt q3 xz (ae (Jh q3 xz ?_ (a8 _) (cu (by rw[cN,pm.length_eq];exact line) (jy _)))));rw[ef];rw[if_neg (by simp)];refine aF (k _ _ _ pm (λb o hb e=>?_) (DJ q3 λ_=>out.toArray));rw[Dv _ _ _ _ hb];exact kp b o hb e
end
end TS
namespace L2
open PySem.W
section
variable{P:k_}{w:j_}{A:h_}{E:f_->g_->Prop}{s:g_}{Q:Bool->g_->Prop}
def akz{t u:Tok}(q:Q (decide (a<b)) s):wpAny (model P w) A (oneLt' d_ (eO a t) (eO b u)) Q E s:=by
 rw[oneLt'_eq];dsimp only;rw[if_neg qc];refine ae (PyProof.Rows.lt_int (?_:wpAny _ _ _ _ _ _):wpAny (model P w) A (iH .Lt (.int a t) (.int b u)) _ E s);exact nQ q
def aky{t u:Tok}(q:Q (decide (a.cps.toList<b.cps.toList)) s):wpAny (model P w) A (oneLt' d_ (uK a t) (uK b u)) Q E s:=by
 rw[oneLt'_eq];dsimp only;rw[if_neg qc];refine ae (PyProof.Rows.lt_str (?_:wpAny _ _ _ _ _ _):wpAny (model P w) A (iH .Lt (.str a t) (.str b u)) _ E s);exact nQ q
def amD(q:∀b,Q b s):KatLex P w A c_ f Q ([eO a t1,eO b t2,uK x t3].zip [eO c u1,eO d u2,uK y u3]) 0 s:=by
 refine kat_cons (QL ?_);cases a == c
 .exact kat_no (oneLt_int (q _))
 .refine kat_yes (kat_cons (QL ?_));cases b == d
  .exact kat_no (akz (q _))
  .refine kat_yes (kat_cons (wpAny_eqBool_str ?_));cases decide (x=y)
   .exact kat_no (aky (q _))
   .exact kat_yes (kat_nil (q _))
end
def XB{α β:Type}{F:α->β->Prop}{us zs:List α}(h:zs.Perm us):∀{L:List β},Paired F us L->∃B,B.Perm L/\Paired F zs B:=by
 induction h with
 | nil=>exact λ{L} r=>⟨L,DZ _,r⟩
 | cons x p ih=>
  intro L r;cases r with
  | cons a r=>exact aq (ih r) λzs h1 h2=>⟨_::zs,h1.cons _,.cons a h2⟩
 | swap x y l=>
  intro L r;cases r with
  | cons a r=>
   cases r with
   | cons b r=>exact⟨_,dN.swap _ _ _,.cons b (.cons a r)⟩
 | trans p q Pa O9=>exact λ{L} r=>aq (O9 r) λzs h1 h2=>aq (Pa h2) λys h3 h4=>⟨ys,h3.trans h1,h4⟩
def Nj{α β:Type}{F:α->β->Prop}:∀{a:List α} {b:List β},Paired F a b->Paired (λy x=>F x y) b a
 | _,_,.nil=>.nil
 | _,_,.cons h r=>.cons h (Nj r)
abbrev T3:=Int×Int×Str
def OH(h:i_)(v:f_):Prop:=∃a o ws n i j x t u y,v=.ref a/\h.get? a=a_ o/\o.cls=.type "tuple"/\o.data=.seq ws n/\ws.toList=[eO i t,eO j u,uK x y]
def XG:∀{l:List f_},(∀v∈l,OH h v)->∃fs:List f_,fs.length=l.length/\KatTups h l fs/\∀v∈fs,∃i t,v=eO i t
 | [],_=>⟨[],xz,.nil,λv hv=>nomatch hv⟩
 | v::l,g=>by
  obtain⟨fs,h1,h2,h3⟩:=XG λu hu=>g u (eL _ hu);obtain⟨a,o,ws,n,i,j,x,t,u,y,rfl,e2,e3,e4,e6⟩:=g v du;refine⟨_::fs,by rw[fR,fR,h1],.cons e2 e3 e4 (f:=eO i t) (by rw[<-pF,e6];rfl) h2,λv hv=>?_⟩;rcases bX.mp hv with z | z
  .exact⟨_,_,z⟩
  .exact h3 v z
section
variable{X:Cx}
def RF (anN:wpAny (model X.prog X.w) X.A.in1 (collect x) (λits s1=>∃ys κ,Inv X p_ σ H s1/\Vals ys its/\its.length<=bw/\ (2<=its.length->∀(A:h_) (s':g_),(∀b o,s1.heap.get? b=a_ o->s'.heap.get? b=a_ o)->(∀Q:mJ->g_->Prop,Q κ s'->wpAny (model X.prog X.w) A (keyKind' its.toArray) Q (λ_ _=>False) s')/\TS.Ask X.prog X.w A κ its s')/\
   ∀l zs,H l=b_->zs.Perm ys->Q (.ref l) (upd H l (.lst zs))) X.xe s):wpAny (model X.prog X.w) X.A (call (.builtin "sorted") [x]) (EP X p_ σ Q) X.xe s:=by
 refine Calls.call_function_entry kind_sorted plain_sorted entry_sorted (args_sorted1 _) ?_;unfold Builtin.«sorted»;refine ae (aF (a:=()) (ae (ie anN (λits s1 hq=>?_) λ_ _ z=>z)));obtain⟨ys,κ,I,Ap,hz,ask,q⟩:=hq;have hlen:=Ap.length;obtain⟨iQ,g,d,tk,os⟩:=s1;dsimp only at I ask ⊢;refine ae (Jg ?_ hz);have q0:(iQ.push (seqObj "list" its.toArray 0)).get? iQ.zH=a_ (seqObj "list" its.toArray 0):=dh _ rfl;obtain⟨m,F0⟩:=I.fr;refine ae (jx (sM slot_list_sort ⟨_,q0,xz⟩ entry_list_sort ?_ (args_list_sort _)));have kp:∀b o,iQ.get? b=a_ o->(iQ.push (seqObj "list" its.toArray 0)).get? b=a_ o:=λb o e=>bh _ e;have ne:∀b o,iQ.get? b=a_ o->b≠iQ.zH:=λb o z=>cC (bH z)
 have fin:∀(h2:i_) (c:Nat) (out:List f_),out.Perm its->(∀b o,b≠iQ.zH->(iQ.push (seqObj "list" its.toArray 0)).get? b=a_ o->h2.get? b=a_ o)->h2.get? iQ.zH=a_ (seqObj "list" out.toArray c)->EP X p_ σ Q (.ref iQ.zH) ⟨h2,g,d,tk,os⟩:=λh2 c out pm k2 e2=>by
  obtain⟨zs,h1,v2⟩:=XB pm (Nj Ap);have hn:H iQ.zH=none:=I.aH.fresh (aA _);have f:=I.i8 (b:=iQ.zH) (aA _) hn
  have n2:h2.Ns X.env.locals m:=by
   obtain⟨o,es,ep,z,rr⟩:=F0.ns;exact⟨o,es,ep,k2 _ _ (ne _ _ z) (kp _ _ z),rr⟩
  have J:=Inv.regrown (s:=⟨iQ,g,d,tk,os⟩) (t':=tk) (d':=d) I F0.ns n2 λb o _ z=>k2 b o (ne b o z) (kp b o z);exact⟨.ref iQ.zH,_,Inv.adopt (o:=.lst zs) J hn I.sz f.2.1 f.2.2.2.2.1 f.2.2.2.2.2 ⟨by rw[h1.length_eq];lia,out,c,Nj v2,e2⟩,xz,q _ _ hn h1⟩
 by_cases h2:its.length<2
 .exact acG (s:=⟨iQ.push (seqObj "list" its.toArray 0),g,d,tk,os⟩) q0 h2 λh' e k' e'=>⟨_,xz,aF ⟨_,xz,fin h' e its (DZ _) k' e'⟩⟩
 .exact TS.adq (κ:=κ) (s:=⟨iQ.push (seqObj "list" its.toArray 0),g,d,tk,os⟩) q0 li hz (λs' kk=>ask li _ s' λb o e=>kk b o (ne b o e) (kp b o e)) λh' e out pm k' e'=>⟨_,xz,aF ⟨_,xz,fin h' e out pm k' e'⟩⟩
def V0(K:u_):List V->Hp->VK->Prop:=λxs H Q=>∃(p:e_) (ys:List V),xs=[.ref p]/\aj K H p ys/\ys.length<bw/\(∀v∈ys,∃a i j x,v=.ref a/\aD K H a [.int i,.int j,.str x])/\∀l zs,H l=b_->dN zs ys->Q (.ref l) (upd H l (.lst zs))
def Rn:jj X (.builtin "sorted") (V0 X.K):=by
 intro p_ s σ H xs us Q I r h;obtain⟨p,ys,rfl,hl,hz,ht,q⟩:=h;obtain⟨u,rfl,rx⟩:=vals1 r;cases rx;obtain⟨its,Ap,pl,_⟩:=I.list hl;have hlen:=Ap.length
 have B2:∀v∈its,OH s.heap v:=λv hv=>by
  obtain⟨i,hi,ev⟩:=pI hv;obtain⟨a,i',j,x,ey,e2⟩:=ht _ (yB (l:=ys) (n:=i) li);obtain⟨u,hu,ry⟩:=Ap.get (aM (l:=ys) (i:=i) li);rw[aM hi,ev]at hu;cases hu;rw[ey]at ry;obtain⟨vs,rv2,⟨o,eo,co,n,do_⟩,_⟩:=I.tuple e2;cases ry;cases rv2 with
  | cons ra rr=>
   cases rr with
   | cons rb rr=>
    cases rr with
    | cons rc rr=>
     cases rr;obtain⟨t1,rfl⟩:=ra;obtain⟨t2,rfl⟩:=rb;obtain⟨t3,rfl⟩:=rc;exact⟨a,o,_,n,i',j,x,t1,t2,t3,xz,eo,co,do_,xz⟩
 have CH:∀b o,s.heap.get? b=a_ o->((s.heap.push (seqObj "list" #[] 0)).update s.zS (iw (· ++ its.toArray))).get? b=a_ o:=λb o e=>by
  rw[Dv _ _ _ _ (cC (bH e))];exact bh _ e
 refine RF (collect_list pl.isList ⟨ys,tuples' c_,I.kept (t':=s.toks) CH,Ap,li,λh2 A s' kk=>?_,q⟩ li)
 have at':∀v∈its,OH s'.heap v:=λv hv=>by
  obtain⟨a,o,ws,n,i,j,x,t,u,y,e1,e2,e3⟩:=B2 v hv;exact⟨a,o,ws,n,i,j,x,t,u,y,e1,kk _ _ (CH _ _ e2),e3⟩
 refine⟨λQ' hQ=>?_,λx y C hx hy c=>?_⟩
 .obtain⟨fs,h1,h4,h3⟩:=XG at';refine kat_kind (T:=.type "int") h4 li (λv hv=>?_) qc (by rw[show (iW "int" != iW "tuple")=c_ by decide];exact hQ);obtain⟨i,t,e⟩:=h3 v hv;rw[e];exact acB _ _ _ _
 .obtain⟨a,o,ws,n,i,j,x,t,u,y,rfl,e2,e3,e4,e5⟩:=at' _ hx;obtain⟨a',o',OL,n',i',j',x',t',u',y',rfl,e2',e3',e4',e5'⟩:=at' _ hy;refine kat_lt e2 e4 e2' e4' ?_;rw[e5,e5'];exact amD c
def VZ(P:k_)(w:j_):List V->Hp->VK->Prop:=λxs H Q=>∃(a:e_) (ns:List Int),xs=[.ref a]/\H a=a_ (B3 P w a ns)/\ns.length<64/\∀l zs,H l=b_->dN zs (ns.map V.int)->Q (.ref l) (upd H l (.lst zs))
def aca(hc:X.calm=c_):jj X (.builtin "sorted") (VZ X.prog X.w):=by
 intro p_ s σ H xs us Q I r h;obtain⟨a,ns,rfl,ha,h64,q⟩:=h;obtain⟨u,rfl,rx⟩:=vals1 r;cases rx;have S:jG X.prog X.w s.heap a ns:=(I.aH a _ ha).1;refine RF (H:=H) (acq (I.ok.hd hc) S (by rw[fw];lia) λvs ord h' d ia po k=>?_);have ol:=po.length_eq;have vl:=ia.length;obtain⟨m,F⟩:=I.fr;have J:Inv X p_ σ H { s with heap:=h',drawn:=d }:=Inv.regrown (t':=s.toks) I F.ns (let ⟨o,es,ep,e,rr⟩:=F.ns;⟨o,es,ep,k _ _ e,rr⟩) λb o _ e=>k b o e;refine⟨ord.map V.int,oneType',J,JG ia,by rw[fw];lia,λh2 A s' kk=>⟨λQ' hQ=>?_,λx y C hx hy c=>?_⟩,λl zs hn so=>q l zs hn (so.trans (po.map _))⟩
 .match vs,ia,h2 with
  | v1::v2::rest,ia,_=>rw[keyKind_ints ia];exact aF hQ
 .have sj:∀v∈vs,∃i t,v=eO i t:=λv hv=>by
   obtain⟨i,hi⟩:=pG hv;obtain⟨t,e⟩:=abT ia i _ hi;exact⟨_,t,e⟩
  obtain⟨i,t,rfl⟩:=sj x hx;obtain⟨j,u,rfl⟩:=sj y hy;rw[keyLt'_oneType];exact oneLt_int (c _)
end
end L2
namespace TL
open L2 L3
def D9{α β:Type}{F:α->β->Prop}:∀{l:List α} {r:List β} {i:Nat} {x:α},Paired F l r->l[i]?=a_ x->∃y,r[i]?=a_ y/\F x y
 | _,_,_,_,.nil,e=>by simp at e
 | _,_,0,_,.cons h _,e=>by simp at e;subst e;exact⟨_,xz,h⟩
 | _,_,i+1,x,.cons _ t,e=>by
  exact aq (D9 (i:=i) t (by simpa using e)) λy h1 h2=>au y (by simpa using h1) h2
def YU:TG:=λ_ _ _ _=>False
def aj8:PG X g YU:=λ_ _ _ _ _ _ _ _ _ h=>h.elim
def akL:zH n YU:=λ_ _ _ _ h=>h.elim
def aj':PE X e λ_ _ _=>False:=λ_ _ _ _ _ _ h=>h.elim
section
variable{P:k_}{w:j_}{K:u_}{mg:Str->Option f_}{base:i_}
def Tv(C:e_):Sp:=λvs H Q _=>∃a kd tn q qr,vs=[.ref a]/\dC H a C kd tn [] q qr/\∀H' l,af H H'->H' l=a_ (.lst [])->Q (.ref l) H'
def JL:ba [U_,"waiting","queue"] zLc (aS Kl):=bj
def acP(F:aQ K "listed" "Tray.listed" Kl f fd)(B:BT mg)(cT:kT K C):aG P w K mg base aI 1 f fd zLc (Tv C):=by
 refine F.ok JL λaJ A _ s H vs Q E hr h=>?_
 .refine fX h λa kd tn q qr aa=>de aa λaa T k=>?_;subst aa
  refine let d:TS:=_;let g:TS:=_;let j:TS:=_;⟨_,ar (bq (i:=1) JL.nd xz (aE xz) (dW ag)) (pR j (ar (ij gn xz (pX (bC (pv 0) xz)) (bA (i:=2) JL.nd xz (aE xz)) (pR d (av (cX (ik m_ PySem.F.slot_list_extend PySem.F.type_list_extend En (pv 1) (ab (pv 2) ag)))))) (pR g (av (aZ (iJ (N:=["turn","setting"]) (idx:=[]) xz (dw.of (by kernel_rfl)) akL (pX (bU Rn xz B.sorted boot_sorted (ab (pv 1) ag)))
    (λ_ _ _ _=>aj8) (λ_ _ _ _=>i3) λ_ _ _ _=>aj')))))),?_⟩
  refine fe (id T.obj) λdx fs ea e1 e2 e3 em el=>?_;refine⟨qc,λlw nw=>?_⟩;have s0:af H (upd H lw (.lst [])):=aB (af.refl _) nw;refine au _ xz (dX a C dx fs (jB _ xz (s0 _ _ ea) cT.cl cT.uY e3 ⟨q,xz,⟨_,aj.of (s0 _ _ T.qs)⟩,?_⟩))
  let W1:IV:=λi σ H'=>∃qx,σ=[a_ (.ref a),a_ (.ref lw),qx]/\af H H'/\H' lw=a_ (.lst [])
  refine Bu (xs:=qr.map V.ref) W1 ⟨b_,xz,s0,ao⟩ ?_ ?_ ?_
  .rintro i σ H' _ ⟨qx,rfl,sm,_⟩;exact aj.of (sm _ _ T.qs)
  .rintro i x σ H' hx ⟨qx,rfl,sm,hw⟩;rw[cO]at hx;refine aq (qU.mp hx) λb hb aa=>aq (T.jq i b hb) λvs h1 h2=>?_;subst aa;cases h2;refine vr xz ⟨.inl ⟨xz,_,aj.of hw⟩,⟨_,xz,lw,b,_,_,xz,xz,hw,sm _ _ h1,sl (n:=0),⟨_,xz,λc o e=>?_,ao⟩⟩⟩;rw[ai (bp e nw)];exact sm _ _ e
  .rintro σ H' ⟨qx,rfl,sm,hw⟩;refine vr xz ⟨lw,[],xz,aj.of hw,qc,λv hv=>(by cases hv),λls zs hn hp=>?_⟩;cases List.perm_nil.mp hp;have s1:af H' (upd H' ls (.lst [])):=aB (af.refl _) hn;refine dJ ls xz ⟨_,aj.of ao⟩ (gr (n:=0) (λi ys H2=>ys=[]/\H2=upd H' ls (.lst [])) (sl (n:=0)) ⟨xz,xz⟩ (λi ys H2 z=>?_) (λi ys H2 z=>absurd z (wx _)) (λys H2 z=>?_) (λi ys H2 z=>absurd z (wx _)) λys H2 z=>?_)
   .rw[z.1];exact a8 _
   .exact au [] (aj.of (by rw[z.2];exact ao)) (aA _)
   .rw[z.1,z.2];exact⟨sl (n:=0),λlr nr=>k _ lr (sm.trans (aB s1 nr)) ao⟩
end
end TL
namespace L2
section
variable{X:Cx}
def aj7(K:u_):List V->Hp->VK->Prop:=λxs H Q=>∃(p:e_) (ns:List Int),xs=[.ref p]/\aj K H p (ns.map V.int)/\ns≠[]/\∀M,M∈ns->(∀a∈ns,M<=a)->Q (.int M) H
def Tb(hc:X.calm=c_):jj X (.builtin "min") (aj7 X.K):=by
 intro p_ s σ H xs us Q I r h;refine jf h λp ns e hq anv q=>?_;subst e;refine aq (vals1 r) λu aa rx=>?_;subst aa;cases rx;refine a7 (I.list hq) λits rv pl hz=>?_;have hi:=intsAre_of rv;have hlen:its.length=ns.length:=by have:=rv.length;rw[aL]at this;exact this.symm
 have dr:p≠s.heap.objs.size:=by
  exact aq pl.isList λo e _=>cC (bH e)
 have zW:0<its.toArray.size:=by
  rw[cN,hlen];exact aa0.mpr anv
 have zU:∀i v,its.toArray[i]?=a_ v->∃t,v=eO (ns.getD i 0) t:=λi v hv=>by
  have HA:its[i]?=a_ v:=by simpa using hv
  have AE:i<its.length:=(bK.mp HA).1
  obtain⟨u,hu,ru⟩:=rv.get (i:=i) (x:=V.int (ns.getD i 0)) (by
   rw[cO,aM wf,gg,aM wf];rfl)
  rw[HA]at hu;cases hu;exact ru
 refine call_min_walk (yz pl.isList (⟨_,_,_,_,_,_,(⟨_,xz,(Eg (show X.A.in1.handled=b_ from I.ok.hd hc) _ p dr its.toArray),⟨⟨_,dh _ xz,xz,xz⟩,pl.isList.push _⟩,?_,zW,(CmpOf.ints_lt (λi=>ns.getD i 0) zU),(λv h' tk hv kk=>?_)⟩)⟩))
 .intro b hb;refine aq pl.isList λo e _=>?_;have bz:=bH e;have hsz:(s.heap.push { cls:=.type "list_iterator",data:=.fields #[.ref p,.int 0 0] }).objs.size=s.heap.objs.size+1:=kC _ _;have uj:b=s.heap.objs.size\/b=p:=by simpa using hb
  rw[hsz];rcases uj with e | e
  .rw[e];exact qW _
  .rw[e];exact nT bz
 .refine oE (zU _ _ hv) λt aa=>?_;subst aa;refine oA (argBest_lt (λi=>ns.getD i 0) (its.toArray.size-1)) λh1 h2=>?_;rw[cN,hlen]at h1 h2 zW ⊢;refine dP (.int _) H (I.kept λb o e=>kk b o (λz=>?_) (bh _ e)) ⟨t,xz⟩ (q _ ?_ λa ha=>?_)
  .have z':b=s.heap.objs.size:=by simpa using z
   rw[z']at e;exact absurd (bH e) (je _)
  .show ns.getD _ 0∈ns;rw[gg,aM om];exact yB _
  .refine oE (pI ha) λj aa=>oE aa λhj e=>?_;have:=h2 j om;have e2:ns.getD j 0=a:=by rw[gg,aM hj,e];rfl
   rw[e2]at this;exact this
end
section
variable{X:Cx}{CX:qI}{k:Nat}{E:XK}{m:Str}{pos apos:Pos}{e o:Expr}{es:List Expr}{ta:TE}{t:TA}
def agc(P:k_)(w:j_)(K:u_)(mg:Str->Option f_)(base:i_)(CX:qI)(k:Nat)(m:Str)(E:XK)(ta:TE)(t:TA):TE:=λσ H Q=>ta σ H λx H1=>∃a C dx fs f fd ps sp,x=.ref a/\H1 a=a_ (.ins C dx fs)/\fs.lookup m=b_/\dg K C/\Meth K C m f/\
 aG P w K mg base CX k f fd ps sp/\Binds K fd ps []/\t σ H1 λvs H2=>sp (.ref a::vs) H2 Q E
def adE{P:k_}{w:j_}{K:u_}{mg:Str->Option f_}{base:i_}(he:PE X o ta)(hr:eG k X.A)(hx:Passes CX X E)(ha:PA X (e::es) t)(hP:X.prog=P:=by rfl)(hw:X.w=w:=by rfl)(hK:X.K=K:=by rfl)(vX:X.mg=mg:=by rfl)(C7:X.base=base:=by rfl)
  (cB:(bV (e::es) X.env)=((d_,eval e X.env)::bV es X.env):=by rfl) (dG:((backTo pos (bV es X.env)).any (·.1))=false:=by rfl)
  (ht:eval (.Call (.Attribute o m apos) (e::es) [] pos) X.env=(do
   let ov <-(eval o X.env)
   standAt apos.atName
   let (f,first) <-(holding [ov] (uJ ov m pl))
   (y3 pos f first (backTo pos (bV (e::es) X.env)) (uP pos (uF [] X.env)))):=by rfl) :
  PE X (.Call (.Attribute o m apos) (e::es) [] pos) (agc P w K mg base CX k m E ta t):=by
 subst hP hw hK vX C7;intro p_ s σ H Q I h;refine W.methodCall_KW (pl:=pl) (aR (he p_ s σ H _ I h) λu s1 hh=>?_) ht;refine eD hh λx H1 I1 rx aa=>fX aa λa C dx fs f aa=>gD aa λfd ps sp ex ea aa=>mX aa λl c hm F hb q=>?_;subst ex;obtain rfl:u=dj a:=rx;refine Ee I1 ea c hm l (G_ (first:=[.ref a]) (h₀:=X.base) I.ok.mod.xE hm.kp (Cd (ha pos p_ s1 σ H1 _ I1 q) λus s2 vs H2 I2 r q2=>⟨I2.eZ,?_⟩) cB dG);exact zk (us:=.ref a::us) (vs:=.ref a::vs) (dvs:=[]) (ds:=[]) F hr hb .nil hx I2 (.cons xz r) (by rw[sQ];exact q2)
end
end L2
namespace L5
structure Sp where
 set:Option Nat
 kill:Bool
 nx:List Nat
def behind(s:Sp)(names:Nat):Nat:=if s.kill=c_ then 0 else match s.set with
 | some m=>names ||| (1 <<< m)
 | none=>names
def Sub(a b:Nat):Prop:=∀k,a.testBit k=c_->b.testBit k=c_
def without:a-(a &&& b)=0↔Sub a b:=by
 have hle:a &&& b<=a:=QT;constructor
 .intro h k hk;have e:a &&& b=a:=om;have:(a &&& b).testBit k=true:=by rw[e];exact hk
  rw[Nat.testBit_and,lK]at this;exact this.2
 .intro h
  have e:a &&& b=a:=by
   apply Nat.eq_of_testBit_eq;intro k;rw[Nat.testBit_and];cases hk:a.testBit k with
   | false=>rfl
   | true=>rw[h k hk];rfl
  omega
def aka(h:¬Sub b a):a<a ||| b:=by
 have hle:a<=a ||| b:=Nat.left_le_or
 rcases Nat.lt_or_eq_of_le hle with h1 | h1
 .exact h1
 .exfalso;apply h;intro k hk;rw[h1,Nat.testBit_or,hk,Bool.or_true]
def Vq{m k:Nat}:(1 <<< m).testBit k=decide (m=k):=by
 rw[QI,Nat.testBit_two_pow]
def Jx{names k:Nat}:(behind s names).testBit k=c_↔s.kill=d_/\(names.testBit k=c_\/s.set=a_ k):=by
 unfold behind;cases hk:s.kill with
 | true=>simp
 | false=>
  cases hs:s.set with
  | none=>simp
  | some m=>
   show (names ||| 1 <<< m).testBit k=c_↔_;rw[Nat.testBit_or,Vq,Bool.or_eq_true,decide_eq_true_eq];simp
abbrev iC(row:List Nat)(i:Nat):Nat:=row.getD i 0
def Fx(p:List Sp)(m:Nat)(row:List Nat):Prop:=∀(j:Nat) (s:Sp),j<m->p[j]?=a_ s->∀a∈s.nx,Sub (behind s (iC row j)) (iC row a)
def sum_set(ha:a<row.length):(row.set a v).sum+iC row a=row.sum+v:=by
 induction row generalizing a with
 | nil=>simp at ha
 | cons x r ih=>
  cases a with
  | zero=>simp[iC];omega
  | succ a=>
   have:=ih (a:=a) (by simpa using ha);simp only[List.set_cons_succ,D4];have e:iC (x::r) (a+1)=iC r a:=by simp[iC]
   rw[e];omega
end L5
namespace L2
section
variable{κ:Type}[DecidableEq κ]
def c8(kvs:List (κ×V))(k:κ):Option V:=(kvs.find? λkv=>decide (kv.1=k)).map (·.2)
def putK(kvs:List (κ×V))(k:κ)(v:V):List (κ×V):=
 if (kvs.any λkv=>decide (kv.1=k))=c_ then kvs.map (λkv=>if kv.1=k then (kv.1,v) else kv) else kvs++[(k,v)]
def aex{k:κ}:c8 ([]:List (κ×V)) k=none:=rfl
def pQ{k:κ}(e:p.1=k):c8 (p::r) k=a_ p.2:=by simp[c8,List.find?_cons,e]
def pS{k:κ}(e:¬p.1=k):c8 (p::r) k=c8 r k:=by simp[c8,List.find?_cons,e]
def yW(k:κ):∀kvs:List (κ×V),(kvs.any λkv=>decide (kv.1=k))=(c8 kvs k).isSome
 | []=>rfl
 | p::r=>by
  rw[sS]
  by_cases e:p.1=k
  .simp only[pQ e,decide_eq_true e,Bool.true_or,Option.isSome_some]
  .rw[pS e,decide_eq_false e,Ri];exact yW k r
def Tp(k j:κ)(y:V):∀kvs:List (κ×V),c8 (kvs.map λkv=>if kv.1=k then (kv.1,y) else kv) j=(c8 kvs j).map λx=>if j=k then y else x
 | []=>rfl
 | p::r=>by
  have ih:=Tp k j y r;rw[gq]
  by_cases h:p.1=k
  .rw[if_pos h]
   by_cases e:p.1=j
   .rw[pQ (p:=(p.1,y)) e,pQ e,IQ,if_pos (e.symm.trans h)]
   .rw[pS (p:=(p.1,y)) e,pS e,ih]
  .rw[if_neg h]
   by_cases e:p.1=j
   .rw[pQ (p:=p) e,pQ e,IQ,if_neg λz=>h (e.trans z)]
   .rw[pS (p:=p) e,pS e,ih]
def So(k j:κ)(y:V):∀kvs:List (κ×V),c8 kvs k=b_->c8 (kvs++[(k,y)]) j=if j=k then a_ y else c8 kvs j
 | [],_=>by
  by_cases e:k=j
  .rw[if_pos e.symm];exact pQ (p:=(k,y)) e
  .rw[if_neg λz=>e z.symm];exact pS (p:=(k,y)) e
 | p::r,hn=>by
  rw[abx];have hk:¬p.1=k:=λz=>by rw[pQ z]at hn;cases hn
  rw[pS hk]at hn;have ih:=So k j y r hn
  by_cases e:p.1=j
  .rw[pQ e,pQ e,if_neg λz=>hk (e.trans z)]
  .rw[pS e,pS e,ih]
def yV(kvs:List (κ×V))(k j:κ)(y:V):c8 (putK kvs k y) j=if j=k then a_ y else c8 kvs j:=by
 unfold putK
 by_cases a:(kvs.any λkv=>decide (kv.1=k))=c_
 .rw[if_pos a,Tp];rw[yW]at a
  by_cases e:j=k
  .obtain⟨x,hx⟩:=Ql.mp a;rw[if_pos e,e,hx,IQ,if_pos rfl]
  .rw[if_neg e];cases c8 kvs j with
   | none=>rfl
   | some x=>rw[IQ,if_neg e]
 .rw[if_neg a];refine So k j y kvs ?_;rw[yW]at a;cases q:c8 kvs k with
  | none=>rfl
  | some x=>rw[q]at a;exact(a xz).elim
def yJ(kvs:List (κ×V))(k:κ)(v:V):(putK kvs k v).length<=kvs.length+1:=by
 unfold putK
 split
 .rw[aL];omega
 .rw[bL,fR,List.length_nil];omega
def jm.JS(r:jm o u):o.isSome=u.isSome:=by
 cases o with
 | none=>cases u with
  | none=>rfl
  | some _=>exact(show False from r).elim
 | some _=>cases u with
  | none=>exact(show False from r).elim
  | some _=>rfl
def jm.getD(r:jm o u)(rd:RelV d d'):RelV (o.getD d) (u.getD d'):=by
 cases o with
 | none=>cases u with
  | none=>exact rd
  | some _=>exact(show False from r).elim
 | some _=>cases u with
  | none=>exact(show False from r).elim
  | some _=>exact r
def KV.val(r:KV kvs vs)(k:κ):jm (c8 kvs k) (valueAt vs k):=by
 unfold KV at r
 induction r with
 | nil=>exact nZ
 | @cons p q ps qs h t ih=>
  obtain⟨h1,h2⟩:=h
  by_cases e:p.1=k
  .have e':q.1=k:=h1.symm.trans e;have b:valueAt (q::qs) k=a_ q.2:=by simp[valueAt,List.find?_cons,e']
   rw[pQ e,b];exact h2
  .have e':¬q.1=k:=λz=>e (h1.trans z);have b:valueAt (q::qs) k=valueAt qs k:=by simp[valueAt,List.find?_cons,e']
   rw[pS e,b];exact ih
def KV.any(r:KV kvs vs)(k:κ):(kvs.any λkv=>decide (kv.1=k))=vs.any λkv=>decide (kv.1=k):=by
 unfold KV at r
 induction r with
 | nil=>rfl
 | cons h t ih=>rw[sS,sS,ih,h.1]
def KV.NW(r:KV kvs vs)(k:κ)(ry:RelV y u) :
  KV (kvs.map λkv=>if kv.1=k then (kv.1,y) else kv) (vs.map λkv=>if kv.1=k then (kv.1,u) else kv):=by
 unfold KV at r ⊢
 induction r with
 | nil=>exact .nil
 | @cons p q ps qs h t ih=>
  rw[gq,gq];refine .cons ?_ ih;obtain⟨h1,h2⟩:=h
  by_cases e:p.1=k
  .rw[if_pos e,if_pos (h1.symm.trans e)];exact⟨h1,ry⟩
  .rw[if_neg e,if_neg λz=>e (h1.trans z)];exact⟨h1,h2⟩
def KV.put(r:KV kvs vs)(k:κ)(ry:RelV y u):KV (putK kvs k y) (stored vs k u):=by
 unfold putK stored;rw[r.any k]
 by_cases e:(vs.any λkv=>decide (kv.1=k))=c_
 .rw[if_pos e,if_pos e];exact r.NW k ry
 .rw[if_neg e,if_neg e];exact Paired.snoc r ⟨xz,ry⟩
def KV.length(r:KV kvs vs):kvs.length=vs.length:=r_ r
end
def zE{P:k_}{w:j_}{k:Key}(r:RelV (kV k) u):(iK P w).is k u=true:=by
 cases k with
 | some i=>obtain⟨t,e⟩:=(show ∃t,u=eO i t from r);subst e;exact acn P w i t
 | none=>cases (show u=jz from r);rfl
def SW{P:k_}{w:j_}:∀{ks:List Key} {us:List f_},Vals (ks.map kV) us->ItemsAre (iK P w) ks us
 | [],_,r=>by rw[Jr]at r;cases r;exact .nil
 | k::ks,_,r=>by
  rw[gq]at r;cases r with
  | cons h t=>exact .cons (zE h) (SW t)
abbrev KT(H:Hp):List (List Key×V)->List (List Key×e_×f_)->Prop:=Paired λp q=>p.1=q.1/\H q.2.1=a_ (.tup (p.1.map kV))/\RelV p.2 q.2.2
def KT.val(r:KT H kvs xs)(k:List Key):jm (c8 kvs k) ((atKey xs k).map (·.2)):=by
 induction r with
 | nil=>exact nZ
 | @cons p q ps qs h t ih=>
  obtain⟨h1,_,h2⟩:=h
  by_cases e:p.1=k
  .have e':q.1=k:=h1.symm.trans e;have b:atKey (q::qs) k=a_ q.2:=by simp[atKey,List.find?_cons,e']
   rw[pQ e,b];exact h2
  .have e':¬q.1=k:=λz=>e (h1.trans z);have b:atKey (q::qs) k=atKey qs k:=by simp[atKey,List.find?_cons,e']
   rw[pS e,b];exact ih
def KT.NW(r:KT H kvs xs)(k:List Key)(ry:RelV y u) :
  KT H (kvs.map λkv=>if kv.1=k then (kv.1,y) else kv) (xs.map (putAt k u)):=by
 induction r with
 | nil=>exact .nil
 | @cons p q ps qs h t ih=>
  rw[gq,gq];refine .cons ?_ ih;obtain⟨h1,h2,h3⟩:=h;unfold putAt
  by_cases e:p.1=k
  .rw[if_pos e,if_pos (h1.symm.trans e)];exact⟨h1,h2,ry⟩
  .rw[if_neg e,if_neg λz=>e (h1.trans z)];exact⟨h1,h2,h3⟩
def KT.put(r:KT H kvs xs)(k:List Key)(hb:H b=a_ (.tup (k.map kV)))(ry:RelV y u) :
  KT H (putK kvs k y) (storedH xs k b u):=by
 have e:(kvs.any λkv=>decide (kv.1=k))=(atKey xs k).isSome:=by
  rw[yW,(r.val k).JS,QH]
 unfold putK storedH;rw[e]
 by_cases q:(atKey xs k).isSome=c_
 .rw[if_pos q,if_pos q];exact r.NW k ry
 .rw[if_neg q,if_neg q];exact Paired.snoc r ⟨xz,hb,ry⟩
def KT.keeps(r:KT H kvs xs)(ht:∀b ys,H b=a_ (.tup ys)->H' b=a_ (.tup ys)):KT H' kvs xs:=
 Paired.bZ r λ_ _ z=>⟨z.1,ht _ _ z.2.1,z.2.2⟩
section
variable{P:k_}{w:j_}{H:Hp}{h:i_}{a:e_}
def WK(ok:eR P w H h)(e:Rd H a u):dI P w H h a u:=e.ok ok
def zG(ok:eR P w H h)(e:Rd H a (.dK kvs)):kvs.length<=bw/\(a == pP)=d_/\∃vs,KV kvs vs/\h.DictOf (iK P w) a vs:=
 show dI P w H h a (.dK kvs) from WK ok e
def Xf(ok:eR P w H h)(e:H a=a_ (.dK kvs)):kvs.length<=bw/\(a == pP)=d_/\∃vs,KV kvs vs/\h.DictOf (iK P w) a vs:=zG ok (.inl e)
def BM(ok:eR P w H h)(e:H a=a_ (.tup (ks.map kV))):(Bo (iK P w)).is h ks a:=by
 obtain⟨_,its,r,o,h1,h2,n,h3⟩:=(show dI P w H h a (.tup (ks.map kV)) from ok a _ e);exact⟨o,its.toArray,n,h1,h2,h3,by simpa using SW r⟩
def zF(ok:eR P w H h)(e:Rd H a (.dT kvs)):kvs.length<=bw/\(a == pP)=d_/\
  ∃xs,KT H kvs xs/\h.DictOfH (Bo (iK P w)) a xs:=by
 obtain⟨z,y,xs,r,o,es,ep,h1,h2,h3,h4,h5⟩:=(show dI P w H h a (.dT kvs) from WK ok e);refine⟨z,y,xs,r,o,es,ep,h1,h2,h3,h4,λx hx=>?_,h5⟩
 have all:∀{l:List (List Key×V)} {m:List (List Key×e_×f_)},KT H l m->∀x∈m,(Bo (iK P w)).is h x.1 x.2.1:=by
  intro l m q
  induction q with
  | nil=>intro x hx;exact nomatch hx
  | @cons p q ps qs hq t ih=>
   intro x hx;rcases bX.mp hx with e | hx
   .subst e;exact BM ok (by rw[<-hq.1];exact hq.2.1)
   .exact ih x hx
 exact all r x hx
def akT(ok:eR P w H h)(e:H a=a_ (.dT kvs)):kvs.length<=bw/\(a == pP)=d_/\
  ∃xs,KT H kvs xs/\h.DictOfH (Bo (iK P w)) a xs:=zF ok (.inl e)
end
def jI(H:Hp)(a:e_)(y:V)(r:Option V):Prop:=
 (∃kvs k,Rd H a (.dK kvs)/\y=kV k/\r=c8 kvs k)\/∃kvs k b,Rd H a (.dT kvs)/\y=.ref b/\H b=a_ (.tup (k.map kV))/\r=c8 kvs k
def zR(H:Hp)(a:e_)(y v:V)(H':Hp):Prop:=
 (∃kvs k,H a=a_ (.dK kvs)/\y=kV k/\kvs.length<bw/\H'=upd H a (.dK (putK kvs k v)))\/
 ∃kvs k b,H a=a_ (.dT kvs)/\y=.ref b/\H b=a_ (.tup (k.map kV))/\kvs.length<bw/\H'=upd H a (.dT (putK kvs k v))
def jI.k{k:Key}(e:H a=a_ (.dK kvs)):jI H a (kV k) (c8 kvs k):=.inl ⟨kvs,k,.inl e,xz,xz⟩
def jI.t{k:List Key}(e:H a=a_ (.dT kvs))(eb:H b=a_ (.tup (k.map kV))):jI H a (.ref b) (c8 kvs k):=.inr ⟨kvs,k,b,.inl e,xz,eb,xz⟩
def zR.k{k:Key}(e:H a=a_ (.dK kvs))(hl:kvs.length<bw):zR H a (kV k) v (upd H a (.dK (putK kvs k v))):=.inl ⟨kvs,k,e,xz,hl,xz⟩
section
variable{X:Cx}{p_:List (e_×Obj)}{σ:St}{H:Hp}{s:g_}{a:e_}{y v:V}{u r:f_}{o:Option V}{A:h_}{E:f_->g_->Prop}
def Inv.big(I:Inv X p_ σ H s):pP<s.zS:=by
 have h:eN<s.zS:=(I.mod.glob.keeps I.bk).lt;exact q8 qc h
def aei(hu:A.units+1<cLine)(I:Inv X p_ σ H s)(g:jI H a y (a_ v))(ry:RelV y u)(h:∀w' s',Inv X p_ σ H s'->RelV v w'->Q w' s') :
  wpAny (model X.prog X.w) A (getItem (.ref a) u) Q E s:=by
 rcases g with ⟨kvs,k,e,ey,l⟩ | ⟨kvs,k,b,e,ey,eb,l⟩
 .subst ey;obtain⟨z,hd,vs,rel,dd⟩:=zG I.aH e;obtain⟨w',hw,jK⟩:=jm.some_of (v:=v) (o:=valueAt vs k) (by rw[l];exact rel.val k);exact wpAny_getItem_of (zE ry) dd.mapOf hw (h w' _ (I.tok _) jK)
 .subst ey;cases (show u=dj b from ry);obtain⟨z,hd,xs,rel,dd⟩:=zF I.aH e;obtain⟨w',hw,jK⟩:=jm.some_of (v:=v) (o:=(atKey xs k).map (·.2)) (by rw[l];exact rel.val k);obtain⟨p,hp,ue⟩:=qU.mp hw;refine wpAny_getItem_heap (Iv hu) (BM I.aH eb) dd hp ?_;rw[ue];exact h w' _ (I.tok _) jK
def ahH(hu:A.units+1<cLine)(I:Inv X p_ σ H s)(g:jI H a y o)(ry:RelV y u)(h:∀s',Inv X p_ σ H s'->Q (.bool (!o.isSome)) s') :
  wpAny (model X.prog X.w) A (iH .NotIn u (.ref a)) Q E s:=by
 rcases g with ⟨kvs,k,e,ey,l⟩ | ⟨kvs,k,b,e,ey,eb,l⟩
 .subst ey;obtain⟨z,hd,vs,rel,dd⟩:=zG I.aH e;refine wpAny_notIn_of (zE ry) hd dd.mapOf ?_;rw[<-(rel.val k).JS,<-l];exact h _ (I.tok _)
 .subst ey;cases (show u=dj b from ry);obtain⟨z,hd,xs,rel,dd⟩:=zF I.aH e;refine wpAny_notIn_heap (Iv hu) (BM I.aH eb) hd dd ?_;have q:=(rel.val k).JS;rw[QH]at q;rw[<-q,<-l];exact h _ (I.tok _)
def Vn(I:Inv X p_ σ H s)(mu:Co (H a))(hs:fU a s.heap h')(he:∃q,h'.get? a=a_ q)(new:dI X.prog X.w (upd H a ob) h' a ob) :
  Inv X p_ σ (upd H a ob) { s with heap:=h',toks:=t' }:=
 I.write (x:=a) (e:=a) mu (.inl xz) (λb q hb z=>(hs.2 b hb).trans z) he new
def Wt{P:k_}{w:j_}(z:kvs.length<=bw)(hd:(a == pP)=d_)(rel:KV kvs vs)(dd:h'.DictOf (iK P w) a vs) :
  dI P w H' h' a (.dK kvs):=⟨z,hd,vs,rel,dd⟩
def aeh(hu:A.units+1<cLine)(I:Inv X p_ σ H s)(g:zR H a y v H')(ry:RelV y u)(rv:RelV v r)(h:∀s',Inv X p_ σ H' s'->Q () s') :
  wpAny (model X.prog X.w) A (setItem (.ref a) u r) Q E s:=by
 rcases g with ⟨kvs,k,e,ey,l,eH⟩ | ⟨kvs,k,b,e,ey,eb,l,eH⟩
 .subst ey eH;obtain⟨z,hd,vs,rel,dd⟩:=Xf I.aH e;have hz:vs.length<=bw:=by rw[<-rel.length];exact z
  have hl:(putK kvs k v).length<=bw:=by have:=yJ kvs k v;omega
  refine wpAny_setItem_pairs (hsz:=hz) (zE ry) dd λh' HX hs=>h _ ?_;have he:∃q,h'.get? a=a_ q:=let ⟨q,_,_,hq,_⟩:=HX;⟨q,hq⟩
  exact Vn I (by rw[e];exact nZ) hs he (Wt hl hd (rel.put k rv) HX)
 .subst ey eH;cases (show u=dj b from ry);obtain⟨z,hd,xs,rel,dd⟩:=akT I.aH e;have hz:xs.length<=bw:=by rw[<-r_ rel];exact z
  have hl:(putK kvs k v).length<=bw:=by have:=yJ kvs k v;omega
  refine wpAny_setItem_heap (hsz:=hz) (Iv hu) (BM I.aH eb) dd λh' HX hs=>h _ ?_;obtain⟨q,es,ep,hq,h2,h3,h4,_,h5⟩:=HX;refine Vn I (by rw[e];exact nZ) hs ⟨q,hq⟩ ⟨hl,hd,_,(rel.put k eb rv).keeps λc ys ec=>?_,q,es,ep,hq,h2,h3,h4,h5⟩;rw[ai (gU ec e (λz=>nomatch z))];exact ec
end
def XY(i:Expr):Prop:=∀ov iv,subscripted i d_ ov iv=operate [ov,iv] (getItem ov iv)
def age{w:j_}{env:Env}{T id:String}
  (hl:yQ (.type T) "__getitem__" = pure (a_ (.builtin id))) (hs:XY slice)
  (h:wpAny (model prog w) A (eval value env) (λo s₁=>wpAny (model prog w) A (eval slice env) (λi s₂=>s₂.TypeIs o T/\wpAny (model prog w) A (getItem o i) Q E s₂) E s₁) E s) :
  wpAny (model prog w) A (eval (.Subscript value slice pos) env) Q E s:=by
 refine Subscript_ (ie h (λo s₁ h₁=>ie h₁ (λi s₂ h₂=>?_) λ_ _ x=>x) λ_ _ x=>x);obtain⟨hT,h₂⟩:=h₂;unfold Rf;refine ae ?_;rw[getitemInPython_of_ne hT.not_modules];refine ae (IL hT hl ?_)
 have fin:wpAny (model prog w) A (subscripted slice d_ o i) (λr s₃=>wpAny (model prog w) A (letTemporaryGo value o r >>= λ_=>pure r) Q E s₃) E s₂:=by
  rw[hs o i];exact wpAny_operating (ie h₂ (λr s₃ h₃=>ae (wpAny_letTemporaryGo (aF h₃))) λ_ _ x=>x)
 first
  | exact aF (ae fin)
  | exact ae (aF (ae fin))
  | exact ae fin
def acp(I:Inv X p_ σ H s)(g:jI H a y o):s.TypeIs (.ref a) "dict":=by
 rcases g with ⟨kvs,k,e,_,_⟩ | ⟨kvs,k,b,e,_,_,_⟩
 .obtain⟨_,_,vs,_,dd⟩:=zG I.aH e;exact dd.typeIs
 .obtain⟨_,_,xs,_,dd⟩:=zF I.aH e;exact dd.typeIs
def ajZ(td ty:TE):TE:=λσ H Q=>td σ H λx H1=>ty σ H1 λy H2=>∃a v,x=.ref a/\jI H2 a y (a_ v)/\Q v H2
def agd(ty td:TE):TE:=λσ H Q=>ty σ H λy H1=>td σ H1 λx H2=>∃a o,x=.ref a/\jI H2 a y o/\Q (.bl (!o.isSome)) H2
def aj4(td ty tv:TE):TS:=λD σ H=>tv σ H λv H1=>td σ H1 λx H2=>ty σ H2 λy H3=>∃a H4,x=.ref a/\zR H3 a y v H4/\D.nx σ H4
section
variable{X:Cx}{o i e value:Expr}{pos pos' B9:Pos}{td ty tv:TE}
def Lw(hu:X.A.units+1<cLine)(ho:PE X o td)(hi:PE X i ty)(hs:XY i):PE X (.Subscript o i pos) (ajZ td ty):=by
 intro p_ s σ H Q I h;refine age PySem.F.slot_dict_getitem.lookup hs (aR (ho p_ s σ H _ I h) λu s1 ⟨x,H1,I1,rx,q1⟩=>aR (hi p_ s1 σ H1 _ I1 q1) λiv s2 ⟨y,H2,I2,ry,a,v,ex,g,q2⟩=>?_);subst ex;obtain rfl:u=dj a:=rx;exact⟨acp I2 g,aei hu I2 g ry λw' s3 I3 jK=>⟨v,H2,I3,jK,q2⟩⟩
def SH(hu:X.A.units+1<cLine)(hi:PE X i ty)(ho:PE X o td):PC X .NotIn i o (agd ty td):=by
 intro p_ s σ H Q I h;refine aR (hi p_ s σ H _ I h) λiv s1 ⟨y,H1,I1,ry,q1⟩=>aR (ho p_ s1 σ H1 _ I1 q1) λu s2 ⟨x,H2,I2,rx,a,ov,ex,g,q2⟩=>?_;subst ex;obtain rfl:u=dj a:=rx;exact ahH hu I2 g ry λs3 I3=>⟨.bl (!ov.isSome),H2,I3,xz,q2⟩
def Lu(hu:X.A.units+1<cLine)(ho:PE X o td)(hi:PE X i ty)(hv:PE X value tv)(hs:Es value (a_ (.Subscript o i pos')) pos.line X.env=pure d_) :
  PS X (.Assign [.Subscript o i pos'] value pos) (aj4 td ty tv):=by
 intro p_ s σ H D I h;refine wpAny_Assign_Subscript (aR (hv p_ s σ H _ I h) λr s1 ⟨v,H1,I1,rv,q1⟩=>aR (ho p_ s1 σ H1 _ I1 q1) λu s2 ⟨x,H2,I2,rx,q2⟩=>aR (hi p_ s2 σ H2 _ I2 q2) λiv s3 ⟨y,H3,I3,ry,a,H4,ex,g,q3⟩=>?_) hs;subst ex;obtain rfl:u=dj a:=rx;exact aeh hu I3 g ry rv λs4 I4=>⟨σ,H4,I4,q3⟩
end
def afM{P:k_}{w:j_}(h:i_)(hb:pP<h.zH):dI P w H (h.push { cls:=.type "dict",data:=.dict #[] }) h.zH (.dK []):=
 ⟨a8 _,beq_eq_false_iff_ne.mpr (cH (cC hb)),[],.nil,abK h⟩
def afK{P:k_}{w:j_}(h:i_)(hb:pP<h.zH):dI P w H (h.push { cls:=.type "dict",data:=.dict #[] }) h.zH (.dT []):=
 ⟨a8 _,beq_eq_false_iff_ne.mpr (cH (cC hb)),[],.nil,_,#[],0,dh _ xz,⟨xz,xz,xz⟩,xz,xz,Jc⟩
def ahZ:TE:=λ_ H Q=>∀p,H p=b_->Q (.ref p) (upd H p (.dK []))
def ahY:TE:=λ_ H Q=>∀p,H p=b_->Q (.ref p) (upd H p (.dT []))
section
variable{X:Cx}{pos:Pos}
def T6:PE X (.Dict [] [] pos) ahZ:=λp_ s σ H Q I h=>
 wpAny_Dict_empty ⟨.ref s.zS,_,I.laid (a:=s.zS) (o:=.dK []) (t':=s.toks) (λ_ _ q=>bh _ q) (aA _) (afM s.heap I.big),xz,h _ (I.aH.fresh (aA _))⟩
def aeY:PE X (.Dict [] [] pos) ahY:=λp_ s σ H Q I h=>
 wpAny_Dict_empty ⟨.ref s.zS,_,I.laid (a:=s.zS) (o:=.dT []) (t':=s.toks) (λ_ _ q=>bh _ q) (aA _) (afK s.heap I.big),xz,h _ (I.aH.fresh (aA _))⟩
end
structure M1(X:Cx)(o:Expr)(m:Str)(apos:Pos)(e:Expr)(lg:Pos):Prop where
 base:D3 o m X.env (eval o X.env)=eval o X.env
 lZ:((backTo lg (bV [e] X.env)).all (λx=>!x.1)&&(uP lg (uF [] X.env)).all (λx=>x.1.isSome)
  && decide (([e]:List Expr).length+([]:List Keyword).length+(if ([]:List Keyword).isEmpty then 0 else 1)<30))=c_
 line:(apos.endLine == lg.line)=c_
 trees:backTo lg (bV [e] X.env)=[(d_,eval e X.env)]
def Y2(H:Hp)(a:e_):Prop:=(∃kvs,Rd H a (.dK kvs))\/∃kvs,Rd H a (.dT kvs)
def aiV(I:Inv X p_ σ H s)(d:Y2 H a) :
  s.TypeIs (.ref a) "dict"/\(∀b,dj a=.ref b->∃ob,s.heap.get? b=a_ ob/\ob.dict=b_)/\(a == pP)=false:=by
 rcases d with ⟨kvs,e⟩ | ⟨kvs,e⟩
 .obtain⟨_,hd,vs,_,dd⟩:=zG I.aH e;refine⟨dd.typeIs,λb q=>?_,hd⟩;cases q;obtain⟨ob,_,_,h1,h2,_⟩:=dd;exact⟨ob,h1,h2.2.1⟩
 .obtain⟨_,hd,xs,_,dd⟩:=zF I.aH e;refine⟨dd.typeIs,λb q=>?_,hd⟩;cases q;obtain⟨ob,_,_,h1,h2,_⟩:=dd;exact⟨ob,h1,h2.2.1⟩
section
variable{X:Cx}{p_:List (e_×Obj)}{σ:St}{H:Hp}{s:g_}{a:e_}{y d:V}{u r:f_}{o:Option V}{A:h_}{E:f_->g_->Prop}
def ajd(hu:A.units+1<cLine)(I:Inv X p_ σ H s)(g:jI H a y o)(ry:RelV y u)(h:∀w' s',Inv X p_ σ H s'->RelV (o.getD .aN) w'->Q w' s') :
  wpAny (model X.prog X.w) A (call (.builtin "dict.get") [.ref a,u]) Q E s:=by
 rcases g with ⟨kvs,k,e,ey,l⟩ | ⟨kvs,k,b,e,ey,eb,l⟩
 .subst ey;obtain⟨z,hd,vs,rel,dd⟩:=zG I.aH e;refine call_meetsIn PySem.F.slot_dict_get dd.typeIs PySem.F.entry_dict_get (PySem.F.args_dict_get_2 _ _) (meets_dict_get (iK X.prog X.w) a (zE ry) hd) ⟨_,dd.mapOf,h _ _ (I.tok _) ?_⟩;rw[l];exact(rel.val k).getD xz
 .subst ey;cases (show u=dj b from ry);obtain⟨z,hd,xs,rel,dd⟩:=zF I.aH e;refine call_meetsIn PySem.F.slot_dict_get dd.typeIs PySem.F.entry_dict_get (PySem.F.args_dict_get_2 _ _) (meetsH_dict_get (Bo (iK X.prog X.w)) a b hd) ⟨Iv hu,k,xs,BM I.aH eb,dd,h _ _ (I.tok _) ?_⟩;rw[l];exact(rel.val k).getD xz
end
def ah0(td ty:TE):TE:=λσ H Q=>td σ H λx H1=>∃a,x=.ref a/\Y2 H1 a/\ty σ H1 λy H2=>∃o,jI H2 a y o/\Q (o.getD .aN) H2
section
variable{X:Cx}{o e f:Expr}{apos lg:Pos}{td ty tx:TE}
def aeZ(hu:X.A.units+1<cLine)(ho:PE X o td)(he:PE X e ty)(m:M1 X o "get" apos e lg):PE X (.Call (.Attribute o "get" apos) [e] [] lg) (ah0 td ty):=by
 intro p_ s σ H Q I h;refine wpAny_Call_method m.base m.lZ m.line PySem.F.plainAttrs_dict PySem.F.slot_dict_get PySem.F.type_dict_get (aR (ho p_ s σ H _ I h) λu s1 ⟨x,H1,I1,rx,a,ex,d,q1⟩=>?_);subst ex;obtain rfl:u=dj a:=rx;obtain⟨t1,t2,_⟩:=aiV I1 d;refine⟨t1,t2,?_⟩;rw[m.trees];refine aaD xz (aaQ (QF (aR (he p_ s1 σ H1 _ I1 q1) λiv s2 ⟨y,H2,I2,ry,ov,g,q2⟩=>QJ ?_)));exact ajd hu I2 g ry λw' s3 I3 jK=>⟨_,H2,I3,jK,q2⟩
end
end L2
namespace L2
open PySem.W
section
variable{X:Cx}
def aij:List V->Hp->VK->Prop:=λxs H Q=>∃(a:e_) (kvs:List (Key×V)),xs=[.ref a]/\H a=a_ (.dK kvs)/\∀l,H l=b_->Q (.ref l) (upd H l (.lst (kvs.map λkv=>kV kv.1)))
def akD{P:k_}{w:j_}{k:Key}(h:(iK P w).is k u=c_):RelV (kV k) u:=by
 rw[acX]at h;cases k with
 | none=>cases u <;> first | rfl | cases h
 | some i=>exact abc h
def Sn{P:k_}{w:j_}:∀{kvs:List (Key×V)} {vs:List (Key×f_)} {us:List f_},KV kvs vs->us.length=vs.length->(∀(j:Nat) u,us[j]?=a_ u->∃k x,vs[j]?=a_ (k,x)/\(iK P w).is k u=c_)->Vals (kvs.map λkv=>kV kv.1) us
 | _,_,[],.nil,_,_=>.nil
 | _,_,_::_,.nil,h,_=>by simp at h
 | _,_,[],.cons _ _,h,_=>by simp at h
 | _,_,u::us,.cons (a:=p) (b:=q) r rs,h,g=>by
  obtain⟨k,x,e,hk⟩:=g 0 u rfl;simp only[List.getElem?_cons_zero,wj]at e;subst e;refine .cons ?_ (Sn rs (by simpa using h) λj u e=>by simpa using g (j+1) u (by simpa using e));show RelV (kV p.1) u;rw[r.1];exact akD hk
def ac9(hc:X.calm=c_):jj X (.type "list") aij:=by
 intro p_ s σ H xs us Q I r h;obtain⟨a,kvs,rfl,e,q⟩:=h;obtain⟨u,rfl,rx⟩:=vals1 r;cases rx;obtain⟨z,hd,vs,rel,dd⟩:=Xf I.aH e;obtain⟨ep,hat⟩:=dd.dictAt;refine kdl_call (kdl_dict (knd:=iK X.prog X.w) (kvs:=vs) (ep:=ep) hd) (I.ok.hd hc) hat (by rw[<-rel.length];exact z) λh' tk oQ c' kp e' Cc=>?_;have hv:Vals (kvs.map λkv=>kV kv.1) oQ.toList:=Sn rel (by rw[iu];exact Cc.1) λj v g=>Cc.2 j v (by rw[<-pF];exact g);exact⟨.ref s.zS,_,I.laid (t':=tk) kp (aA _) (show dI X.prog X.w _ h' _ (.lst _) from ⟨by rw[aL];exact z,oQ.toList,c',hv,by simpa using e'⟩),xz,q _ (I.aH.fresh (aA _))⟩
end
end L2
namespace PySem
def ab':yQ (.type "list") "keys" = pure none:=by rw[DG,Dt];kernel_rfl
def ahd{w:j_}{k:Nat}
  (hx:s.heap.get? a=a_ o) (hc:o.cls=.type "list") (Ym:o.data=.seq xs k) (hd:o.dict=b_) (hA:A.handled=b_)
  (h:∀h' tk,(∀b o,s.heap.get? b=a_ o->h'.get? b=a_ o)->Q b_ { s with heap:=h',toks:=tk }):wpAny (model prog w) A (getAttr? (.ref a) "keys") Q E s:=by
 obtain⟨c,HY,dat,sl⟩:=o;simp only at hc Ym hd;subst hc Ym hd;obtain⟨hp,g,d,tk,os⟩:=s;have hT:∀sv,(⟨hp,g,d,sv,os⟩:g_).TypeIs (.ref a) "list":=λ_=>⟨_,hx,xz⟩;have f1:=sub_AttributeError;have f3:=Qn.lookup;have f4:=Qn.bind (.ref a);have f5:=am_list_getattr_none;unfold getAttr? getAttrBy? getAttrBy
 repeat (any_goals (first | assumption | exact hT _ | ((with_reducible show wpAny _ _ (call (Value.builtin "list.__getattribute__") _ _) _ _ _);refine yR Qn (hT _) am_entry_list_getattribute (F.args_list_getattribute_2 _ _) (meets_getattribute_miss_list a xs k sl "keys" _ ab' qc (by size_fits)) ⟨hx,hA,λh' sv e xV=>?_⟩) | wp_step))
 obtain⟨t',u',he⟩:=xV.there;show wpAny _ _ (getattributeRaised _ _ _ _ _ _ _) _ _ _;unfold getattributeRaised
 repeat (any_goals (first | assumption | wp_step))
 exact h _ _ xV.keeps
def DQ:plainId "dict.update.loop" = true:=dk
def QV:entryFor table "dict.update.loop" = a_ Builtin.«dict.update.loop»:=entryFor_of_fast (by kernel_rfl)
section
variable{prog:k_}{w:j_}{K:Type}[DecidableEq K]{knd:KeyKind prog w K}{A:h_}{d it l:e_}{its:List f_}{R:Result->g_->Prop}{res:f_}
def vk(knd:KeyKind prog w K)(h:i_)(d it:e_):List (K×f_)->List f_->Prop
 | [],[]=>True
 | (k,v)::ps,u::us=>(∃b o key n,u=.ref b/\b≠d/\b≠it/\h.get? b=a_ o/\o.cls=.type "tuple"/\o.data=.seq #[key,v] n/\knd.is k key=c_)/\vk knd h d it ps us
 | _,_=>False
def vk.keeps(kp:∀b o,b≠d->b≠it->h.get? b=a_ o->h'.get? b=a_ o):∀{ps:List (K×f_)} {us:List f_},vk knd h d it ps us->vk knd h' d it ps us
 | [],[],_=>trivial
 | (_,_)::_,_::_,⟨⟨b,o,key,n,e,h1,h2,h3,r⟩,q⟩=>⟨⟨b,o,key,n,e,h1,h2,kp b o h1 h2 h3,r⟩,vk.keeps kp q⟩
def aey(hh:A.handled=b_)(PD:d≠it)(hld:l≠d)(yg:l≠it) :
  ∀(us:List f_) (ps:List (K×f_)) (i:Nat) (s:g_) (kvs:List (K×f_)) (t:Tok),its.drop i=us->vk knd s.heap d it ps us->s.heap.IsListIter it l i->s.heap.IsList l its.toArray->s.heap.DictOf knd d kvs->kvs.length+ps.length<=bw->
  (∀h' tk,(∀b o,b≠d->b≠it->s.heap.get? b=a_ o->h'.get? b=a_ o)->h'.DictOf knd d (merged kvs ps)->R (.ok (.ret res)) { s with heap:=h',toks:=tk })->
  codeAny (model prog w) A (.builtin "dict.update.loop" ⟨[.ref d,.ref it,.int i t,res],[]⟩) R s:=by
 intro us
 induction us with
 | nil=>
  intro ps i s kvs t ed hp hi hl hd hz hR;cases ps with
  | cons p ps=>exact hp.elim
  | nil=>
  refine mz QV ?_;rw[nO DQ _];show wpAny _ A.in1 (pyNext (.ref it) >>= _) _ _ s;refine ae (aaE hh hi hl (by rw[aaH];exact qV (by have:=congrArg List.length ed;simp at this;omega)) λh' eb=>?_);show wpAny _ _ (Builtin.Dict.addKeywords d [] >>= _) _ _ _;exact ae (aF (aF (hR h' s.toks (λb o _ h2 e=>eb b o h2 e) (let ⟨o,es,ep,ho,r⟩:=hd;⟨o,es,ep,eb d o PD ho,r⟩))))
 | cons u us ih=>
  intro ps i s kvs t ed hp hi hl hd hz hR;cases ps with
  | nil=>exact hp.elim
  | cons p ps=>
  obtain⟨k,v⟩:=p;obtain⟨⟨b,o,key,n,rfl,b1,b2,b3,b4,b5,b6⟩,hp⟩:=hp;have gi:its[i]?=a_ (.ref b):=by have:=congrArg (·[0]?) ed;simpa using this
  refine mz QV ?_;rw[nO DQ _];show wpAny _ A.in1 (pyNext (.ref it) >>= _) _ _ s;refine ae (aax hi hl (by rw[aaH];exact gi) λh' C3 sb=>?_);have g:=(sb.2 b b2).trans b3;refine ae (jx ?_);refine ae (DU ?_);unfold Builtin.Dict.pairItems;have hT:(⟨h',s.gens,s.drawn,s.toks,s.os⟩:g_).TypeIs (.ref b) "tuple":=⟨_,g,b4⟩;refine ae (yI hT ?_);refine QR (λ_=>?_) λz=>absurd xz z;refine ae (nU g b5 (aF ?_));refine jx ?_;have sD:kvs.length+(ps.length+1)<=bw:=hz;refine wpAny_dictSet_pairs b6 (hd.sameBut sb PD) (λh2 hd2 Cv=>?_) om;have kp:∀b o,b≠d->b≠it->s.heap.get? b=a_ o->h2.get? b=a_ o:=λb o e1 e2 e=>((Cv.2 b e1).trans (sb.2 b e2)).trans e;refine aF ⟨nX DQ _,ih ps (i+1) _ _ _ (by rw[<-Jd,ed];rfl) (hp.keeps kp) ?_ ?_ hd2 (by have:=stored_length_le kvs k v;omega) λh3 tk Hr C4=>?_⟩
  .obtain⟨oi,e1,e2⟩:=C3;exact⟨oi,(Cv.2 it (cH PD)).trans e1,e2⟩
  .obtain⟨ol,e1,e2⟩:=hl;exact⟨ol,kp l ol hld yg e1,e2⟩
  .exact hR h3 tk (λb o e1 e2 e=>Hr b o e1 e2 (kp b o e1 e2 e)) C4
end
section
variable{prog:k_}{w:j_}{K:Type}[DecidableEq K]{knd:KeyKind prog w K}{A:h_}{E:f_->g_->Prop}{s:g_}
def abC(hh:A.handled=b_)(hl:s.heap.get? l=a_ { cls:=.type "list",dict:=b_,data:=.seq its.toArray n,slots:=#[] })
  (hp:∀d it,s.heap.objs.size<=d->s.heap.objs.size<=it->vk knd s.heap d it ps its) (hz:ps.length<=bw)
  (h:∀h' tk,(∀b o,s.heap.get? b=a_ o->h'.get? b=a_ o)->h'.DictOf knd s.heap.objs.size (merged [] ps)->Q (.ref s.heap.objs.size) { s with heap:=h',toks:=tk }) :
  wpAny (model prog w) A (call (.type "dict") [.ref l]) Q E s:=by
 refine callType_codes (Q₁:=λobj s₁=>obj=.ref s.heap.objs.size/\s₁={ s with heap:=s.heap.push { cls:=.type "dict",data:=.dict #[] } }) F.kt_called_dict (F.kt_typeCall_dict_1 _) F.entry_dict_init (kt_code_dict_new _ ⟨xz,xz⟩) ?_;rintro obj s₁ ⟨rfl,rfl⟩;have Ca:(s.heap.push { cls:=.type "dict",data:=.dict #[] }).DictOf knd s.heap.objs.size []:=abK s.heap;have ly:=bh { cls:=.type "dict",data:=.dict #[] } hl;refine⟨Ca.typeIs,F.args_dict_init_2 _ _,?_⟩;unfold Builtin.«dict.__init__»;refine ae ?_;unfold Builtin.Dict.selfAndRest;refine ae (wpAny_notOrdered_dict Ca.typeIs ?_);show wpAny _ _ (pure (s.heap.objs.size,[dj l])) _ _ _;refine aF ?_;show wpAny _ _ (aaw "dict.__init__" s.heap.objs.size (.ref l) [] .none) _ _ _;unfold aaw;refine ae (yI (T:="list") ⟨_,ly,xz⟩ ?_);rw[if_pos qc];refine ae (ahd ly xz xz xz hh λh1 tk kp=>?_);refine QR (λ_=>?_) λz=>absurd xz z;refine ae (uG ?_);have CH:∀b o,s.heap.get? b=a_ o->h1.get? b=a_ o:=λb o e=>kp b o (bh _ e);have sz:∀b o,s.heap.get? b=a_ o->b<s.heap.objs.size:=λb o e=>bH e;have HN:s.heap.objs.size<h1.objs.size:=bH (kp _ _ (dh _ xz));refine ae (yz (l:=l) ⟨_,CH _ _ hl,xz,n,xz⟩ ?_);have CG:∀b o,s.heap.get? b=a_ o->(h1.push { cls:=.type "list_iterator",data:=.fields #[.ref l,.int 0 0] }).get? b=a_ o:=λb o e=>bh _ (CH b o e);refine aF ⟨nX DQ _,aey (A:=A.in1) (its:=its) (knd:=knd) (i:=0) (kvs:=[]) hh (cC HN) (cC (sz _ _ hl)) (cC (q8 (sz _ _ hl) HN)) its ps _ _ xz ((hp _ _ (aA _) (cY HN)).keeps λb o _ _ e=>CG b o e) ⟨_,dh _ xz,xz,xz⟩ ⟨_,CG _ _ hl,xz,n,xz⟩ ?_ (by simpa using hz) λh' sv kp' mw=>?_⟩
 .obtain⟨o,es,ep,ho,r⟩:=Ca;exact⟨o,es,ep,bh _ (kp _ _ ho),r⟩
 .exact⟨xz,h h' sv (λb o e=>kp' b o (cC (sz b o e)) (cC (q8 (sz b o e) HN)) (CG b o e)) mw⟩
end
end PySem
namespace L2
open PySem.W
section
variable{X:Cx}
def F9(H:Hp):List (Key×V)->List V->Prop
 | [],[]=>True
 | (k,v)::ps,y::ys=>(∃b,y=.ref b/\H b=a_ (.tup [kV k,v]))/\F9 H ps ys
 | _,_=>False
def m8(kvs ps:List (Key×V)):List (Key×V):=ps.foldl (λacc p=>putK acc p.1 p.2) kvs
def KV.all:∀{ps:List (Key×V)} {qs:List (Key×f_)} {kvs:List (Key×V)} {vs:List (Key×f_)},KV kvs vs->KV ps qs->KV (m8 kvs ps) (merged vs qs)
 | _,_,_,_,r,.nil=>r
 | _,_,_,_,r,.cons (a:=p) (b:=q) e es=>by
  obtain⟨k,y⟩:=p;obtain⟨k',u⟩:=q;obtain⟨rfl,ry⟩:=e;exact KV.all (kvs:=putK _ k y) (vs:=stored _ k u) (KV.put r k ry) es
def SE:∀(ps kvs:List (Key×V)),(m8 kvs ps).length<=kvs.length+ps.length
 | [],_=>aA _
 | p::ps,kvs=>by
  have h1:=SE ps (putK kvs p.1 p.2);have h2:=yJ kvs p.1 p.2;show (m8 (putK kvs p.1 p.2) ps).length<=kvs.length+(ps.length+1);omega
def V2{H:Hp}{s:g_}(ok:eR X.prog X.w H s.heap):∀{ps:List (Key×V)} {ys:List V} {us:List f_},F9 H ps ys->Vals ys us->∃qs,KV ps qs/\∀d it,s.zS<=d->s.zS<=it->vk (iK X.prog X.w) s.heap d it qs us
 | [],[],_,_,.nil=>⟨[],.nil,λ_ _ _ _=>trivial⟩
 | (k,v)::ps,y::ys,_,⟨⟨b,e,hb⟩,hp⟩,.cons (b:=u) r rs=>by
  obtain⟨qs,r2,h2⟩:=V2 ok hp rs;subst e;obtain rfl:u=dj b:=r;obtain⟨z,its,rv,pl⟩:=(show dI X.prog X.w H s.heap b (.tup [kV k,v]) from ok b _ hb);obtain⟨c,d,ei,r1,r3⟩:=vals2 rv;subst ei;obtain⟨o,e1,e2,n,e3⟩:=pl;have lt:=bH e1;exact⟨(k,d)::qs,.cons ⟨xz,r3⟩ r2,λdd it h3 h4=>⟨⟨b,o,c,n,xz,cC (gj lt h3),cC (gj lt h4),e1,e2,e3,zE r1⟩,h2 dd it h3 h4⟩⟩
def agH:List V->Hp->VK->Prop:=λxs H Q=>∃(a:e_) (ys:List V) (ps:List (Key×V)),xs=[.ref a]/\H a=a_ (.lst ys)/\F9 H ps ys/\ps.length<=bw/\∀l,H l=b_->Q (.ref l) (upd H l (.dK (m8 [] ps)))
def acs(hc:X.calm=c_):jj X (.type "dict") agH:=by
 intro p_ s σ H xs us Q I r h;obtain⟨a,ys,ps,rfl,e,hp,hz,q⟩:=h;obtain⟨u,rfl,rx⟩:=vals1 r;cases rx;obtain⟨z,its,n,rv,hl,e'⟩:=I.qt e;obtain⟨qs,kv,hq⟩:=V2 I.aH hp rv;refine abC (knd:=iK X.prog X.w) (ps:=qs) (I.ok.hd hc) e' hq (by rw[<-kv.length];exact hz) λh' tk kp hd=>?_
 have hb:(s.zS == pP)=false:=by
  exact beq_eq_false_iff_ne.mpr (qZ I.big)
 have lx:(m8 [] ps).length<=bw:=by have:=SE ps [];simp at this;omega
 exact⟨.ref s.zS,_,I.laid (t':=tk) kp (aA _) (Wt lx hb (KV.all .nil kv) hd),xz,q _ (I.aH.fresh (aA _))⟩
end
end L2
namespace PySem
section
variable{prog:k_}{w:j_}{A:h_}{E:f_->g_->Prop}{s:g_}{I l:e_}{xs:Array f_}
def adY:yQ (.type "list_reverseiterator") "__len__" = pure none:=by rw[DG,Dt];kernel_rfl
def afq:yQ (.type "list_reverseiterator") "__length_hint__" = pure (a_ (.builtin "list_reverseiterator.__length_hint__")):=by rw[DG,Dt];kernel_rfl
def acr(hh:A.handled=b_)(hi:s.heap.IsRevIter I l ((xs.size:Int)-1))(hl:s.heap.IsList l xs)(dr:l≠I)(hz:xs.size<=bw)
  (h:∀(h':i_) tk,(∀b o,b≠I->s.heap.get? b=a_ o->h'.get? b=a_ o)->Q xs.toList.reverse { s with heap:=h',toks:=tk }):wpAny (model prog w) A (collect (.ref I)) Q E s:=by
 have lI:I<s.heap.objs.size:=let ⟨o,e,_⟩:=hi;bH e
 have ll:l<s.heap.objs.size:=let ⟨o,e,_⟩:=hl;bH e
 have W:=(Walks.listRev (prog:=prog) (w:=w) (A:=A.in1) hh I l dr xs).toS;unfold collect;refine ae (QW (mz aaM ?_));rw[nO aaL _];refine ae (nR ?_);refine aF ⟨nX IF _,mz F.entry_list_iadd ?_⟩;rw[nO IF _];show wpAny _ _ (Ii (.ref s.heap.objs.size) (.ref I) (.ref s.heap.objs.size)) _ _ _;have Pu:(s.heap.push { cls:=.type "list",data:=.seq #[] }).IsRevIter I l ((xs.size:Int)-1):=hi.at λo e=>bh _ e;have hT:({ s with heap:=s.heap.push { cls:=.type "list",data:=.seq #[] } }:g_).TypeIs (.ref I) "list_reverseiterator":=Pu.typeIs;have ly:(s.heap.push { cls:=.type "list",data:=.seq #[] }).IsList l xs:=let ⟨o,e,r⟩:=hl;⟨o,bh _ e,r⟩
 have ne:s.heap.objs.size≠I:=qZ lI;unfold Ii;refine ae (yI hT ?_);rw[if_neg (by simp[Qo,ne])];refine ae (wpAny_pyIter_revIter Pu ?_);refine ae (jx ?_);unfold aai;refine ae (IL hT adY ?_);show wpAny _ _ (specialOf (dj I) (pL "__length_hint__") >>= _) _ _ _;refine ae (IL hT afq ?_);generalize hid:("list_reverseiterator.__length_hint__" : String)=id0
 wp_delta
 rw[show splitId id0=a_ ("list_reverseiterator","__length_hint__") from by subst hid;decide +kernel];subst hid;refine ae (Dx (b:=c_) hT (by rw[QX];kernel_rfl) ?_);refine aF ?_;rw[if_neg qc];refine aF ⟨nX Dw _,codeAny_extend_loopS W hz _ (by simp;exact⟨ne,qZ ll⟩) _ xs.size 0 _ _ _ xz (a8 _) ⟨a8 _,by simpa using Pu,ly⟩ (dh _ xz) (ItemsOf.nil _) λs' oQ c' hm PV Cc=>?_⟩;refine ae (Ef PV (aF ?_))
 have e:oQ.toList=xs.toList.reverse:=by
  refine A4 λi=>?_;have az:oQ.size=xs.size:=Cc.1
  by_cases hi:i<xs.size
  .have g:oQ[i]?=a_ (oQ[i]' om):=Qj _;have e:=Cc.2 i _ g;rw[aaI (by simpa using hi),pF,pF,iu,g];exact e.symm
  .rw[qV (by simp;omega),qV (by simp;omega)]
 rw[e,Moved.eq_with hm];exact h _ _ λb o hb e=>hm.heap b o (by simp;exact⟨cC (bH e),hb⟩) (bh _ e)
def abM(hh:A.handled=b_)(hi:s.heap.IsRevIter I l ((xs.size:Int)-1))(hl:s.heap.IsList l xs)(dr:l≠I)(hz:xs.size<=bw)
  (h:∀(h':i_) tk,(∀b o,b≠I->s.heap.get? b=a_ o->h'.get? b=a_ o)->Q (.ref h'.objs.size) { s with heap:=h'.push { cls:=.type "tuple",data:=.seq xs.toList.reverse.toArray },toks:=tk }):wpAny (model prog w) A (call (.type "tuple") [.ref I]) Q E s:=by
 refine callType_codes (Q₁:=λobj s₁=>s₁.TypeIs obj "tuple"/\Q obj s₁) Q0 (F.typeCall_tuple_1 _) F.entry_object_init ?_ λobj s₁ h₁=>
  ⟨h₁.1,aaP obj _,object_init_meets Q0.init.lookup Q0.made qc prog w A.in1 _ s₁ ⟨h₁.1,xz,h₁.2⟩⟩
 refine codeAny_call_builtin F.plain_tuple_new F.entry_tuple_new (Ea (F.newCall_tuple_1 _) ?_);have Gg:=sub_tuple_self;have aoM:=init_tuple_lookup;have hmh:=madeHere_tuple;have hT:=hi.typeIs;have hC:=λ{Q:List f_->g_->Prop} {E:f_->g_->Prop} h=>acr (prog:=prog) (w:=w) (A:=A.in1.in1) (E:=E) (Q:=Q) hh hi hl dr hz h;obtain⟨hp,g,d,t,os⟩:=s
 wp_walk using yI hT,hC
 intro h' tk kp;show wpAny _ _ (AR xs.toList.reverse.toArray >>= λv=>ret v) _ _ _;unfold AR;refine ae (nR ?_ (by show xs.toList.reverse.toArray.size<=bw;simpa using hz));exact aF ⟨⟨_,dh _ xz,xz⟩,h h' tk kp⟩
end
end PySem
namespace L2
open PySem.W
section
variable{X:Cx}
def aj5(K:u_):List V->Hp->VK->Prop:=λvs H Q=>∃(a:e_) (ys:List V),vs=[.ref a]/\aj K H a ys/\∀l,H l=b_->Q (.ref l) (upd H l (.tup ys.reverse))
def afS:pK "reversed" = a_ (.type "reversed"):=by kernel_rfl
def afR:pK "tuple" = a_ (.type "tuple"):=by kernel_rfl
def Vals.rev(h:Vals vs us):Vals vs.reverse us.reverse:=by
 induction h with
 | nil=>exact .nil
 | cons a _ ih=>
  rw[IC,IC];exact ih.append (.cons a .nil)
def adC(hc:X.calm=c_)(hl:Gl X "tuple")(hml:X.mg "tuple" = b_)(hg:Gl X "reversed")(hm:X.mg "reversed" = b_)(ha:PA X [a] ta)(hs:bV [a] X.env=[(d_,eval a X.env)]:=by rfl)
  (nG:bV [.Call (.Name "reversed" p2) [a] [] Ge] X.env=[(d_,eval (.Call (.Name "reversed" p2) [a] [] Ge) X.env)]:=by rfl):PE X (.Call (.Name "tuple" p) [.Call (.Name "reversed" p2) [a] [] Ge] [] pos) (Oz (aj5 X.K) ta):=by
 intro p_ s σ H Q I h;refine yv (rE I hl hml afR ?_ qc qc);refine yq ?_ nG rfl;rw[nG];show wpAny _ _ (spliced ((d_,eval (.Call (.Name "reversed" p2) [a] [] Ge) X.env)::backTo pos [])) _ _ s;refine QF (yv (rE I hg hm afS (yq (Cd (ha Ge p_ s σ H _ I h) λus s1 vs H1 I1 r1 q1=>?_) hs xz) qc qc));obtain⟨a,ys,rfl,hq,q⟩:=q1;obtain⟨u,rfl,rx⟩:=vals1 r1;cases rx;obtain⟨its,r',pl,hz⟩:=I1.list hq;have hlen:=r'.length;refine call_reversed_list pl.isList (QJ ?_);have la:a<s1.zS:=let ⟨o,e,_⟩:=pl.isList;bH e
 refine abM (l:=a) (xs:=its.toArray) (I1.ok.hd hc) ⟨_,dh _ xz,xz,xz⟩ (pl.isList.push _) (cC la) (by rw[cN];omega) λh' tk kp=>?_;have I2:Inv X p_ σ H1 { s1 with heap:=h',toks:=s1.toks }:=I1.kept (t':=s1.toks) λb o e=>kp b o (cC (bH e)) (bh _ e);refine⟨.ref _,_,I2.laid (t':=tk) (λb o e=>bh _ e) (aA _) (show dI X.prog X.w _ _ _ (.tup ys.reverse) from ⟨by rw[aaZ];exact hz,its.reverse,r'.rev,Tj _ _⟩),xz,q _ (I2.aH.fresh (aA _))⟩
end
end L2
namespace L2
section
variable{X:Cx}
def rRm:V->List V->Hp->VK->Prop:=λx vs H Q=>∃(l:e_) (ns:List Int) (i:Int),x=.ref l/\vs=[.int i]/\H l=a_ (.lst (ns.map V.int))/\i∈ns/\Q .aN (upd H l (.lst ((ns.erase i).map V.int)))
def QK:∀(l:List Int) (x:Int) (m:Nat) (hm:m<l.length),l[m]=x->l.idxOf x<=m
 | a::l,x,0,_,e=>by simp at e;simp[List.idxOf_cons,e]
 | a::l,x,m+1,hm,e=>by
  rw[List.idxOf_cons]
  by_cases h:a=x
  .simp[h]
  .have:=QK l x m (by simpa using hm) (by simpa using e);rw[show (a == x)=d_ from beq_eq_false_iff_ne.mpr h];exact wt this
def afJ{ns:List Int}{i:Int}(h:i∈ns):∃j,∃hj:j<ns.length,ns[j]=i/\(∀m (hm:m<ns.length),m<j->ns[m]≠i)/\ns.erase i=ns.eraseIdx j:=by
 refine⟨ns.idxOf i,List.idxOf_lt_length_of_mem h,by simp,λm hm bz e=>?_,List.erase_eq_eraseIdx_of_idxOf xz⟩;exact absurd (QK ns i m hm e) (Nat.not_le_of_lt bz)
def adW:G6 X "list.remove" rRm:=by
 intro p_ s σ H x vs v us Q I rx rv h;obtain⟨l,ns,i,rfl,rfl,hH,hm,q⟩:=h;cases rx;obtain⟨u,rfl,ru⟩:=rv.one;obtain⟨t,rfl⟩:=ru;obtain⟨z,its,n,r,hl,e⟩:=I.qt hH;obtain⟨j,hj,ej,i9,ee⟩:=afJ hm;have hlen:=r.length;rw[aL]at hlen
 have at_:∀m (hm:m<its.toArray.size) (lu:m<ns.length),∃tk,its.toArray[m]=eO ns[m] tk:=λm hm lu=>by
  obtain⟨w,hw,jK⟩:=r.get (show (ns.map V.int)[m]?=a_ (.int ns[m]) by rw[cO,aM lu];rfl);obtain⟨tk,e⟩:=jK;rw[aM (by simpa using hm)]at hw;exact⟨tk,by rw[<-e];simpa using hw⟩
 have hsz:its.toArray.size=ns.length:=by rw[cN];exact hlen.symm
 refine yR F.slot_list_remove ⟨_,e,xz⟩ F.entry_list_remove (F.args_list_remove_2 _ _)
  (MeetsSeq.list_remove l its.toArray n (.int i t) (λy=>match y with | .int a _=>a == i | _=>d_) (λy hy=>?_) j (by rw[hsz];exact hj) ?_ (λm hm bz=>?_) (by rw[cN];omega)) ⟨e,?_⟩
 .obtain⟨m,hm,rfl⟩:=Array.getElem_of_mem hy;obtain⟨tk,e⟩:=at_ m hm om;rw[e];exact MeetsSeq.EqGives.int _ _ _ _
 .obtain⟨tk,e⟩:=at_ j om hj;rw[e];simp[ej]
 .obtain⟨tk,e⟩:=at_ m hm om;rw[e];simp[i9 m om bz]
 .refine⟨.aN,_,I.F4 (ke:=its.eraseIdx j) hH e ?_ (ys:=(ns.erase i).map V.int) ?_ ?_,xz,q⟩
  .show its.toArray.eraseIdxIfInBounds j=(its.eraseIdx j).toArray;rw[aab]
  .have h1:=r.eraseIdx j;rw[ee]
   have em:∀(l:List Int) (j:Nat),(l.eraseIdx j).map V.int=(l.map V.int).eraseIdx j:=λl=>by
    induction l with
    | nil=>intro j;simp
    | cons a l ih=>intro j;cases j with
     | zero=>simp
     | succ j=>simp[ih]
   rw[em];exact h1
  .have:=List.length_erase_le (a:=i) (l:=ns);rw[aL];omega
end
abbrev Cx.wX(X:Cx)(pn:List (e_×Obj))(E:f_->g_->Prop):Cx:={ X with pn:=pn,xe:=E }
section
variable{X:Cx}{p_ pl:List (e_×Obj)}{σ:St}{H:Hp}{s:g_}{E:f_->g_->Prop}
def afh(ok:X.Ok)(pn:List (e_×Obj))(E:f_->g_->Prop):(X.wX pn E).Ok:=
 ⟨ok.mod,ok.kind,ok.glob,ok.blt,ok.above,ok.inj,ok.has,ok.xI,ok.hd,ok.frames,ok.Ab,ok.vL,ok.bs,ok.nD,ok.xn,ok.vq,ok.lS,ok.tU⟩
def acU(ok:(X.wX pn E).Ok):X.Ok:=
 ⟨ok.mod,ok.kind,ok.glob,ok.blt,ok.above,ok.inj,ok.has,ok.xI,ok.hd,ok.frames,ok.Ab,ok.vL,ok.bs,ok.nD,ok.xn,ok.vq,ok.lS,ok.tU⟩
def Inv.wX(I:Inv X p_ σ H s)(E:f_->g_->Prop):Inv (X.wX (X.pn++p_) E) [] σ H s:=
 ⟨afh I.ok _ E,I.os,I.bare,I.base,I.loc,I.cell,I.free,I.kR,λp hp=>I.pin p (by simpa using hp),I.aH,I.len⟩
def Inv.ER(I:Inv (X.wX (X.pn++p_) E) pl σ H s):Inv X p_ σ H s:=
 ⟨acU I.ok,I.os,I.bare,I.base,I.loc,I.cell,I.free,I.kR,λp hp=>I.pin p (nN _ hp),I.aH,I.len⟩
def agL{t:TS}(hb:∀pn:List (e_×Obj),gd (X.wX pn λ_ _=>False) body t):PS X (.Try body (h::hs) [] [] pos) t:=by
 intro p_ s σ H D I q;refine wpAny_Try_except (ie (hb (X.pn++p_) [] s σ H D (I.wX _) q) (λf s1 q=>?_) λ_ _ y=>y.elim);cases f with
 | next=>obtain⟨σ',H',I,q⟩:=q;exact Dz ⟨σ',H',I.ER,q⟩
 | brk=>obtain⟨σ',H',I,q⟩:=q;exact⟨σ',H',I.ER,q⟩
 | cont=>obtain⟨σ',H',I,q⟩:=q;exact⟨σ',H',I.ER,q⟩
 | ret u=>obtain⟨v,σ',H',I,r,q⟩:=q;exact⟨v,σ',H',I.ER,r,q⟩
end
def zo{J:It}{n:Nat}{g:TG}{tb:TS}{D:Ends}{σ:St}{H:Hp}(Pv:Nat->St->Hp->Prop)(h0:Pv 0 σ H)(Pw:∀i σ H,i<n->Pv i σ H->J.go i H)(cB:∀σ H,Pv n σ H->J.stop n H)
  (hs:∀i σ H,i<n->Pv i σ H->∀x H',J.tP i H x H'->g x σ H' λσ2 H2=>tb { D with nx:=Pv (i+1),ct:=Pv (i+1),bk:=D.nx } σ2 H2) (hd:∀σ H,Pv n σ H->D.nx σ H) :
  ∃W:Nat->Nat->St->Hp->Prop,(∃m,W 0 m σ H)/\∀i m σ H,W i m σ H->
   (J.stop i H/\D.nx σ H)\/(J.go i H/\∃N:St->Hp->Prop,(∀σ' H',N σ' H'->∃m',m'<m/\W (i+1) m' σ' H')/\∀x H',J.tP i H x H'->g x σ H' λσ2 H2=>tb { D with nx:=N,ct:=N,bk:=D.nx } σ2 H2):=by
 refine⟨λi m σ H=>m=n-i/\i<=n/\Pv i σ H,⟨n,by simp,a8 _,h0⟩,?_⟩;intro i m σ H ax;refine de ax λaa hi p=>?_;clear ax;subst aa
 by_cases bz:i<n
 .exact .inr ⟨Pw i σ H bz p,⟨Pv (i+1),λσ' H' p'=>⟨n-(i+1),om,xz,bz,p'⟩,hs i σ H bz p⟩⟩
 .have e:i=n:=li;subst e;exact .inl ⟨cB σ H p,hd σ H p⟩
end L2
namespace TL
open PySem.SeqAt L2 L3 L4
variable{P:k_}{w:j_}{K:u_}{mg:Str->Option f_}{base:i_}
def tv(t:Tl):List V:=.str t.1::t.2.map λ(n:Nat)=>V.int (n:Int)
def qf(H:Hp)(v:V)(t:Tl):Prop:=∃a,v=.ref a/\H a=a_ (.tup (tv t))
def IsPart(H:Hp)(v:V)(p:Pt):Prop:=∃a vs,v=.ref a/\H a=a_ (.tup vs)/\Paired (qf H) vs p
def lO(H:Hp)(v:V)(ps:List Pt):Prop:=∃a vs,v=.ref a/\H a=a_ (.tup vs)/\Paired (IsPart H) vs ps
def qf.keep{t:Tl}(k:∀b xs,H b=a_ (.tup xs)->H' b=a_ (.tup xs))(h:qf H v t):qf H' v t:=by
 exact aq h λa e h=>au a e (k _ _ h)
def IsPart.keep(k:∀b xs,H b=a_ (.tup xs)->H' b=a_ (.tup xs))(h:IsPart H v p):IsPart H' v p:=by
 exact eD h λa vs e h r=>dP a vs e (k _ _ h) (Paired.bZ r λ_ _ q=>q.keep k)
def lO.keep(k:∀b xs,H b=a_ (.tup xs)->H' b=a_ (.tup xs))(h:lO H v p):lO H' v p:=by
 exact eD h λa vs e h r=>dP a vs e (k _ _ h) (Paired.bZ r λ_ _ q=>q.keep k)
def NP(b:Bool):Sp:=λvs H Q _=>∃a,vs=[.ref a]/\Q (.bl b) H
def agx:ba zLc zLc (aS Fe):=bj
def acI:ba zLc zLc (aS Ek):=bj
def ack:ba zLc zLc (aS Ed):=bj
def Bt(F:aQ K N_ "Step.empties" Fe f fd):aG P w K mg base aI 1 f fd zLc (NP d_):=by
 refine F.ok agx λaJ A _ s H vs Q E hr h=>?_
 .refine aq h λa aa k=>?_;clear h;subst aa;exact qw (av (aZ jU)) k
def acm(F:aQ K N_ "Swap.empties" Ek f fd):aG P w K mg base aI 1 f fd zLc (NP c_):=by
 refine F.ok acI λaJ A _ s H vs Q E hr h=>?_
 .refine aq h λa aa k=>?_;clear h;subst aa;exact qw (av (aZ jU)) k
def ab8(F:aQ K N_ "Clear.empties" Ed f fd):aG P w K mg base aI 1 f fd zLc (NP c_):=by
 refine F.ok ack λaJ A _ s H vs Q E hr h=>?_
 .refine aq h λa aa k=>?_;clear h;subst aa;exact qw (av (aZ jU)) k
structure C6(K:u_)(c:e_)(t:aW)(Ow Ox Ov NF NC ND:Bool):Prop where
 cl:w_ K (.ref c) "__class__" = a_ (a_ (.builtin "object.__class__"))
 mr:A_ K c (.type "object")=a_ c_
 amy:v_ K (.ref c) (.ref t.jY)=a_ Ow
 amA:v_ K (.ref c) (.ref t.jZ)=a_ Ox
 XD:v_ K (.ref c) (.ref t.iM)=a_ Ov
 aki:v_ K (.ref c) (.ref t.jF)=a_ NF
 akh:v_ K (.ref c) (.ref t.jE)=a_ NC
 WQ:v_ K (.ref c) (.ref t.i7)=a_ ND
structure mm where
 (Ah Xb Xd:e_)
 (N2 Mn Mp:jS)
structure xq(K:u_)(mg:Str->Option f_)(t:aW)(u:mm):Prop where
 st:rO K mg t
 B5:aQ K N_ "Step.empties" Fe u.Ah u.N2
 xK:Binds K u.N2 zLc []
 ai0:aQ K N_ "Swap.empties" Ek u.Xb u.Mn
 Nr:Binds K u.Mn zLc []
 ai5:aQ K N_ "Clear.empties" Ed u.Xd u.Mp
 Nu:Binds K u.Mp zLc []
 gt:W.specialIn K (.builtin "object.__class__") "__get__" = a_ (a_ (.builtin "getset_descriptor.__get__"))
 tk:W.takesIn K (.builtin "object.__class__")=a_ c_
 akR:Meth K t.jY N_ u.Ah
 akS:Meth K t.jZ N_ u.Ah
 akQ:Meth K t.iM N_ u.Ah
 ajb:Meth K t.jF N_ u.Ah
 ai':Meth K t.jE N_ u.Xb
 ahF:Meth K t.rH N_ u.Xd
 aja:Meth K t.i7 N_ u.Ah
 NZ:C6 K t.jY t c_ d_ d_ d_ d_ d_
 N0:C6 K t.jZ t d_ c_ d_ d_ d_ d_
 NY:C6 K t.iM t d_ d_ c_ d_ d_ d_
 Nd:C6 K t.jF t d_ d_ d_ c_ d_ d_
 Nb:C6 K t.jE t d_ d_ d_ d_ c_ d_
 Mm:C6 K t.rH t d_ d_ d_ d_ d_ d_
 Nc:C6 K t.i7 t d_ d_ d_ d_ d_ c_
def jV(t:aW)(H:Hp)(v:V)(s:Tl):Prop:=∃z a dx,v=.ref z/\H z=a_ (.ins (da t s.1) dx (dY (.ref a) s.1 (s.2.map λ(n:Nat)=>V.int (n:Int))))
def jV.keep{t:aW}(k:∀b C dx fs,H b=a_ (.ins C dx fs)->v=.ref b->H' b=a_ (.ins C dx fs))(h:jV t H v s):jV t H' v s:=by
 exact BR h λz a dx e1 h=>⟨z,a,dx,e1,(k _ _ _ _ h e1)⟩
def wL(m:Str)(h:∀f∈([R_,O_,K_,ap5,J_,ac2]:List Str),m≠f)(v:V)(x:Str)(ps:List V):(dY v x ps).lookup m=none:=by
 have h1:=h R_ (by simp);have h2:=h O_ (by simp);have h3:=h K_ (by simp);have h4:=h ap5 (by simp);have h5:=h J_ (by simp);have h6:=h ac2 (by simp);unfold dY
 repeat (first | (split;(simp only[eV,if_neg h1,if_neg h2,if_neg h3,if_neg h4,if_neg h5,if_neg h6];rfl)) | (simp only[eV,if_neg h1,if_neg h2,if_neg h3,if_neg h4,if_neg h5,if_neg h6];rfl))
def jD(s:Tl):Bool:=decide (s.1 = I_)||decide (s.1 = M_)
def E7(t:aW):da t T_ = t.jY:=by kernel_rfl
def aft(ns:List Nat):jD (T_,ns)=false:=by show (decide ((T_ : Str) = I_)||decide ((T_ : Str) = M_))=_;decide +kernel
def E8(t:aW):da t W_ = t.jZ:=by kernel_rfl
def afu(ns:List Nat):jD (W_,ns)=false:=by show (decide ((W_ : Str) = I_)||decide ((W_ : Str) = M_))=_;decide +kernel
def BB(t:aW):da t l_ = t.iM:=by kernel_rfl
def Kw(ns:List Nat):jD (l_,ns)=false:=by show (decide ((l_ : Str) = I_)||decide ((l_ : Str) = M_))=_;decide +kernel
def EJ(t:aW):da t H_ = t.jF:=by kernel_rfl
def ad3(ns:List Nat):jD (H_,ns)=false:=by show (decide ((H_ : Str) = I_)||decide ((H_ : Str) = M_))=_;decide +kernel
def EH(t:aW):da t I_ = t.jE:=by kernel_rfl
def SV(ns:List Nat):jD (I_,ns)=true:=by show (decide ((I_ : Str) = I_)||decide ((I_ : Str) = M_))=_;decide +kernel
def JZ(t:aW):da t M_ = t.rH:=by kernel_rfl
def ac6(ns:List Nat):jD (M_,ns)=true:=by show (decide ((M_ : Str) = I_)||decide ((M_ : Str) = M_))=_;decide +kernel
def EI(t:aW):da t Q_ = t.i7:=by kernel_rfl
def ad2(ns:List Nat):jD (Q_,ns)=false:=by show (decide ((Q_ : Str) = I_)||decide ((Q_ : Str) = M_))=_;decide +kernel
def Ws{t:aW}(T:xq K mg t u){sz:Nat}(g:cG sz s)(hz:H z=a_ (.ins (da t s.1) dx (dY (.ref a) s.1 (s.2.map λ(n:Nat)=>V.int (n:Int))))) :
  ∃C f fd pn sp,H z=a_ (.ins C dx (dY (.ref a) s.1 (s.2.map λ(n:Nat)=>V.int (n:Int))))/\dg K C/\Meth K C N_ f/\aG P w K mg base aI 1 f fd pn sp/\Binds K fd pn []/\∀(Q:VK) (E:XK),Q (.bl (jD s)) H->sp [.ref z] H Q E:=by
 cases g with
 | put r m h1 h2=>
  rw[aft];have hz:H z=a_ (.ins (da t T_) dx _):=hz;rw[E7]at hz;exact⟨_,_,_,_,_,hz,T.st.vg,T.akR,(Bt T.B5),T.xK,(λQ E q=>⟨z,xz,q⟩)⟩
 | add r m h1 h2=>
  rw[afu];have hz:H z=a_ (.ins (da t W_) dx _):=hz;rw[E8]at hz;exact⟨_,_,_,_,_,hz,T.st.tF,T.akS,(Bt T.B5),T.xK,(λQ E q=>⟨z,xz,q⟩)⟩
 | set r m h1 h2=>
  rw[Kw];have hz:H z=a_ (.ins (da t l_) dx _):=hz;rw[BB]at hz;exact⟨_,_,_,_,_,hz,T.st.qm,T.akQ,(Bt T.B5),T.xK,(λQ E q=>⟨z,xz,q⟩)⟩
 | look r m h1 h2=>
  rw[ad3];have hz:H z=a_ (.ins (da t H_) dx _):=hz;rw[EJ]at hz;exact⟨_,_,_,_,_,hz,T.st.rG,T.ajb,(Bt T.B5),T.xK,(λQ E q=>⟨z,xz,q⟩)⟩
 | swap r m h1 h2=>
  rw[SV];have hz:H z=a_ (.ins (da t I_) dx _):=hz;rw[EH]at hz;exact⟨_,_,_,_,_,hz,T.st.qe,T.ai',(acm T.ai0),T.Nr,(λQ E q=>⟨z,xz,q⟩)⟩
 | clear=>
  rw[ac6];have hz:H z=a_ (.ins (da t M_) dx _):=hz;rw[JZ]at hz;exact⟨_,_,_,_,_,hz,T.st.ze,T.ahF,(ab8 T.ai5),T.Nu,(λQ E q=>⟨z,xz,q⟩)⟩
 | skip r m h1 h2 h3=>
  rw[ad2];have hz:H z=a_ (.ins (da t Q_) dx _):=hz;rw[EI]at hz;exact⟨_,_,_,_,_,hz,T.st.rF,T.aja,(Bt T.B5),T.xK,(λQ E q=>⟨z,xz,q⟩)⟩
def Fq{t:aW}(T:xq K mg t u){sz:Nat}(g:cG sz s)(hz:H z=a_ (.ins (da t s.1) dx (dY (.ref a) s.1 (s.2.map λ(n:Nat)=>V.int (n:Int))))) :
  ∃C:e_,gG K H (.ref z) (.ref C)/\C6 K C t (decide (s.1 = T_)) (decide (s.1 = W_)) (decide (s.1 = l_)) (decide (s.1 = H_)) (decide (s.1 = I_)) (decide (s.1 = Q_)):=by
 cases g with
 | put r m h1 h2=>
  have hz:H z=a_ (.ins (da t T_) dx _):=hz;rw[E7]at hz;exact au _ (gG.ins hz T.st.vg T.NZ.cl T.gt T.tk T.NZ.mr) T.NZ
 | add r m h1 h2=>
  have hz:H z=a_ (.ins (da t W_) dx _):=hz;rw[E8]at hz;exact au _ (gG.ins hz T.st.tF T.N0.cl T.gt T.tk T.N0.mr) T.N0
 | set r m h1 h2=>
  have hz:H z=a_ (.ins (da t l_) dx _):=hz;rw[BB]at hz;exact au _ (gG.ins hz T.st.qm T.NY.cl T.gt T.tk T.NY.mr) T.NY
 | look r m h1 h2=>
  have hz:H z=a_ (.ins (da t H_) dx _):=hz;rw[EJ]at hz;exact au _ (gG.ins hz T.st.rG T.Nd.cl T.gt T.tk T.Nd.mr) T.Nd
 | swap r m h1 h2=>
  have hz:H z=a_ (.ins (da t I_) dx _):=hz;rw[EH]at hz;exact au _ (gG.ins hz T.st.qe T.Nb.cl T.gt T.tk T.Nb.mr) T.Nb
 | clear=>
  have hz:H z=a_ (.ins (da t M_) dx _):=hz;rw[JZ]at hz;exact au _ (gG.ins hz T.st.ze T.Mm.cl T.gt T.tk T.Mm.mr) T.Mm
 | skip r m h1 h2 h3=>
  have hz:H z=a_ (.ins (da t Q_) dx _):=hz;rw[EI]at hz;exact au _ (gG.ins hz T.st.rF T.Nc.cl T.gt T.tk T.Nc.mr) T.Nc
structure Act where
 (k:Str) (c n:Nat) (got gave seen:Option Int)
def oV:Option Int->V
 | none=>.aN
 | some i=>.int i
def XW(a:Act):List V:=[.str a.k,.int (a.c:Nat),.int (a.n:Nat),oV a.got,oV a.gave,oV a.seen]
def jk(H:Hp)(v:V)(a:Act):Prop:=∃p,v=.ref p/\H p=a_ (.tup (XW a))
structure Ck where
 (pl ct:Nat) (rg:List Int) (tn:Int) (es:List Ent)
structure Mc where
 (kd:Str) (ps:List Pt) (ck:List Ck) (bd:List Int) (ac:List Act) (ov:List (List Int))
structure MA where
 (lt:e_) (ts:List (e_×e_×List e_)) (pg st pl ct rg:e_) (rs:List e_) (ce ac cm:e_) (cs:List e_)
def Wi:List Str:=["at_end","may_do","carries","moves","do","do_step","do_set","do_look","do_swap",Z_,"come","on_board","settle","ended","where","steps_done","registers","waiting","board","deeds","deeds_done","deed_at","over","twin"]
structure vy(fs:List (Str×V))(A:MA)(S:Mc):Prop where
 gE:fs.lookup ("trays" : Str)=a_ (.ref A.lt)
 program:fs.lookup ("program" : Str)=a_ (.ref A.pg)
 kind:fs.lookup (S_ : Str)=a_ (.str S.kd)
 steps:fs.lookup ("steps" : Str)=a_ (.ref A.st)
 places:fs.lookup ("places" : Str)=a_ (.ref A.pl)
 counts:fs.lookup ("counts" : Str)=a_ (.ref A.ct)
 fg:fs.lookup ("regs" : Str)=a_ (.ref A.rg)
 cells:fs.lookup ("cells" : Str)=a_ (.ref A.ce)
 gV:fs.lookup ("acts" : Str)=a_ (.ref A.ac)
 kL:fs.lookup ("comers" : Str)=a_ (.ref A.cm)
 ms:∀m∈Wi,fs.lookup m=b_
 lZ:fs.length<=20
abbrev YX(CT:e_)(kd:Str)(H:Hp)(x:e_×e_×List e_)(k:Ck):Prop:=dC H x.1 CT kd k.tn k.es x.2.1 x.2.2
def zf(t:aW)(H:Hp)(v:V)(p:Pt):Prop:=∃b us,v=.ref b/\H b=a_ (.tup us)/\Paired (jV t H) us p
structure bf(t:aW)(C CT:e_)(H:Hp)(m:e_)(A:MA)(S:Mc):Prop where
 obj:∃dx fs,H m=a_ (.ins C dx fs)/\vy fs A S
 lt:H A.lt=a_ (.lst (A.ts.map λx=>V.ref x.1))
 ts:Paired (YX CT S.kd H) A.ts S.ck
 pg:lO H (.ref A.pg) S.ps
 st:∃vs,H A.st=a_ (.tup vs)/\Paired (zf t H) vs S.ps
 pl:H A.pl=a_ (.lst (S.ck.map λk=>V.int (k.pl:Nat)))
 ct:H A.ct=a_ (.lst (S.ck.map λk=>V.int (k.ct:Nat)))
 rg:H A.rg=a_ (.lst (A.rs.map V.ref))
 rs:Paired (λa (k:Ck)=>H a=a_ (.lst (k.rg.map V.int))) A.rs S.ck
 ce:H A.ce=a_ (.lst (S.bd.map V.int))
 ac:∃vs,H A.ac=a_ (.lst vs)/\Paired (jk H) vs S.ac
 cm:H A.cm=a_ (.lst (A.cs.map V.ref))
 cs:Paired (λa (o:List Int)=>H a=a_ (.lst (o.map V.int))) A.cs S.ov
structure jn(lab:e_->Nat)(m:e_)(A:MA):Prop where
 m:lab m=2
 lt:lab A.lt=4
 pl:lab A.pl=6
 ct:lab A.ct=8
 rg:lab A.rg=10
 ce:lab A.ce=12
 ac:lab A.ac=14
 cm:lab A.cm=16
 rs:∀i a,A.rs[i]?=a_ a->lab a=24+6*i
 cs:∀i a,A.cs[i]?=a_ a->lab a=26+6*i
 ts:∀i x,A.ts[i]?=a_ x->∀b∈x.1::x.2.1::x.2.2,lab b=28+6*i
inductive cq (m:e_) (A:MA):e_->Prop
 | m:cq m A m
 | lt:cq m A A.lt
 | pl:cq m A A.pl
 | ct:cq m A A.ct
 | rg:cq m A A.rg
 | ce:cq m A A.ce
 | ac:cq m A A.ac
 | cm:cq m A A.cm
 | rs {a:e_}:a∈A.rs->cq m A a
 | cs {a:e_}:a∈A.cs->cq m A a
 | ts {x:e_×e_×List e_} {b:e_}:x∈A.ts->b∈x.1::x.2.1::x.2.2->cq m A b
structure aY(F:e_->Prop)(H H':Hp):Prop where
 k:∀b o,¬F b->(∀ps,o≠.eY ps)->H b=a_ o->H' b=a_ o
 t:∀b,H' b=b_->H b=b_
def aY.of(s:af H H'):aY F H H':=⟨λb o _ _ e=>s b o e,λb h=>s.free h⟩
def aY.refl(H:Hp):aY F H H:=⟨λ_ _ _ _ e=>e,λ_ h=>h⟩
def aY.trans(a:aY F H H1)(b:aY F H1 H2):aY F H H2:=⟨λc o h1 h2 e=>b.k c o h1 h2 (a.k c o h1 h2 e),λc h=>a.t c (b.t c h)⟩
def aY.mono{F G:e_->Prop}(a:aY F H H')(h:∀b,F b->G b):aY G H H':=⟨λc o h1 h2 e=>a.k c o (λz=>h1 (h c z)) h2 e,a.t⟩
def aY.OB{G:e_->Prop}(a:gx F H H')(h:∀b∈F,G b):aY G H H':=⟨λc o h1 h2 e=>a.k c o (λz=>h1 (h c z)) h2 e,a.t⟩
def aY.upd(h:F x):aY F H (upd H x o):=⟨λb q n _ e=>by rw[ai λz=>n (by rw[z];exact h)];exact e,λb e=>by
 by_cases z:b=x
 .rw[z,ao]at e;cases e
 .rwa[ai z]at e⟩
def gx.ofA(k:FU (a::q::qr) H H')(T:dC H' a C kd tn es q qr):gx (a::q::qr) H H':=
 ⟨λc o h1 _ e=>k c o h1 e,λc h=>by
  by_cases z:c∈a::q::qr
  .refine oE (T.there c z) λo e=>?_;rw[e]at h;cases h
  .cases e:H c with
   | none=>rfl
   | some o=>rw[k c o z e]at h;cases h⟩
def su:e_->Prop:=λ_=>False
def gL{α β:Type}{F:α->β->Prop}{G:α->β->Prop}:∀{l:List α} {r:List β},Paired F l r->(∀(i:Nat) a b,l[i]?=a_ a->r[i]?=a_ b->F a b->G a b)->Paired G l r
 | _,_,.nil,_=>.nil
 | _,_,.cons h t,k=>.cons (k 0 _ _ xz xz h) (gL t λi a b e1 e2 q=>k (i+1) a b (by simpa using e1) (by simpa using e2) q)
def zf.keep{t:aW}(kt:∀b xs,H b=a_ (.tup xs)->H' b=a_ (.tup xs))(ki:∀b C dx fs,H b=a_ (.ins C dx fs)->(∃x ps v,C=da t x/\fs=dY v x ps)->H' b=a_ (.ins C dx fs))(h:zf t H v p):zf t H' v p:=by
 exact eD h λb us e h1 h2=>dP b us e (kt _ _ h1) (Paired.bZ h2 λv s q=>BR q λz a dx e1 q=>⟨z,a,dx,e1,(ki _ _ _ _ q (oX _ _ (au _ xz xz)))⟩)
def jk.keep(k:∀b xs,H b=a_ (.tup xs)->H' b=a_ (.tup xs))(h:jk H v a):jk H' v a:=by
 exact aq h λp e h=>au p e (k _ _ h)
def pO{α β:Type}{F:α->β->Prop}:∀{l:List α} {r:List β} {i:Nat} {y:β},Paired F l r->r[i]?=a_ y->∃x,l[i]?=a_ x/\F x y
 | _,_,_,_,.nil,e=>by simp at e
 | _,_,0,_,.cons h _,e=>by simp at e;subst e;exact⟨_,xz,h⟩
 | _,_,i+1,x,.cons _ t,e=>by
  exact aq (pO (i:=i) t (by simpa using e)) λy h1 h2=>au y (by simpa using h1) h2
def uE{α β:Type}{F:α->β->Prop}{l':List α}{r':List β}(h':Paired F l' r'):∀{l:List α} {r:List β},Paired F l r->Paired F (l++l') (r++r')
 | _,_,.nil=>h'
 | _,_,.cons g t=>.cons g (uE h' t)
def pN{α β:Type}{F:α->β->Prop}:∀{l:List α} {m:List β} {b:α},Paired F l m->b∈l->∃y,y∈m/\F b y
 | _,_,_,.nil,h=>by simp at h
 | _,_,_,.cons h t,e=>by
  rcases bX.mp e with z | z
  .subst z;exact⟨_,by simp,h⟩
  .exact aq (pN t z) λy hy q=>au y (eL _ hy) q
def bf.keep{t:aW}(M:bf t C CT H m A S)(k:∀b,cq m A b->∀o,H b=a_ o->H' b=a_ o)(kt:∀b xs,H b=a_ (.tup xs)->H' b=a_ (.tup xs))(ki:∀b C dx fs,H b=a_ (.ins C dx fs)->H' b=a_ (.ins C dx fs)):bf t C CT H' m A S:=by
 obtain⟨⟨dx,fs,h1,h2⟩,lt,ts,pg,⟨vs,s1,s2⟩,pl,ct,rg,rs,ce,⟨us,a1,a2⟩,cm,cs⟩:=M;exact⟨⟨dx,fs,k _ .m _ h1,h2⟩,k _ .lt _ lt,gL ts λi x c hx _ q=>q.keep (λb hb o e=>k b (.ts (bu hx) hb) o e) kt,pg.keep kt,⟨vs,kt _ _ s1,Paired.bZ s2 λ_ _ q=>q.keep kt λb C dx fs e _=>ki b C dx fs e⟩,k _ .pl _ pl,k _ .ct _ ct,k _ .rg _ rg,gL rs λi x c hx _ q=>k x (.rs (bu hx)) _ q,k _ .ce _ ce,⟨us,k _ .ac _ a1,Paired.bZ a2 λ_ _ q=>q.keep kt⟩,k _ .cm _ cm,gL cs λi x c hx _ q=>k x (.cs (bu hx)) _ q⟩
def bf.Na{t:aW}{F:e_->Prop}(M:bf t C CT H m A S)(k:aY F H H')(hF:∀b,F b->¬cq m A b/\∀o,H b=a_ o->∃xs,o=.lst xs):bf t C CT H' m A S:=by
 have nt:∀b o,cq m A b->H b=a_ o->∀ps,o≠.eY ps:=by
  intro b o hb e ps z;subst z;cases hb with
  | m=>obtain⟨dx,fs,h,_⟩:=M.obj;rw[h]at e;cases e
  | lt=>rw[M.lt]at e;cases e
  | pl=>rw[M.pl]at e;cases e
  | ct=>rw[M.ct]at e;cases e
  | rg=>rw[M.rg]at e;cases e
  | ce=>rw[M.ce]at e;cases e
  | ac=>obtain⟨vs,h,_⟩:=M.ac;rw[h]at e;cases e
  | cm=>rw[M.cm]at e;cases e
  | rs h=>
   refine aq (pN M.rs h) λc _ q=>?_;rw[q]at e;cases e
  | cs h=>
   refine aq (pN M.cs h) λc _ q=>?_;rw[q]at e;cases e
  | ts h h2=>
   refine aq (pN M.ts h) λc _ q=>?_;rcases q.kinds _ h2 _ e with ⟨_,_,_,z⟩ | ⟨_,z⟩ <;> cases z
 refine M.keep (λb hb o e=>k.k b o (λz=>(hF b z).1 hb) (nt b o hb e) e) (λb xs e=>k.k b _ (λz=>?_) (λps z=>by cases z) e) λb C dx fs e=>k.k b _ (λz=>?_) (λps z=>by cases z) e
 .refine oE ((hF b z).2 _ e) λys q=>?_;cases q
 .refine oE ((hF b z).2 _ e) λys q=>?_;cases q
def bf.same{t:aW}(M:bf t C CT H m A S)(s:af H H'):bf t C CT H' m A S:=M.keep (λb _ o e=>s b o e) (λb xs e=>s b _ e) λb C dx fs e=>s b _ e
def bf.oz{t:aW}(M:bf t C CT H m A S)(k:aY su H H'):bf t C CT H' m A S:=M.Na k λb z=>z.elim
def gz{a b c m:Nat}(l:a<b:=by decide):a≠b+m*c:=λh=>je a (gj l (h ▸ Dy b (m*c)))
def oW{a b c m:Nat}(l:a<b:=by decide):b+m*c≠a:=λe=>gz (l:=l) e.symm
def vG{a b i c m:Nat}(l:a%m≠b%m:=by decide):a+m*i≠b+m*c:=λh=>l (by rw[<-aan a m i,h,aan])
def Af(h:i≠c:=by with_reducible assumption):a+(b+1)*i≠a+(b+1)*c:=λe=>h (Nat.eq_of_mul_eq_mul_left (Rt b) (Nat.add_left_cancel e))
def ft(n:a≠b:=by decide):a≠b:=n
def bR(e1:p=a)(e2:q=b)(n:a≠b):p≠q:=λh=>n (e1.symm.trans (h.trans e2))
def qA(e1:p=a)(n:a≠q):p≠q:=λh=>n (e1.symm.trans h)
def bP{lab:e_->Nat}(h:lab a≠lab b):a≠b:=λe=>h (by rw[e])
def yH{α β:Type}{f:α->β}{r:List α}{c:Nat}{k k':α}(h:r[c]?=a_ k)(e:f k'=f k):(r.set c k').map f=r.map f:=by
 rw[Bd,e];refine oE (bK.mp h) λhc hk=>?_;rw[<-hk]
 exact A4 λi=>by
  rw[abj]
  split
  .rename_i hi
   subst hi
   split
   .rw[cO,aM hc];rfl
   .rename_i hn;rw[aL]at hn;exact absurd hc hn
  .rfl
def wF{α β:Type}{F:α->β->Prop}{b':β}:∀{l:List α} {r:List β} {c:Nat} {b:β},Paired F l r->r[c]?=a_ b->(∀a,l[c]?=a_ a->F a b->F a b')->Paired F l (r.set c b')
 | _,_,_,_,.nil,_,_=>.nil
 | _,_,0,b,.cons h t,e,k=>by
  simp only[List.getElem?_cons_zero,wj]at e;subst e;exact .cons (k _ xz h) t
 | _,_,c+1,b,.cons h t,e,k=>by
  rw[Qp]at e;exact .cons h (wF t e λa ha=>k a (by simpa using ha))
def D8{α β:Type}{F G:α->β->Prop}{b':β}:∀{l:List α} {r:List β} {c:Nat},Paired F l r->(∀i a b,i≠c->l[i]?=a_ a->r[i]?=a_ b->F a b->G a b)->(∀a b,l[c]?=a_ a->r[c]?=a_ b->F a b->G a b')->Paired G l (r.set c b')
 | _,_,_,.nil,_,_=>.nil
 | _,_,0,.cons h t,k,k'=>by
  refine .cons (k' _ _ xz xz h) (gL t λi a b e1 e2 q=>k (i+1) a b li (by simpa using e1) (by simpa using e2) q)
 | _,_,c+1,.cons h t,k,k'=>by
  refine .cons (k 0 _ _ li xz xz h) (D8 t (λi a b hi e1 e2 q=>k (i+1) a b li (by simpa using e1) (by simpa using e2) q) λa b e1 e2 q=>k' a b (by simpa using e1) (by simpa using e2) q)
def mE{α β:Type}{F:α->β->Prop}{a:α}{b:β}:∀{l:List α} {r:List β},Paired F l r->F a b->Paired F (l++[a]) (r++[b])
 | _,_,.nil,h=>.cons h .nil
 | _,_,.cons g t,h=>.cons g (mE t h)
section
variable{t:aW}{C CT:e_}{H:Hp}{m:e_}{A:MA}{S:Mc}{lab:e_->Nat}
def pV(hx:H x=a_ (.lst xs)):∀b ys,H b=a_ (.tup ys)->upd H x o b=a_ (.tup ys):=λb ys e=>by rw[ai (gU e hx (by intro z;cases z))];exact e
def y9(hx:H x=a_ (.lst xs)):∀b C dx fs,H b=a_ (.ins C dx fs)->upd H x o b=a_ (.ins C dx fs):=λb C dx fs e=>by rw[ai (gU e hx (by intro z;cases z))];exact e
def Vf{PT x:e_}(hx:H x=a_ (.lst xs))(h:cQ PT pos q H):cQ PT pos q (upd H x o):=
 yP (F:=[x]) h (λb o' n e=>by rw[ai λz=>n (by rw[z];exact cD.mpr xz)];exact e) λb hb o' e=>by rw[cD.mp hb,hx]at e;cases e;exact .inr ⟨_,xz⟩
def ajP(M:bf t C CT H m A S)(L:jn lab m A){c:Nat}{k:Ck}(hk:S.ck[c]?=a_ k)(v:Nat):bf t C CT (upd H A.pl (.lst ((S.ck.map λk=>V.int (k.pl:Nat)).set c (.int (v:Nat))))) m A { S with ck:=S.ck.set c { k with pl:=v } }:=by
 obtain⟨⟨dx,fs,h1,h2⟩,lt,ts,pg,⟨vs,s1,s2⟩,pl,ct,rg,rs,ce,⟨us,a1,a2⟩,cm,cs⟩:=M;have bD:=L.pl;have kt:=pV (o:=.lst ((S.ck.map λk=>V.int (k.pl:Nat)).set c (.int (v:Nat)))) pl;have ki:=y9 (o:=.lst ((S.ck.map λk=>V.int (k.pl:Nat)).set c (.int (v:Nat)))) pl;have h2:vy fs A { S with ck:=S.ck.set c { k with pl:=v } }:=⟨h2.gE,h2.program,h2.kind,h2.steps,h2.places,h2.counts,h2.fg,h2.cells,h2.gV,h2.kL,h2.ms,h2.lZ⟩
 exact⟨⟨dx,fs,(ai (bP (lab:=lab) (bR L.m bD ft))).trans h1,h2⟩,(ai (bP (lab:=lab) (bR L.lt bD ft))).trans lt,wF (gL ts λi x c hx _ q=>dC.keep q (λb hb o e=>(ai (bP (lab:=lab) (bR (L.ts i x hx b hb) bD oW))).trans e) kt) hk λa _ q=>q,pg.keep kt,⟨vs,kt _ _ s1,Paired.bZ s2 λ_ _ q=>q.keep kt λb C dx fs e _=>ki b C dx fs e⟩,by
   show upd H _ _ A.pl=a_ (.lst ((S.ck.set c { k with pl:=v }).map λk=>V.int (k.pl:Nat)));rw[ao,Bd],by
   show upd H _ _ A.ct=a_ (.lst ((S.ck.set c { k with pl:=v }).map λk=>V.int (k.ct:Nat)));rw[yH (f:=λk:Ck=>V.int (k.ct:Nat)) (k':={ k with pl:=v }) hk rfl];exact(ai (bP (lab:=lab) (bR L.ct bD ft))).trans ct,(ai (bP (lab:=lab) (bR L.rg bD ft))).trans rg,wF (gL rs λi x c hx _ q=>(ai (bP (lab:=lab) (bR (L.rs i x hx) bD oW))).trans q) hk λa _ q=>q,(ai (bP (lab:=lab) (bR L.ce bD ft))).trans ce,⟨us,(ai (bP (lab:=lab) (bR L.ac bD ft))).trans a1,Paired.bZ a2 λ_ _ q=>q.keep kt⟩,(ai (bP (lab:=lab) (bR L.cm bD ft))).trans cm,gL cs λi x c hx _ q=>(ai (bP (lab:=lab) (bR (L.cs i x hx) bD oW))).trans q⟩
def ajR(M:bf t C CT H m A S)(L:jn lab m A){c:Nat}{k:Ck}(hk:S.ck[c]?=a_ k)(v:Nat):bf t C CT (upd H A.ct (.lst ((S.ck.map λk=>V.int (k.ct:Nat)).set c (.int (v:Nat))))) m A { S with ck:=S.ck.set c { k with ct:=v } }:=by
 obtain⟨⟨dx,fs,h1,h2⟩,lt,ts,pg,⟨vs,s1,s2⟩,pl,ct,rg,rs,ce,⟨us,a1,a2⟩,cm,cs⟩:=M;have bD:=L.ct;have kt:=pV (o:=.lst ((S.ck.map λk=>V.int (k.ct:Nat)).set c (.int (v:Nat)))) ct;have ki:=y9 (o:=.lst ((S.ck.map λk=>V.int (k.ct:Nat)).set c (.int (v:Nat)))) ct;have h2:vy fs A { S with ck:=S.ck.set c { k with ct:=v } }:=⟨h2.gE,h2.program,h2.kind,h2.steps,h2.places,h2.counts,h2.fg,h2.cells,h2.gV,h2.kL,h2.ms,h2.lZ⟩
 exact⟨⟨dx,fs,(ai (bP (lab:=lab) (bR L.m bD ft))).trans h1,h2⟩,(ai (bP (lab:=lab) (bR L.lt bD ft))).trans lt,wF (gL ts λi x c hx _ q=>dC.keep q (λb hb o e=>(ai (bP (lab:=lab) (bR (L.ts i x hx b hb) bD oW))).trans e) kt) hk λa _ q=>q,pg.keep kt,⟨vs,kt _ _ s1,Paired.bZ s2 λ_ _ q=>q.keep kt λb C dx fs e _=>ki b C dx fs e⟩,by
   show upd H _ _ A.pl=a_ (.lst ((S.ck.set c { k with ct:=v }).map λk=>V.int (k.pl:Nat)));rw[yH (f:=λk:Ck=>V.int (k.pl:Nat)) (k':={ k with ct:=v }) hk rfl];exact(ai (bP (lab:=lab) (bR L.pl bD ft))).trans pl,by
   show upd H _ _ A.ct=a_ (.lst ((S.ck.set c { k with ct:=v }).map λk=>V.int (k.ct:Nat)));rw[ao,Bd],(ai (bP (lab:=lab) (bR L.rg bD ft))).trans rg,wF (gL rs λi x c hx _ q=>(ai (bP (lab:=lab) (bR (L.rs i x hx) bD oW))).trans q) hk λa _ q=>q,(ai (bP (lab:=lab) (bR L.ce bD ft))).trans ce,⟨us,(ai (bP (lab:=lab) (bR L.ac bD ft))).trans a1,Paired.bZ a2 λ_ _ q=>q.keep kt⟩,(ai (bP (lab:=lab) (bR L.cm bD ft))).trans cm,gL cs λi x c hx _ q=>(ai (bP (lab:=lab) (bR (L.cs i x hx) bD oW))).trans q⟩
def FA(M:bf t C CT H m A S)(L:jn lab m A){c:Nat}{k:Ck}(hk:S.ck[c]?=a_ k)(ha:A.rs[c]?=a_ a)(r:Nat)(v:Int):bf t C CT (upd H a (.lst ((k.rg.map V.int).set r (.int v)))) m A { S with ck:=S.ck.set c { k with rg:=k.rg.set r v } }:=by
 obtain⟨⟨dx,fs,h1,h2⟩,lt,ts,pg,⟨vs,s1,s2⟩,pl,ct,rg,rs,ce,⟨us,a1,a2⟩,cm,cs⟩:=M
 have iE:H a=a_ (.lst (k.rg.map V.int)):=by
  refine aq (D9 rs ha) λk2 e2 q=>?_;rw[hk]at e2;cases e2;exact q
 have bD:=L.rs c a ha;have kt:=pV (o:=.lst ((k.rg.map V.int).set r (.int v))) iE;have ki:=y9 (o:=.lst ((k.rg.map V.int).set r (.int v))) iE;have h2:vy fs A { S with ck:=S.ck.set c { k with rg:=k.rg.set r v } }:=⟨h2.gE,h2.program,h2.kind,h2.steps,h2.places,h2.counts,h2.fg,h2.cells,h2.gV,h2.kL,h2.ms,h2.lZ⟩
 exact⟨⟨dx,fs,(ai (bP (lab:=lab) (bR L.m bD gz))).trans h1,h2⟩,(ai (bP (lab:=lab) (bR L.lt bD gz))).trans lt,wF (gL ts λi x c hx _ q=>dC.keep q (λb hb o e=>(ai (bP (lab:=lab) (bR (L.ts i x hx b hb) bD vG))).trans e) kt) hk λa _ q=>q,pg.keep kt,⟨vs,kt _ _ s1,Paired.bZ s2 λ_ _ q=>q.keep kt λb C dx fs e _=>ki b C dx fs e⟩,by
   show upd H _ _ A.pl=a_ (.lst ((S.ck.set c { k with rg:=k.rg.set r v }).map λk=>V.int (k.pl:Nat)));rw[yH (f:=λk:Ck=>V.int (k.pl:Nat)) (k':={ k with rg:=k.rg.set r v }) hk rfl];exact(ai (bP (lab:=lab) (bR L.pl bD gz))).trans pl,by
   show upd H _ _ A.ct=a_ (.lst ((S.ck.set c { k with rg:=k.rg.set r v }).map λk=>V.int (k.ct:Nat)));rw[yH (f:=λk:Ck=>V.int (k.ct:Nat)) (k':={ k with rg:=k.rg.set r v }) hk rfl];exact(ai (bP (lab:=lab) (bR L.ct bD gz))).trans ct,(ai (bP (lab:=lab) (bR L.rg bD gz))).trans rg,D8 rs (λi x b hi hx _ q=>(ai (bP (lab:=lab) (bR (L.rs i x hx) bD Af))).trans q) λx b hx hb q=>by
   rw[ha]at hx;cases hx;show upd H a _ a=a_ (.lst ((k.rg.set r v).map V.int));rw[ao,Bd],(ai (bP (lab:=lab) (bR L.ce bD gz))).trans ce,⟨us,(ai (bP (lab:=lab) (bR L.ac bD gz))).trans a1,Paired.bZ a2 λ_ _ q=>q.keep kt⟩,(ai (bP (lab:=lab) (bR L.cm bD gz))).trans cm,gL cs λi x c hx _ q=>(ai (bP (lab:=lab) (bR (L.cs i x hx) bD vG))).trans q⟩
def ajS(M:bf t C CT H m A S)(L:jn lab m A)(n:Nat)(v:Int):bf t C CT (upd H A.ce (.lst ((S.bd.map V.int).set n (.int v)))) m A { S with bd:=S.bd.set n v }:=by
 obtain⟨⟨dx,fs,h1,h2⟩,lt,ts,pg,⟨vs,s1,s2⟩,pl,ct,rg,rs,ce,⟨us,a1,a2⟩,cm,cs⟩:=M;have bD:=L.ce;have kt:=pV (o:=.lst ((S.bd.map V.int).set n (.int v))) ce;have ki:=y9 (o:=.lst ((S.bd.map V.int).set n (.int v))) ce;have h2:vy fs A { S with bd:=S.bd.set n v }:=⟨h2.gE,h2.program,h2.kind,h2.steps,h2.places,h2.counts,h2.fg,h2.cells,h2.gV,h2.kL,h2.ms,h2.lZ⟩
 exact⟨⟨dx,fs,(ai (bP (lab:=lab) (bR L.m bD ft))).trans h1,h2⟩,(ai (bP (lab:=lab) (bR L.lt bD ft))).trans lt,gL ts λi x c hx _ q=>dC.keep q (λb hb o e=>(ai (bP (lab:=lab) (bR (L.ts i x hx b hb) bD oW))).trans e) kt,pg.keep kt,⟨vs,kt _ _ s1,Paired.bZ s2 λ_ _ q=>q.keep kt λb C dx fs e _=>ki b C dx fs e⟩,(ai (bP (lab:=lab) (bR L.pl bD ft))).trans pl,(ai (bP (lab:=lab) (bR L.ct bD ft))).trans ct,(ai (bP (lab:=lab) (bR L.rg bD ft))).trans rg,gL rs λi x c hx _ q=>(ai (bP (lab:=lab) (bR (L.rs i x hx) bD oW))).trans q,by
   show upd H _ _ A.ce=a_ (.lst ((S.bd.set n v).map V.int));rw[ao,Bd],⟨us,(ai (bP (lab:=lab) (bR L.ac bD ft))).trans a1,Paired.bZ a2 λ_ _ q=>q.keep kt⟩,(ai (bP (lab:=lab) (bR L.cm bD ft))).trans cm,gL cs λi x c hx _ q=>(ai (bP (lab:=lab) (bR (L.cs i x hx) bD oW))).trans q⟩
def Mz(M:bf t C CT H m A S)(L:jn lab m A){ws:List V}(hw:H A.ac=a_ (.lst ws))(hx:jk H x a):bf t C CT (upd H A.ac (.lst (ws++[x]))) m A { S with ac:=S.ac++[a] }:=by
 obtain⟨⟨dx,fs,h1,h2⟩,lt,ts,pg,⟨vs,s1,s2⟩,pl,ct,rg,rs,ce,⟨us,a1,a2⟩,cm,cs⟩:=M;obtain rfl:ws=us:=by rw[hw]at a1;cases a1;rfl
 have bD:=L.ac;have kt:=pV (o:=.lst (ws++[x])) hw;have ki:=y9 (o:=.lst (ws++[x])) hw;have h2:vy fs A { S with ac:=S.ac++[a] }:=⟨h2.gE,h2.program,h2.kind,h2.steps,h2.places,h2.counts,h2.fg,h2.cells,h2.gV,h2.kL,h2.ms,h2.lZ⟩;exact⟨⟨dx,fs,(ai (bP (lab:=lab) (bR L.m bD ft))).trans h1,h2⟩,(ai (bP (lab:=lab) (bR L.lt bD ft))).trans lt,gL ts λi x c hx _ q=>dC.keep q (λb hb o e=>(ai (bP (lab:=lab) (bR (L.ts i x hx b hb) bD oW))).trans e) kt,pg.keep kt,⟨vs,kt _ _ s1,Paired.bZ s2 λ_ _ q=>q.keep kt λb C dx fs e _=>ki b C dx fs e⟩,(ai (bP (lab:=lab) (bR L.pl bD ft))).trans pl,(ai (bP (lab:=lab) (bR L.ct bD ft))).trans ct,(ai (bP (lab:=lab) (bR L.rg bD ft))).trans rg,gL rs λi x c hx _ q=>(ai (bP (lab:=lab) (bR (L.rs i x hx) bD oW))).trans q,(ai (bP (lab:=lab) (bR L.ce bD ft))).trans ce,⟨ws++[x],ao,mE (Paired.bZ a2 λ_ _ q=>q.keep kt) (hx.keep kt)⟩,(ai (bP (lab:=lab) (bR L.cm bD ft))).trans cm,gL cs λi x c hx _ q=>(ai (bP (lab:=lab) (bR (L.cs i x hx) bD oW))).trans q⟩
def ajQ(M:bf t C CT H m A S)(L:jn lab m A){n:Nat}(hn:S.ov[n]?=a_ ov)(ha:A.cs[n]?=a_ a)(d:Int):bf t C CT (upd H a (.lst (ov.map V.int++[.int d]))) m A { S with ov:=S.ov.set n (ov++[d]) }:=by
 obtain⟨⟨dx,fs,h1,h2⟩,lt,ts,pg,⟨vs,s1,s2⟩,pl,ct,rg,rs,ce,⟨us,a1,a2⟩,cm,cs⟩:=M
 have pD:H a=a_ (.lst (ov.map V.int)):=by
  refine aq (D9 cs ha) λo2 e2 q=>?_;rw[hn]at e2;cases e2;exact q
 have bD:=L.cs n a ha;have kt:=pV (o:=.lst (ov.map V.int++[.int d])) pD;have ki:=y9 (o:=.lst (ov.map V.int++[.int d])) pD;have h2:vy fs A { S with ov:=S.ov.set n (ov++[d]) }:=⟨h2.gE,h2.program,h2.kind,h2.steps,h2.places,h2.counts,h2.fg,h2.cells,h2.gV,h2.kL,h2.ms,h2.lZ⟩
 exact⟨⟨dx,fs,(ai (bP (lab:=lab) (bR L.m bD gz))).trans h1,h2⟩,(ai (bP (lab:=lab) (bR L.lt bD gz))).trans lt,gL ts λi x c hx _ q=>dC.keep q (λb hb o e=>(ai (bP (lab:=lab) (bR (L.ts i x hx b hb) bD vG))).trans e) kt,pg.keep kt,⟨vs,kt _ _ s1,Paired.bZ s2 λ_ _ q=>q.keep kt λb C dx fs e _=>ki b C dx fs e⟩,(ai (bP (lab:=lab) (bR L.pl bD gz))).trans pl,(ai (bP (lab:=lab) (bR L.ct bD gz))).trans ct,(ai (bP (lab:=lab) (bR L.rg bD gz))).trans rg,gL rs λi x c hx _ q=>(ai (bP (lab:=lab) (bR (L.rs i x hx) bD vG))).trans q,(ai (bP (lab:=lab) (bR L.ce bD gz))).trans ce,⟨us,(ai (bP (lab:=lab) (bR L.ac bD gz))).trans a1,Paired.bZ a2 λ_ _ q=>q.keep kt⟩,(ai (bP (lab:=lab) (bR L.cm bD gz))).trans cm,D8 cs (λi x b hi hx _ q=>(ai (bP (lab:=lab) (bR (L.cs i x hx) bD Af))).trans q) λx b hx hb q=>by
   rw[ha]at hx;cases hx;rw[ao,fv];rfl⟩
def Wz{c:Nat}{k:Ck}{x:e_×e_×List e_}{tn:Int}(M:bf t C CT H m A S)(L:jn lab m A)(hk:S.ck[c]?=a_ k)(hx:A.ts[c]?=a_ x)(kp:gx (x.1::x.2.1::x.2.2) H H')(T:dC H' x.1 CT S.kd tn es x.2.1 x.2.2) :
  bf t C CT H' m A { S with ck:=S.ck.set c { k with tn:=tn,es:=es } }:=by
 obtain⟨⟨dx,fs,h1,h2⟩,lt,ts,pg,⟨vs,s1,s2⟩,pl,ct,rg,rs,ce,⟨us,a1,a2⟩,cm,cs⟩:=M;refine aq (D9 ts hx) λk0 e0 T0=>?_;rw[hk]at e0;cases e0;have bD:=L.ts c x hx;have out:∀b o,lab b≠28+6*c->(∀ps,o≠.eY ps)->H b=a_ o->H' b=a_ o:=λb o n z e=>kp.k b o (λhb=>n (bD b hb)) z e;have kt:∀b ys,H b=a_ (.tup ys)->H' b=a_ (.tup ys):=λb ys e=>kp.k b _ (λhb=>by rcases T0.kinds b hb _ e with ⟨_,_,_,z⟩ | ⟨_,z⟩ <;> cases z) (λps z=>by cases z) e
 have ki:∀b C dx fs,H b=a_ (.ins C dx fs)->(∃x ps v,C=da t x/\fs=dY v x ps)->H' b=a_ (.ins C dx fs):=λb C dx fs e hs=>kp.k b _ (λhb=>by
  obtain⟨x',ps,v,_,aa⟩:=hs;subst aa;rcases bX.mp hb with z | z
  .refine eD T0.obj λDl my e' ui _=>?_;rw[z,e']at e;cases e;rw[wL S_ dk]at ui;cases ui
  .rcases bX.mp z with z | z
   .rw[z,T0.qs]at e;cases e
   .refine oE (pI z) λi aa=>oE aa λhi ez=>?_;obtain⟨oZ,e',_⟩:=T0.jq i b (by rw[<-ez];exact aM hi);rw[e']at e;cases e) (λps z=>by cases z) e
 have nl:∀ys:List V,∀ps,HO.lst ys≠.eY ps:=λys ps z=>by cases z
 have h2:vy fs A { S with ck:=S.ck.set c { k with tn:=tn,es:=es } }:=⟨h2.gE,h2.program,h2.kind,h2.steps,h2.places,h2.counts,h2.fg,h2.cells,h2.gV,h2.kL,h2.ms,h2.lZ⟩;refine⟨⟨dx,fs,out _ _ (qA L.m gz) (λps z=>by cases z) h1,h2⟩,out _ _ (qA L.lt gz) (nl _) lt,?_,pg.keep kt,⟨vs,kt _ _ s1,Paired.bZ s2 λ_ _ q=>q.keep kt ki⟩,?_,?_,out _ _ (qA L.rg gz) (nl _) rg,?_,out _ _ (qA L.ce gz) (nl _) ce,⟨us,out _ _ (qA L.ac gz) (nl _) a1,Paired.bZ a2 λ_ _ q=>q.keep kt⟩,out _ _ (qA L.cm gz) (nl _) cm,gL cs λi y b hy _ q=>out _ _ (qA (L.cs i y hy) vG) (nl _) q⟩
 .refine D8 ts (λi y b hi hy _ q=>dC.keep q (λb' uj o e=>out b' o (qA (L.ts i y hy b' uj) Af) (λps z=>?_) e) kt) λy b hy hb q=>?_
  .rcases q.kinds b' uj _ e with ⟨_,_,_,w⟩ | ⟨_,w⟩ <;> (rw[z]at w;cases w)
  .rw[hx]at hy;cases hy;exact T
 .show H' A.pl=a_ (.lst ((S.ck.set c { k with tn:=tn,es:=es }).map λk=>V.int (k.pl:Nat)));rw[yH (f:=λk:Ck=>V.int (k.pl:Nat)) (k':={ k with tn:=tn,es:=es }) hk rfl];exact out _ _ (qA L.pl gz) (nl _) pl
 .show H' A.ct=a_ (.lst ((S.ck.set c { k with tn:=tn,es:=es }).map λk=>V.int (k.ct:Nat)));rw[yH (f:=λk:Ck=>V.int (k.ct:Nat)) (k':={ k with tn:=tn,es:=es }) hk rfl];exact out _ _ (qA L.ct gz) (nl _) ct
 .exact wF (gL rs λi y b hy _ q=>out _ _ (qA (L.rs i y hy) vG) (nl _) q) hk λa _ q=>q
end
structure fh(K:u_)(C:e_):Prop where
 cl:dg K C
 gE:bT K C "trays"
 program:bT K C "program"
 kind:bT K C S_
 steps:bT K C "steps"
 places:bT K C "places"
 counts:bT K C "counts"
 fg:bT K C "regs"
 cells:bT K C "cells"
 gV:bT K C "acts"
 kL:bT K C "comers"
def iA{α:Type}{f:α->V}{r:List α}{c:Nat}{k:α}(h:r[c]?=a_ k):gY (r.map f) (c:Int)=a_ (f k):=cx (by rw[cO,h];rfl)
def Bg{l:List (e_×e_×List e_)}{c:Nat}{x:e_×e_×List e_}(h:l[c]?=a_ x):gY (l.map λx=>V.ref x.1) (c:Int)=a_ (.ref x.1):=iA (f:=λx:e_×e_×List e_=>V.ref x.1) h
structure ip(S:Mc):Prop where
 good:kU S.ps
 len:S.ck.length=S.ps.length
 bd:S.bd.length=12
 ov:S.ov.length=12
 rg:∀k∈S.ck,k.rg.length=4
 pl:∀(c:Nat) k p,S.ck[c]?=a_ k->S.ps[c]?=a_ p->k.pl<=p.length
 ac:S.ac.length<=15000
 es:∀k∈S.ck,k.es.length<=S.ac.length
section
variable{t:aW}{C CT:e_}{H:Hp}{m:e_}{A:MA}{S:Mc}
def bf.vm(M:bf t C CT H m A S){c:Nat}{k:Ck}(h:S.ck[c]?=a_ k):∃x,A.ts[c]?=a_ x/\YX CT S.kd H x k:=pO M.ts h
def bf.fg(M:bf t C CT H m A S){c:Nat}{k:Ck}(h:S.ck[c]?=a_ k):∃a,A.rs[c]?=a_ a/\H a=a_ (.lst (k.rg.map V.int)):=pO (F:=λa (k:Ck)=>H a=a_ (.lst (k.rg.map V.int))) M.rs h
def bf.over(M:bf t C CT H m A S){n:Nat}(h:S.ov[n]?=a_ o):∃a,A.cs[n]?=a_ a/\H a=a_ (.lst (o.map V.int)):=pO (F:=λa (o:List Int)=>H a=a_ (.lst (o.map V.int))) M.cs h
def bf.part(M:bf t C CT H m A S){c:Nat}(h:S.ps[c]?=a_ p):∃vs b us,H A.st=a_ (.tup vs)/\vs[c]?=a_ (.ref b)/\H b=a_ (.tup us)/\Paired (jV t H) us p:=by
 refine aq M.st λvs h1 h2=>aq (pO h2 h) λv hv aa=>eD aa λb us aa h3 h4=>?_;subst aa;exact⟨vs,b,us,h1,hv,h3,h4⟩
end
section
variable{t:aW}{C CT:e_}
def UQ(t:aW)(C CT:e_):Sp:=λvs H Q _=>∃m A S c k p,vs=[.ref m,.int (c:Nat)]/\bf t C CT H m A S/\S.ck[c]?=a_ k/\S.ps[c]?=a_ p/\p.length<=1000/\Q (.bl (decide (k.pl=p.length))) H
def agA:ba zLb zLb (aS L6):=bj
def zd(a b:Nat):decide (V.int (a:Int)=V.int (b:Int))=decide (a=b):=decide_eq_decide.mpr ⟨λz=>by injection z with z;lia,λz=>by rw[z]⟩
def afg(F:aQ K "at_end" "Machine.at_end" L6 f fd)(dM:mg "len" = b_)(cM:fh K C):aG P w K mg base aI 1 f fd zLb (UQ t C CT):=by
 refine F.ok agA λaJ A _ s H vs Q E hr h=>?_
 .refine mG h λm A S c k p aa M hk hp aT=>?_;subst aa;refine oA aT λhl q=>qw (av (aZ (BA c7 (aP cw (bC (pv 0) xz) (pv 1)) (bU eU xz dM q_ (ab (aP cc (bC (pv 0) xz) (pv 1)) ag)) (bJ _)))) (bQ (id M.obj) λdx fs hm G=>gD (M.part hp) λvs b us h1 h2 aa=>oA aa λh3 h4=>vF xz hm cM.cl cM.places G.places (vr xz (rL (aj.of M.pl) (iA (f:=λk:Ck=>V.int (k.pl:Nat)) hk) (vF xz hm cM.cl cM.steps G.steps (vr xz (rT (v:=.ref b) (aD.of h1) (cx h2) (⟨b,us,xz,(.inr (aD.of h3)),xz,?_⟩)))))));rw[r_ h4,zd];exact q
def UH(t:aW)(C CT:e_)(g:Ck->Nat):Sp:=λvs H Q _=>∃m A S c k,vs=[.ref m,.int (c:Nat)]/\bf t C CT H m A S/\S.ck[c]?=a_ k/\Q (.int (g k:Nat)) H
def agq:ba zLb zLb (aS LO):=bj
def ae5(F:aQ K "where" "Machine.where" LO f fd)(cM:fh K C):aG P w K mg base aI 1 f fd zLb (UH t C CT Ck.pl):=by
 refine F.ok agq λaJ A _ s H vs Q E hr h=>?_
 .refine fX h λm A S c k aa=>oH aa λaa M hk q=>?_;subst aa;exact qw (av (aZ (aP cw (bC (pv 0) xz) (pv 1)))) (bQ (id M.obj) λdx fs hm G=>vF xz hm cM.cl cM.places G.places (vr xz (rL (aj.of M.pl) (iA (f:=λk:Ck=>V.int (k.pl:Nat)) hk) q)))
def za(t:aW)(C CT:e_):Sp:=λvs H Q _=>∃m A S,vs=[.ref m]/\bf t C CT H m A S/\∀l ws,H l=b_->Paired (jk H) ws S.ac->Q (.ref l) (upd H l (.lst ws))
def agy:ba zLc zLc (aS LY):=bj
def afe(F:aQ K "deeds" "Machine.deeds" LY f fd)(CW:mg "list" = b_)(cM:fh K C):aG P w K mg base aI 1 f fd zLc (za t C CT):=by
 refine F.ok agy λaJ A _ s H vs Q E hr h=>?_
 .refine gD h λm A S aa M q=>?_;clear h;subst aa;exact qw (av (aZ (og Ro xz CW boot_list (ab (bC (pv 0) xz) ag)))) (bQ (id M.obj) λdx fs hm G=>aq M.ac λws h1 h2=>vF xz hm cM.cl cM.gV G.gV ⟨A.ac,⟨_,xz,.inl (aj.of h1),λl hl=>q l ws hl h2⟩⟩)
def LK(t:aW)(C CT:e_):Sp:=λvs H Q _=>∃m A S n o,vs=[.ref m,.int (n:Nat)]/\bf t C CT H m A S/\S.ov[n]?=a_ o/\∀l,H l=b_->Q (.ref l) (upd H l (.lst (o.map V.int)))
def ah8:ba zLf zLf (aS MM):=bj
def ag0(F:aQ K "over" "Machine.over" MM f fd)(CW:mg "list" = b_)(cM:fh K C):aG P w K mg base aI 1 f fd zLf (LK t C CT):=by
 refine F.ok ah8 λaJ A _ s H vs Q E hr h=>?_
 .refine fX h λm A S n o aa=>oH aa λaa M hn q=>?_;subst aa;exact qw (av (aZ (og Ro xz CW boot_list (ab (aP cw (bC (pv 0) xz) (pv 1)) ag)))) (bQ (id M.obj) λdx fs hm G=>aq (M.over hn) λa ha pD=>vF xz hm cM.cl cM.kL G.kL (vr xz (rL (v:=.ref a) (aj.of M.cm) (iA ha) ⟨a,⟨_,xz,.inl (aj.of pD),q⟩⟩)))
def Sw(t:aW)(C CT:e_):Sp:=λvs H Q _=>∃m A S c k,vs=[.ref m,.int (c:Nat)]/\bf t C CT H m A S/\S.ck[c]?=a_ k/\k.es=[]/\∀H' l,af H H'->H' l=a_ (.lst [])->Q (.ref l) H'
def adx:ba zLb zLb (aS Kk):=bj
def acO(F:aQ K "waiting" "Machine.waiting" Kk f fd)(cM:fh K C)(cT:kT K CT)(DL:Mt P w K mg base CT 1 "listed" zLc (Tv CT)):aG P w K mg base aI 2 f fd zLb (Sw t C CT):=by
 refine F.ok adx λaJ A _ s H vs Q E hr h=>?_
 .refine fX h λm A S c k aa=>wR aa λaa M hk hl q=>?_;subst aa;exact qw (av (aZ (EC (aP cw (bC (pv 0) xz) (pv 1)) cT.cl DL.m DL.G hr DL.b .nil c9))) (bQ (id M.obj) λdx fs hm G=>aq (M.vm hk) λx hx T=>fe (id T.obj) λuo qS ea e1 e2 e3 em el=>vF xz hm cM.cl cM.gE G.gE (vr xz (rL (v:=.ref x.1) (aj.of M.lt) (Bg hx) (rM ea (em _ dk) ⟨x.1,_,_,_,_,xz,by rw[<-hl];exact T,q⟩))))
end
abbrev Mv:=Str×List Int
def sh(mv:Mv):List V:=.str mv.1::mv.2.map V.int
def jH(H:Hp)(v:V)(mv:Mv):Prop:=∃p,v=.ref p/\H p=a_ (.tup (sh mv))
def jH.keep(k:∀b xs,H b=a_ (.tup xs)->H' b=a_ (.tup xs))(h:jH H v mv):jH H' v mv:=by
 exact aq h λp e h=>au p e (k _ _ h)
def aY.tup(k:aY F H H')(h:∀b,F b->∀xs,H b≠a_ (.tup xs)):∀b xs,H b=a_ (.tup xs)->H' b=a_ (.tup xs):=λb xs e=>k.k b _ (λz=>h b z xs e) (λps z=>by cases z) e
def aY.B2(k:aY su H H'):∀b xs,H b=a_ (.tup xs)->H' b=a_ (.tup xs):=k.tup λb z=>z.elim
def aY.vo(k:aY su H H')(e:H b=a_ (.lst xs)):H' b=a_ (.lst xs):=k.k b _ (λz=>z) (λps z=>by cases z) e
def oJ(k:Ck)(p:Pt):Bool:=match p[k.pl]? with
 | none=>d_
 | some s=>decide (k.es=[]) || !jD s
def BX(kd:Str)(x:Ck×Nat):List Mv:=(iy kd x.1.es).map λn=>((Z_ : Str),[(x.2:Int),n])
def vw(kd:Str)(l:List (Ck×Nat)):List Mv:=l.flatMap (BX kd)
def iY(S:Mc):List Mv:=vw S.kd S.ck.zipIdx
def xo(S:Mc)(c:Nat):Bool:=match S.ck[c]?,S.ps[c]? with
 | some k,a_ p=>oJ k p
 | _,_=>d_
def vt(S:Mc)(n:Nat):List Mv:=((List.range n).filter (xo S)).map λ(c:Nat)=>(("do" : Str),[(c:Int)])
def jg(S:Mc):List Mv:=vt S S.ck.length++iY S
def RV(kd:Str)(es:List Ent):(iy kd es).length<=12:=by
 unfold iy
 split
 .cases es.head? <;> simp
 .unfold kM;rw[aL];exact cu (uu _ _) (by rw[lH];exact aA _)
def EM(kd:Str):∀l:List (Ck×Nat),(vw kd l).length<=12*l.length
 | []=>by simp[vw]
 | x::l=>by
  have h:=EM kd l;unfold vw at h ⊢;rw[abk,bL,fR];have h2:(BX kd x).length<=12:=by unfold BX;rw[aL];exact RV _ _
  lia
section
variable{t:aW}{C CT:e_}{u:mm}
def UJ(t:aW)(C CT:e_):Sp:=λvs H Q _=>∃m A S c k p,vs=[.ref m,.int (c:Nat)]/\bf t C CT H m A S/\S.ck[c]?=a_ k/\S.ps[c]?=a_ p/\p.length<=1000/\k.pl<=p.length/\(∀s∈p,∃sz,cG sz s)/\∀H',af H H'->Q (.bl (oJ k p)) H'
def UT:ba zLe zLb (aS LV):=bj
def ae'(F:aQ K "may_do" "Machine.may_do" LV f fd)(cM:fh K C)(cT:kT K CT)(O:xq K mg t u)
  (DA:Mt P w K mg base C 1 "at_end" zLb (UQ t C CT))
  (DE:Mt P w K mg base CT 1 "is_empty" zLc (UM CT)):aG P w K mg base aI 2 f fd zLb (UJ t C CT):=by
 refine F.ok UT λaJ A _ s H vs Q E hr h=>?_
 .refine mG h λm A S c k p aa M hk hp aT=>?_;subst aa;refine oH aT λhl hle hg q=>?_;refine let d:TS:=_;let g:TS:=_;⟨_,ar (b8 (gu (jh (pv 0) cM.cl DA hr (ab (pv 1) ag))) (av (aZ jU)) cp) (pR g (ar (bq (i:=2) UT.nd xz (aE xz) (aP cc (aP cc (bC (pv 0) xz) (pv 1)) (aP cw (bC (pv 0) xz) (pv 1)))) (pR d (av (aZ (aj9 (EC (aP cw (bC (pv 0) xz) (pv 1)) cT.cl DE.m DE.G hr DE.b .nil c9) (BI (Mb (T5 (k:=1) (CX:=aI) (E:=E0) (P:=P) (w:=w) (K:=K) (mg:=mg) (base:=base) (pv 2) hr c9))))))))),?_⟩;refine bQ (id M.obj) λdx fs hm G=>aq (M.vm hk) λx hx T=>fe (id T.obj) λuo qS ea e1 e2 e3 em el=>gD (M.part hp) λvs b us h1 h2 aa=>oA aa λh3 h4=>vM xz hm (G.ms _ dk) (vr xz (⟨m,A,S,c,k,p,xz,M,hk,hp,hl,(tk (bG (λhe=>?_) λhe=>?_))⟩))
  .have e:oJ k p=false:=by unfold oJ;rw[qV li]
   have q:=q H (af.refl H);rw[e]at q;exact q
  have bz:k.pl<p.length:=li;have hs:p[k.pl]?=a_ p[k.pl]:=aM bz;refine aq (pO h4 hs) λv hv aa=>BR aa λz a dz aa hz=>?_;subst aa;refine oE (hg _ (yB bz)) λsz gs=>au _ xz (dX m C dx fs (jB _ xz hm cM.cl cM.steps G.steps (vr xz (rT (v:=.ref b) (aD.of h1) (cx h2) (vF xz hm cM.cl cM.places G.places (vr xz (rL (aj.of M.pl) (iA (f:=λk:Ck=>V.int (k.pl:Nat)) hk) (rT (v:=.ref z) (aD.of h3) (cx hv) (au _ xz (dX m C dx fs (jB _ xz hm cM.cl cM.gE G.gE (vr xz (rL (v:=.ref x.1) (aj.of M.lt) (Bg hx) (rM ea (em _ dk) (⟨x.1,_,_,_,_,(dJ _ xz T λH1 s1=>(tk (bG (λhe=>?_) λhe=>?_)))⟩)))))))))))))))
  .have e:oJ k p=true:=by unfold oJ;rw[hs];show (decide (k.es=[])||_)=c_;rw[decide_eq_true he];rfl
   have q:=q H1 s1;rw[e]at q;exact q
  .have e:oJ k p=!jD p[k.pl]:=by unfold oJ;rw[hs];show (decide (k.es=[])||_)=_;rw[decide_eq_false he];rfl
   have q:=q H1 s1;rw[e]at q;have no:=wL N_ dk (.ref a) p[k.pl].1 (p[k.pl].2.map λ(n:Nat)=>V.int (n:Int));exact D' (Ws (P:=P) (w:=w) (base:=base) (mg:=mg) O gs (s1 _ _ hz)) λC1 f1 Dg pn sp hc cl me G1 bi q1=>au _ xz (⟨z,C1,dz,_,f1,Dg,pn,sp,xz,hc,no,cl,me,G1,⟨bi,(q1 _ _ ⟨_,xz,q⟩)⟩⟩)
def JI(t:aW)(C CT PT:e_):Sp:=λvs H Q _=>∃m A S,vs=[.ref m]/\bf t C CT H m A S/\S.ck.length<=4/\cQ PT LP LQ H/\∀H' l vs,aY su H H'->cQ PT LP LQ H'->H l=b_->H' l=a_ (.lst vs)->Paired (jH H') vs (iY S)->Q (.ref l) H'
def Ej:ba [U_,"found",ap8,"tray"] zLc (aS Kq):=bj
def aks:([ap8,J_]:List Str).Nodup:=dk
def acT{f PT:e_}(F:aQ K "carries" "Machine.carries" Kq f fd)(cM:fh K C)(cT:kT K CT)(pC:mg "enumerate" = b_)
  (DF:Mt P w K mg base CT 2 "fronts" zLc (Ka CT PT)):aG P w K mg base aI 3 f fd zLc (JI t C CT PT):=by
 refine F.ok Ej λaJ A _ s H vs Q E hr h=>?_
 .obtain⟨m,A,S,aa,M,h4,hL,q⟩:=h;subst aa
  refine let a:TS:=_;let d:TS:=_;⟨_,ar (bq (i:=1) Ej.nd xz (aE xz) (dW ag)) (pR d (ar (ij gn xz (uU (b:=c_) xz pC (ab (bC (pv 0) xz) ag)) (kK xz (dA (bA (i:=2) Ej.nd xz (zA xz)) (dA (bA (i:=3) Ej.nd xz (aE xz)) kH))) (pR a (av (cX (ik m_ PySem.F.slot_list_extend PySem.F.type_list_extend En (pv 1) (ab (iJ (N:=[ap8,J_]) (idx:=[2]) xz (dw.of (by kernel_rfl)) (iG (aA _))
     (pX (lM (pv 3) cT.cl DF hr)) (λ_ _ _ _=>bA (i:=1) aks xz (aE xz) (.inr xz)) (λ_ _ _ _=>i3) λ_ _ _ _=>fJ (ab cR (ab (pv 0) (ab (pv 1) ag)))) ag))))))
   (av (aZ (pv 1))))),?_⟩
  refine bQ (id M.obj) λdx fs hm G=>⟨qc,λlw nw=>?_⟩;have s0:af H (upd H lw (.lst [])):=aB (af.refl _) nw;have hlen:=r_ M.ts;have hlm:(A.ts.map λx=>V.ref x.1).length=A.ts.length:=aL _;refine vF xz (s0 _ _ hm) cM.cl cM.gE G.gE ⟨A.lt,⟨_,xz,aj.of (s0 _ _ M.lt),?_⟩⟩
  let W1:IV:=λi σ H'=>i<=A.ts.length/\∃c y vs,σ=[a_ (.ref m),a_ (.ref lw),c,y]/\aY su H H'/\cQ PT LP LQ H'/\H' lw=a_ (.lst vs)/\Paired (jH H') vs (vw S.kd (S.ck.zipIdx.take i))
  refine zo (n:=A.ts.length) W1 ⟨a8 _,b_,b_,[],xz,aY.of s0,lL hL s0,ao,.nil⟩ ?_ ?_ ?_ ?_
  .rintro i σ H' hi ⟨_,_,_,_,_,kp,_,_,_⟩;exact f7 _ (V.ref A.ts[i].1) (aj.of (kp.vo M.lt)) (by rw[cO,aM hi];rfl)
  .rintro σ H' ⟨_,_,_,_,_,kp,_,_,_⟩;exact au _ (aj.of (kp.vo M.lt)) (by rw[hlm];exact aA _)
  .rintro i σ H1 hi ⟨_,c,y,vs,rfl,kp,iV,hw,nF⟩ z H2 ⟨r,x,dR,ez,eH,dF⟩;subst ez;subst eH;have vQ:=dF _ (aj.of (kp.vo M.lt));rw[cO,aM hi]at vQ;cases vQ;have s2:af H1 (upd H1 r (.tup [.int i,.ref A.ts[i].1])):=aB (af.refl _) dR;have CM:=s2 _ _ hw;have X':=Paired.bZ nF λ_ _ q=>jH.keep (λb xs e=>s2 _ _ e) q;have lE:=lL iV s2;have Z':upd H1 r (.tup [.int i,.ref A.ts[i].1]) r=a_ (.tup [.int i,.ref A.ts[i].1]):=ao;generalize upd H1 r (.tup [.int i,.ref A.ts[i].1])=H2 at s2 CM X' lE Z' ⊢;have sC:=kp.trans (aY.of s2);have M2:=M.oz sC;have hck:=wf;refine aq (M2.vm (aM hck)) λx' xV T=>?_;rw[aM hi]at xV;cases xV;refine fe (id T.obj) λuo qS ea e1 e2 e3 em el=>⟨r,⟨_,xz,aD.of Z',xz,.int i,[.ref A.ts[i].1],xz,.ref A.ts[i].1,[],xz,xz,vr xz ⟨.inl ⟨xz,_,aj.of CM⟩,⟨_,xz,_,uo,qS,xz,ea,em _ dk,_,_,_,_,_,_,xz,T,lE,λH3 lf k3 uk nf hf=>?_⟩⟩⟩⟩;have O8:aY su H2 H3:=aY.OB k3 λb hb=>nomatch hb;refine dJ lf xz ⟨_,aj.of hf⟩ ?_;have hfl:=RV S.kd S.ck[i].es;refine gr (n:=(iy S.kd S.ck[i].es).length) (λj ys H4=>j<=(iy S.kd S.ck[i].es).length/\af H3 H4/\Paired (jH H4) ys (((iy S.kd S.ck[i].es).take j).map λn=>((Z_ : Str),[(i:Int),n]))) (cY (eh w4)) (eJ (a8 _) (af.refl _) .nil) ?_ ?_ ?_ ?_ ?_
   .rintro j ys H4 ⟨_,_,e⟩;rw[r_ e,aL,gm];exact xl
   .rintro j ys H4 hj ⟨_,s4,_⟩;exact f7 _ (V.int (iy S.kd S.ck[i].es)[j]) (aj.of (s4 _ _ hf)) (by rw[cO,aM hj];rfl)
   .rintro ys H4 ⟨_,s4,_⟩;exact au _ (aj.of (s4 _ _ hf)) (by rw[aL];exact aA _)
   .rintro j ys H4 hj ⟨_,s4,e⟩ v H5 ⟨eH,hv1⟩;subst eH;have hv:=hv1 _ (aj.of (s4 _ _ hf));rw[cO,aM hj]at hv;cases hv;refine au _ xz (vr xz ⟨(sl (n:=3)),(λtp ht=>⟨hj,aB s4 ht,?_⟩)⟩);rw[jv,aM hj,fv];exact mE (Paired.bZ e λ_ _ q=>q.keep λb xs e=>aB (af.refl _) ht _ _ e) (au tp xz ao)
   .rintro ys H4 ⟨_,s4,e⟩;rw[jP (aA _)]at e;refine⟨by rw[r_ e,aL];exact cY (eh li),λrl fu=>?_⟩;have s5:=aB (o:=.lst ys) s4 fu;have Aw:=s5 _ _ (O8.vo CM);have cl:=EM S.kd (S.ck.zipIdx.take i);rw[gm]at cl;have Z6:=r_ nF;refine⟨lw,rl,vs,ys,xz,xz,Aw,ao,?_,hi,(oX _ _ (gR _ xz ?_ ?_ ao ?_))⟩
    .rw[Z6,r_ e,aL];exact cY (eh li)
    .have kk:=O8.trans (aY.of s5);refine⟨λb o nb nt eb=>?_,λb eb=>(sC.trans kk).t b ?_⟩
     .have:b≠lw:=bp eb nw;rw[ai this];exact(sC.trans kk).k b o nb nt eb
     .by_cases z:b=lw
      .rw[z,ao]at eb;cases eb
      .rwa[ai z]at eb
    .exact Vf Aw (lL uk s5)
    .have et:S.ck.zipIdx.take (i+1)=S.ck.zipIdx.take i++[(S.ck[i],i)]:=by
      rw[jv,List.getElem?_zipIdx,aM hck];simp
     rw[et];unfold vw;rw[QC,abk,List.flatMap_nil,sQ];have ZP:∀b xs,upd H4 rl (.lst ys) b=a_ (.tup xs)->upd (upd H4 rl (.lst ys)) lw (.lst (vs++ys)) b=a_ (.tup xs):=λb xs e=>by rw[ai (gU e Aw (by intro z;cases z))];exact e
     exact uE (Paired.bZ e λ_ _ q=>q.keep λb xs e=>ZP b xs (aB (af.refl _) fu _ _ e)) (Paired.bZ X' λ_ _ q=>(q.keep O8.B2).keep λb xs e=>ZP b xs (s5 _ _ e))
  .rintro σ H1 ⟨_,c,y,vs,rfl,kp,iV,hw,nF⟩;rw[jP (by rw[QE];lia)]at nF;exact vr xz (q H1 lw vs kp iV nw hw nF)
end
def KL(H H':Hp):Prop:=∀b o,(∀xs,o≠.lst xs)->H b=a_ o->H' b=a_ o
def KL.trans(a:KL H H1)(b:KL H1 H2):KL H H2:=λc o n e=>b c o n (a c o n e)
def KL.of(s:af H H'):KL H H':=λb o _ e=>s b o e
def KL.upd(hx:H x=a_ (.lst xs)):KL H (upd H x o):=λb q n e=>by
 rw[ai λz=>?_]
 .exact e
 .rw[z,hx]at e;cases e;exact n _ xz
def KL.lam(k:KL H H'){PT:e_}(h:cQ PT pos q H):cQ PT pos q H':=by
 refine aq h λps hP hc=>au ps (k _ _ (λxs z=>by cases z) hP) ?_;rcases hc with e | ⟨c,e,hc⟩
 .exact .inl e
 .exact .inr (au c e (k _ _ (λxs z=>by unfold Ak at z;cases z) hc))
def KL.tup(k:KL H H'):∀b xs,H b=a_ (.tup xs)->H' b=a_ (.tup xs):=λb xs e=>k b _ (λys z=>by cases z) e
def oq(S:Mc)(n:Nat)(num d:Int):Mc:={ S with bd:=S.bd.set n num,ov:=S.ov.set n (S.ov.getD n []++[d]) }
def jT(S:Mc)(c n:Nat):Mc:=match S.ck[c]? with
 | none=>S
 | some k=>match (cA k.es n).head? with
  | none=>S
  | some e=>oq { S with ck:=S.ck.set c { k with es:=ji k.es n } } n e.num e.d
def BO(S:Mc)(n:Nat):List V:=[.int (n:Nat),.int (S.bd.getD n 0),oV (S.ov.getD n []).getLast?]
def ff{α:Type}{l:List α}{n:Nat}{x d:α}(h:l[n]?=a_ x):l.getD n d=x:=by rw[gg,h];rfl
section
variable{t:aW}{C CT:e_}{u:mm}
def LM(t:aW)(C CT:e_):Sp:=λvs H Q _=>∃m A S st n num d lab,vs=[.ref m,.ref st]/\bf t C CT H m A S/\jn lab m A/\H st=a_ (.tup [.int (n:Nat),.int num,.int d])/\n<12/\S.bd.length=12/\S.ov.length=12/\(∀o∈S.ov,o.length<=16000)/\
 ∀H',bf t C CT H' m A (oq S n num d)->aY (cq m A) H H'->KL H H'->Q .aN H'
def VY:ba [U_,"setting",J_] zLz (aS MS):=bj
def tw(h:j<n):nC n (j:Int)=a_ j:=by
 unfold nC
 first | (rw[if_pos om];simp;done) | (simp;exact w0)
def ag7(F:aQ K "come" "Machine.come" MS f fd)(cM:fh K C):aG P w K mg base aI 1 f fd zLz (LM t C CT):=by
 refine F.ok VY λaJ A _ s H vs Q E hr h=>?_
 .refine fX h λm A S st n aa=>gD aa λnum d lab aa M aT=>?_;subst aa;refine mX aT λL cB hn hb ho aa=>oA aa λjr q=>?_;refine let b:TS:=_;let c:TS:=_;⟨_,ar (bq (i:=2) VY.nd xz (aE xz) (aP cc (pv 1) aw)) (pR c (ar (uZ (aP cc (pv 1) aw) (wM (bC (pv 0) xz) (pv 2) set_list)) (pR b (av (cX (ik m_ n_ o_ jR (aP cw (bC (pv 0) xz) (pv 2)) (ab (aP cc (pv 1) aw) ag))))))),?_⟩;refine bQ (id M.obj) λdx fs hm G=>gH (j:=0) xz cB xz (gH (j:=1) xz cB xz (vF xz hm cM.cl cM.cells G.cells (vr xz (⟨A.ce,_,_,n,xz,xz,M.ce,(tw (by rw[aL,hb];exact hn)),?_⟩))));have M1:=ajS M L n num;have k1:aY (cq m A) H (upd H A.ce (.lst ((S.bd.map V.int).set n (.int num)))):=aY.upd .ce;have l1:KL H (upd H A.ce (.lst ((S.bd.map V.int).set n (.int num)))):=KL.upd M.ce;generalize upd H A.ce (.lst ((S.bd.map V.int).set n (.int num)))=H1 at M1 k1 l1 ⊢;refine bQ (id M1.obj) λv8 sI jc G1=>?_;have i9:S.ov[n]?=a_ (S.ov[n]'wg):=aM wg;refine aq (M1.over i9) λa ha pD=>au _ xz (dX m C v8 sI (jB _ xz jc cM.cl cM.kL G1.kL (vr xz (rL (v:=.ref a) (aj.of M1.cm) (iA ha) ⟨.inl ⟨xz,_,aj.of pD⟩,(gH (j:=2) xz ((l1.tup _ _ cB)) xz ?_)⟩))));have uf:=jr _ (bu i9);refine oX a _ (gR _ xz xz pD (by rw[aL,fw];exact wb) ?_);have M2:=ajQ M1 L i9 ha d;refine q _ ?_ (k1.trans (aY.upd (.cs (bu ha)))) (l1.trans (KL.upd pD));unfold oq;rw[ff i9];exact M2
def JH(t:aW)(C CT:e_):Sp:=λvs H Q _=>∃m A S n,vs=[.ref m,.int (n:Nat)]/\bf t C CT H m A S/\n<12/\S.bd.length=12/\S.ov.length=12/\∀tp,H tp=b_->Q (.ref tp) (upd H tp (.tup (BO S n)))
def SD:ba [U_,J_,"comers"] zLf (aS Ko):=bj
def acS(F:aQ K "on_board" "Machine.on_board" Ko f fd)(cM:fh K C)(dM:mg "len" = b_):aG P w K mg base aI 1 f fd zLf (JH t C CT):=by
 refine F.ok SD λaJ A _ s H vs Q E hr h=>?_
 .obtain⟨m,A,S,n,aa,M,hn,hb,ho,q⟩:=h;subst aa;refine let b:TS:=_;⟨_,ar (bq (i:=2) SD.nd xz (aE xz) (aP cw (bC (pv 0) xz) (pv 1))) (pR b (av (aZ (fJ (ab (pv 1) (ab (aP cw (bC (pv 0) xz) (pv 1)) (ab (Ks (bM c7 (bU eU xz dM q_ (ab (pv 2) ag)) aw (bJ _)) mV (aP cw (pv 2) (MV VC aw))) ag))))))),?_⟩;refine bQ (id M.obj) λdx fs hm G=>?_;have i9:S.ov[n]?=a_ (S.ov[n]'wg):=aM wg;have CS:S.bd[n]?=a_ (S.bd[n]'wg):=aM wg;refine aq (M.over i9) λa ha pD=>?_
  have q':∀v,oV (S.ov[n]'wg).getLast?=v->∀tp,H tp=b_->Q (.ref tp) (upd H tp (.tup [.int (n:Nat),.int (S.bd[n]'wg),v])):=λv hv tp ht=>by
   have q:=q tp ht;unfold BO at q;rw[ff i9,ff CS,hv]at q;exact q
  generalize S.ov[n]'wg=o at i9 pD q';refine vF xz hm cM.cl cM.kL G.kL (vr xz (rL (v:=.ref a) (aj.of M.cm) (iA ha) (au _ xz (vF xz hm cM.cl cM.cells G.cells (vr xz (rL (aj.of M.ce) (iA CS) (vr xz ⟨a,⟨_,xz,.inl (aj.of pD),xz,_,xz,bG (λz=>?_) λz=>?_⟩⟩)))))))
  .have e0:o=[]:=by
    have z':=z;injection z' with z'
    rw[aL]at z';exact ur.mp om
   subst e0;exact⟨(sl (n:=3)),q' .aN xz⟩
  .have dr:o≠[]:=λe=>z (by rw[e];rfl);obtain⟨o',d,rfl⟩:∃o' d,o=o'++[d]:=⟨o.dropLast,o.getLast dr,(Qg dr).symm⟩;refine vr xz (au _ xz (rL (v:=.int d) (aj.of pD) (by rw[fv];exact Uv _ _) ⟨(sl (n:=3)),(q' (.int d) ?_)⟩));rw[List.getLast?_append];rfl
end
def ip.four(w:ip S):S.ck.length<=4:=by rw[w.len];exact w.good.le
def ip.part(w:ip S){c:Nat}{k:Ck}(h:S.ck[c]?=a_ k):∃p,S.ps[c]?=a_ p/\p.length<=120/\k.pl<=p.length/\∀s∈p,cG p.length s:=by
 refine oE (bK.mp h) λhc _=>?_;have hp:S.ps[c]?=a_ (S.ps[c]'(by rw[<-w.len];exact hc)):=aM _;exact oA (w.good.part _ (bu hp)) λg1 g2=>⟨_,hp,g1,(w.pl c k _ h hp),g2⟩
def E3{k:Ck}(h:S.ck[c]?=a_ k)(h':S.ps[c]?=a_ p):xo S c=oJ k p:=by unfold xo;rw[h,h']
def KO(S:Mc)(n:Nat):(vt S n).length<=n:=by
 unfold vt;rw[aL];exact cu (uu _ _) (by rw[lH];exact aA _)
def aeg(S:Mc)(n:Nat):vt S (n+1)=vt S n++(if xo S n=c_ then [(("do" : Str),[(n:Int)])] else []):=by
 unfold vt;rw[sO,yw,fv]
 congr 1
 cases h:xo S n with
 | true=>simp[List.filter,h]
 | false=>simp[List.filter,h]
def akn:(zLb:List Str).Nodup:=dk
section
variable{t:aW}{C CT:e_}{u:mm}
def K2(t:aW)(C CT PT:e_):Sp:=λvs H Q _=>∃m A S,vs=[.ref m]/\bf t C CT H m A S/\ip S/\cQ PT LP LQ H/\∀H' l vs,aY su H H'->cQ PT LP LQ H'->H l=b_->H' l=a_ (.lst vs)->Paired (jH H') vs (jg S)->Q (.ref l) H'
def aeN:ba zLc zLc (aS Lk):=bj
def adQ{f PT:e_}(F:aQ K "moves" "Machine.moves" Lk f fd)(cM:fh K C)(dM:mg "len" = b_)(dQ:mg "range" = b_)
  (DY:Mt P w K mg base C 2 "may_do" zLb (UJ t C CT))
  (DC:Mt P w K mg base C 3 "carries" zLc (JI t C CT PT)):aG P w K mg base aI 4 f fd zLc (K2 t C CT PT):=by
 refine F.ok aeN λaJ A _ s H vs Q E hr h=>?_
 .obtain⟨m,A,S,aa,M,W,hL,q⟩:=h;subst aa;have iq:=hr.mono (show 2<=3 by decide)
  refine⟨_,av (aZ (br BK (iJ (N:=[U_,ap8]) (idx:=[0]) xz (dw.of (by kernel_rfl)) (iG (aA _)) (oa xz dQ (ab (bU eU xz dM q_ (ab (bC (pv 0) xz) ag)) ag))
   (λ_ _ _ _=>bA (i:=1) akn xz (aE xz) (.inr xz)) (λ_ _ _ _=>wJ (gu (jh (pv 0) cM.cl DY iq (ab (pv 1) ag)))) λ_ _ _ _=>fJ (ab cR (ab (pv 1) ag)))
   (lM (pv 0) cM.cl DC hr))),?_⟩
  refine bQ (id M.obj) λdx fs hm G=>?_;have hlen:=r_ M.ts;have h4:=W.four;refine vF xz hm cM.cl cM.gE G.gE ⟨A.lt,⟨_,xz,.inl (aj.of M.lt),_,xz,by rw[aL];lia,by rw[aL];lia,?_⟩⟩;have en:(((A.ts.map λx=>V.ref x.1).length:Int)).toNat=S.ck.length:=by rw[aL];lia
  rw[en];refine gr (n:=S.ck.length) (λi ys H'=>i<=S.ck.length/\af H H'/\Paired (jH H') ys (vt S i)) (cY (eh w4)) (eJ (a8 _) (af.refl _) .nil) ?_ ?_ ?_ ?_ ?_
  .rintro i ys H' ⟨_,_,e⟩;rw[r_ e];exact KO S i
  .rintro i ys H' hi _;exact hi
  .rintro ys H' _;exact aA _
  .rintro i ys H1 hi ⟨_,s1,e⟩ x H2 ⟨eH,ex⟩;subst eH;subst ex;have hk:S.ck[i]?=a_ S.ck[i]:=aM hi;refine cJ (W.part hk) λp hp iQ ue hp3=>vM xz (s1 _ _ hm) (G.ms _ dk) (vr xz (⟨m,A,S,i,_,p,?_,(M.same s1),hk,hp,w4,ue,(λs hs=>⟨_,hp3 s hs⟩),(λH3 s3=>(au _ xz ?_))⟩))
   .show [V.ref m,V.int (0+(i:Int))]=_;rw[wB]
   rw[aeg,E3 hk hp];refine vp (λhb=>?_) λhb=>?_
   .refine vr xz ⟨(sl (n:=2)),(λtp ht=>⟨hi,s1.trans (aB s3 ht),?_⟩)⟩;rw[hb,if_pos rfl];refine mE (Paired.bZ e λ_ _ q=>q.keep λb xs e=>aB s3 ht _ _ e) (au tp xz ?_);rw[ao];show a_ (HO.tup [.str "do",V.int (0+(i:Int))])=_;rw[wB];rfl
   .refine eJ hi (s1.trans s3) ?_;rw[hb,if_neg dU,sQ];exact Paired.bZ e λ_ _ q=>q.keep λb xs e=>s3 _ _ e
  .rintro ys H1 ⟨_,s1,e⟩;have hd:=KO S S.ck.length;refine⟨by rw[r_ e];exact cY (eh li),λr dR=>?_⟩;have s2:=aB (o:=.lst ys) s1 dR;refine vM xz (s2 _ _ hm) (G.ms _ dk) (pU m A S xz (M.same s2) h4 (lL hL s2) λH3 lc us k3 uk nc hc gK=>?_);have cl:=EM S.kd S.ck.zipIdx;rw[QE]at cl;have ub:=r_ gK
   have ao3:us.length<=48:=by
    rw[ub];unfold iY;lia
   refine kF r lc ys us xz xz (k3.vo ao) hc ?_ λl3 n3=>?_
   .rw[r_ e];exact cY (eh li)
   have k4:aY su H (upd H3 l3 (.lst (ys++us))):=((aY.of s2).trans k3).trans (aY.of (aB (af.refl _) n3));have hn:=((aY.of s2).trans k3).t l3 n3;refine q _ l3 _ k4 (lL uk (aB (af.refl _) n3)) hn ao ?_;unfold jg;have kt:∀b xs,H3 b=a_ (.tup xs)->upd H3 l3 (.lst (ys++us)) b=a_ (.tup xs):=λb xs e=>aB (af.refl _) n3 _ _ e;exact uE (Paired.bZ gK λ_ _ q=>q.keep kt) (Paired.bZ e λ_ _ q=>(q.keep λb xs e=>k3.B2 _ _ (aB (af.refl _) dR _ _ e)).keep kt)
end
def ak0:dB T_ = a_ [4,k7]:=by kernel_rfl
def ak1:dB W_ = a_ [4,4]:=by kernel_rfl
def akZ:dB l_ = a_ [12,4]:=by kernel_rfl
def ajp:dB H_ = a_ [4,12]:=by kernel_rfl
def ajn:dB I_ = a_ [4,12]:=by kernel_rfl
def ahL:dB M_ = a_ []:=by kernel_rfl
def ajo:dB Q_ = a_ [4,121]:=by kernel_rfl
def zB{a b:Nat}{u v:Int}(e:dB x=a_ [u,v])(h1:(a:Int)<u)(h2:(b:Int)<v):stepOk [.str x,.int a,.int b]=true:=by
 show (match dB x with | none=>d_ | some bs=>decide ([V.int a,V.int b].length=bs.length)&&([V.int a,V.int b].zip bs).all λp=>nA p.1 p.2)=c_;rw[e];show (decide (2=2)&&((decide (0<=(a:Int))&&decide ((a:Int)<u))&&((decide (0<=(b:Int))&&decide ((b:Int)<v))&&c_)))=c_;rw[decide_eq_true h1,decide_eq_true h2,decide_eq_true (yx a),decide_eq_true (yx b)];rfl
def top_lt{m:Nat}(h:m<10^60):(m:Int)<k7:=by
 have e:((10^60:Nat):Int)=k7:=dk;rw[<-e];exact Int.ofNat_lt.mpr h
def JT{sz:Nat}{t:Tl}(g:cG sz t):stepOk (tv t)=true:=by
 cases g with
 | put r m h1 h2=>exact zB ak0 li (top_lt h2)
 | add r m h1 h2=>exact zB ak1 om li
 | set r m h1 h2=>exact zB akZ li om
 | look r m h1 h2=>exact zB ajp om li
 | swap r m h1 h2=>exact zB ajn om om
 | clear=>
  show (match dB M_ with | none=>d_ | some bs=>decide (([]:List V).length=bs.length)&&(([]:List V).zip bs).all λp=>nA p.1 p.2)=c_;rw[ahL];rfl
 | skip r m h1 h2 h3=>exact zB ajo li li
def Ul{sz:Nat}{t:Tl}(g:cG sz t):(t.2.map λ(n:Nat)=>V.int (n:Int)).length<=900:=by
 rw[aL];have:=g.len;exact w4
def Vi(l:List Nat):∀y∈l.map λ(n:Nat)=>V.int (n:Int),∃T,tyName H y=a_ T:=λy hy=>by
 refine aq (eM.mp hy) λn _ aa=>?_;subst aa;exact⟨_,xz⟩
def aeb{sz:Nat}(g:cG sz s)(h:s.1 = Q_):∃r q:Nat,s=((Q_ : Str),[r,q])/\q<=sz:=by
 cases g with
 | skip r q _ h2 _=>exact⟨r,q,xz,h2⟩
 | put r n _ _=>exact absurd (show ("put" : Str) = "skip" from h) dk
 | add r n _ _=>exact absurd (show ("add" : Str) = "skip" from h) dk
 | set r n _ _=>exact absurd (show ("set" : Str) = "skip" from h) dk
 | look r n _ _=>exact absurd (show ("look" : Str) = "skip" from h) dk
 | swap r n _ _=>exact absurd (show ("swap" : Str) = "skip" from h) dk
 | clear=>exact absurd (show ("clear" : Str) = "skip" from h) dk
def akE(K:u_)(h:X.K=K:=by rfl):jj X (.builtin "isinstance") (Xz K):=by subst h;exact iZ
def U9:(zLw:List Str).Nodup:=dk
def kD{α β:Type}{F:α->β->Prop}:∀{l:List α} {r:List β} {i:Nat} {x:α},Paired F l r->l[i]?=a_ x->∃y,r[i]?=a_ y/\F x y
 | _,_,_,_,.nil,e=>by simp at e
 | _,_,0,_,.cons h _,e=>by simp at e;subst e;exact⟨_,xz,h⟩
 | _,_,i+1,x,.cons _ t,e=>by
  exact aq (kD (i:=i) t (by simpa using e)) λy h1 h2=>au y (by simpa using h1) h2
def ahN(n:Nat):(cW n c_).all id=true:=by
 induction n with
 | zero=>rfl
 | succ n ih=>rw[uw,Ba,ih];rfl
section
variable{t:aW}{u:mm}
def WG:Sp:=λvs H Q _=>∃v ps,vs=[v]/\lO H v ps/\kU ps/\∀H',af H H'->Q (.bl c_) H'
def aj3:ba zLs zLs (aS NV):=bj
def aiu(F:aQ K "has_clerks" "has_clerks" NV f fd)(B:Bl mg)(C:∃u,mg "CLERKS" = a_ u/\RelV (.int 4) u):aG P w K mg base aI 1 f fd zLs WG:=by
 refine aq C λuC mC rC=>F.ok aj3 λaJ A _ s H vs Q E hr h=>?_
 .refine jf h λv ps aa aT g k=>?_;clear h;subst aa;refine eD aT λa xs aa ha hp=>?_;clear aT;subst aa
  refine let c:TS:=_;⟨_,ar (b8 (PW.pt (pw_or (ou (gu (bU iZ xz B.iO jd (ab (pv 0) (ab (pY (v:=.ty Y_) xz B.tuple rj xz) ag))))) (pw_or1 (ou (aeV MY MY aw (bU eU xz B.len q_ (ab (pv 0) ag)) (fq xz mC rC))))))
    sX cp)
   (pR c (av (aZ (bU (EN xz) xz B.all boot_all (ab (iJ (N:=["part"]) (idx:=[]) xz (dw.of (by kernel_rfl)) (iG (a8 _))
    (ow (pv 0)) (λ_ _ _ _=>bA (i:=0) U9 xz (aE xz) (.inr xz)) (λ_ _ _ _=>i3)
    λ_ _ _ _=>bU (akE K) xz B.iO jd (ab (pv 0) (ab (pY (v:=.ty Y_) xz B.tuple rj xz) ag))) ag))))),?_⟩
  have hT:=Eb ha;have hi:tJ Y_ Y_ = true:=qc;have hl:=r_ hp;have g1:=g.ne;have g2:=g.le;refine vr xz (dX _ _ _ _ (gR _ xz (oS hT) xz (oK hT qc) (au _ xz ?_)));rw[hi];refine eW (vr xz (dP a xs xz (.inr (aD.of ha)) ⟨_,⟨_,xz,xz,_,xz,bG (λh1=>?_) λh1=>absurd (show (1:Int)<=(xs.length:Int) by lia) h1⟩⟩));refine⟨_,⟨_,xz,xz,_,xz,tD (λh2=>absurd (show (xs.length:Int)<=4 by lia) h2) λh2=>au _ xz (dJ a xz ⟨xs,aD.of ha⟩ (gr (n:=xs.length) (λi ys H'=>i<=xs.length/\af H H'/\ys=(cW i c_).map V.bl) (cY (eh w8)) (eJ (a8 _) (af.refl _) xz) ?_ ?_ ?_ ?_ ?_))⟩⟩
  .intro i ys H' ax;refine de ax λ_ _ e=>?_;rw[e,aL,Du];exact aA _
  .intro i ys H' hi ax;exact de ax λ_ s1 _=>f7 xs (xs[i]) (aD.of (s1 _ _ ha)) (aM hi)
  .intro ys H' ax;exact de ax λ_ s1 _=>au xs (aD.of (s1 _ _ ha)) (aA _)
  .intro i ys H' hi2 ax x iF gA;refine de ax λ_ s1 e=>oA gA λeH dF=>?_;subst eH;have vQ:=dF xs (aD.of (s1 _ _ ha));refine aq (kD hp vQ) λp _ aa=>eD aa λb us aa hb _=>?_;subst aa;have hT2:=Eb (s1 _ _ hb);refine vr xz (dX _ _ _ _ (⟨_,xz,(oS hT2),xz,(oK hT2 qc),hi2,s1,?_⟩));rw[hi,e,List.replicate_succ',fv];rfl
  .intro ys H' ax;refine de ax λ_ s1 e=>⟨?_,λr dR=>?_⟩
   .rw[e,aL,Du];exact cY (eh w8)
   refine dP r (cW xs.length c_) xz (aj.of (by rw[ao,e])) ?_;rw[ahN];exact k _ (aB s1 dR)
def VR:Sp:=λvs H Q _=>∃(v:V) (s:Tl) (p n:Nat),vs=[v,.int (p:Nat),.int (n:Nat)]/\qf H v s/\cG n s/\p<120/\∀H',af H H'->Q (.bl c_) H'
def VX:ba [ac1,ac2,"length","step"] zLv (aS MP):=bj
def ag5(F:aQ K "fits" "fits" MP f fd)(O:xq K mg t u):aG P w K mg base aI 5 f fd zLv VR:=by
 have T:=O.st;have GX:aG P w K mg base aI 4 t.fO t.xF [ac1] (Ey t):=JQ T;refine aq T.cn.long λuL mL rL=>F.ok VX λaJ A _ s H vs Q E hr h=>?_
 .obtain⟨v,st,p,n,aa,hI,g,hp,k⟩:=h;subst aa;refine let b:TS:=_;let c:TS:=_;⟨_,ar (agL λpn=>av (bq (i:=3) VX.nd xz (aE xz) (mQ GX hr xz T.mO T.GK.kp T.bO .nil c9 (ab (pv 0) ag)))) (pR c (ar (b8 (PW.pt (pw_and (gu (bU iZ xz T.bl.iO jd (ab (pv 3) (ab (fq (v:=.ref t.i7) xz T.Mg xz) ag)))) (pw_and1 (bM wQ (bC (pv 3) xz) (pv 2) (bJ _))))) sX cp) (pR b (av (aZ (BA zC (pv 1) (fq xz mL rL) (bJ _))))))),?_⟩;refine aq hI λa aa ha=>?_;clear hI;subst aa;have an9:decide ((p:Int)<120)=true:=decide_eq_true li;refine vr xz (oX a st.1 (gR _ xz ha (JT g) ⟨Ul g,Vi st.2⟩ λz dx H1 s1 hz fj=>?_));have kk:=k H1 s1;rw[<-an9]at kk;refine aq (Fq O g fj) λC ty c6=>vr xz (⟨_,(.ref t.i7),(.ref C),(.ref t.i7),(decide (st.1 = Q_)),xz,ty,xz,c6.WQ,(tk (bG (λhx=>?_) λhx=>eW (au _ xz ⟨_,⟨_,xz,xz,kk⟩⟩)))⟩);refine bQ (aeb g hx) λr q aa hq=>?_;subst aa;refine vF (v:=.int (q:Nat)) xz fj T.rF T.Fl xz (vr xz ⟨_,⟨_,xz,xz,_,xz,bG (λhq2=>?_) λ_=>⟨_,xz,_,_,xz,xz,kk⟩⟩⟩);exact absurd hq2 (by show ¬((n:Int)<(q:Int));lia)
def VO:Sp:=λvs H Q _=>∃v ps,vs=[v]/\lO H v ps/\kU ps/\∀H',af H H'->Q .aN H'
def BE:ba ["program",ap8,"part",ac2,ac1] zLs (aS JN):=bj
def ag2(F:aQ K "look_over" "look_over" JN f fd)(B:Bl mg)(pC:mg "enumerate" = b_)
  (DH:Dp P w K mg base 1 "has_clerks" zLs WG)
  (DF:Dp P w K mg base 5 "fits" zLv VR) :
  aG P w K mg base aI 6 f fd zLs VO:=by
 refine F.ok BE λaJ A _ s H vs Q E hr h=>?_
 .refine jf h λv ps aa aT g k=>?_;clear h;subst aa;refine eD aT λa xs aa ha hp=>?_;clear aT;subst aa
  refine let l:TS:=_;let o:TS:=_;let t:TS:=_;⟨_,ar (b8 (ou (gu (mQ DH.G (hr.mono qc) xz DH.m DH.k DH.b .nil c9 (ab (pv 0) ag)))) sX cp)
   (pR t (av (ij gn xz (uU (b:=d_) xz pC (ab (pv 0) ag)) (kK xz (dA (bA (i:=1) BE.nd xz (aE xz)) (dA (bA (i:=2) BE.nd xz (aE xz)) kH))) (pR o (av (ij gn xz (uU (b:=d_) xz pC (ab (pv 2) ag)) (kK xz (dA (bA (i:=3) BE.nd xz (aE xz)) (dA (bA (i:=4) BE.nd xz (aE xz)) kH))) (pR l (av (b8 (ou (gu (dO DF hr xz (ab (pv 4) (ab (pv 3) (ab (bU eU xz B.len q_ (ab (pv 2) ag)) ag)))))) sX cp))))))))),?_⟩
  refine vr xz (⟨(.ref a),ps,xz,⟨a,xs,xz,ha,hp⟩,g,(λH1 s1=>(au _ xz (eW ?_)))⟩)
  let W1:IV:=λi σ H'=>∃c q p d,σ=[a_ (.ref a),c,q,p,d]/\af H H'
  refine vr xz (dP a xs xz (aD.of (s1 _ _ ha)) (zo (n:=xs.length) W1 ⟨b_,b_,b_,b_,xz,s1⟩ ?_ ?_ ?_ ?_))
  .intro i σ H' hi ax;exact lN ax λ_ _ _ _ _ s2=>f7 xs (xs[i]) (aD.of (s2 _ _ ha)) (aM hi)
  .intro σ H' ax;exact lN ax λ_ _ _ _ _ s2=>au xs (aD.of (s2 _ _ ha)) (aA _)
  .intro i σ H2 hi ax z H3 gA;refine lN ax λc q p d aa s2=>?_;clear ax;subst aa;refine jf gA λr x dR ez eH dF=>?_;subst ez;subst eH;have vQ:=dF xs (aD.of (s2 _ _ ha));refine aq (kD hp vQ) λpt xZ aa=>eD aa λb us aa ju gK=>?_;subst aa;refine oA (g.part pt (bu xZ)) λg3 g4=>?_;have ub:=r_ gK;rw[<-ub]at g3 g4;have s3:af H (upd H2 r (.tup [.int i,.ref b])):=aB s2 dR;refine⟨r,([.int i,.ref b]),xz,(aD.of ao),xz,(f7 (.int i) ([.ref b]) xz (dP (.ref b) ([]) xz xz ?_))⟩
   let W2:IV:=λj σ H'=>∃p d,σ=[a_ (.ref a),a_ (.int i),a_ (.ref b),p,d]/\af H H'
   refine vr xz (dP b us xz (aD.of (s3 _ _ ju)) (zo (n:=us.length) W2 ⟨p,d,xz,s3⟩ ?_ ?_ ?_ ?_))
   .intro j σ H' hj ax;exact bQ ax λ_ _ _ s4=>f7 _ (us[j]) (aD.of (s4 _ _ ju)) (aM hj)
   .intro σ H' ax;exact bQ ax λ_ _ _ s4=>au _ (aD.of (s4 _ _ ju)) (aA _)
   .intro j σ H4 hj ax z' H5 gA;refine bQ ax λp' d' aa s4=>?_;clear ax;subst aa;refine jf gA λr' y vW ez' P8 xU=>?_;subst ez';subst P8;have hyj:=xU _ (aD.of (s4 _ _ ju));refine aq (kD gK hyj) λst cB hI=>?_;have s5:af H (upd H4 r' (.tup [.int j,y])):=aB s4 vW;exact⟨r',([.int j,y]),xz,(aD.of ao),xz,(f7 (.int j) ([y]) xz (dP y ([]) xz xz (au _ xz (vr xz (vr xz ⟨b,⟨_,xz,.inr (aD.of (s5 _ _ ju)),y,st,j,us.length,xz,hI.keep λb xs e=>s5 _ _ e,g4 st (bu cB),wh,λH6 s6=>⟨_,xz,eW ⟨_,_,xz,s5.trans s6⟩⟩⟩⟩)))))⟩
   .intro σ H4 ax;refine bQ ax λp' d' aa s4=>?_;clear ax;subst aa;exact⟨_,_,_,(au _ xz s4)⟩
  .intro σ H2 ax;refine lN ax λ_ _ _ _ aa s2=>?_;clear ax;subst aa;exact k H2 s2
end
structure Own(H0:Hp)(m:e_)(H:Hp)(R:e_->Nat->Prop):Prop where
 l:∃lab:e_->Nat,∀a v,R a v->lab a=v
 p:∀a v,R a v->H a≠b_
 f:∀a v,R a v->a=m\/H0 a=b_
 t:∀b,H b=b_->H0 b=b_
section
variable{H0 H H':Hp}{m:e_}{R R':e_->Nat->Prop}
def Own.keep(h:Own H0 m H R)(k:∀b,H' b=b_->H b=b_):Own H0 m H' R:=⟨h.l,λa v r z=>h.p a v r (k a z),h.f,λb z=>h.t b (k b z)⟩
def Own.adds(h:Own H0 m H R)(k:∀b,H' b=b_->H b=b_){B:e_->Prop}{n:Nat}(hB:∀b,B b->H b=b_)(Dc:∀b,B b->H' b≠b_):Own H0 m H' λa v=>R a v\/(B a/\v=n):=by
 obtain⟨⟨lab,h1⟩,h2,h3,h4⟩:=h
 classical
 refine⟨⟨λa=>if B a then n else lab a,λa v r=>?_⟩,λa v r=>?_,λa v r=>?_,λb z=>h4 b (k b z)⟩
 .rcases r with r | ⟨r,rfl⟩
  .show (if B a then n else lab a)=v;rw[if_neg λz=>h2 a v r (hB a z)];exact h1 a v r
  .show (if B a then v else lab a)=v;rw[if_pos r]
 .rcases r with r | ⟨r,rfl⟩
  .exact λz=>h2 a v r (k a z)
  .exact Dc a r
 .rcases r with r | ⟨r,rfl⟩
  .exact h3 a v r
  .exact .inr (h4 a (hB a r))
def Own.add(h:Own H0 m H R)(k:∀b,H' b=b_->H b=b_)(hB:H b=b_)(Dc:H' b≠b_):Own H0 m H' λa v=>R a v\/(a=b/\v=n):=
 h.adds k (B:=λa=>a=b) (λc z=>by rw[z];exact hB) (λc z=>by rw[z];exact Dc)
def EF:∀b,upd H x o b=b_->H b=none:=λb e=>by
 by_cases z:b=x
 .rw[z,ao]at e;cases e
 .rwa[ai z]at e
def Own.new(h:Own H0 m H R)(hB:H b=b_):Own H0 m (upd H b o) λa v=>R a v\/(a=b/\v=n):=h.add EF hB (by rw[ao];intro z;cases z)
end
structure eF(m:e_)(H H':Hp):Prop where
 k:∀b o,b≠m->H b=a_ o->H' b=a_ o
 t:∀b,H' b=b_->H b=b_
def eF.of(s:af H H'):eF m H H':=⟨λb o _ e=>s b o e,λb h=>s.free h⟩
def eF.trans(a:eF m H H1)(b:eF m H1 H2):eF m H H2:=⟨λc o n e=>b.k c o n (a.k c o n e),λc h=>a.t c (b.t c h)⟩
def eF.upd:eF m H (upd H m o):=⟨λb q n e=>by rw[ai n];exact e,EF⟩
section
variable{t:aW}{C CT:e_}{u:mm}
def jV.same(s':af H H')(h:jV t H v s):jV t H' v s:=h.keep λb C dx fs e _=>s' _ _ e
def Sx(t:aW):Sp:=λvs H Q _=>∃v p,vs=[v]/\IsPart H v p/\p.length<=120/\(∀s∈p,cG p.length s)/\∀H' b us,af H H'->H b=b_->H' b=a_ (.tup us)->Paired (jV t H') us p->Q (.ref b) H'
def ady:ba zLw zLw (aS Kn):=bj
def U8:([ac1]:List Str).Nodup:=dk
def Jm{α β:Type}{F:α->β->Prop}{x:α}{y:β}(h:F x y):∀{l:List α} {r:List β},Paired F l r->Paired F (l++[x]) (r++[y])
 | _,_,.nil=>.cons h .nil
 | _,_,.cons g t=>.cons g (Jm h t)
def acR(F:aQ K "steps_of" "steps_of" Kn f fd)(T:rO K mg t)(ph:mg Y_ = b_):aG P w K mg base aI 5 f fd zLw (Sx t):=by
 have GX:aG P w K mg base aI 4 t.fO t.xF [ac1] (Ey t):=JQ T;refine F.ok ady λaJ A _ s H vs Q E hr h=>?_
 .refine jf h λv p aa aT hl zq2=>?_;clear h;subst aa;refine eD aT λa vs aa ha hp=>?_;clear aT;subst aa;refine oA zq2 λhg k=>?_
  refine⟨_,av (aZ (og wz xz ph rj (ab (iJ (N:=[ac1]) (idx:=[]) xz (dw.of (by kernel_rfl)) (iG (a8 _)) (ow (pv 0))
   (λ_ _ _ _=>bA (i:=0) U8 xz (aE xz) (.inr xz)) (λ_ _ _ _=>i3) λ_ _ _ _=>mQ GX hr xz T.mO T.GK.kp T.bO .nil c9 (ab (pv 0) ag)) ag))),?_⟩
  have hlen:=r_ hp;refine au _ xz (dJ a xz ⟨_,aD.of ha⟩ (gr (n:=vs.length) (λi ys H'=>i<=vs.length/\af H H'/\Paired (jV t H') ys (p.take i)) (cY (eh w8)) (eJ (a8 _) (af.refl _) .nil) ?_ ?_ ?_ ?_ ?_))
  .intro i ys H' ax;refine de ax λ_ _ e=>?_;rw[r_ e,gm];exact xl
  .intro i ys H' hi ax;exact de ax λ_ s1 _=>f7 _ _ (aD.of (s1 _ _ ha)) (aM hi)
  .intro ys H' ax;exact de ax λ_ s1 _=>au _ (aD.of (s1 _ _ ha)) (aA _)
  .intro i ys H1 hi ax z H2 gA;refine de ax λ_ s1 e=>oA gA λeH fj=>?_;subst eH;have hz:=fj _ (aD.of (s1 _ _ ha));refine aq (kD hp hz) λst cB hI=>?_;have gst:=hg st (bu cB);have hI2:qf H2 z st:=hI.keep λb xs e=>s1 _ _ e;refine aq hI2 λb aa hb=>?_;clear hI2;subst aa;dsimp only[ng,i6];rw[if_pos rfl];refine vr xz (oX b st.1 (gR _ xz hb (JT gst) ⟨Ul gst,Vi st.2⟩ λz dx H3 s3 Hw Hv=>(eJ hi (s1.trans s3) ?_)));rw[jv,cB];exact Jm ⟨z,b,dx,xz,Hv⟩ (Paired.bZ e λ_ _ q=>q.same s3)
  .intro ys H1 ax;refine de ax λ_ s1 e=>?_;have hle:=r_ e;rw[gm]at hle;refine⟨cY (eh li),λr dR=>⟨r,ys,xz,.inl ⟨aj.of ao,λl hl=>?_⟩⟩⟩;have s2:=aB (o:=.lst ys) s1 dR;have s3:=aB (o:=.tup ys) s2 hl;rw[jP li]at e;exact k _ l ys s3 (s2.free hl) ao (Paired.bZ e λ_ _ q=>(q.same (aB (af.refl _) dR)).same (aB (af.refl _) hl))
end
structure B8(K:u_)(x qual:Str)(st:Stmt)(f:e_)(fd:jS)(d:Str):Prop where
 ex:∃(oc:f_) (od:Option e_) (T:e_) (kV doc pm:f_) (an:Option e_) (aJ ct:f_) (jL:Array (Option f_)) (c1:f_) (d1:Option e_) (n1:Nat) (t9:Array (Option f_)) (tk:Nat),fd=B_ x qual (kI st) (iL st) (aS st) (.ref T) kV doc pm an aJ ct/\K.lookup f=a_ ⟨oc,od,.func fd,jL⟩/\W.codeIn K aJ qual=c_/\K.lookup T=a_ ⟨c1,d1,.seq #[.str d tk] n1,t9⟩
 kp:x_ K (.ref f)=c_
def k0:Ck:=⟨0,0,[0,0,0,0],0,[]⟩
def qq(kd:Str)(ps:List Pt):Mc:=⟨kd,ps,ps.map λ_=>k0,cW 12 0,[],cW 12 []⟩
def Jo{α β γ:Type}{F:α->β->Prop}{y:β}:∀{l:List α} {r:List γ},l.length=r.length->(∀x∈l,F x y)->Paired F l (r.map λ_=>y)
 | [],[],_,_=>.nil
 | [],_::_,h,_=>by cases h
 | _::_,[],h,_=>by cases h
 | x::l,z::r,h,g=>.cons (g x (by simp)) (Jo (by simpa using h) λx hx=>g x (eL _ hx))
def RL{α β:Type}{F:α->β->Prop}{y:β}:∀{l:List α} {n:Nat},l.length=n->(∀x∈l,F x y)->Paired F l (cW n y)
 | [],0,_,_=>.nil
 | [],_+1,h,_=>by cases h
 | _::_,0,h,_=>by cases h
 | x::l,n+1,h,g=>.cons (g x (by simp)) (RL (by simpa using h) λx hx=>g x (eL _ hx))
def akr:([S_,"part"]:List Str).Nodup:=dk
def FK:(zLw:List Str).Nodup:=dk
def ako:([J_]:List Str).Nodup:=dk
def Kb{α:Type}{l:List α}{x y:α}{i:Nat}(h:(l++[x])[i]?=a_ y):l[i]?=a_ y\/(i=l.length/\y=x):=by
 by_cases hi:i<l.length
 .left;rwa[kA hi]at h
 .right
  rw[nK li]at h
  by_cases e:i-l.length=0
  .rw[e]at h;simp at h;exact⟨li,h.symm⟩
  .rw[qV (by simp;lia)]at h;cases h
def Own.nx(n:Nat)(h:Own H0 m H R)(hB:H b=b_):∃R',Own H0 m (upd H b o) R'/\(∀a v,R a v->R' a v)/\R' b n:=⟨_,h.new (n:=n) hB,λa v z=>.inl z,.inr ⟨xz,xz⟩⟩
def Own.nw(n:Nat)(h:Own H0 m H R)(hB:H b=b_):∃H' R',H'=upd H b o/\af H H'/\H' b=a_ o/\Own H0 m H' R'/\(∀a v,R a v->R' a v)/\R' b n:=a7 (h.nx (o:=o) n hB) λR' a i r=>⟨_,R',xz,aB (af.refl _) hB,ao,a,i,r⟩
def vn{fs:List (Str×V)}{k:Nat}(x:Str)(v:V)(_:h m=a_ (.ins C dx fs))(hf:fs.length<=k)(O:Own H m h R):∃f h',f=aO x v fs/\h'=upd h m (.ins C dx f)/\f.length<=k+1/\eF m h h'/\h' m=a_ (.ins C dx f)/\Own H m h' R:=⟨_,_,xz,xz,cu (q9 x v fs) (wt hf),eF.upd,ao,O.keep EF⟩
def Own.nxs(n:Nat)(B:e_->Prop)(h:Own H0 m H R)(k:∀b,H' b=b_->H b=b_)(hB:∀b,B b->H b=b_)(Dc:∀b,B b->H' b≠b_):∃R',Own H0 m H' R'/\(∀a v,R a v->R' a v)/\∀b,B b->R' b n:=⟨_,h.adds (n:=n) k hB Dc,λa v z=>.inl z,λb z=>.inr ⟨z,xz⟩⟩
def eF.tup{fs:List (Str×V)}(k:eF m H H')(hm:H m=a_ (.ins C dx fs)):∀b xs,H b=a_ (.tup xs)->H' b=a_ (.tup xs):=λb xs e=>k.k b _ (λz=>by rw[z,hm]at e;cases e) e
def eF.lst{fs:List (Str×V)}(k:eF m H H')(hm:H m=a_ (.ins C dx fs))(e:H b=a_ (.lst xs)):H' b=a_ (.lst xs):=k.k b _ (λz=>by rw[z,hm]at e;cases e) e
def qd{fs my:List (Str×V)}(e:my=aO x v fs):my.lookup x=a_ v:=by rw[e,eV,if_pos rfl]
def bY{fs my:List (Str×V)}(h:fs.lookup y=r)(e:my=aO x v fs)(n:y≠x):my.lookup y=r:=by rw[e,eV,if_neg n];exact h
def Uj{K:u_}{H h:Hp}{m C dx pg:e_}{fs:List (Str×V)}{fld:Str}{dZ:List V}{ps:List Pt}{D:Ends}{σ:L2.St}{R:e_->Nat->Prop}{k:Nat}(n:Nat)(e0:σ[0]?=a_ (a_ (.ref m)))(e1:σ[1]?=a_ (a_ (.ref pg)))(hp:h pg=a_ (.tup dZ))(hl:dZ.length=ps.length)(h4:ps.length<=4)(hm:h m=a_ (.ins C dx fs))(cl:dg K C)(na:bT K C fld)(hf:fs.length<=k)(hk:k<900)(O:Own H m h R)
  (q:∀l h' f' R',f'=aO fld (.ref l) fs->f'.length<=k+1->h' m=a_ (.ins C dx f')->h' l=a_ (.lst (ps.map λ_=>V.int 0))->eF m h h'->Own H m h' R'->(∀a v,R a v->R' a v)->R' l n->D.nx σ h') :
  Xy K (oF 0) (MB (XI K (oF 1)) (i6 0) ng (tC (.int 0)) [] 1) fld D σ h:=by
 refine⟨_,e1,pg,xz,⟨_,aD.of hp⟩,gr (n:=dZ.length) (λi ys H'=>i<=dZ.length/\H'=h/\ys=(ps.take i).map λ_=>V.int 0) (cY (eh li)) (eJ (a8 _) xz xz) ?_ ?_ ?_ ?_ ?_⟩
 .intro i ys H' ax;obtain⟨_,_,e⟩:=ax;rw[e,aL,gm];lia
 .intro i ys H' hi ax;obtain⟨_,rfl,_⟩:=ax;exact f7 _ _ (aD.of hp) (aM hi)
 .intro ys H' ax;obtain⟨_,rfl,_⟩:=ax;exact au _ (aD.of hp) (aA _)
 .intro i ys H' hi ax z iF gA;obtain⟨_,rfl,e⟩:=ax;obtain⟨eH,fj⟩:=gA;subst eH;dsimp only[ng,i6];rw[if_pos rfl];refine eJ hi xz ?_;rw[jv,aM (show i<ps.length by lia),fv,<-e];rfl
 intro ys H' ax;obtain⟨_,P8,e⟩:=ax;subst P8;rw[jP li]at e;subst e;refine⟨by rw[aL];exact cY (eh li),λl nl=>?_⟩;have s1:af H' (upd H' l (.lst (ps.map λ_=>V.int 0))):=aB (af.refl _) nl;have g1:upd H' l (.lst (ps.map λ_=>V.int 0)) l=a_ (.lst (ps.map λ_=>V.int 0)):=ao;obtain⟨R1,O1,i1,r1⟩:=O.nx (o:=.lst (ps.map λ_=>V.int 0)) n nl;have jc:=s1 _ _ hm;generalize upd H' l (.lst (ps.map λ_=>V.int 0))=v at s1 g1 O1 jc ⊢;refine⟨_,e0,m,C,dx,fs,xz,jc,cl,na,li,?_⟩;have ku:eF m v (upd v m (.ins C dx (aO fld (.ref l) fs))):=eF.upd;exact q l _ _ R1 xz (by have:=q9 fld (V.ref l) fs;lia) ao (ku.lst jc g1) ((eF.of s1).trans ku) (O1.keep (EF (H:=v) (x:=m))) i1 r1
section
variable{t:aW}{C CT:e_}{u:mm}
def B8.ok{st:Stmt}{k:Nat}(F:B8 K x qual st f fd d)(S:ba N ps (aS st))
  (xc:∀(aJ:f_) (A:h_) (outer:List Env) (s:g_) (H:Hp) (vs:List V) (Q:VK) (E:XK),eG k (A.deeper (envOfC qual (aS st) s.zS f aJ))->sp vs H Q E->
   ∃t,gd (vv aI P w K mg base N qual (aS st) f aJ A outer s H E).vH (iL st) t/\t { nx:=λ_ H'=>Q .aN H',rt:=Q } (start N vs) H) (len:∀vs H Q E,sp vs H Q E->vs.length=ps.length:=by intro _ _ _ _ h;(repeat obtain⟨_,h⟩:=h);subst_vars;rfl):aG P w K mg base aI (k+1) f fd ps sp:=by
 refine Bf F.ex λoc od T kV doc pm an aJ ct jL aa=>fX aa λc1 d1 n1 t9 tk aa=>oH aa λaa lk iU _=>?_;subst aa;exact wV lk iU S len λA outer s H vs Q E hr pj=>aq (xc aJ A outer s H vs Q E hr pj) λt h q=>au t h.vH q
def ahm(F:B8 K L_ "Machine.__init__" Fc f fd P_):∃tk,Binds K fd zLl [.str P_ tk]:=by
 refine Bf F.ex λoc od T kV doc pm an aJ ct jL aa=>fX aa λc1 d1 n1 t9 tk aa=>oH aa λaa lk iU lT=>?_;subst aa;refine⟨tk,λs us hK hl=>?_⟩
 have lx:us.length=2:=by
  rw[bL]at hl;exact Nat.add_right_cancel hl
 match us,lx with
 | [a,b],_=>exact W.binds_K hK xz lT xz xz xz
def UK(t:aW)(C CT:e_):Sp:=λvs H Q _=>∃m dx v ps kd,vs=[.ref m,v,.str kd]/\H m=a_ (.ins C dx [])/\lO H v ps/\kU ps/\(kd = P_\/kd = J_\/kd = "none")/\
 ∀H' A lab,bf t C CT H' m A (qq kd ps)->jn lab m A->v=.ref A.pg->eF m H H'->(∀b,cq m A b->b=m\/H b=b_)->Q .aN H'
def agv:ba zLl zLl (aS Fc):=bj
def afa{f:e_}{fd:jS}(F:B8 K L_ "Machine.__init__" Fc f fd P_)(cM:fh K C)(T:rO K mg t)(ph:mg Y_ = b_)(dQ:mg "range" = b_)
  (DK:Dp P w K mg base 6 "look_over" zLs VO)
  (DT:Dp P w K mg base 3 "tray_of" [S_] (Ts CT))
  (DS:Dp P w K mg base 5 "steps_of" zLw (Sx t)) :
  aG P w K mg base aI 7 f fd zLl (UK t C CT):=by
 refine aq T.cn.names λuN mN rN=>aq T.cn.fg λuR mR rR=>F.ok agv λaJ A _ s H vs Q E hr h=>?_
 .obtain⟨m,dx,v,ps,kd,aa,hm,hP,g,ui,q⟩:=h;subst aa;have sF:=hr.mono (show 3<=6 by decide);have Pg:=hr.mono (show 5<=6 by decide)
  refine let R1:TS:=_;let R2:TS:=_;let R3:TS:=_;let R4:TS:=_;let R5:TS:=_;let R6:TS:=_;let R7:TS:=_;let R8:TS:=_;let R9:TS:=_;let nJ:TS:=_;⟨_,ar (cX (dO DK hr xz (ab (pv 1) ag))) (pR nJ (ar (fV (pv 0) (iJ (N:=[S_,"part"]) (idx:=[2]) xz (dw.of (by kernel_rfl)) (iG (aA _)) (ow (pv 1)) (λ_ _ _ _=>bA (i:=1) akr xz (aE xz) (.inr xz)) (λ_ _ _ _=>i3)
     λ_ _ _ _=>dO DT sF xz (ab (pv 0) ag)) xz)
   (pR R9 (ar (fV (pv 0) (pv 1) xz) (pR R8 (ar (fV (pv 0) (pv 2) xz) (pR R7 (ar (fV (pv 0) (og wz xz ph rj (ab (iJ (N:=["part"]) (idx:=[]) xz (dw.of (by kernel_rfl)) (iG (a8 _)) (ow (pv 1)) (λ_ _ _ _=>bA (i:=0) FK xz (aE xz) (.inr xz)) (λ_ _ _ _=>i3)
     λ_ _ _ _=>dO DS Pg xz (ab (pv 0) ag)) ag)) xz)
   (pR R6 (ar (fV (pv 0) (iJ (N:=["part"]) (idx:=[]) xz (dw.of (by kernel_rfl)) (iG (a8 _)) (ow (pv 1)) (λ_ _ _ _=>bA (i:=0) FK xz (aE xz) (.inr xz)) (λ_ _ _ _=>i3) λ_ _ _ _=>aw) xz)
   (pR R5 (ar (fV (pv 0) (iJ (N:=["part"]) (idx:=[]) xz (dw.of (by kernel_rfl)) (iG (a8 _)) (ow (pv 1)) (λ_ _ _ _=>bA (i:=0) FK xz (aE xz) (.inr xz)) (λ_ _ _ _=>i3) λ_ _ _ _=>aw) xz)
   (pR R4 (ar (fV (pv 0) (iJ (N:=["part"]) (idx:=[]) xz (dw.of (by kernel_rfl)) (iG (a8 _)) (ow (pv 1)) (λ_ _ _ _=>bA (i:=0) FK xz (aE xz) (.inr xz)) (λ_ _ _ _=>i3) λ_ _ _ _=>br Fg (dW (ab aw ag)) (fq xz mR rR)) xz)
   (pR R3 (ar (fV (pv 0) (br Fg (dW (ab aw ag)) (fq xz mN rN)) xz) (pR R2 (ar (fV (pv 0) (dW ag) xz) (pR R1 (av (fV (pv 0) (iJ (N:=[J_]) (idx:=[]) xz (dw.of (by kernel_rfl)) (iG (a8 _)) (oa xz dQ (ab (fq xz mN rN) ag)) (λ_ _ _ _=>bA (i:=0) ako xz (aE xz) (.inr xz)) (λ_ _ _ _=>i3) λ_ _ _ _=>dW ag) xz))))))))))))))))))))),?_⟩
  refine eD (id hP) λpg dZ aa kr mq=>?_;subst aa;refine vr xz (⟨(.ref pg),ps,xz,hP,g,(λH1 s1=>?_)⟩);have dG:=r_ mq;have hle:=g.le;have npm:=gU kr hm (by intro z;cases z);have jc:=s1 _ _ hm;obtain⟨R0,o0,r0⟩:∃R,Own H m H1 R/\R m 2:=⟨λa v=>a=m/\v=2,⟨⟨λ_=>2,λa v z=>z.2.symm⟩,λa v z e=>(by rw[z.1,jc]at e;cases e),λa v z=>.inl z.1,λb z=>s1.free z⟩,xz,xz⟩
  have Cb:V.str kd=.str P_\/V.str kd=.str J_\/V.str kd=.str "none":=by
   rcases ui with e | e | e
   .exact .inl (by rw[e])
   .exact .inr (.inl (by rw[e]))
   .exact .inr (.inr (by rw[e]))
  refine au _ xz (dJ pg xz ⟨_,aD.of (s1 _ _ kr)⟩ (gr (n:=dZ.length) (λi ys H'=>i<=dZ.length/\∃ts:List (e_×e_×List e_),ys=(ts.map λx=>V.ref x.1)/\ts.length=i/\af H1 H'/\(∀x∈ts,dC H' x.1 CT kd 0 [] x.2.1 x.2.2)/\∃R,Own H m H' R/\(∀a v,R0 a v->R a v)/\∀j x,ts[j]?=a_ x->∀b∈x.1::x.2.1::x.2.2,R b (28+6*j)) (cY (eh (by exact w8))) ⟨a8 _,⟨[],xz,xz,af.refl _,λx hx=>(by cases hx),R0,o0,λ_ _ z=>z,λj x z=>(by simp at z)⟩⟩ ?_ ?_ ?_ ?_ ?_))
  .intro i ys H' ax;obtain⟨_,ts,rfl,rfl,_⟩:=ax;rw[aL];exact aA _
  .intro i ys H' hi ax;obtain⟨_,ts,_,_,s2,_⟩:=ax;exact f7 _ _ (aD.of ((s1.trans s2) _ _ kr)) (aM hi)
  .intro ys H' ax;obtain⟨_,ts,_,_,s2,_⟩:=ax;exact au _ (aD.of ((s1.trans s2) _ _ kr)) (aA _)
  .intro i ys H2 hi ax z H3 gA;obtain⟨_,ts,rfl,rfl,s2,ht,R,o2,r2,r3⟩:=ax;obtain⟨eH,fj⟩:=gA;subst eH;dsimp only[ng,i6];rw[if_pos rfl];refine vr xz (dJ kd xz ui λH4 x q' qr T4 k4 ky=>?_);have s4:af H3 H4:=λb o e=>k4 b o (by simp) e
   obtain⟨R',o4,i4,n4⟩:=o2.nxs (28+6*ts.length) (λb=>b∈x::q'::qr) (λb z=>s4.free z) ky (λb hb y=>by
    refine oE (T4.there b hb) λo e=>?_;rw[e]at y;cases y)
   refine⟨hi,⟨ts++[(x,q',qr)],by rw[fv];rfl,by rw[bL];rfl,s2.trans s4,λy hy=>?_,R',o4,λa v z=>i4 a v (r2 a v z),λj y hy b hb=>?_⟩⟩
   .rcases dH.mp hy with hy | hy
    .exact(ht y hy).keep (λb _ o e=>s4 b o e) λb xs e=>s4 b _ e
    .rw[cD.mp hy];exact T4
   .rcases Kb hy with hy | ⟨e1,e2⟩
    .exact i4 _ _ (r3 j y hy b hb)
    .subst e1;subst e2;exact n4 b hb
  intro ys H2 ax;obtain⟨_,ts,rfl,xX,s2,ht,R1,o2,i1,r1⟩:=ax;refine⟨by rw[aL];exact cY (eh (by exact wu)),λlt nlt=>fe (o2.nw (o:=.lst (ts.map λx=>V.ref x.1)) 4 nlt) λH3 R2 e s3 bz o3 i2 r2=>?_⟩;rw[<-e];clear e;have ja:=s3 _ _ (s2 _ _ jc);have T3:=λx hx=>(ht x hx).keep (λb _ o e=>s3 b o e) λb xs e=>s3 b _ e;have K3:eF m H H3:=eF.of (s1.trans (s2.trans s3));refine vr xz (kF m C dx ([]) xz ja cM.cl cM.gE qc (fe (vn "trays" (V.ref lt) ja (aA 0) o3) λsI H4 HW e hf1 k4 kx o4=>?_));rw[<-HW,<-e];clear e;have K4:=K3.trans k4;refine au _ xz (vr xz (kF m C dx sI xz kx cM.cl cM.program (by exact wb) (fe (vn "program" (V.ref pg) kx hf1 o4) λqS H5 Dh e hf2 k5 ug o5=>?_)));rw[<-Dh,<-e];clear e;have K5:=K4.trans k5;refine au _ xz (vr xz (kF m C dx qS xz ug cM.cl cM.kind (by exact wb) (fe (vn S_ (V.str kd) ug hf2 o5) λqB H6 AM e hf3 k6 HK o6=>?_)));rw[<-AM,<-e];clear e;have K6:=K5.trans k6;have Gj:=K6.tup hm _ _ kr;refine au _ xz (dJ pg xz ⟨_,aD.of Gj⟩ (gr (n:=dZ.length) (λi ys H'=>i<=dZ.length/\af H6 H'/\Paired (zf t H') ys (ps.take i)) (cY (eh (by exact w8))) (eJ (a8 _) (af.refl _) .nil) ?_ ?_ ?_ ?_ ?_))
  .intro i ys H' ax;obtain⟨_,_,e⟩:=ax;rw[r_ e,gm];exact xl
  .intro i ys H' hi ax;obtain⟨_,s,_⟩:=ax;exact f7 _ _ (aD.of (s _ _ Gj)) (aM hi)
  .intro ys H' ax;obtain⟨_,s,_⟩:=ax;exact au _ (aD.of (s _ _ Gj)) (aA _)
  .intro i ys H' hi ax z iF gA;obtain⟨_,s7,e⟩:=ax;obtain⟨eH,fj⟩:=gA;subst eH;have hz:=fj _ (aD.of (s7 _ _ Gj));refine aq (kD mq hz) λp hp hI=>oA (g.part p (bu hp)) λg1 g2=>?_;dsimp only[ng,i6];rw[if_pos rfl];refine vr xz (⟨z,p,xz,((hI.keep (K6.tup hm)).keep λb xs e=>s7 _ _ e),g1,g2,(λH8 b us s8 nb hb gK=>⟨hi,s7.trans s8,?_⟩)⟩);rw[jv,hp];exact Jm ⟨b,us,xz,hb,gK⟩ (Paired.bZ e λ_ _ q=>q.keep (λb xs e=>s8 _ _ e) λb C dx fs e _=>s8 _ _ e)
  intro ys H7 ax;obtain⟨_,s7,e7⟩:=ax;have anF:=r_ e7;rw[gm]at anF;rw[jP li]at e7;refine⟨cY (eh li),λr7 nr7=>⟨r7,ys,xz,.inl ⟨aj.of ao,λst Aq=>?_⟩⟩⟩;have s8:af H7 (upd (upd H7 r7 (.lst ys)) st (.tup ys)):=aB (aB (af.refl _) nr7) Aq;have cB:upd (upd H7 r7 (.lst ys)) st (.tup ys) st=a_ (.tup ys):=ao;generalize upd (upd H7 r7 (.lst ys)) st (.tup ys)=H8 at s8 cB ⊢;have hs8:Paired (zf t H8) ys ps:=Paired.bZ e7 λ_ _ q=>q.keep (λb xs e=>s8 _ _ e) λb C dx fs e _=>s8 _ _ e;have qK:=s7.trans s8;have qP:=qK _ _ HK;have o8:=o6.keep (λb z=>qK.free z);have K8:=K6.trans (eF.of qK);refine vr xz (kF m C dx qB xz qP cM.cl cM.steps (by exact wb) (fe (vn "steps" (V.ref st) qP hf3 o8) λfs4 H9 AL e hf4 k9 ye o9=>?_));rw[<-AL,<-e];clear e;have K9:=K8.trans k9;have anm:=K9.tup hm _ _ kr;refine Uj (ps:=ps) 6 xz xz anm dG hle ye cM.cl cM.places hf4 qc o9 λpl Ic fs5 R3 AK hf5 xy gpl CI o11 i10 Zo=>?_;have K11:=K9.trans CI;have alT:=K11.tup hm _ _ kr;refine Uj (ps:=ps) 8 xz xz alT dG hle xy cM.cl cM.counts hf5 qc o11 λct H13 fs6 R4 yn hf6 Yh hct ZT o13 i12 Zn=>?_;have K13:=K11.trans ZT;have NA:=K13.tup hm _ _ kr;refine au _ xz (dJ pg xz ⟨_,aD.of NA⟩ (gr (n:=dZ.length) (λi ys H'=>i<=dZ.length/\∃rs:List e_,ys=rs.map V.ref/\rs.length=i/\af H13 H'/\(∀a∈rs,H' a=a_ (.lst (([0,0,0,0]:List Int).map V.int)))/\∃R,Own H m H' R/\(∀a v,R4 a v->R a v)/\∀(j:Nat) a,rs[j]?=a_ a->R a (24+6*j)) (cY (eh (by exact w8))) ⟨a8 _,⟨[],xz,xz,af.refl _,λx hx=>(by cases hx),R4,o13,λ_ _ z=>z,λj x z=>(by simp at z)⟩⟩ ?_ ?_ ?_ ?_ ?_))
  .intro i ys H' ax;obtain⟨_,rs,rfl,rfl,_⟩:=ax;rw[aL];exact aA _
  .intro i ys H' hi ax;obtain⟨_,rs,_,_,s,_⟩:=ax;exact f7 _ _ (aD.of (s _ _ NA)) (aM hi)
  .intro ys H' ax;obtain⟨_,rs,_,_,s,_⟩:=ax;exact au _ (aD.of (s _ _ NA)) (aA _)
  .intro i ys H' hi ax z iF gA;obtain⟨_,rs,rfl,rfl,s,CN,R,oR,iR,OR⟩:=ax;obtain⟨eH,fj⟩:=gA;subst eH;dsimp only[ng,i6];rw[if_pos rfl];refine⟨qc,λy ny=>⟨y,4,_,xz,xz,ao,qc,qc,qc,λx nx=>?_⟩⟩;have sy:af iF (upd iF y (.lst [.int 0])):=aB (af.refl _) ny;have oy:=oR.keep (λb z=>sy.free z);refine a7 (oy.nx (o:=.lst (([0,0,0,0]:List Int).map V.int)) (24+6*rs.length) nx) λR' o' i' r'=>?_;have sx:af iF (upd (upd iF y (.lst [.int 0])) x (.lst (([0,0,0,0]:List Int).map V.int))):=aB sy nx;have hx:upd (upd iF y (.lst [.int 0])) x (.lst (([0,0,0,0]:List Int).map V.int)) x=a_ (.lst (([0,0,0,0]:List Int).map V.int)):=ao;refine⟨hi,⟨rs++[x],by rw[fv];rfl,by rw[bL];rfl,s.trans sx,λy hy=>?_,R',o',λa v z=>i' a v (iR a v z),λj y hy=>?_⟩⟩
   .rcases dH.mp hy with hy | hy
    .exact sx _ _ (CN y hy)
    .rw[cD.mp hy];exact hx
   .rcases Kb hy with hy | ⟨e1,e2⟩
    .exact i' _ _ (OR j y hy)
    .subst e1;subst e2;exact r'
  intro ys H14 ax;obtain⟨_,rs,rfl,ao',Ao,CN,R5,o14,i14,Zm⟩:=ax;refine⟨by rw[aL];exact cY (eh (by exact wu)),λrg nrg=>fe (o14.nw (o:=.lst (rs.map V.ref)) 10 nrg) λH15 R6 e Hj dQ o15 i15 Zl=>?_⟩;rw[<-e];clear e;have Gm:=Hj _ _ (Ao _ _ Yh);have anh:=λa ha=>Hj _ _ (CN a ha);have K15:=K13.trans (eF.of (Ao.trans Hj));refine vr xz (kF m C dx fs6 xz Gm cM.cl cM.fg (by exact wb) (fe (vn "regs" (V.ref rg) Gm hf6 o15) λfs7 AQ um e hf7 ZS anC o16=>?_));rw[<-um,<-e];clear e;have K16:=K15.trans ZS;refine⟨qc,λy ny=>⟨y,12,_,xz,xz,ao,qc,qc,qc,λce ZE=>?_⟩⟩;have sy:af AQ (upd AQ y (.lst [.int 0])):=aB (af.refl _) ny;have oy:=o16.keep (λb z=>sy.free z);refine a7 (oy.nx (o:=.lst ((cW 12 (0:Int)).map V.int)) 12 ZE) λR7 Zt i17 Zk=>?_;have Hi:af AQ (upd (upd AQ y (.lst [.int 0])) ce (.lst ((cW 12 (0:Int)).map V.int))):=aB sy ZE;have v3:upd (upd AQ y (.lst [.int 0])) ce (.lst ((cW 12 (0:Int)).map V.int)) ce=a_ (.lst ((cW 12 (0:Int)).map V.int)):=ao;rw[show (cW (12:Int).toNat [V.int 0]).flatten=(cW 12 (0:Int)).map V.int from rfl];generalize upd (upd AQ y (.lst [.int 0])) ce (.lst ((cW 12 (0:Int)).map V.int))=H17 at Hi v3 Zt ⊢;have Om:=Hi _ _ anC;have K17:=K16.trans (eF.of Hi);refine vr xz (kF m C dx fs7 xz Om cM.cl cM.cells (by exact wb) (fe (vn "cells" (V.ref ce) Om hf7 Zt) λfs8 H18 sJ e hf8 ZR anB o18=>?_));rw[<-sJ,<-e];clear e;have K18:=K17.trans ZR;refine⟨qc,λac nac=>fe (o18.nw (o:=.lst []) 14 nac) λH19 R8 e OO eT o19 i19 Zj=>?_⟩;rw[<-e];clear e;have Ol:=OO _ _ anB;have K19:=K18.trans (eF.of OO);refine vr xz (kF m C dx fs8 xz Ol cM.cl cM.gV (by exact wb) (fe (vn "acts" (V.ref ac) Ol hf8 o19) λfs9 H20 qT e hf9 ZQ anA o20=>?_));rw[<-qT,<-e];clear e;have K20:=K19.trans ZQ;refine⟨12,xz,qc,qc,?_⟩;rw[show (12:Int).toNat=12 from rfl];refine gr (n:=12) (λi ys H'=>i<=12/\∃rs:List e_,ys=rs.map V.ref/\rs.length=i/\af H20 H'/\(∀a∈rs,H' a=a_ (.lst (([]:List Int).map V.int)))/\∃R,Own H m H' R/\(∀a v,R8 a v->R a v)/\∀(j:Nat) a,rs[j]?=a_ a->R a (26+6*j)) (cY (eh li)) ⟨a8 _,⟨[],xz,xz,af.refl _,λx hx=>(by cases hx),R8,o20,λ_ _ z=>z,λj x z=>(by simp at z)⟩⟩ ?_ ?_ ?_ ?_ ?_
  .intro i ys H' ax;obtain⟨_,rs,rfl,rfl,_⟩:=ax;rw[aL];exact aA _
  .intro i ys H' hi ax;obtain⟨_,rs,_,_,s,_⟩:=ax;exact hi
  .intro ys H' ax;obtain⟨_,rs,_,_,s,_⟩:=ax;exact aA _
  .intro i ys H' hi ax z iF gA;obtain⟨_,rs,rfl,rfl,s,CN,R,oR,iR,OR⟩:=ax;obtain⟨eH,fj⟩:=gA;subst eH;dsimp only[ng,i6];rw[if_pos rfl];refine⟨qc,λx nx=>a7 (oR.nx (o:=.lst (([]:List Int).map V.int)) (26+6*rs.length) nx) λR' o' i' r'=>?_⟩;have sx:af iF (upd iF x (.lst (([]:List Int).map V.int))):=aB (af.refl _) nx;have hx:upd iF x (.lst (([]:List Int).map V.int)) x=a_ (.lst (([]:List Int).map V.int)):=ao;refine⟨hi,⟨rs++[x],by rw[fv];rfl,by rw[bL];rfl,s.trans sx,λy hy=>?_,R',o',λa v z=>i' a v (iR a v z),λj y hy=>?_⟩⟩
   .rcases dH.mp hy with hy | hy
    .exact sx _ _ (CN y hy)
    .rw[cD.mp hy];exact hx
   .rcases Kb hy with hy | ⟨e1,e2⟩
    .exact i' _ _ (OR j y hy)
    .subst e1;subst e2;exact r'
  intro ys H21 ax;obtain⟨_,cs,rfl,anG,ON,qR,R9,o21,i21,Zi⟩:=ax;refine⟨by rw[aL];exact cY (eh (by exact w6)),λcm ncm=>fe (o21.nw (o:=.lst (cs.map V.ref)) 16 ncm) λH22 nJ e Hg AG o22 i22 Zh=>?_⟩;rw[<-e];clear e;have Gk:=Hg _ _ (ON _ _ anA);have anM:=λa ha=>Hg _ _ (qR a ha);have K22:=K20.trans (eF.of (ON.trans Hg));refine vr xz (kF m C dx fs9 xz Gk cM.cl cM.kL (by exact wb) (fe (vn "comers" (V.ref cm) Gk hf9 o22) λOu Ib oO e apd Hs anz qL=>?_));rw[<-oO,<-e];clear e;have K23:=K22.trans Hs;have n20:=(eF.of (m:=m) (ON.trans Hg)).trans Hs;have ZG:=ZQ.trans n20;have n18:=(eF.of (m:=m) OO).trans ZG;have ZH:=ZR.trans n18;have n16:=(eF.of (m:=m) Hi).trans ZH;have CF:=ZS.trans n16;have ZI:=(eF.of (m:=m) (Ao.trans Hj)).trans CF;have ZJ:=ZT.trans ZI;have n9:=CI.trans ZJ;have n8:=k9.trans n9;have n6:=(eF.of (m:=m) qK).trans n8;have n3:=k4.trans (k5.trans (k6.trans n6));have j9:=i22;have j8:∀a v,R8 a v->nJ a v:=λa v z=>j9 _ _ (i21 _ _ z);have j7:∀a v,R7 a v->nJ a v:=λa v z=>j8 _ _ (i19 _ _ z);have j6:∀a v,R6 a v->nJ a v:=λa v z=>j7 _ _ (i17 _ _ z);have j5:∀a v,R5 a v->nJ a v:=λa v z=>j6 _ _ (i15 _ _ z);have j4:∀a v,R4 a v->nJ a v:=λa v z=>j5 _ _ (i14 _ _ z);have j3:∀a v,R3 a v->nJ a v:=λa v z=>j4 _ _ (i12 _ _ z);have j2:∀a v,R2 a v->nJ a v:=λa v z=>j3 _ _ (i10 _ _ z);have j1:∀a v,R1 a v->nJ a v:=λa v z=>j2 _ _ (i2 _ _ z);have j0:∀a v,R0 a v->nJ a v:=λa v z=>j1 _ _ (i1 _ _ z);refine oE qL.l λlab oN=>?_;have lm:=oN _ _ (j0 _ _ r0);have tk:=bY (bY (qd HW) Dh dk) AM dk;have anc:ts.length=ps.length:=by exact wo
  have fu:rs.length=ps.length:=by exact wo
  have no:∀x∈Wi,Ou.lookup x=none:=by
   intro x hx
   have n:∀y∈(["trays","program",S_,"steps","places","counts","regs","cells","acts","comers"]:List Str),x≠y:=by
    intro y hy e;subst e
    revert hx
    revert x
    decide +kernel
   have hn:([]:List (Str×V)).lookup x=none:=rfl;exact bY (bY (bY (bY (bY (bY (bY (bY (bY (bY hn HW (n _ (by simp))) Dh (n _ (by simp))) AM (n _ (by simp))) AL (n _ (by simp))) AK (n _ (by simp))) yn (n _ (by simp))) um (n _ (by simp))) sJ (n _ (by simp))) qT (n _ (by simp))) oO (n _ (by simp))
  have M:bf t C CT Ib m ⟨lt,ts,pg,st,pl,ct,rg,rs,ce,ac,cm,cs⟩ (qq kd ps):=by
   refine⟨⟨dx,Ou,anz,⟨bY (bY (bY (bY (bY (bY (bY (bY (bY (qd HW) Dh dk) AM dk) AL dk) AK dk) yn dk) um dk) sJ dk) qT dk) oO dk,bY (bY (bY (bY (bY (bY (bY (bY (qd Dh) AM dk) AL dk) AK dk) yn dk) um dk) sJ dk) qT dk) oO dk,bY (bY (bY (bY (bY (bY (bY (qd AM) AL dk) AK dk) yn dk) um dk) sJ dk) qT dk) oO dk,bY (bY (bY (bY (bY (bY (qd AL) AK dk) yn dk) um dk) sJ dk) qT dk) oO dk,bY (bY (bY (bY (bY (qd AK) yn dk) um dk) sJ dk) qT dk) oO dk,bY (bY (bY (bY (qd yn) um dk) sJ dk) qT dk) oO dk,bY (bY (bY (qd um) sJ dk) qT dk) oO dk,bY (bY (qd sJ) qT dk) oO dk,bY (qd qT) oO dk,qd oO,no,by exact w4⟩⟩,n3.lst ja bz,?_,hP.keep (K23.tup hm),⟨ys,n8.tup qP _ _ cB,?_⟩,?_,?_,CF.lst Gm dQ,?_,ZH.lst Om v3,⟨[],ZG.lst Ol eT,.nil⟩,Hs.lst Gk AG,?_⟩
   .refine Jo anc λx hx=>(T3 x hx).keep (λb hb o e=>n3.k b o (λz=>?_) e) (n3.tup ja);refine oE (pG hx) λj hj=>?_;have:=oN _ _ (j1 _ _ (r1 j x hj b hb));rw[z,lm]at this;exact wk
   .refine Paired.bZ hs8 λ_ _ q=>q.keep (n8.tup qP) λb C' Dl my e h=>n8.k b _ (λz=>?_) e;obtain⟨x,us,v,e1,e2⟩:=h;rw[z,qP]at e;cases e;rw[e2,wL "trays" dk]at tk;cases tk
   .have h:=ZJ.lst xy gpl;rw[h];show _=a_ (HO.lst ((ps.map λ_=>k0).map λk=>V.int (k.pl:Nat)));rw[uD];rfl
   .have h:=ZI.lst Yh hct;rw[h];show _=a_ (HO.lst ((ps.map λ_=>k0).map λk=>V.int (k.ct:Nat)));rw[uD];rfl
   .exact Jo (F:=λa (k:Ck)=>Ib a=a_ (.lst (k.rg.map V.int))) (y:=k0) fu λa ha=>CF.lst Gm (anh a ha)
   .exact RL (F:=λa (o:List Int)=>Ib a=a_ (.lst (o.map V.int))) (y:=[]) anG λa ha=>Hs.lst Gk (anM a ha)
  have L:jn lab m ⟨lt,ts,pg,st,pl,ct,rg,rs,ce,ac,cm,cs⟩:=⟨lm,oN _ _ (j2 _ _ r2),oN _ _ (j3 _ _ Zo),oN _ _ (j4 _ _ Zn),oN _ _ (j6 _ _ Zl),oN _ _ (j7 _ _ Zk),oN _ _ (j8 _ _ Zj),oN _ _ Zh,λi a z=>oN _ _ (j5 _ _ (Zm i a z)),λi a z=>oN _ _ (j9 _ _ (Zi i a z)),λi x z b hb=>oN _ _ (j1 _ _ (r1 i x z b hb))⟩;refine q Ib _ lab M L xz K23 λb hb=>?_;cases hb with
  | m=>exact .inl xz
  | lt=>exact qL.f _ _ (j2 _ _ r2)
  | pl=>exact qL.f _ _ (j3 _ _ Zo)
  | ct=>exact qL.f _ _ (j4 _ _ Zn)
  | rg=>exact qL.f _ _ (j6 _ _ Zl)
  | ce=>exact qL.f _ _ (j7 _ _ Zk)
  | ac=>exact qL.f _ _ (j8 _ _ Zj)
  | cm=>exact qL.f _ _ Zh
  | rs h=>
   refine oE (pG h) λj hj=>?_;exact qL.f _ _ (j5 _ _ (Zm j _ hj))
  | cs h=>
   refine oE (pG h) λj hj=>?_;exact qL.f _ _ (j9 _ _ (Zi j _ hj))
  | ts h h2=>
   refine oE (pG h) λj hj=>?_;exact qL.f _ _ (j1 _ _ (r1 j _ hj _ h2))
end
def aoI(H:Hp)(v:V)(e:Ent):Prop:=∃p,v=.ref p/\H p=a_ (.tup [.int e.n,.int e.num,.int e.d])
structure Ny(m:Nat)(a:Act):Prop where
 c:a.c<m
 n:a.n<12
 k:a.k = l_/\a.got=b_\/a.k = H_/\a.got.isSome=c_\/a.k = I_/\a.got.isSome=c_
 s:a.k = l_->a.seen=b_
def ai7(hE:∀k∈S.ck,lh k.tn k.es)(h:iY S=[]):∀k∈S.ck,k.es=[]:=by
 intro k hk;cases e:k.es with
 | nil=>rfl
 | cons x r=>
  exfalso;refine oE (pG hk) λc hc=>?_
  have hw:x.n∈iy S.kd k.es:=by
   unfold iy
   split
   .rw[e];simp
   .exact D6 (hE k hk) (by rw[e];rfl)
  have:((Z_ : Str),[(c:Int),x.n])∈iY S:=yA.mpr ⟨(k,c),Qf.mpr hc,eM.mpr ⟨x.n,hw,xz⟩⟩;rw[h]at this;cases this
structure ni(S:Mc):Prop where
 nd:∀(n:Nat) o,S.ov[n]?=a_ o->o.Nodup
 im:∀(n:Nat) o,S.ov[n]?=a_ o->∀d∈o,∃(j:Nat) (a:Act),d=(j:Int)/\S.ac[j]?=a_ a/\a.n=n
 sn:∀(i:Nat) a,S.ac[i]?=a_ a->∀d,a.seen=a_ d->∃(j:Nat) (o:List Int),d=(j:Int)/\j<S.ac.length/\S.ov[a.n]?=a_ o/\d∈o
 ok:∀(i:Nat) a,S.ac[i]?=a_ a->Ny S.ps.length a
def UR(h:n<=3000):n<bw:=we h qc
def UB{k:Nat}(r:eG k A):A.units+64<cLine:=by have:=r.un;lia
def nB(l:List Int)(w:Str):List T3:=(l.zip l.tail).map λx=>(x.1,x.2,w)
def ma(S:Mc)(j:Nat):Option Nat:=S.ac[j]?.map Act.c
def kY(S:Mc)(c i:Nat):List Nat:=(List.range i).filter λj=>decide (ma S j=a_ c)
def Cg(S:Mc)(c:Nat):List T3:=nB ((kY S c S.ac.length).map λ(n:Nat)=>(n:Int)) "own"
def oG(S:Mc)(m:Nat):List T3:=(List.range m).flatMap (Cg S)
def vd(S:Mc)(j:Nat):Option T3:=(S.ac[j]?.bind Act.seen).map λd=>(d,(j:Int),("seen" : Str))
def qh(S:Mc)(i:Nat):List T3:=(List.range i).filterMap (vd S)
def GG(S:Mc)(n:Nat):List T3:=nB (S.ov.getD n []) "over"
def rQ(S:Mc)(m:Nat):List T3:=(List.range m).flatMap (GG S)
def nextM(o:List Int)(s:Option Int):Option Int:=((b_::o.map a_).zip o).lookup s
def zv(S:Mc)(j:Nat)(a:Act):Option T3:=if a.k = l_ then b_ else (nextM (S.ov.getD a.n []) a.seen).bind λb=>if b=(j:Int) then b_ else a_ ((j:Int),b,("ahead" : Str))
def rK(S:Mc)(j:Nat):Option T3:=S.ac[j]?.bind (zv S j)
def rJ(S:Mc)(i:Nat):List T3:=(List.range i).filterMap (rK S)
def kJ(S:Mc):List T3:=oG S S.ps.length++qh S S.ac.length++rQ S 12++rJ S S.ac.length
def Mh{w:Str}:x∈nB l w↔(x.1,x.2.1)∈l.zip l.tail/\x.2.2=w:=by
 unfold nB;rw[eM];constructor
 .intro ax;refine aq ax λp h aa=>?_;clear ax;subst aa;exact⟨h,xz⟩
 .intro ax;refine oA ax λh aa=>?_;clear ax;subst aa;exact au _ h xz
def TQ(h:vd S j=a_ x):∃a,S.ac[j]?=a_ a/\a.seen=a_ x.1/\x.2.1=(j:Int)/\x.2.2 = "seen":=by
 unfold vd at h;refine aq (qU.mp h) λd h1 aa=>?_;subst aa;exact aq (Dr.mp h1) λa h2 h3=>⟨a,h2,h3,xz,xz⟩
section
variable{S:Mc}
def Va:j∈kY S c m↔j<m/\ma S j=a_ c:=by
 unfold kY;rw[jw,nW,decide_eq_true_iff]
def ahy(c m:Nat):(kY S c m).Pairwise (· < ·):=sT.filter _ aaA
def Fz:∀{l:List Int},l.Pairwise R->∀{a b},(a,b)∈l.zip l.tail->R a b
 | [],_,a,b,h=>by cases h
 | [x],_,a,b,h=>by simp at h
 | x::y::r,p,a,b,h=>by
  have h:(a,b)∈(x,y)::(y::r).zip r:=h;have q:=Iw.mp p;rcases bX.mp h with e | e
  .cases e;exact q.1 y du
  .exact Fz q.2 e
def Wa(h:x∈Cg S c):∃i j:Nat,x=((i:Int),(j:Int),("own" : Str))/\i<j/\j<S.ac.length/\ma S i=a_ c/\ma S j=a_ c:=by
 unfold Cg at h;obtain⟨h1,h2⟩:=Mh.mp h;have lt:=Fz (abi.mpr ((ahy (S:=S) c _).imp λh=>(Int.ofNat_lt.mpr h:(_:Int)<_))) h1;have hm:=sP h1;obtain⟨i,hi,ei⟩:=eM.mp hm.1;obtain⟨j,hj,ej⟩:=eM.mp (Qx hm.2);have hi:=Va.mp hi;have hj:=Va.mp hj;exact⟨i,j,Prod.ext ei.symm (Prod.ext ej.symm h2),om,hj.1,hi.2,hj.2⟩
end
def t3V(x:T3):List V:=[.int x.1,.int x.2.1,.str x.2.2]
def cU(H:Hp)(v:V)(x:T3):Prop:=∃p,v=.ref p/\H p=a_ (.tup (t3V x))
def cU.keep(k:∀b xs,H b=a_ (.tup xs)->H' b=a_ (.tup xs))(h:cU H v x):cU H' v x:=aq h λp e q=>⟨p,e,k _ _ q⟩
def cU.all(h:Paired (cU H) vs L)(k:∀b xs,H b=a_ (.tup xs)->H' b=a_ (.tup xs)):Paired (cU H') vs L:=Paired.bZ h λ_ _ q=>q.keep k
def amM(xs:List V):lV xs (a_ 1) b_=xs.tail:=by
 cases xs with
 | nil=>rfl
 | cons y ps=>exact N7 y ps
def Fi(o:List Int)(w:Str):(nB o w).length<=o.length:=by
 unfold nB;rw[aL,IS];lia
section
variable{t:aW}{C CT:e_}
def NM:Sp:=λvs H Q _=>∃l o w,vs=[.ref l,.str w]/\H l=a_ (.lst (o.map V.int))/\o.length<=3000/\∀H' l' us,af H H'->H l'=b_->H' l'=a_ (.lst us)->Paired (cU H') us (nB o w)->Q (.ref l') H'
def amn:ba zLr zLr (aS Ce):=bj
def V7:(["why","one",ap5]:List Str).Nodup:=dk
def akc(F:aQ K an3 an3 Ce f fd)(hz:mg "zip" = b_):aG P w K mg base aI 1 f fd zLr NM:=by
 refine F.ok amn λaJ A _ s H vs Q E hr h=>?_
 .obtain⟨l,o,w,aa,hl,h1,q⟩:=h;subst aa
  refine⟨_,av (aZ (iJ (N:=["why","one",ap5]) (idx:=[1]) xz (dw.of (by kernel_rfl)) (Bh (aA _) (jy _))
   (L9 (b1:=c_) (b2:=c_) xz hz (ab (pv 0) (ab (Bs K' (pv 0) (By aw) Bz) ag)))
   (λ_ _ _ _=>kK xz (dA (bA (i:=1) V7 xz (aE xz) (.inr xz)) (dA (bA (i:=2) V7 xz (aE xz) (.inr xz)) kH)))
   (λ_ _ _ _=>i3) λ_ _ _ _=>fJ (ab (pv 1) (ab (pv 2) (ab (pv 0) ag))))),?_⟩
  refine au _ xz (vr xz (au _ xz ⟨l,⟨_,xz,aj.of hl,λr nr=>?_⟩⟩));rw[amM];have s0:af H (upd H r (.lst (o.map V.int).tail)):=aB (af.refl _) nr;have uh:=s0 _ _ hl;have dR:upd H r (.lst (o.map V.int).tail) r=a_ (.lst (o.map V.int).tail):=ao;generalize upd H r (.lst (o.map V.int).tail)=H0 at s0 uh dR ⊢;have hn:(o.zip o.tail).length=o.length-1:=by rw[IS,IJ];lia
  refine⟨l,r,_,_,xz,(aj.of uh),(aj.of dR),(gr (n:=(o.zip o.tail).length) (λi ys H'=>i<=(o.zip o.tail).length/\af H0 H'/\Paired (cU H') ys ((nB o w).take i)) (cY (UR li)) (eJ (a8 _) (af.refl _) .nil) ?_ ?_ ?_ ?_ ?_)⟩
  .rintro i ys H' ⟨_,_,e⟩;rw[r_ e,gm];exact DN _ _
  .rintro i ys H' hi ⟨_,s4,_⟩;have h2:i<o.length:=li;have h3:i<o.tail.length:=by rw[IJ];lia
   exact⟨_,_,(V.int o[i]),(V.int o.tail[i]),(aj.of (s4 _ _ uh)),(aj.of (s4 _ _ dR)),(by rw[cO,aM h2];rfl),(by rw[<-Rh,cO,aM h3];rfl)⟩
  .rintro ys H' ⟨_,s4,_⟩;exact dP _ _ (aj.of (s4 _ _ uh)) (aj.of (s4 _ _ dR)) (.inr (by rw[<-Rh,aL,IJ];lia))
  .rintro i ys H1 hi ⟨_,s4,e⟩ v H2 ⟨p,x,y,np,ev,eH,CL⟩;subst ev;subst eH;refine oA (CL _ _ (aj.of (s4 _ _ uh)) (aj.of (s4 _ _ dR))) λhx hy=>?_;have h2:i<o.length:=li;have h3:i<o.tail.length:=by rw[IJ];lia
   rw[cO,aM h2]at hx;rw[<-Rh,cO,aM h3]at hy;cases hx;cases hy;have s5:=aB (o:=.tup [V.int o[i],V.int o.tail[i]]) (af.refl H1) np;have jN:upd H1 p (.tup [V.int o[i],V.int o.tail[i]]) p=a_ (.tup [V.int o[i],V.int o.tail[i]]):=ao;generalize upd H1 p (.tup [V.int o[i],V.int o.tail[i]])=H5 at s5 jN ⊢;refine⟨p,⟨_,xz,aD.of jN,xz,_,_,xz,_,[],xz,xz,_,xz,_,xz,_,xz,(sl (n:=3)),λtp ht=>⟨hi,(s4.trans s5).trans (aB (af.refl _) ht),?_⟩⟩⟩
   have CS:(nB o w)[i]?=a_ (o[i],o.tail[i],w):=by
    unfold nB;rw[cO,aM hi,QP];rfl
   rw[jv,CS];exact mE (cU.all e λb xs e=>aB s5 ht _ _ e) (au tp xz ao)
  .rintro ys H1 ⟨_,s4,e⟩;rw[jP (by unfold nB;rw[aL];exact aA _)]at e;have hz:=Fi o w;refine⟨by rw[r_ e];exact cY (UR li),λrl fu=>?_⟩;have s6:=aB (o:=.lst ys) s4 fu;exact q _ rl ys (s0.trans s6) ((s0.trans s4).free fu) ao (cU.all e λb xs e=>aB (af.refl _) fu _ _ e)
end
def mI(s:af H H')(n:H l=b_):af H (upd H' l o):=λb u e=>by
 rw[ai (λz=>by rw[z,n]at e;cases e)];exact s b u e
def ad7(S:Mc)(c i:Nat):kY S c (i+1)=kY S c i++(if ma S i=a_ c then [i] else []):=by
 unfold kY;rw[sO,yw]
 by_cases h:ma S i=a_ c <;> simp[h]
def Ky(S:Mc)(c i:Nat):(kY S c i).length<=i:=by
 have:=uu (λj=>decide (ma S j=a_ c)) (List.range i);rw[lH]at this;exact this
def rX(l:List Nat):List Int:=l.map λ(n:Nat)=>(n:Int)
def SJ(S:Mc)(m:Nat):oG S (m+1)=oG S m++Cg S m:=by
 unfold oG;rw[sO,QC];simp
def U'(S:Mc)(c:Nat):(Cg S c).length<=S.ac.length:=cu (Fi _ _) (by rw[aL];exact Ky _ _ _)
def ED(S:Mc):∀m,(oG S m).length<=m*S.ac.length
 | 0=>a8 _
 | m+1=>by
  rw[SJ,bL,Bc];exact Nat.add_le_add (ED S m) (U' S m)
section
variable{t:aW}{C CT:e_}
def uW(t:aW)(C CT:e_)(f:Mc->List T3):Sp:=λvs H Q _=>∃m A S,vs=[.ref m]/\bf t C CT H m A S/\ip S/\S.ac.length<=3000/\ni S/\∀H' l us,af H H'->H l=b_->H' l=a_ (.lst us)->Paired (cU H') us (f S)->Q (.ref l) H'
def EU:ba ["machine","found",ap8,"own"] zLd (aS L1):=bj
def V':([ap8,R_,"deed"]:List Str).Nodup:=dk
def aio{f fN:e_}(F:aQ K "by_own" "by_own" L1 f fd)(cM:fh K C)(dM:mg "len" = b_)(dQ:mg "range" = b_)(pC:mg "enumerate" = b_)
  (DD:Mt P w K mg base C 1 "deeds" zLc (za t C CT))
  (GN:aG P w K mg base aI 1 fN Df zLr NM) (FN:aQ K an3 an3 Ce fN Df) (bN:Binds K Df zLr []) (mN:mg an3 = a_ (.ref fN)):aG P w K mg base aI 2 f fd zLd (uW t C CT λS=>oG S S.ps.length):=by
 refine F.ok EU λaJ A _ s H vs Q E hr h=>?_
 .obtain⟨m,A,S,aa,M,W,eT,Z,q⟩:=h;subst aa
  refine let d:TS:=_;let g:TS:=_;let k:TS:=_;⟨_,ar (bq (i:=1) EU.nd xz (aE xz) (dW ag)) (pR k (ar (ij gn xz (oa xz dQ (ab (bU eU xz dM q_ (ab (bC (pv 0) xz) ag)) ag)) (bA (i:=2) EU.nd xz (zA xz)) (pR g (ar (yM (i:=3) (N:=[ap8,R_,"deed"]) (idx:=[2]) EU.nd xz xz xz (dw.of (by kernel_rfl)) (Bh (aA _) (jy _)) (uU (b:=c_) xz pC (ab (lM (pv 0) cM.cl DD hr) ag))
     (λ_ _ _ _=>kK xz (dA (bA (i:=1) V' xz (aE xz) (.inr xz)) (dA (bA (i:=2) V' xz (aE xz) (.inr xz)) kH)))
     (λ_ _ _ _=>wJ (bM c7 (aP (BV K) (pv 2) aw) (pv 0) (bJ _))) λ_ _ _ _=>pv 1)
    (pR d (av (cX (ik m_ PySem.F.slot_list_extend PySem.F.type_list_extend En (pv 1) (ab (mQ GN hr xz mN FN.kp bN .nil c9 (ab (pv 3) (ab cR ag))) ag))))))))
   (av (aZ (pv 1))))),?_⟩
  have hsz:=fw;refine⟨qc,λlw nw=>?_⟩;have s0:af H (upd H lw (.lst [])):=aB (af.refl _) nw;have pf:upd H lw (.lst []) lw=a_ (.lst []):=ao;generalize upd H lw (.lst [])=H0 at s0 pf ⊢;have h4:=W.good.le;refine bQ (id M.obj) λdx fs hm G=>eD (id M.pg) λpa pv ep hp mq=>?_;cases ep;refine vF xz (s0 _ _ hm) cM.cl cM.program G.program ⟨A.pg,⟨_,xz,.inr (aD.of (s0 _ _ hp)),_,xz,by rw[r_ mq];lia,by rw[r_ mq];lia,?_⟩⟩;rw[show ((pv.length:Int)).toNat=S.ps.length by rw[r_ mq];lia]
  let W1:IV:=λi σ H'=>i<=S.ps.length/\∃c y us,σ=[a_ (.ref m),a_ (.ref lw),c,y]/\af H H'/\H' lw=a_ (.lst us)/\Paired (cU H') us (oG S i)
  refine sY (n:=S.ps.length) W1 ⟨a8 _,b_,b_,[],xz,s0,pf,.nil⟩ ?_ ?_
  .intro i σ H1 hi ax;refine oA ax λ_ aa=>gD aa λc y us aa s1 aT=>?_;subst aa;refine oA aT λiP gK=>?_;rw[wB];refine vM xz (s1 _ _ hm) (G.ms _ dk) (⟨m,A,S,xz,(M.same s1),(λld ws nd jM=>?_)⟩);have hd2:upd H1 ld (.lst ws) ld=a_ (.lst ws):=ao;have s2:af H1 (upd H1 ld (.lst ws)):=aB (af.refl _) nd;have nz:=Paired.bZ jM λ_ _ (q:jk H1 _ _)=>aq q λp e h=>(⟨p,e,s2 _ _ h⟩:jk (upd H1 ld (.lst ws)) _ _);generalize upd H1 ld (.lst ws)=H2 at hd2 s2 nz ⊢;have km:=r_ nz;refine⟨ld,⟨_,xz,aj.of hd2,gr (n:=S.ac.length) (λj ys H'=>j<=S.ac.length/\af H2 H'/\ys=(rX (kY S i j)).map V.int) (by rw[hsz];lia) (eJ (a8 _) (af.refl _) xz) ?_ ?_ ?_ ?_ ?_⟩⟩
   .intro j ys H' ax;refine de ax λ_ _ aa=>?_;clear ax;subst aa;rw[aL];unfold rX;rw[aL];exact Ky _ _ _
   .intro j ys H' hj ax;exact de ax λ_ s4 _=>f7 _ (ws[j]' li) (aj.of (s4 _ _ hd2)) (aM _)
   .intro ys H' ax;exact de ax λ_ s4 _=>au _ (aj.of (s4 _ _ hd2)) li
   .intro j ys H3 hj ax v H4 gA;refine de ax λ_ s4 aa=>?_;clear ax;subst aa;refine jf gA λp x np ev eH hx=>?_;subst ev;subst eH;have dF:=hx _ (aj.of (s4 _ _ hd2));refine aq (kD nz dF) λa ha aa=>aq aa λpa ex pk=>?_;subst ex;have s5:=aB (o:=.tup [.int j,.ref pa]) (af.refl H3) np;have jN:upd H3 p (.tup [.int j,.ref pa]) p=a_ (.tup [.int j,.ref pa]):=ao;generalize upd H3 p (.tup [.int j,.ref pa])=H5 at s5 jN ⊢;have hc:ma S j=a_ a.c:=by unfold ma;rw[ha];rfl
    refine⟨p,⟨_,xz,aD.of jN,xz,_,_,xz,_,[],xz,xz,gH (v:=.int (a.c:Nat)) (j:=1) xz (s5 _ _ (s4 _ _ pk)) xz ⟨_,xz,rq (H:=H5) xz ?_⟩⟩⟩;rw[zd,ad7,hc];refine bG (λe=>?_) λe=>?_
    .refine vr xz (eJ hj (s4.trans s5) ?_);rw[if_pos (by rw[e])];unfold rX;rw[fv,fv];rfl
    .refine eJ hj (s4.trans s5) ?_;rw[if_neg λz=>e (cE z),sQ]
   .intro ys H3 ax;refine de ax λ_ s4 aa=>?_;clear ax;subst aa;have AE:=Ky S i S.ac.length;have hnl:(rX (kY S i S.ac.length)).length<=S.ac.length:=by unfold rX;rw[aL];exact AE
    refine⟨by rw[aL,hsz];lia,λlo xR=>?_⟩;have s6:=aB (o:=.lst ((rX (kY S i S.ac.length)).map V.int)) s4 xR;have pA:upd H3 lo (.lst ((rX (kY S i S.ac.length)).map V.int)) lo=a_ (.lst ((rX (kY S i S.ac.length)).map V.int)):=ao;generalize upd H3 lo (.lst ((rX (kY S i S.ac.length)).map V.int))=H6 at s6 pA ⊢;have sE:=s6 _ _ (s2 _ _ iP);refine dJ _ xz (.inl ⟨xz,_,aj.of sE⟩) (vr xz (oX lo _ (⟨_,xz,pA,li,(λH7 l7 zs s7 n7 xT CO=>?_)⟩)));have CK:=r_ CO;have ZV:=U' S i;have ub:=r_ gK;have uf:=ED S i;have anU:i*S.ac.length<=4*3000:=Jb li eT;have qM:=s7 _ _ sE;refine⟨lw,l7,us,zs,xz,xz,qM,xT,(by rw[hsz,ub,CK];have:(nB (rX (kY S i S.ac.length)) "own").length<=S.ac.length:=ZV;lia),hi,⟨_,_,_,xz,mI (((s1.trans s2).trans s6).trans s7) nw,ao,?_⟩⟩;rw[SJ];have kt:=pV (o:=.lst (us++zs)) qM;exact uE (cU.all CO kt) (cU.all gK λb xs e=>kt _ _ (s7 _ _ (s6 _ _ (s2 _ _ e))))
  .intro σ H1 ax;refine oA ax λ_ aa=>gD aa λc y us aa s1 aT=>?_;subst aa;exact oA aT λiP gK=>vr xz (q H1 lw us s1 nw iP gK)
end
def RP(S:Mc)(m:Nat):rQ S (m+1)=rQ S m++GG S m:=by
 unfold rQ;rw[sO,QC];simp
def El(h:∀o∈S.ov,o.length<=b):∀m,(rQ S m).length<=m*b
 | 0=>a8 _
 | m+1=>by
  rw[RP,bL,Bc];refine Nat.add_le_add (El h m) (cu (Fi _ _) ?_);cases e:S.ov[m]? with
  | none=>rw[gg,e];exact a8 _
  | some o=>rw[ff e];exact h o (bu e)
def V9:∀{n:Nat} {l:List Int},l.Nodup->(∀d∈l,∃j:Nat,d=(j:Int)/\j<n)->l.length<=n
 | 0,[],_,_=>aA _
 | 0,x::l,_,h=>by
  exact aq (h x (by simp)) λj _ hj=>absurd hj (wx _)
 | n+1,l,hn,h=>by
  have ih:=V9 (n:=n) (l:=l.erase (n:Int)) (hn.erase _) λd hd=>by
   refine aq (h d (List.mem_of_mem_erase hd)) λj e hj=>?_;have dr:=(Bm.mem_erase_iff hn).mp hd |>.1
   exact au j e li
  rw[List.length_erase]at ih
  split at ih <;> lia
def ni.lZ(Z:ni S):∀o∈S.ov,o.length<=S.ac.length:=λo ho=>by
 refine oE (pG ho) λn hn=>?_;exact V9 (Z.nd n o hn) λd hd=>eD (Z.im n o hn d hd) λj a e h _=>au j e ((bK.mp h).1)
section
variable{t:aW}{C CT:e_}
def Ki:ba ["machine","found",J_] zLd (aS Lq):=bj
def agS{f fN:e_}(F:aQ K "by_over" "by_over" Lq f fd)(cM:fh K C)(dQ:mg "range" = b_)(O4:∃u,mg "NAMES" = a_ u/\RelV (.int 12) u)
  (DO:Mt P w K mg base C 1 "over" zLf (LK t C CT))
  (GN:aG P w K mg base aI 1 fN Df zLr NM) (FN:aQ K an3 an3 Ce fN Df) (bN:Binds K Df zLr []) (mN:mg an3 = a_ (.ref fN)):aG P w K mg base aI 2 f fd zLd (uW t C CT λS=>rQ S 12):=by
 refine F.ok Ki λaJ A _ s H vs Q E hr h=>?_
 .refine Em h λm A S aa M W eT Z q=>aq O4 λu hu ru=>?_;clear h;subst aa;refine let a:TS:=_;let d:TS:=_;⟨_,ar (bq (i:=1) Ki.nd xz (aE xz) (dW ag)) (pR d (ar (ij gn xz (oa xz dQ (ab (fq xz hu ru) ag)) (bA (i:=2) Ki.nd xz (aE xz)) (pR a (av (cX (ik m_ PySem.F.slot_list_extend PySem.F.type_list_extend En (pv 1) (ab (mQ GN hr xz mN FN.kp bN .nil c9 (ab (jh (pv 0) cM.cl DO hr (ab (pv 2) ag)) (ab cR ag))) ag)))))) (av (aZ (pv 1))))),?_⟩;have hsz:=fw;have zZ:=Z.lZ;refine⟨qc,λlw nw=>?_⟩;have s0:af H (upd H lw (.lst [])):=aB (af.refl _) nw;have pf:upd H lw (.lst []) lw=a_ (.lst []):=ao;generalize upd H lw (.lst [])=H0 at s0 pf ⊢;refine bQ (id M.obj) λdx fs hm G=>(⟨12,xz,qc,qc,?_⟩)
  let W1:IV:=λi σ H'=>i<=12/\∃c us,σ=[a_ (.ref m),a_ (.ref lw),c]/\af H H'/\H' lw=a_ (.lst us)/\Paired (cU H') us (rQ S i)
  refine sY (n:=12) W1 ⟨a8 _,b_,[],xz,s0,pf,.nil⟩ ?_ ?_
  .intro i σ H1 hi ax;refine oA ax λ_ aa=>?_;refine jf aa λc us aa s1 iP gK=>?_;subst aa;rw[wB];have ho:S.ov[i]?=a_ (S.ov[i]'(by rw[W.ov];exact hi)):=aM _;have uf:=zZ _ (bu ho);refine vr xz ⟨.inl ⟨xz,_,aj.of iP⟩,(vM xz (s1 _ _ hm) (G.ms _ dk) (vr xz (⟨m,A,S,i,_,xz,(M.same s1),ho,(λlo xR=>?_)⟩)))⟩;generalize S.ov[i]'_=o at ho uf ⊢;have s6:=aB (o:=.lst (o.map V.int)) (af.refl H1) xR;have pA:upd H1 lo (.lst (o.map V.int)) lo=a_ (.lst (o.map V.int)):=ao;generalize upd H1 lo (.lst (o.map V.int))=H6 at s6 pA ⊢;have sE:=s6 _ _ iP;refine oX lo _ (⟨_,xz,pA,li,(λH7 l7 zs s7 n7 xT CO=>?_)⟩);have CK:=r_ CO;have ZV:=Fi o "over";have ub:=r_ gK;have uf:=El zZ i;have anU:i*S.ac.length<=12*3000:=Jb li eT;have qM:=s7 _ _ sE;refine⟨lw,l7,us,zs,xz,xz,qM,xT,(by rw[hsz,ub,CK];lia),hi,⟨_,_,xz,mI ((s1.trans s6).trans s7) nw,ao,?_⟩⟩;rw[RP];have kt:=pV (o:=.lst (us++zs)) qM;have e:GG S i=nB o "over":=by unfold GG;rw[ff ho]
   rw[e];exact uE (cU.all CO kt) (cU.all gK λb xs e=>kt _ _ (s7 _ _ (s6 _ _ e)))
  .intro σ H1 ax;refine oA ax λ_ aa=>?_;refine jf aa λc us aa s1 iP gK=>?_;subst aa;exact vr xz (q H1 lw us s1 nw iP gK)
end
def eE(o:List Int):List (Option Int):=b_::o.map a_
def nextT(o:List Int)(j:Nat)(s:Option Int):Option Int:=(((eE o).zip o).take j).lookup s
def iI(h:j<o.length):j<(eE o).length:=by unfold eE;rw[fR,aL];lia
def J8(o:List Int):((eE o).zip o).length=o.length:=by unfold eE;rw[IS,fR,aL];lia
def adV(o:List Int)(s:Option Int):nextT o o.length s=nextM o s:=by
 unfold nextT;rw[jP (by rw[J8];exact aA _)];rfl
def afw(h:o.Nodup):(eE o).Nodup:=by
 refine A7.mpr ⟨λz=>?_,IE _ (λa b z e=>z (cE e)) h⟩;refine aq (eM.mp z) λx _ e=>?_;cases e
def aco{k s:Option Int}:(l++[(k,v)]).lookup s=(l.lookup s).or (if s=k then a_ v else b_):=by
 induction l with
 | nil=>
  show ([(k,v)]).lookup s=_;rw[lJ]
  by_cases h:s=k
  .simp[h]
  .rw[if_neg h,beq_eq_false_iff_ne.mpr h];rfl
 | cons p l ih=>
  obtain⟨a,b⟩:=p;rw[abx,lJ,lJ,ih];cases (s == a) <;> rfl
def acW(hn:o.Nodup)(hj:j<o.length)(s:Option Int):nextT o (j+1) s=if s=(eE o)[j]'(iI hj) then a_ o[j] else nextT o j s:=by
 have hz:((eE o).zip o)[j]?=a_ ((eE o)[j]'(iI hj),o[j]):=by
  rw[aM (by rw[J8];exact hj),QP]
 unfold nextT;rw[jv,hz];show (_++[_]).lookup s=_;rw[aco]
 by_cases e:s=(eE o)[j]'(iI hj)
 .rw[if_pos e,if_pos e]
  have h0:(((eE o).zip o).take j).lookup s=none:=by
   rw[List.lookup_eq_none_iff];intro p hp;refine bne_iff_ne.mpr λz=>oE (pG hp) λi hi=>?_;rw[aa5]at hi
   split at hi
   .rename_i lA
    have hio:i<o.length:=li;rw[aM (by rw[J8];exact hio),QP]at hi;cases hi;exact uq.mp (afw hn) i j (iI hio) (iI hj) lA (z.symm.trans e)
   .cases hi
  rw[h0];rfl
 .rw[if_neg e,if_neg e];cases (((eE o).zip o).take j).lookup s <;> rfl
def amO(o:List Int):[V.aN]++o.map V.int=(eE o).map oV:=by
 unfold eE;rw[gq,uD];rfl
def amT(S:Mc)(kvs:List (List Key×V)):Prop:=∀(m:Nat) (s:Option Int),m<12->c8 kvs [a_ (m:Int),s]=(nextM (S.ov.getD m []) s).map V.int
def Ga(S:Mc)(i:Nat)(f:Option Int->Option Int)(kvs:List (List Key×V)):Prop:=∀(m:Nat) (s:Option Int),c8 kvs [a_ (m:Int),s]=if m<i then (nextM (S.ov.getD m []) s).map V.int else if m=i then (f s).map V.int else b_
def tj{k:Nat}(r:eG k A):A.units+1<cLine:=by have:=r.un;lia
def WO(s:Option Int):oV s=kV s:=by cases s <;> rfl
def ahJ(hn:o.Nodup)(hj:j<o.length)(h:Ga S i (nextT o j) kvs):Ga S i (nextT o (j+1)) (putK kvs [a_ (i:Int),(eE o)[j]'(iI hj)] (.int o[j])):=by
 intro m s;rw[yV,h m s,acW hn hj]
 by_cases e:([a_ (m:Int),s]:List Key)=[a_ (i:Int),(eE o)[j]'(iI hj)]
 .rw[if_pos e];injection e with e1 e2
  injection e2 with e2 _
  have:m=i:=by have:=cE e1;lia
  subst this;rw[if_neg (je _),if_pos xz,if_pos e2];rfl
 .rw[if_neg e]
  split
  .rfl
  .split
   .rename_i hm
    subst hm;rw[if_neg λz=>e (by rw[z])]
   .rfl
section
variable{t:aW}{C CT:e_}
def TJ(t:aW)(C CT:e_):Sp:=λvs H Q _=>∃m A S,vs=[.ref m]/\bf t C CT H m A S/\ip S/\S.ac.length<=3000/\ni S/\∀H' l kvs,af H H'->H l=b_->H' l=a_ (.dT kvs)->amT S kvs->Q (.ref l) H'
def yX:ba ["machine","found",J_,"comers","one",ap5] zLd (aS EX):=bj
def adJ(F:aQ K "comers_behind" "comers_behind" EX f fd)(cM:fh K C)(dQ:mg "range" = b_)(hzp:mg "zip" = b_)(O4:∃u,mg "NAMES" = a_ u/\RelV (.int 12) u)
  (DO:Mt P w K mg base C 1 "over" zLf (LK t C CT)):aG P w K mg base aI 2 f fd zLd (TJ t C CT):=by
 refine F.ok yX λaJ A _ s H vs Q E hr h=>?_
 .refine Em h λm A S aa M W eT Z q=>aq O4 λu hu ru=>?_;clear h;subst aa;refine let e:TS:=_;let g:TS:=_;let k:TS:=_;let l:TS:=_;⟨_,ar (bq (i:=1) yX.nd xz (aE xz) aeY) (pR l (ar (ij gn xz (oa xz dQ (ab (fq xz hu ru) ag)) (bA (i:=2) yX.nd xz (aE xz)) (pR k (ar (bq (i:=3) yX.nd xz (aE xz) (jh (pv 0) cM.cl DO hr (ab (pv 2) ag))) (pR g (av (ij gn xz (L9 (b1:=c_) (b2:=c_) xz hzp (ab (br BK (dW (ab mV ag)) (pv 3)) (ab (pv 3) ag))) (kK xz (dA (bA (i:=4) yX.nd xz (aE xz)) (dA (bA (i:=5) yX.nd xz (aE xz)) kH))) (pR e (av (Lu (tj hr) (pv 1) (fJ (ab (pv 2) (ab (pv 4) ag))) (pv 5) xz))))))))) (av (aZ (pv 1))))),?_⟩;have hsz:=fw;have zZ:=Z.lZ;refine λlw nw=>?_;have s0:af H (upd H lw (.dT [])):=aB (af.refl _) nw;have pf:upd H lw (.dT []) lw=a_ (.dT []):=ao;generalize upd H lw (.dT [])=H0 at s0 pf ⊢;refine bQ (id M.obj) λdx fs hm G=>(⟨12,xz,qc,qc,?_⟩)
  let W1:IV:=λi σ H'=>i<=12/\∃a b c d kvs,σ=[a_ (.ref m),a_ (.ref lw),a,b,c,d]/\af H H'/\H' lw=a_ (.dT kvs)/\Ga S i (λ_=>b_) kvs/\kvs.length<=i*3000
  refine sY (n:=12) W1 ⟨a8 _,b_,b_,b_,b_,[],xz,s0,pf,λm s=>(by rw[if_neg (wx _)];split <;> rfl),a8 _⟩ ?_ ?_
  .intro i σ H1 hi ax;refine oA ax λ_ aa=>fX aa λa b c d kvs aa=>wR aa λaa s1 iP hB yh=>?_;subst aa;rw[wB];have ho:S.ov[i]?=a_ (S.ov[i]'(by rw[W.ov];exact hi)):=aM _;have uf:=zZ _ (bu ho);refine vM xz (s1 _ _ hm) (G.ms _ dk) (vr xz (⟨m,A,S,i,_,xz,(M.same s1),ho,(λlo xR=>?_)⟩));generalize S.ov[i]'_=o at ho uf ⊢;have hnd:=Z.nd i o ho;have s6:=aB (o:=.lst (o.map V.int)) (af.refl H1) xR;have pA:upd H1 lo (.lst (o.map V.int)) lo=a_ (.lst (o.map V.int)):=ao;generalize upd H1 lo (.lst (o.map V.int))=H6 at s6 pA ⊢;refine⟨qc,λr1 nr1=>⟨_,xz,?_⟩⟩;have s7:=aB (o:=.lst [.aN]) (af.refl H6) nr1;have dy:upd H6 r1 (.lst [.aN]) r1=a_ (.lst [.aN]):=ao;generalize upd H6 r1 (.lst [.aN])=H7 at s7 dy ⊢;refine⟨r1,lo,_,(jB _ xz xz dy (s7 _ _ pA) (by rw[hsz,aL];show 1+o.length<=_;lia) λr2 Zv=>⟨_,xz,?_⟩)⟩;rw[amO];have s8:=aB (o:=.lst ((eE o).map oV)) (s7) Zv;have iq:upd H7 r2 (.lst ((eE o).map oV)) r2=a_ (.lst ((eE o).map oV)):=ao;have ao0:=((s1.trans s6).trans s7).free Zv;generalize upd H7 r2 (.lst ((eE o).map oV))=H8 at s8 iq ⊢;have Yi:=s8 _ _ pA;have Av:=s8 _ _ (s6 _ _ iP);have n1:lo≠lw:=λz=>by rw[z,iP]at xR;cases xR
   have n2:r2≠lw:=λz=>by rw[z,Av]at iq;cases iq
   let W2:IV:=λj σ H'=>j<=o.length/\∃c d kvs,σ=[a_ (.ref m),a_ (.ref lw),a_ (.int (i:Nat)),a_ (.ref lo),c,d]/\af H H'/\H' lo=a_ (.lst (o.map V.int))/\H' r2=a_ (.lst ((eE o).map oV))/\H' lw=a_ (.dT kvs)/\Ga S i (nextT o j) kvs/\kvs.length<=i*3000+j
   refine⟨r2,lo,_,(⟨_,xz,(aj.of iq),(aj.of Yi),(zo (n:=o.length) W2 ⟨a8 _,c,d,kvs,xz,(s1.trans s6).trans s8,Yi,iq,Av,hB,yh⟩ ?_ ?_ ?_ ?_)⟩)⟩
   .intro j σ H' hj ax;refine oA ax λ_ aa=>gD aa λc d kvs aa _ aT=>?_;subst aa;exact de aT λh1 h2 _=>⟨_,_,(oV ((eE o)[j]'(iI hj))),(V.int o[j]),(aj.of h2),(aj.of h1),(by rw[cO,aM (iI hj)];rfl),(by rw[cO,aM hj];rfl)⟩
   .intro σ H' ax;refine oA ax λ_ aa=>gD aa λc d kvs aa _ aT=>?_;subst aa;exact de aT λh1 h2 _=>dP _ _ (aj.of h2) (aj.of h1) (.inr (by rw[aL];exact aA _))
   .intro j σ H9 hj ax v Ie gA;refine oA ax λ_ aa=>gD aa λc d kvs aa s9 aT=>?_;subst aa;refine wR aT λh1 h2 h3 P0 hk9=>gD gA λp x y np ev aa=>oA aa λeH CL=>?_;subst ev;subst eH;refine oA (CL _ _ (aj.of h2) (aj.of h1)) λhx hy=>?_;rw[cO,aM (iI hj)]at hx;rw[cO,aM hj]at hy;cases hx;cases hy;have vO:=aB (o:=.tup [oV ((eE o)[j]'(iI hj)),V.int o[j]]) (af.refl H9) np;have jN:upd H9 p (.tup [oV ((eE o)[j]'(iI hj)),V.int o[j]]) p=a_ (.tup [oV ((eE o)[j]'(iI hj)),V.int o[j]]):=ao;generalize upd H9 p (.tup [oV ((eE o)[j]'(iI hj)),V.int o[j]])=Ie at vO jN ⊢;refine⟨p,⟨_,xz,aD.of jN,xz,_,_,xz,_,[],xz,xz,_,xz,_,xz,_,xz,_,xz,(sl (n:=2)),λtp Cz=>?_⟩⟩;have kj:=aB (o:=.tup [.int (i:Nat),oV ((eE o)[j]'(iI hj))]) vO Cz;have ph:upd Ie tp (.tup [.int (i:Nat),oV ((eE o)[j]'(iI hj))]) tp=a_ (.tup [.int (i:Nat),oV ((eE o)[j]'(iI hj))]):=ao;generalize upd Ie tp (.tup [.int (i:Nat),oV ((eE o)[j]'(iI hj))])=Ic at kj ph ⊢;have hpk:=yJ kvs [a_ (i:Int),(eE o)[j]'(iI hj)] (.int o[j]);have aoN:i*3000<=12*3000:=Ip _ li;refine⟨lw,⟨_,xz,.inr ⟨kvs,[a_ (i:Int),(eE o)[j]'(iI hj)],tp,kj _ _ h3,xz,by rw[ph,WO];rfl,by rw[hsz];lia,xz⟩,hj,_,_,_,xz,mI (s9.trans kj) nw,?_,?_,ao,ahJ hnd hj P0,li⟩⟩
    .rw[ai n1];exact kj _ _ h1
    .rw[ai n2];exact kj _ _ h2
   .intro σ H9 ax;refine oA ax λ_ aa=>gD aa λc d kvs aa s9 aT=>?_;subst aa;refine wR aT λh1 h2 h3 P0 hk9=>⟨hi,⟨_,_,_,_,kvs,xz,s9,h3,λm s=>?_,by rw[Bc];lia⟩⟩;rw[P0 m s]
    by_cases e1:m<i
    .rw[if_pos e1,if_pos li]
    .rw[if_neg e1]
     by_cases e2:m=i
     .subst e2;rw[if_pos xz,if_pos li,adV,ff ho]
     .rw[if_neg e2,if_neg li]
      split <;> rfl
  .intro σ H1 ax;refine oA ax λ_ aa=>fX aa λa b c d kvs aa=>wR aa λaa s1 iP hB yh=>?_;subst aa;refine vr xz (q H1 lw kvs s1 nw iP λm s hm=>?_);rw[hB m s,if_pos hm]
end
structure mj(R:List Int)(B:List T3)(H:Hp)(kvs:List (Key×V)):Prop where
 got:∀k v,c8 kvs k=a_ v->∃(x:T3) (p:e_),x∈B/\x.1∉R/\k=a_ x.2.1/\v=.ref p/\H p=a_ (.tup [.int x.1,.str x.2.2])
 all:∀x∈B,x.1∉R->∃v,c8 kvs (a_ x.2.1)=a_ v
def mj.same(h:mj R B H kvs)(s:∀b xs,H b=a_ (.tup xs)->H' b=a_ (.tup xs)):mj R B H' kvs:=
 ⟨λk v e=>U6 (h.got k v e) λx p h1 h2 h3 h4 h5=>⟨x,p,h1,h2,h3,h4,s _ _ h5⟩,h.all⟩
def mj.nil:mj R [] H []:=⟨λk v e=>(by cases e),λx h=>(by cases h)⟩
def mj.skip(h:mj R B H kvs)(hx:x.1∈R):mj R (B++[x]) H kvs:=
 ⟨λk v e=>bQ (h.got k v e) λx p h1 r=>⟨x,p,dH.mpr (.inl h1),r⟩,λy hy n=>by
  rcases dH.mp hy with z | z
  .exact h.all y z n
  .rw[cD.mp z]at n;exact absurd hx n⟩
def mj.put(h:mj R B H kvs)(hx:x.1∉R)(hp:H p=a_ (.tup [.int x.1,.str x.2.2])):mj R (B++[x]) H (putK kvs (a_ x.2.1) (.ref p)):=by
 refine⟨λk v e=>?_,λy hy n=>?_⟩
 .rw[yV]at e
  split at e
  .rename_i ek
   cases e;exact⟨x,p,by simp,hx,ek,xz,hp⟩
  .exact bQ (h.got k v e) λy p h1 r=>⟨y,p,dH.mpr (.inl h1),r⟩
 .rw[yV]
  split
  .exact⟨_,xz⟩
  .rename_i ne
   rcases dH.mp hy with z | z
   .exact h.all y z n
   .rw[cD.mp z]at ne;exact absurd xz ne
def UA:∀(ps kvs:List (Key×V)) (k:Key),(c8 (m8 kvs ps) k).isSome=((c8 kvs k).isSome||ps.any λp=>decide (k=p.1))
 | [],kvs,k=>by simp[m8]
 | p::ps,kvs,k=>by
  show (c8 (m8 (putK kvs p.1 p.2) ps) k).isSome=_;rw[UA ps,yV,sS]
  by_cases e:k=p.1
  .simp[e]
  .simp[e]
def U1:∀{R:List Int} {ys:List V},Paired (λy (i:Int)=>∃b,y=V.ref b/\H b=a_ (.tup [.int i,.bl c_])) ys R->F9 H (R.map λi=>((a_ i:Key),V.bl c_)) ys
 | _,_,.nil=>trivial
 | _,_,.cons h r=>⟨h,U1 r⟩
def af7(R:List Int)(i:Int):(!(c8 (m8 [] (R.map λi=>((a_ i:Key),V.bl c_))) (a_ i)).isSome)=decide (i∉R):=by
 rw[UA,aex]
 by_cases h:i∈R
 .rw[decide_eq_false λz=>z h];simp[h]
 .rw[decide_eq_true h];simp[h];exact λx hx e=>h (e ▸ hx)
def zQ(H:Hp)(y:V)(i:Int):Prop:=∃b,y=V.ref b/\H b=a_ (.tup [.int i,.bl c_])
def zQ.all(h:Paired (zQ H) ys R)(k:∀b xs,H b=a_ (.tup xs)->H' b=a_ (.tup xs)):Paired (zQ H') ys R:=Paired.bZ h λ_ _ q=>aq q λp e h=>⟨p,e,k _ _ h⟩
def TM:Sp:=λvs H Q _=>∃r b R us B,vs=[.ref r,.ref b]/\H r=a_ (.lst (R.map V.int))/\R.length<=3000/\H b=a_ (.lst us)/\Paired (cU H) us B/\B.length<=100000/\
 ∀H' d kvs,af H H'->H d=b_->H' d=a_ (.dK kvs)->mj R B H' kvs->kvs.length<=B.length->Q (.ref d) H'
def yY:ba [P_,"befores","placed","found","one",ap5,"why"] zLq (aS Ls):=bj
def V8:([R_]:List Str).Nodup:=dk
def afT:pK "dict" = a_ (.type "dict"):=by kernel_rfl
def adL(F:aQ K "pairs_ahead" "pairs_ahead" Ls f fd)(hdc:mg "dict" = b_):aG P w K mg base aI 1 f fd zLq TM:=by
 refine F.ok yY λaJ A _ s H vs Q E hr h=>?_
 .refine fX h λr b R us B aa=>U7 aa λe hR hz hb hp hB q=>?_;clear h aa;subst e
  refine let g:TS:=_;let j:TS:=_;let l:TS:=_;let m:TS:=_;⟨_,ar (bq (i:=2) yY.nd xz (aE xz) (og (acs xz) xz hdc afT (ab (iJ (N:=[R_]) (idx:=[]) xz (dw.of (by kernel_rfl)) (iG (a8 _)) (pX (pv 0))
    (λ_ _ _ _=>bA (i:=0) V8 xz (aE xz) (.inr xz)) (λ_ _ _ _=>i3) λ_ _ _ _=>fJ (ab (pv 0) (ab jU ag))) ag)))
   (pR m (ar (bq (i:=3) yY.nd xz (aE xz) T6) (pR l (ar (ij gn xz (pX (pv 1)) (kK xz (dA (bA (i:=4) yY.nd xz (aE xz)) (dA (bA (i:=5) yY.nd xz (aE xz)) (dA (bA (i:=6) yY.nd xz (aE xz)) kH)))) (pR j (av (b8 (V1 (SH (tj hr) (pv 4) (pv 2))) (pR g (av (Lu (tj hr) (pv 3) (pv 5) (fJ (ab (pv 4) (ab (pv 6) ag))) xz))) cp)))) (av (aZ (pv 3))))))),?_⟩
  have hsz:=fw;refine⟨_,xz,r,xz,⟨_,aj.of hR⟩,gr (n:=R.length) (λi ys H'=>i<=R.length/\af H H'/\Paired (zQ H') ys (R.take i)) (by rw[hsz];lia) (eJ (a8 _) (af.refl _) .nil) ?_ ?_ ?_ ?_ ?_⟩
  .rintro i ys H' ⟨_,_,e⟩;rw[r_ e,gm];exact DN _ _
  .rintro i ys H' hi ⟨_,s4,_⟩;exact f7 _ (V.int R[i]) (aj.of (s4 _ _ hR)) (by rw[cO,aM hi];rfl)
  .rintro ys H' ⟨_,s4,_⟩;exact au _ (aj.of (s4 _ _ hR)) (by rw[aL];exact aA _)
  .rintro i ys H1 hi ⟨_,s4,e⟩ v H2 ⟨rfl,hx⟩;have dF:=hx _ (aj.of (s4 _ _ hR));rw[cO,aM hi]at dF;cases dF;refine vr xz ⟨sl (n:=2),λtp ht=>⟨hi,aB s4 ht,?_⟩⟩;rw[jv,aM hi];exact mE (zQ.all e λb xs e=>aB (af.refl _) ht _ _ e) ⟨tp,xz,ao⟩
  .rintro ys H1 ⟨_,s1,e⟩;rw[A5]at e;have yl:=r_ e;refine⟨by rw[hsz];lia,λpl Zw=>⟨pl,ys,_,xz,ao,U1 (zQ.all e λb xs e=>aB (af.refl _) Zw _ _ e),by rw[hsz,aL];lia,λd nd=>?_⟩⟩;have s2:=aB (o:=.lst ys) s1 Zw;generalize upd H1 pl (.lst ys)=H2 at s2 nd ⊢;have s3:=aB (o:=.dK (m8 [] (R.map λi=>((a_ i:Key),V.bl c_)))) s2 nd;have hd:upd H2 d (.dK (m8 [] (R.map λi=>((a_ i:Key),V.bl c_)))) d=a_ (.dK (m8 [] (R.map λi=>((a_ i:Key),V.bl c_)))):=ao;generalize upd H2 d (.dK (m8 [] (R.map λi=>((a_ i:Key),V.bl c_))))=H3 at s3 hd ⊢;refine λlf nf=>⟨_,xz,b,xz,⟨_,aj.of (by rw[ai (bp (s3 _ _ hb) nf)];exact s3 _ _ hb)⟩,?_⟩
   let W1:IV:=λi σ H'=>i<=B.length/\∃a c y kvs,σ=[a_ (.ref r),a_ (.ref b),a_ (.ref d),a_ (.ref lf),a,c,y]/\af H3 H'/\H' lf=a_ (.dK kvs)/\mj R (B.take i) H' kvs/\kvs.length<=i
   refine Bu (xs:=us) W1 ⟨a8 _,b_,b_,b_,[],xz,aB (af.refl _) nf,ao,mj.nil,a8 _⟩ ?_ ?_ ?_
   .rintro i σ H' _ ⟨_,a,c,y,kvs,rfl,s4,_⟩;exact aj.of (s4 _ _ (s3 _ _ hb))
   .rintro i x σ H' hx ⟨_,a,c,y,kvs,rfl,s4,hk,hA,yh⟩;refine aq (kD hp hx) λz sD aa=>aq aa λp ex Ph=>?_;subst ex;have hi:i<B.length:=(bK.mp sD).1;refine⟨p,_,xz,aD.of (s4 _ _ (s3 _ _ Ph)),xz,_,_,xz,_,_,xz,_,[],xz,xz,⟨_,xz,_,xz,d,_,xz,jI.k (k:=a_ z.1) (s4 _ _ hd),_,xz,?_⟩⟩;rw[af7];have tk:B.take (i+1)=B.take i++[z]:=by rw[jv,sD];rfl
    refine bG (λe=>?_) λe=>?_
    .refine⟨_,xz,_,xz,sl (n:=2),λtp ht=>⟨_,xz,_,xz,lf,_,xz,zR.k (k:=a_ z.2.1) (by rw[ai (bp hk ht)];exact hk) (by rw[hsz];lia),hi,_,_,_,_,xz,mI (aB s4 ht) nf,ao,?_,cu (yJ _ _ _) (wt yh)⟩⟩
     .rw[tk];have nt:tp≠lf:=λz=>by rw[z,hk]at ht;cases ht
      have up:∀b xs,H' b=a_ (.tup xs)->upd (upd H' tp (.tup [.int z.1,.str z.2.2])) lf (.dK (putK kvs (a_ z.2.1) (.ref tp))) b=a_ (.tup xs):=λb xs e=>by
       rw[ai (λz=>by rw[z,hk]at e;cases e),ai (λz=>by rw[z,ht]at e;cases e)];exact e
      exact(hA.same up).put e (by rw[ai nt];exact ao)
    .refine⟨hi,_,_,_,kvs,xz,s4,hk,?_,wm yh⟩;rw[tk];exact hA.skip (Classical.not_not.mp e)
   .rintro σ H' ⟨_,a,c,y,kvs,rfl,s4,hk,hA,yh⟩;have ul:=r_ hp;rw[ul,A5]at hA;exact vr xz (q H' lf kvs (s3.trans s4) (s3.free nf) hk hA li)
def Uz{kvs:List (Key×V)}{kv:Key×V}(h:kv∈kvs):∃v,c8 kvs kv.1=a_ v:=by
 have:=yW kv.1 kvs;rw[aby.mpr ⟨kv,h,by simp⟩]at this;exact Ql.mp this.symm
def ahl{k:Key}(h:c8 kvs k=a_ v):k∈kvs.map (·.1):=by
 have:=yW k kvs;rw[h]at this;exact aq (aby.mp this) λx hx e=>eM.mpr ⟨x,hx,of_decide_eq_true e⟩
def afv{kvs:List (Key×V)}(h:∀kv∈kvs,∃b:Int,kv.1=a_ b):(kvs.map λkv=>kV kv.1)=(kvs.map λkv=>kv.1.getD 0).map V.int:=by
 rw[uD];refine aaY λkv hk=>oE (h kv hk) λb e=>?_;show kV kv.1=V.int (kv.1.getD 0);rw[e];rfl
structure r9(kvs:List (Key×V))(Vs:List Int)(kc:List (Key×V)):Prop where
 nd:Vs.Nodup
 sub:∀m∈Vs,∃v,c8 kvs (a_ m)=a_ v
 is:∀m:Int,c8 kc (a_ m)=b_↔m∉Vs
 ix:∀k v,c8 kc k=a_ v->∃(i:Nat) (m:Int),k=a_ m/\v=.int (i:Nat)/\Vs[i]?=a_ m
 len:kc.length<=Vs.length
def r9.le(h:r9 kvs Vs kc):Vs.length<=kvs.length:=by
 have:=Dq (l₁:=Vs.map a_) (l₂:=kvs.map (·.1)) (IE _ (λa b z e=>z (cE e)) h.nd) (λk hk=>by
  refine aq (eM.mp hk) λm hm e=>oE (h.sub m hm) λv hv=>?_;rw[<-e];exact ahl hv)
 rwa[aL,aL]at this
def r9.nil:r9 kvs [] []:=⟨Jc,λm h=>(by cases h),λm=>⟨λ_ z=>(by cases z),λ_=>rfl⟩,λk v e=>(by cases e),aA _⟩
def r9.put(h:r9 kvs Vs kc)(hn:n∉Vs)(hv:c8 kvs (a_ n)=a_ v):r9 kvs (Vs++[n]) (putK kc (a_ n) (.int (Vs.length:Nat))):=by
 refine⟨A2.mpr ⟨h.nd,by simp,λa ha b hb=>by rw[cD.mp hb];exact λz=>hn (z ▸ ha)⟩,λm hm=>?_,λm=>?_,λk v e=>?_,?_⟩
 .rcases dH.mp hm with z | z
  .exact h.sub m z
  .rw[cD.mp z];exact⟨v,hv⟩
 .rw[yV]
  by_cases e:m=n
  .subst e;simp
  .rw[if_neg λz=>e (cE z),h.is];simp[e]
 .rw[yV]at e
  split at e
  .rename_i ek
   cases e;exact⟨_,n,ek,xz,by rw[nK (aA _),uB];rfl⟩
  .exact eD (h.ix k v e) λi m h1 h2 h3=>⟨i,m,h1,h2,by rw[kA (bK.mp h3).1];exact h3⟩
 .rw[bL];exact cu (yJ _ _ _) (wt h.len)
def se(H:Hp)(v:V)(x:T3):Prop:=∃p,v=.ref p/\H p=a_ (.tup [.int x.1,.str x.2.2])
def se.all(h:Paired (se H) vs L)(k:∀b xs,H b=a_ (.tup xs)->H' b=a_ (.tup xs)):Paired (se H') vs L:=Paired.bZ h λ_ _ q=>aq q λp e h=>⟨p,e,k _ _ h⟩
structure xt(B X:List T3)(Vs:List Int)(n:Int):Prop where
 len:X.length=Vs.length
 at':∀(k:Nat) x,X[k]?=a_ x->x∈B/\Vs[k]?=a_ x.2.1/\(Vs++[n])[k+1]?=a_ x.1
def xt.snoc(h:xt B X Vs n)(hx:x∈B)(e:x.2.1=n):xt B (X++[x]) (Vs++[n]) x.1:=by
 refine⟨by rw[bL,bL,h.len];rfl,λk y hy=>?_⟩
 by_cases z:k<X.length
 .rw[kA z]at hy;have h1:=h.at' k y hy;have h2:=(bK.mp h1.2.1).1;exact⟨h1.1,by rw[kA h2];exact h1.2.1,by rw[kA (by rw[bL];show _<_+1;lia)];exact h1.2.2⟩
 .have z2:k=X.length:=by
   have:=(bK.mp hy).1;rw[bL]at this;have:k<X.length+1:=this;lia
  subst z2;rw[nK (aA _),uB]at hy;cases hy;refine⟨hx,?_,?_⟩
  .rw[h.len,nK (aA _),uB,e];rfl
  .rw[nK (by rw[bL,h.len];exact aA _),bL,h.len];show [x.1][Vs.length+1-(Vs.length+1)]?=_;rw[uB];rfl
structure RingM(B Y:List T3):Prop where
 two:2<=Y.length
 sub:∀x∈Y,x∈B
 nd:(Y.map (·.1)).Nodup
 Ai:∀(k:Nat) x y,Y[k]?=a_ y->Y[if k=0 then Y.length-1 else k-1]?=a_ x->x.2.1=y.1
def xt.ring(h:xt B X Vs n)(nd:Vs.Nodup)(hi:Vs[i]?=a_ n)(tT:∀x∈B,x.1≠x.2.1):RingM B (X.drop i).reverse:=by
 have AE:=(bK.mp hi).1;have hl:=h.len;have lY:(X.drop i).reverse.length=Vs.length-i:=by rw[aaZ,sN,hl]
 have at':∀{k y},(X.drop i).reverse[k]?=a_ y->k<Vs.length-i/\X[Vs.length-1-k]?=a_ y:=λ{k y} e=>by
  have hk:=(bK.mp e).1;rw[lY]at hk;rw[aaI (by rw[sN];lia),Iy,sN,hl,show i+(Vs.length-i-1-k)=Vs.length-1-k by lia]at e;exact⟨hk,e⟩
 have last:(Vs++[n])[Vs.length]?=a_ n:=by rw[nK (aA _),uB];rfl
 have ne:∀{a b u v},Vs[a]?=a_ u->Vs[b]?=a_ v->a≠b->u≠v:=λ{a b u v} ha hb PM e=>by
  subst e;obtain⟨a1,a2⟩:=bK.mp ha;obtain⟨b1,b2⟩:=bK.mp hb;rcases Nat.lt_or_gt_of_ne PM with c | c
  .exact uq.mp nd a b a1 b1 c (a2.trans b2.symm)
  .exact uq.mp nd b a b1 a1 c (b2.trans a2.symm)
 have Ai:∀(k:Nat) x y,(X.drop i).reverse[k]?=a_ y->(X.drop i).reverse[if k=0 then (X.drop i).reverse.length-1 else k-1]?=a_ x->x.2.1=y.1:=λk x y hy hx=>by
  obtain⟨hk,hy⟩:=at' hy;have h1:=(h.at' _ _ hy).2.2
  by_cases z:k=0
  .subst z;rw[if_pos xz,lY]at hx;obtain⟨_,hx⟩:=at' hx;have h2:=(h.at' _ _ hx).2.1;rw[show Vs.length-1-(Vs.length-i-1)=i by lia,hi]at h2;rw[show Vs.length-1-0+1=Vs.length by lia,last]at h1;exact(cE h2).symm.trans (cE h1)
  .rw[if_neg z]at hx;obtain⟨_,hx⟩:=at' hx;have h2:=(h.at' _ _ hx).2.1;rw[show Vs.length-1-k+1=Vs.length-1-(k-1) by lia,kA li,h2]at h1;exact cE h1
 refine⟨?_,λx hx=>?_,?_,Ai⟩
 .rw[lY];refine yr λz=>?_;obtain⟨x,hx⟩:∃x,(X.drop i).reverse[0]?=a_ x:=⟨_,aM (by rw[lY];lia)⟩;have:=Ai 0 x x hx (by rw[if_pos xz,lY,show Vs.length-i-1=0 by lia];exact hx);obtain⟨_,xV⟩:=at' hx;exact tT x (h.at' _ _ xV).1 this.symm
 .obtain⟨k,hk⟩:=pG (Qy (List.mem_reverse.mp hx));exact(h.at' _ _ hk).1
 .rw[List.map_reverse,List.nodup_iff_pairwise_ne,List.pairwise_reverse,abi,uq];intro a b ha hb PM e;rw[sN]at ha hb;have g:∀c (hc:c<X.length-i),(Vs++[n])[i+c+1]?=a_ ((X.drop i)[c]'(by rw[sN];exact hc)).1:=λc hc=>(h.at' (i+c) _ (by rw[<-Iy];exact aM _)).2.2;have ga:=g a ha;have gb:=g b hb;rw[kA li]at ga
  by_cases z:i+b+1<Vs.length
  .rw[kA z]at gb;exact ne gb ga li e
  .rw[show i+b+1=Vs.length by lia,last]at gb;have e1:=cE gb;rw[<-e1]at e;exact ne hi ga li e
def cutD(us:List V)(i:Nat):lV us (a_ (i:Int)) b_=us.drop i:=by
 unfold lV;rw[HT.UW,HT.TX]
 by_cases h:i<=us.length
 .rw[QS h,jP (by rw[sN];exact aA _)]
 .rw[Nat.min_eq_right li,uB,List.take_zero,Qt li]
def RN{α β:Type}{F:α->β->Prop}:∀{l:List α} {r:List β} (i:Nat),Paired F l r->Paired F (l.drop i) (r.drop i)
 | _,_,0,h=>h
 | _,_,_+1,.nil=>.nil
 | _,_,i+1,.cons _ t=>RN i t
def SI{α β:Type}{F:α->β->Prop}:∀{l:List α} {r:List β},Paired F l r->Paired F l.reverse r.reverse
 | _,_,.nil=>.nil
 | _,_,.cons h t=>by rw[IC,IC];exact mE (SI t) h
def VL:Sp:=λvs H Q _=>∃(r b:e_) (R:List Int) (us:List V) (B:List T3),vs=[.ref r,.ref b]/\H r=a_ (.lst (R.map V.int))/\R.length<=3000/\H b=a_ (.lst us)/\Paired (cU H) us B/\B.length<=100000/\
 (∃x∈B,x.1∉R)/\(∀x∈B,x.1∉R->∃y∈B,y.1∉R/\y.2.1=x.1)/\(∀x∈B,x.1≠x.2.1)/\∀H' d ts Y,af H H'->H d=b_->H' d=a_ (.tup ts)->Paired (se H') ts Y->RingM B Y->Q (.ref d) H'
def zh:ba [P_,"befores","ahead",R_,"way","come_to"] zLq (aS MG):=bj
def agR(F:aQ K "ring_of" "ring_of" MG f fd)(Pl:mg "min" = b_)(yg:mg "list" = b_)(dM:mg "len" = b_)(htu:mg Y_ = b_)(hrv:mg "reversed" = b_)
  (DA:Dp P w K mg base 1 "pairs_ahead" zLq TM):aG P w K mg base aI 2 f fd zLq VL:=by
 refine F.ok zh λaJ A _ s H vs Q E hr h=>?_
 .refine fX h λr b R us B aa=>U7 aa λe hR hz hb hp hB aT=>oH aT λAu alR tT q=>?_;clear h aa aT;subst e;refine let c:TS:=_;let g:TS:=_;let j:TS:=_;let t:TS:=_;let u:TS:=_;let C:TS:=_;let G:TS:=_;let I:TS:=_;⟨_,ar (bq (i:=2) zh.nd xz (aE xz) (dO DA hr xz (ab (pv 0) (ab (pv 1) ag)))) (pR I (ar (bq (i:=3) zh.nd xz (aE xz) (bU (Tb xz) xz Pl boot_min (ab (og (ac9 xz) xz yg boot_list (ab (pv 2) ag)) ag))) (pR G (ar (bq (i:=4) zh.nd xz (aE xz) (dW ag)) (pR C (ar (bq (i:=5) zh.nd xz (aE xz) T6) (pR u (ar (EB gn (V1 (SH (tj hr) (pv 3) (pv 5))) (pR j (ar (Lu (tj hr) (pv 5) (pv 3) (bU eU xz dM q_ (ab (pv 4) ag)) xz) (pR g (ar (cX (ik m_ n_ o_ jR (pv 4) (ab (Lw (tj hr) (pv 2) (pv 3) λ_ _=>rfl) ag))) (pR c (av (bq (i:=3) zh.nd xz (aE xz) (aP cc (Lw (tj hr) (pv 2) (pv 3) λ_ _=>rfl) aw))))))))) (pR t (av (aZ (adC xz xz htu xz hrv (ab (Bs K' (pv 4) (By (Lw (tj hr) (pv 5) (pv 3) λ_ _=>rfl)) Bz) ag))))))))))))),?_⟩;have hsz:=fw;refine⟨_,xz,_,xz,⟨r,b,R,us,B,xz,hR,hz,hb,hp,hB,λH1 d kvs s1 nd hd hA yh=>?_⟩⟩;have hk:∀kv∈kvs,∃b:Int,kv.1=a_ b:=λkv h=>oE (Uz h) λv e=>U6 (hA.got _ _ e) λx p _ _ h3 _ _=>⟨_,h3⟩;refine⟨_,xz,d,kvs,xz,hd,λla nla=>⟨la,kvs.map λkv=>kv.1.getD 0,xz,aj.of (by rw[<-afv hk];exact ao),?_,λM hM _=>?_⟩⟩
  .refine aq Au λx hx nx=>oE (hA.all x hx nx) λv e=>?_;cases kvs with
   | nil=>cases e
   | cons a l=>exact λz=>nomatch z
  obtain⟨v0,hv0⟩:∃v,c8 kvs (a_ M)=a_ v:=by
   refine aq (eM.mp hM) λkv hkv e=>oE (hk kv hkv) λb eb=>?_;rw[eb]at e;rw[<-show b=M from e,<-eb];exact Uz hkv
  have s2:=aB (o:=.lst (kvs.map λkv=>kV kv.1)) (af.refl H1) nla;generalize upd H1 la (.lst (kvs.map λkv=>kV kv.1))=H2 at s2 ⊢;have hd2:=s2 _ _ hd;refine⟨qc,λlw nw=>λlc nc=>?_⟩;have Hl:lw≠lc:=λz=>by rw[<-z,ao]at nc;cases nc
  have O0:H2 lc=none:=by rwa[ai (cH Hl)]at nc
  refine⟨λμ σ H'=>∃(n:Int) (Vs:List Int) (ws:List V) (kc:List (Key×V)) (X:List T3),σ=[a_ (.ref r),a_ (.ref b),a_ (.ref d),a_ (.int n),a_ (.ref lw),a_ (.ref lc)]/\μ+Vs.length=kvs.length/\af H2 H'/\H' lw=a_ (.lst ws)/\ws.length=Vs.length/\H' lc=a_ (.dK kc)/\r9 kvs Vs kc/\xt B X Vs n/\Paired (se H') ws X/\∃v,c8 kvs (a_ n)=a_ v,⟨kvs.length,M,[],[],[],[],xz,xz,aB (aB (af.refl _) nw) nc,by rw[ai Hl];exact ao,xz,ao,r9.nil,⟨xz,λk x e=>(by cases e)⟩,.nil,v0,hv0⟩,?_⟩;rintro μ σ H' ⟨n,Vs,ws,kc,X,rfl,hμ,s3,hw,km,hc,D,hG,hP,v,hv⟩;obtain⟨x,p,Z2,Pd,ex,ev,iQ⟩:=(hA.got _ _ hv);subst ev;have hle:=D.le;refine⟨_,xz,_,xz,lc,_,xz,jI.k (k:=a_ n) hc,_,xz,?_⟩;cases e:c8 kc (a_ n)with
  | none=>
   have hn:=(D.is n).mp e;have D2:=D.put hn hv;have Yj:=D2.le;rw[bL]at Yj;have apa:Vs.length+1<=kvs.length:=Yj;refine jW ⟨λσ' H'=>∃μ',μ' < μ/\∃(n:Int) (Vs:List Int) (ws:List V) (kc:List (Key×V)) (X:List T3),σ'=[a_ (.ref r),a_ (.ref b),a_ (.ref d),a_ (.int n),a_ (.ref lw),a_ (.ref lc)]/\μ'+Vs.length=kvs.length/\af H2 H'/\H' lw=a_ (.lst ws)/\ws.length=Vs.length/\H' lc=a_ (.dK kc)/\r9 kvs Vs kc/\xt B X Vs n/\Paired (se H') ws X/\∃v,c8 kvs (a_ n)=a_ v,λσ' H' z=>z,⟨_,xz,lw,ws,xz,.inl (aj.of hw),_,xz,_,xz,lc,_,xz,zR.k (k:=a_ n) hc (by rw[hsz];have:=D.len;lia),?_⟩⟩;have s4:=mI (o:=.dK (putK kc (a_ n) (.int (ws.length:Nat)))) s3 O0;have vU:upd H' lc (.dK (putK kc (a_ n) (.int (ws.length:Nat)))) lw=a_ (.lst ws):=by rw[ai Hl];exact hw
   have hc4:upd H' lc (.dK (putK kc (a_ n) (.int (ws.length:Nat)))) lc=a_ (.dK (putK kc (a_ n) (.int (ws.length:Nat)))):=ao;have PU:∀b xs,H' b=a_ (.tup xs)->upd H' lc (.dK (putK kc (a_ n) (.int (ws.length:Nat)))) b=a_ (.tup xs):=λb xs e=>by rw[ai (λz=>by rw[z,hc]at e;cases e)];exact e
   generalize upd H' lc (.dK (putK kc (a_ n) (.int (ws.length:Nat))))=H4 at s4 vU hc4 PU ⊢;refine⟨_,xz,.inl ⟨xz,_,aj.of vU⟩,_,xz,_,xz,d,.ref p,xz,?_,lw,ws,.ref p,xz,xz,vU,by rw[hsz];lia,?_⟩
   .rw[<-hv];exact jI.k (k:=a_ n) (s4 _ _ hd2)
   have s5:=mI (o:=.lst (ws++[.ref p])) s4 nw;have Aw:upd H4 lw (.lst (ws++[.ref p])) lw=a_ (.lst (ws++[.ref p])):=ao;have HQ:upd H4 lw (.lst (ws++[.ref p])) lc=a_ (.dK (putK kc (a_ n) (.int (ws.length:Nat)))):=by rw[ai (cH Hl)];exact hc4
   have hT5:∀b xs,H' b=a_ (.tup xs)->upd H4 lw (.lst (ws++[.ref p])) b=a_ (.tup xs):=λb xs e=>by rw[ai (λz=>by have:=PU b xs e;rw[z,vU]at this;cases this)];exact PU b xs e
   generalize upd H4 lw (.lst (ws++[.ref p]))=H5 at s5 Aw HQ hT5 ⊢;refine⟨_,xz,_,xz,d,.ref p,xz,?_,rT (v:=.int x.1) (aD.of (s5 _ _ (s2 _ _ iQ))) xz ⟨μ-1,li,x.1,Vs++[n],_,_,X++[x],xz,?_,s5,Aw,?_,HQ,?_,hG.snoc Z2 (cE ex).symm,mE (se.all hP hT5) ⟨p,xz,s5 _ _ (s2 _ _ iQ)⟩,?_⟩⟩
   .rw[<-hv];exact jI.k (k:=a_ n) (s5 _ _ hd2)
   .rw[bL];show μ-1+(Vs.length+1)=_;lia
   .rw[bL,bL,km];rfl
   .rw[km];exact D2
   .exact a7 (alR x Z2 Pd) λy ZZ Pc hy=>by rw[<-hy];exact hA.all y ZZ Pc
  | some vi=>
   refine eD (D.ix _ _ e) λi m em ei hi=>?_;cases em;subst ei;refine eW ⟨_,xz,_,xz,_,xz,lc,.int (i:Nat),xz,?_,_,xz,lw,ws,xz,aj.of hw,λl1 n1=>⟨l1,_,xz,aj.of ao,λp np=>?_⟩⟩
   .rw[<-e];exact jI.k (k:=a_ n) hc
   have sn:=λo=>aB (o:=o) (aB (af.refl H') n1) np;refine q _ p _ _ (aB (aB ((s1.trans s2).trans s3) n1) np) ((aB ((s1.trans s2).trans s3) n1).free np) ao ?_ (hG.ring D.nd hi tT);have pr:=SI (RN i (se.all hP λb xs e=>sn (.tup (lV ws (a_ (i:Int)) b_).reverse) _ _ e));rw[<-cutD]at pr;exact pr
def ip.bounds(w:ip S){c:Nat}{k:Ck}(h:S.ck[c]?=a_ k):k.es.length<=15000:=cu (w.es k (bu h)) w.ac
def Al(S:Mc):Prop:=∀o∈S.ov,o.length<=16000
def acK(h:(cA es n).head?=a_ e):e.n=(n:Int):=by
 have hm:=List.mem_of_mem_head? h;unfold cA at hm;have:=(jw.mp hm).2;simpa using this
def gX(S:Mc)(a:Act):Mc:={ S with ac:=S.ac++[a] }
def xp(S:Mc)(c n:Nat)(k:Ck)(g:Int):Mc:={ S with ck:=S.ck.set c { k with tn:=k.tn+1,es:=k.es++[⟨k.tn,n,g,S.ac.length⟩] } }
def setM(S:Mc)(c n r:Nat):Mc:=match S.ck[c]? with
 | none=>S
 | some k=>
  let g:=k.rg.getD r 0
  let S':=gX (xp S c n k g) ⟨l_,c,n,b_,a_ g,b_⟩
  if S.kd = "none" then jT S' c n else S'
def f6(S:Mc)(c r:Nat)(v:Int):Mc:=match S.ck[c]? with
 | none=>S
 | some k=>{ S with ck:=S.ck.set c { k with rg:=k.rg.set r v } }
def cI(S:Mc)(k:Ck)(n:Nat):Int×Option Int:=match pZ k.es n with
 | some e=>(e.num,a_ e.d)
 | none=>(S.bd.getD n 0,(S.ov.getD n []).getLast?)
def ox(S:Mc)(c r n:Nat):Mc:=match S.ck[c]? with
 | none=>S
 | some k=>f6 (gX S ⟨"look",c,n,a_ (cI S k n).1,b_,(cI S k n).2⟩) c r (cI S k n).1
def qg(S:Mc)(c r n:Nat):Mc:=match S.ck[c]? with
 | none=>S
 | some k=>
  let g:=k.rg.getD r 0
  f6 (gX (oq S n g S.ac.length) ⟨I_,c,n,a_ (S.bd.getD n 0),a_ g,(S.ov.getD n []).getLast?⟩) c r (S.bd.getD n 0)
section
variable{t:aW}{C CT:e_}{u:mm}
def K7(t:aW)(C CT PT:e_):Sp:=λvs H Q _=>∃m A S c k n lab,vs=[.ref m,.int (c:Nat),.int (n:Nat)]/\bf t C CT H m A S/\jn lab m A/\cQ PT LP LQ H/\S.ck[c]?=a_ k/\(n:Int)∈iy S.kd k.es/\n<12/\S.bd.length=12/\S.ov.length=12/\Al S/\
 ∀H',bf t C CT H' m A (jT S c n)->aY (cq m A) H H'->cQ PT LP LQ H'->Q .aN H'
def agz:ba zLo zLo (aS L0):=bj
def aff{f PT:e_}(F:aQ K Z_ "Machine.carry" L0 f fd)(cM:fh K C)(cT:kT K CT)
  (DT:Mt P w K mg base CT 3 "take" zLf (VJ CT PT))
  (DC:Mt P w K mg base C 1 "come" zLz (LM t C CT)):aG P w K mg base aI 4 f fd zLo (K7 t C CT PT):=by
 refine F.ok agz λaJ A _ s H vs Q E hr h=>?_
 .refine fX h λm A S c k aa=>jf aa λn lab aa M L aT=>?_;subst aa;refine mX aT λhL hk hf hn hb aa=>de aa λho jr q=>?_;have dy:=hr.mono (show 1<=3 by decide);refine qw (av (cX (jh (pv 0) cM.cl DC dy (ab (E1 (aP cw (bC (pv 0) xz) (pv 1)) cT.cl DT.m DT.G hr DT.b .nil c9 (ab (pv 2) ag)) ag)))) (bQ (id M.obj) λdx fs hm G=>aq (M.vm hk) λx hx T=>fe (id T.obj) λuo qS ea e1 e2 e3 em el=>vM xz hm (G.ms _ dk) (vF xz hm cM.cl cM.gE G.gE (vr xz (rL (v:=.ref x.1) (aj.of M.lt) (Bg hx) (rM ea (em _ dk) (vr xz (⟨x.1,n,_,_,_,_,(gR _ xz T hL hf λH1 e st he T1 k1 iV cB=>?_)⟩)))))));rw[di]at he;have en:=acK he;rw[en]at cB;have M1:=Wz M L hk hx k1 T1;refine⟨m,A,_,st,n,e.num,e.d,lab,xz,M1,L,cB,hn,hb,(eJ ho jr λH2 M2 k2 l2=>q H2 ?_ ((aY.OB k1 λb hb=>.ts (bu hx) hb).trans k2) (l2.lam iV))⟩;unfold jT;rw[hk];dsimp only;rw[he];exact M2
def ahC(a:e_)(n r:Nat):dY (.ref a) l_ ([n,r].map λ(n:Nat)=>V.int (n:Int))=aO O_ (.int (r:Nat)) (aO J_ (.int (n:Nat)) (aO K_ (.ref a) [])):=by kernel_rfl
def adi{n:Nat}(hn:n<12)(he:e.n=(n:Int)):(n:Int)∈kM (es++[e]):=by
 refine Bn.mpr (dJ n hn xz λz=>?_);rw[UZ,if_pos he]at z;simp at z
def UN(t:aW)(C CT PT:e_):Sp:=λvs H Q _=>∃m A S c k z dz a n r lab,vs=[.ref m,.int (c:Nat),.ref z]/\bf t C CT H m A S/\jn lab m A/\ip S/\Al S/\cQ PT LP LQ H/\S.ck[c]?=a_ k/\H z=a_ (.ins t.iM dz (dY (.ref a) l_ ([n,r].map λ(n:Nat)=>V.int (n:Int))))/\n<12/\r<4/\
 ∀H',bf t C CT H' m A (setM S c n r)->aY (cq m A) H H'->cQ PT LP LQ H'->Q .aN H'
def UU:ba [U_,ap8,"step","gave"] zLe (aS LX):=bj
def afd{f PT:e_}(F:aQ K "do_set" "Machine.do_set" LX f fd)(cM:fh K C)(cT:kT K CT)(dM:mg "len" = b_)(ST:rO K mg t)
  (DA:Mt P w K mg base CT 1 W_ zLk (WH CT))
  (DC:Mt P w K mg base C 4 Z_ zLo (K7 t C CT PT)):aG P w K mg base aI 5 f fd zLe (UN t C CT PT):=by
 refine F.ok UU λaJ A _ s H vs Q E hr h=>?_
 .refine Bf h λm A S c k z dz a n r aa=>Me aa λlab aa M L W aT=>?_;subst aa;refine mX aT λjr hL hk hz hn aa=>oA aa λqN q=>?_;have dy:=hr.mono (show 1<=4 by decide);refine let d:TS:=_;let j:TS:=_;let l:TS:=_;let p:TS:=_;⟨_,ar (bq (i:=3) UU.nd xz (aE xz) (aP cw (aP cw (bC (pv 0) xz) (pv 1)) (bC (pv 2) xz))) (pR p (ar (cX (E1 (aP cw (bC (pv 0) xz) (pv 1)) cT.cl DA.m DA.G dy DA.b .nil c9 (ab (bC (pv 2) xz) (ab (pv 3) (ab (bU eU xz dM q_ (ab (bC (pv 0) xz) ag)) ag))))) (pR l (ar (cX (ik m_ n_ o_ jR (bC (pv 0) xz) (ab (fJ (ab cR (ab (pv 1) (ab (bC (pv 2) xz) (ab mV (ab (pv 3) (ab mV ag))))))) ag))) (pR j (av (b8 (bM c7 (bC (pv 0) xz) cR (bJ _)) (pR d (av (cX (jh (pv 0) cM.cl DC hr (ab (pv 1) (ab (bC (pv 2) xz) ag)))))) cp))))))),?_⟩;rw[ahC]at hz;refine bQ (id M.obj) λdx fs hm G=>aq (M.fg hk) λra iE fu=>aq (M.vm hk) λx hx T=>fe (id T.obj) λuo qS ea e1 e2 e3 em el=>aq M.ac λws eT jM=>?_;have km:=r_ jM;have Yo:=W.ac;have anK:=W.bounds hk;have dQ:=W.rg k (bu hk)
  have O5:∀(nm:Str),(aO O_ (.int (r:Nat)) (aO J_ (.int (n:Nat)) (aO K_ (.ref a) []))).lookup nm=if nm = O_ then a_ (.int (r:Nat)) else if nm = J_ then a_ (.int (n:Nat)) else if nm = K_ then a_ (.ref a) else none:=λnm=>by
   rw[eV,eV,eV];rfl
  have lr:(aO O_ (.int (r:Nat)) (aO J_ (.int (n:Nat)) (aO K_ (.ref a) []))).lookup (O_ : Str)=a_ (V.int (r:Nat)):=by rw[O5,if_pos rfl]
  have ln:(aO O_ (.int (r:Nat)) (aO J_ (.int (n:Nat)) (aO K_ (.ref a) []))).lookup (J_ : Str)=a_ (V.int (n:Nat)):=by rw[O5,if_neg dk,if_pos rfl]
  have hg:k.rg[r]?=a_ (k.rg[r]'wg):=aM wg;have eg:k.rg.getD r 0=k.rg[r]'wg:=ff hg;refine vF xz hm cM.cl cM.fg G.fg (vr xz (rL (v:=.ref ra) (aj.of M.rg) (iA iE) (vF xz hz ST.qm ST.WU lr (rL (aj.of fu) (iA hg) ?_))));generalize hgv:k.rg[r]'wg=g at eg;refine au _ xz (dX m C dx fs (jB _ xz hm cM.cl cM.gE G.gE (vr xz (rL (v:=.ref x.1) (aj.of M.lt) (Bg hx) (rM ea (em _ dk) (vF xz hz ST.qm ST.BS ln (vr xz (vF xz hm cM.cl cM.gV G.gV (dP A.ac ws xz (.inl (aj.of eT)) (⟨x.1,n,g,_,_,_,_,_,(jB _ xz T li li w4 λH1 T1 k1=>?_)⟩))))))))));have kf:=gx.ofA k1 T1;have M1:=Wz M L hk hx kf T1;have ew:((ws.length:Nat):Int)=((S.ac.length:Nat):Int):=by rw[km]
  rw[ew]at M1 T1
  have fj:H1 z=a_ (.ins t.iM dz (aO O_ (.int (r:Nat)) (aO J_ (.int (n:Nat)) (aO K_ (.ref a) [])))):=k1 _ _ (λzb=>by
   rcases bX.mp zb with y | y
   .rw[y,ea]at hz;cases hz;rw[O5,if_neg dk,if_neg dk,if_neg dk]at e1;cases e1
   .rcases T.kinds z zb _ hz with ⟨_,_,_,_⟩ | ⟨_,y2⟩
    .rcases bX.mp y with y | y
     .rw[y,T.qs]at hz;cases hz
     .refine oE (pI y) λi aa=>oE aa λhi ez=>?_;obtain⟨oZ,e',_⟩:=T.jq i z (by rw[<-ez];exact aM hi);rw[e']at hz;cases hz
    .cases y2) hz
  have iV:=yP hL k1 T.kinds;have CG:aY (cq m A) H H1:=aY.OB kf λb hb=>.ts (bu hx) hb;refine bQ (id M1.obj) λv8 sI jc G1=>aq M1.ac λHc Gp am'=>au _ xz (dX m C v8 sI (⟨_,xz,jc,cM.cl,cM.gV,G1.gV,(.inl ⟨xz,_,aj.of Gp⟩),(au _ xz (vF xz fj ST.qm ST.BS ln (vr xz ⟨(sl (n:=6)),(λtp ht=>?_)⟩)))⟩));have s2:=aB (o:=.tup [.str l_,.int (c:Nat),.int (n:Nat),.aN,.int g,.aN]) (af.refl H1) ht;have anb:=r_ am';refine pU A.ac Hc (.ref tp) xz xz (s2 _ _ Gp) (by rw[anb,fw];show S.ac.length<_;exact wb) ?_;have M2:=Mz (M1.same s2) L (s2 _ _ Gp) (x:=.ref tp) (a:=⟨l_,c,n,b_,a_ g,b_⟩) ⟨tp,xz,ao⟩;have sC:aY (cq m A) H (upd (upd H1 tp (.tup [.str l_,.int (c:Nat),.int (n:Nat),.aN,.int g,.aN])) A.ac (.lst (Hc++[.ref tp]))):=CG.trans ((aY.of s2).trans (aY.upd .ac));have l2:KL H1 (upd (upd H1 tp (.tup [.str l_,.int (c:Nat),.int (n:Nat),.aN,.int g,.aN])) A.ac (.lst (Hc++[.ref tp]))):=(KL.of s2).trans (KL.upd (s2 _ _ Gp));have lE:=l2.lam iV;have o7:=l2 _ _ (λxs z=>by cases z) fj;generalize upd (upd H1 tp (.tup [.str l_,.int (c:Nat),.int (n:Nat),.aN,.int g,.aN])) A.ac (.lst (Hc++[.ref tp]))=H2 at M2 sC l2 lE o7 ⊢;refine bQ (id M2.obj) λyo qB ja G3=>?_
  have eS:setM S c n r=if S.kd = "none" then jT (gX (xp S c n k g) ⟨l_,c,n,b_,a_ g,b_⟩) c n else gX (xp S c n k g) ⟨l_,c,n,b_,a_ g,b_⟩:=by
   unfold setM;rw[hk];dsimp only;rw[eg]
  rw[eS]at q;refine au _ xz (dX m C yo qB (jB _ xz ja cM.cl cM.kind G3.kind ⟨xz,⟨_,xz,bG (λui=>?_) λui=>?_⟩⟩))
  .have Cb:S.kd = "none":=NL ui;rw[if_pos Cb]at q;have jt:c<S.ck.length:=(bK.mp hk).1;refine vM xz ja (G3.ms _ dk) (vr xz (vF xz o7 ST.qm ST.BS ln (⟨m,A,(gX (xp S c n k g) ⟨l_,c,n,b_,a_ g,b_⟩),c,({ k with tn:=k.tn+1,es:=k.es++[⟨k.tn,n,g,S.ac.length⟩] }),n,lab,xz,M2,L,lE,?_,?_,hn,(⟨W.bd,W.ov,jr,(λH3 M3 k3 uk=>q H3 M3 (sC.trans k3) uk)⟩)⟩)))
   .show (S.ck.set c _)[c]?=a_ _;rw[gC jt]
   .show (n:Int)∈iy S.kd (k.es++[⟨k.tn,n,g,S.ac.length⟩]);unfold iy;rw[Cb,if_neg dk];exact adi hn xz
  .have Cb:¬S.kd = "none":=λe=>ui (by rw[e]);rw[if_neg Cb]at q;exact q H2 M2 sC lE
end
end TL
namespace L2
open PySem.SeqAt
def KA:XX X (λx y H Q=>∃p xs,∃i:Nat,∃v,x=.ref p/\y=.int (i:Nat)/\H p=a_ (.lst xs)/\xs[i]?=a_ v/\Q v H):=by
 intro p_ s σ H o i ov iv Q I r1 r2 h;refine lN h λp xs j z aa aT=>?_;clear h;subst aa;refine oH aT λaa hq he q=>?_;clear aT;subst aa;cases r1;refine oE r2 λt aa=>?_;clear r2;subst aa;refine a7 (I.list (aj.of hq)) λits r pl hz=>aq (r.get he) λw ew jK=>?_;have hl:=r.length;have hn:=BL;have hj:j<xs.length:=(bK.mp he).1;exact wpAny_getItem_list pl.isList li li (by rw[di];simpa using ew) ⟨z,H,I,jK,q⟩
end L2
namespace TL
open PySem.SeqAt L2 L3 L4
variable{P:k_}{w:j_}{K:u_}{mg:Str->Option f_}{base:i_}
def ahD(a:e_)(r n:Nat):dY (.ref a) T_ ([r,n].map λ(n:Nat)=>V.int (n:Int))=aO R_ (.int (n:Nat)) (aO O_ (.int (r:Nat)) (aO K_ (.ref a) [])):=by kernel_rfl
def ahE(a:e_)(r n:Nat):dY (.ref a) W_ ([r,n].map λ(n:Nat)=>V.int (n:Int))=aO ap5 (.int (n:Nat)) (aO O_ (.int (r:Nat)) (aO K_ (.ref a) [])):=by kernel_rfl
def afH(a:e_)(r n:Nat):dY (.ref a) Q_ ([r,n].map λ(n:Nat)=>V.int (n:Int))=aO ac2 (.int (n:Nat)) (aO O_ (.int (r:Nat)) (aO K_ (.ref a) [])):=by kernel_rfl
def Mi:(aO x v (aO y u (aO K_ (.ref a) []))).lookup x=a_ v:=by rw[eV,if_pos rfl]
def Fo(h:y≠x):(aO x v (aO y u (aO K_ (.ref a) []))).lookup y=a_ u:=by rw[eV,if_neg h,eV,if_pos rfl]
def ig(s:Tl)(rg:List Int)(pl:Nat):Nat:=if s.1 = Q_/\rg.getD (s.2.getD 0 0) 0=0 then s.2.getD 1 0 else pl+1
def cy(S:Mc)(c:Nat)(s:Tl):Mc:=
 if s.1 = T_ then f6 S c (s.2.getD 0 0) (s.2.getD 1 0:Nat)
 else if s.1 = W_ then (match S.ck[c]? with
  | none=>S
  | some k=>f6 S c (s.2.getD 0 0) ((k.rg.getD (s.2.getD 0 0) 0+k.rg.getD (s.2.getD 1 0) 0)%k7))
 else if s.1 = l_ then setM S c (s.2.getD 0 0) (s.2.getD 1 0)
 else if s.1 = H_ then ox S c (s.2.getD 0 0) (s.2.getD 1 0)
 else if s.1 = I_ then qg S c (s.2.getD 0 0) (s.2.getD 1 0)
 else S
def qu(S:Mc)(c:Nat)(s:Tl):Mc:=match S.ck[c]? with
 | none=>S
 | some k=>{ S with ck:=S.ck.set c { k with pl:=ig s k.rg k.pl,ct:=k.ct+1 } }
def tY(S:Mc)(c:Nat):Mc:=match S.ck[c]?,S.ps[c]? with
 | some k,a_ p=>(match p[k.pl]? with
  | some s=>qu (cy S c s) c s
  | none=>S)
 | _,_=>S
section
variable{t:aW}{C CT:e_}{H:Hp}{m:e_}{A:MA}{S:Mc}
def bf.agf(M:bf t C CT H m A S)(hz:H z=a_ (.ins cz dz (dY (.ref a) x ps))):¬cq m A z:=by
 intro hb;cases hb with
 | m=>
  refine bQ M.obj λdx fs h G=>?_;rw[h]at hz;cases hz;have e:=G.gE;rw[wL "trays" dk]at e;cases e
 | lt=>rw[M.lt]at hz;cases hz
 | pl=>rw[M.pl]at hz;cases hz
 | ct=>rw[M.ct]at hz;cases hz
 | rg=>rw[M.rg]at hz;cases hz
 | ce=>rw[M.ce]at hz;cases hz
 | ac=>obtain⟨vs,h,_⟩:=M.ac;rw[h]at hz;cases hz
 | cm=>rw[M.cm]at hz;cases hz
 | rs h=>
  refine aq (pN M.rs h) λc _ q=>?_;rw[q]at hz;cases hz
 | cs h=>
  refine aq (pN M.cs h) λc _ q=>?_;rw[q]at hz;cases hz
 | ts h h2=>
  refine aq (pN M.ts h) λc _ T=>fe (id T.obj) λuo qS ea e1 e2 e3 em el=>?_;rcases bX.mp h2 with y | y
  .rw[y,ea]at hz;cases hz;rw[wL _ dk]at e1;cases e1
  .rcases bX.mp y with y | y
   .rw[y,T.qs]at hz;cases hz
   .refine oE (pI y) λi aa=>oE aa λhi ez=>?_;obtain⟨oZ,e',_⟩:=T.jq i z (by rw[<-ez];exact aM hi);rw[e']at hz;cases hz
end
section
variable{t:aW}{C CT:e_}{u:mm}
def Q7(t:aW):Sp:=λvs H Q _=>∃z a dz s sz ra rg,∃pl:Nat,vs=[.ref z,.int (pl:Nat),.ref ra]/\H z=a_ (.ins (da t s.1) dz (dY (.ref a) s.1 (s.2.map λ(n:Nat)=>V.int (n:Int))))/\cG sz s/\H ra=a_ (.lst (rg.map V.int))/\rg.length=4/\Q (.int (ig s rg pl:Nat)) H
def abV:ba zLu zLu (aS Jk):=bj
def Ur(g:Int):decide (V.int g=V.int 0)=decide (g=0):=decide_eq_decide.mpr ⟨λz=>by injection z,λz=>by rw[z]⟩
def abL(F:aQ K "place_behind" "place_behind" Jk f fd)(O:xq K mg t u):aG P w K mg base aI 1 f fd zLu (Q7 t):=by
 refine F.ok abV λaJ A _ s H vs Q E hr h=>?_
 .refine fX h λz a dz s sz aa=>gD aa λra rg pl aa hz aT=>?_;subst aa;refine oH aT λg iE fu q=>?_;refine⟨_,ar (b8 (PW.pt (pw_and (gu (bU iZ xz O.st.bl.iO jd (ab (pv 0) (ab (fq (v:=.ref t.i7) xz O.st.Mg xz) ag)))) (pw_and1 (bM c7 (aP cw (pv 2) (bC (pv 0) xz)) aw (bJ _))))) (av (aZ (bC (pv 0) xz))) cp) (av (aZ (br i5 (pv 1) aw))),?_⟩;refine aq (Fq O g hz) λD ty c6=>vr xz (dX _ (.ref t.i7) _ (.ref t.i7) (gR _ xz ty xz c6.WQ (tk (bG (λhs=>?_) λhs=>?_))))
  .cases g with
   | skip r p h1 h2 h3=>
    have hz:H z=a_ (.ins (da t Q_) dz (dY (.ref a) Q_ ([r,p].map λ(n:Nat)=>V.int (n:Int)))):=hz;rw[EI,afH]at hz;have hg:rg[r]?=a_ (rg[r]'wg):=aM wg;have eg:rg.getD r 0=rg[r]'wg:=ff hg;refine vr xz (vF xz hz O.st.rF O.st.Wc (Fo dk) (rL (aj.of iE) (iA hg) ⟨xz,⟨_,xz,bG (λh0=>?_) λh0=>?_⟩⟩))
    .have e:ig (Q_,[r,p]) rg pl=p:=by
      unfold ig;rw[if_pos ⟨xz,by show rg.getD r 0=0;rw[eg];injection h0⟩];rfl
     rw[e]at q;exact vF xz hz O.st.rF O.st.Fl Mi q
    .have e:ig (Q_,[r,p]) rg pl=pl+1:=by
      unfold ig;rw[if_neg λh=>h0 (by have:=h.2;rw[<-show rg.getD r 0=rg[r]'wg from eg];show V.int (rg.getD r 0)=_;rw[show rg.getD r 0=0 from this])]
     rw[e]at q;exact au _ xz ⟨_,⟨_,xz,xz,q⟩⟩
   | put=>exact absurd (show ("put" : Str) = "skip" from hs) dk
   | add=>exact absurd (show ("add" : Str) = "skip" from hs) dk
   | set=>exact absurd (show ("set" : Str) = "skip" from hs) dk
   | look=>exact absurd (show ("look" : Str) = "skip" from hs) dk
   | swap=>exact absurd (show ("swap" : Str) = "skip" from hs) dk
   | clear=>exact absurd (show ("clear" : Str) = "skip" from hs) dk
  .have e:ig s rg pl=pl+1:=by
    unfold ig;rw[if_neg λh=>hs h.1]
   rw[e]at q;exact au _ xz ⟨_,⟨_,xz,xz,q⟩⟩
end
def cg(B:List T3)(R:List Int)(b:Int):Nat:=B.countP λx=>decide (x.2.1=b/\x.1∉R)
def cV(B:List T3)(a:Int):List Int:=(B.filter λx=>decide (x.1=a)).map (·.2.1)
def Bv:cg B R b=0↔∀x∈B,x.2.1=b->x.1∈R:=by
 unfold cg;rw[List.countP_eq_zero];constructor
 .intro h x hx e;have:=h x hx;simp[e]at this;exact this
 .intro h x hx z;have:=of_decide_eq_true z;exact this.2 (h x hx this.1)
def Eo(hn:n∉R)(b:Int):∀B:List T3,cg B R b=cg B (R++[n]) b+(cV B n).count b
 | []=>rfl
 | x::B=>by
  have ih:=Eo hn b B;unfold cg cV at ih ⊢;rw[abw,abw,yC,ih]
  by_cases e1:x.1=n
  .have d1:decide (x.1=n)=true:=decide_eq_true e1;rw[d1];simp only[if_true,gq,List.count_cons]
   by_cases e2:x.2.1=b
   .simp[e1,e2,hn];omega
   .simp[e2]
  .have d1:decide (x.1=n)=false:=decide_eq_false e1;rw[d1];simp only[yy,if_false]
   by_cases e2:x.2.1=b
   .by_cases e3:x.1∈R
    .simp[e2,e3]
    .simp[e2,e3,e1];omega
   .simp[e2]
def Ut(B:List T3)(x:T3)(b:Int):cg (B++[x]) [] b=cg B [] b+if x.2.1=b then 1 else 0:=by
 unfold cg;rw[List.countP_append]
 by_cases e:x.2.1=b <;> simp[e]
def Vr(B:List T3)(x:T3)(a:Int):cV (B++[x]) a=cV B a++if x.1=a then [x.2.1] else []:=by
 unfold cV;rw[yw,fv]
 by_cases e:x.1=a <;> simp[e]
def aiK(h:b∈cV B a):∃x∈B,x.1=a/\x.2.1=b:=by
 refine aq (eM.mp h) λx hx e=>?_;have:=jw.mp hx;exact⟨x,this.1,of_decide_eq_true this.2,e⟩
structure KI(M:Nat)(B:List T3)(R rd:List Int):Prop where
 nd:R.Nodup
 lt:∀b∈R,0<=b/\b<M
 rs:∀(i:Nat) (b:Int),R[i]?=a_ b->∀x∈B,x.2.1=b->x.1∈R.take i
 rn:rd.Nodup
 rm:∀b,b∈rd↔0<=b/\b<M/\b∉R/\cg B R b=0
structure KJ(M:Nat)(B:List T3)(R:List Int)(n:Int)(j:Nat)(rd:List Int):Prop where
 rn:rd.Nodup
 rm:∀b,b∈rd↔0<=b/\b<M/\b∉R/\b≠n/\cg B R b=((cV B n).take j).count b
def KI.le(h:KI M B R rd):R.length<=M:=by
 have:=Dq (l₁:=R) (l₂:=(List.range M).map λ(i:Nat)=>(i:Int)) h.nd (λb hb=>by
  have:=h.lt b hb;exact eM.mpr ⟨b.toNat,nW.mpr li,li⟩)
 rwa[aL,lH]at this
def KI.start{M:Nat}{B:List T3}{rd:List Int}(h:rd.Nodup)(m:∀b,b∈rd↔0<=b/\b<M/\cg B [] b=0):KI M B [] rd:=
 ⟨Jc,λb z=>(by cases z),λi b z=>(by cases z),h,λb=>by rw[m b];simp⟩
def KI.go(h:KI M B R rd)(hn:n∈rd):KJ M B R n 0 (rd.erase n):=by
 refine⟨h.rn.erase n,λb=>?_⟩;rw[h.rn.mem_erase_iff,h.rm b];simp;constructor
 .rintro⟨h1,h2,h3,h4,h5⟩;exact⟨h2,h3,h4,h1,h5⟩
 .rintro⟨h1,h2,h3,h4,h5⟩;exact⟨h4,h1,h2,h3,h5⟩
def KI.room(h:KI M B R rd)(hn:n∈rd):R.length+1<=M:=by
 have k:=(h.rm n).mp hn;have:KI M B (R++[n]) []->R.length+1<=M:=λz=>by have:=z.le;rwa[bL]at this
 have:=Dq (l₁:=n::R) (l₂:=(List.range M).map λ(i:Nat)=>(i:Int)) (A7.mpr ⟨k.2.2.1,h.nd⟩) (λb hb=>by
  have uj:0<=b/\b<M:=by
   rcases bX.mp hb with z | z
   .rw[z];exact⟨k.1,k.2.1⟩
   .exact h.lt b z
  exact eM.mpr ⟨b.toNat,nW.mpr li,li⟩)
 rwa[aL,lH]at this
def KI.other(h:KI M B R rd)(hn:n∈rd)(k:KJ M B R n j ua)(ho:(cV B n)[j]?=a_ o)(hM:∀x∈B,0<=x.2.1/\x.2.1<M) :
  0<=o/\o<M/\o∉R/\o≠n/\o∉ua/\((cV B n).take j).count o<cg B R o:=by
 have kn:=(h.rm n).mp hn;refine a7 (aiK (bu ho)) λx hx e1 e2=>?_
 have bz:((cV B n).take j).count o<cg B R o:=by
  have h1:=Eo kn.2.2.1 o B;have h2:(cV B n).count o=((cV B n).take j).count o+((cV B n).drop j).count o:=by rw[<-abl,nM]
  have h3:0<((cV B n).drop j).count o:=List.count_pos_iff.mpr (bu (i:=0) (by rw[Iy];exact ho));omega
 have hr:=hM x hx;rw[e2]at hr;refine⟨hr.1,hr.2,λz=>?_,λz=>?_,λz=>?_,bz⟩
 .refine oE (pG z) λi hi=>?_;have:=h.rs i o hi x hx e2;rw[e1]at this;exact kn.2.2.1 (Iq this)
 .have:=Bv.mp kn.2.2.2 x hx (by rw[e2,z]);rw[e1]at this;exact kn.2.2.1 this
 .have:=((k.rm o).mp z).2.2.2.2;omega
def J9{l:List Int}{j:Nat}{o:Int}(ho:l[j]?=a_ o)(b:Int):(l.take (j+1)).count b=(l.take j).count b+if o=b then 1 else 0:=by
 rw[jv,ho,abl];show _+[o].count b=_;rw[List.count_singleton]
 by_cases e:o=b <;> simp[e]
def KJ.yes{M:Nat}{B:List T3}{R rd:List Int}{n o:Int}{j:Nat}(k:KJ M B R n j rd)(ho:(cV B n)[j]?=a_ o)(h:0<=o/\o<M/\o∉R/\o≠n/\o∉rd/\((cV B n).take j).count o<cg B R o)
  (he:cg B R o=((cV B n).take (j+1)).count o):KJ M B R n (j+1) (rd++[o]):=by
 refine⟨A2.mpr ⟨k.rn,by simp,λa ha b hb=>by rw[cD.mp hb];exact λz=>h.2.2.2.2.1 (z ▸ ha)⟩,λb=>?_⟩;rw[dH,k.rm b]
 by_cases e:b=o
 .subst e;simp[he,h.1,h.2.1,h.2.2.1,h.2.2.2.1]
 .rw[J9 ho,if_neg (cH e)];simp[e]
def KJ.no{M:Nat}{B:List T3}{R rd:List Int}{n o:Int}{j:Nat}(k:KJ M B R n j rd)(ho:(cV B n)[j]?=a_ o)(h:0<=o/\o<M/\o∉R/\o≠n/\o∉rd/\((cV B n).take j).count o<cg B R o)
  (he:cg B R o≠((cV B n).take (j+1)).count o):KJ M B R n (j+1) rd:=by
 refine⟨k.rn,λb=>?_⟩
 by_cases e:b=o
 .subst e;exact⟨λz=>absurd z h.2.2.2.2.1,λz=>absurd z.2.2.2.2 he⟩
 .rw[k.rm b,J9 ho,if_neg (cH e)];rfl
def KJ.done(h:KI M B R rd)(hn:n∈rd)(k:KJ M B R n (cV B n).length ua):KI M B (R++[n]) ua:=by
 have kn:=(h.rm n).mp hn;refine⟨A2.mpr ⟨h.nd,by simp,λa ha b hb=>by rw[cD.mp hb];exact λz=>kn.2.2.1 (z ▸ ha)⟩,λb hb=>?_,λi b hi x hx e=>?_,k.rn,λb=>?_⟩
 .rcases dH.mp hb with z | z
  .exact h.lt b z
  .rw[cD.mp z];exact⟨kn.1,kn.2.1⟩
 .by_cases hl:i<R.length
  .rw[kA hl]at hi;rw[List.take_append_of_le_length (cY hl)];exact h.rs i b hi x hx e
  .rw[nK (Nat.le_of_not_lt hl)]at hi;have z:=bK.mp hi;have e0:i-R.length=0:=by have:=z.1;simp at this;exact this
   have ei:i=R.length:=om;have eb:n=b:=by have:=z.2;simp[e0]at this;exact this
   rw[ei,List.take_left];exact Bv.mp kn.2.2.2 x hx (by rw[e,eb])
 .rw[k.rm b,A5];have s:=Eo kn.2.2.1 b B;rw[show (b∉R++[n])↔(b∉R/\b≠n) by simp];constructor
  .rintro⟨h1,h2,h3,h4,h5⟩;exact⟨h1,h2,⟨h3,h4⟩,om⟩
  .rintro⟨h1,h2,⟨h3,h4⟩,h5⟩;exact⟨h1,h2,h3,h4,om⟩
def dD(M:Nat)(f:Int->Nat):List V:=(List.range M).map λ(b:Nat)=>V.int ((f (b:Int):Nat):Int)
def wI(M:Nat)(f:Int->Nat):(dD M f).length=M:=by unfold dD;rw[aL,lH]
def uM(h:j<M):(dD M f)[j]?=a_ (V.int (f (j:Int):Nat)):=by
 unfold dD;rw[cO,List.getElem?_range h];rfl
def Ug{M:Nat}{f f':Int->Nat}{j v:Nat}(h1:f' (j:Int)=v)(h2:∀b:Int,b≠(j:Int)->f' b=f b):(dD M f).set j (V.int (v:Nat))=dD M f':=by
 refine A4 λi=>?_;rw[abj]
 by_cases e:j=i
 .subst e;rw[if_pos xz,wI]
  by_cases h:j<M
  .rw[if_pos h,uM h,h1]
  .rw[if_neg h,qV (by rw[wI];lia)]
 .rw[if_neg e]
  by_cases h:i<M
  .rw[uM h,uM h,h2 _ li]
  .rw[qV (by rw[wI];lia),qV (by rw[wI];lia)]
def adX(M:Nat):(cW M [V.int 0]).flatten=dD M λ_=>0:=by
 refine A4 λi=>?_
 have e:(cW M [V.int 0]).flatten=cW M (V.int 0):=by
  induction M with
  | zero=>rfl
  | succ M ih=>rw[uw,A3,ih];rfl
 rw[e,Io]
 by_cases h:i<M
 .rw[if_pos h,uM h];rfl
 .rw[if_neg h,qV (by rw[wI];lia)]
def KJ.le(h:KJ M B R n j rd):rd.length<=M:=by
 have:=Dq (l₁:=rd) (l₂:=(List.range M).map λ(i:Nat)=>(i:Int)) h.rn (λb hb=>by
  have:=(h.rm b).mp hb;exact eM.mpr ⟨b.toNat,nW.mpr li,li⟩)
 rwa[aL,lH]at this
structure tO(H:Hp)(ps:List e_)(f:Int->List Int):Prop where
 nd:ps.Nodup
 at':∀(i:Nat) p,ps[i]?=a_ p->H p=a_ (.lst ((f (i:Int)).map V.int))
def tO.keep(h:tO H ps f)(k:∀p∈ps,H' p=H p):tO H' ps f:=⟨h.nd,λi p e=>by rw[k p (bu e)];exact h.at' i p e⟩
def tO.put{f f':Int->List Int}{j:Nat}(h:tO H ps f)(hp:ps[j]?=a_ p)(h2:∀b:Int,b≠(j:Int)->f' b=f b):tO (upd H p (.lst ((f' (j:Int)).map V.int))) ps f':=by
 refine⟨h.nd,λi q e=>?_⟩
 by_cases z:i=j
 .subst z;rw[hp]at e;cases e;exact ao
 .have ne:q≠p:=λeq=>by
   subst eq;have h1:=bK.mp e;have h3:=bK.mp hp;exact z ((abv h.nd).mp (h1.2.trans h3.2.symm))
  rw[ai ne,h2 _ li];exact h.at' i q e
def kg(B:List T3)(i:Nat):List Int:=((List.range i).filter λ(b:Nat)=>decide (cg B [] (b:Int)=0)).map λ(b:Nat)=>(b:Int)
def TY(B:List T3)(i:Nat):kg B (i+1)=kg B i++if cg B [] (i:Int)=0 then [(i:Int)] else []:=by
 unfold kg;rw[sO,yw,fv]
 by_cases h:cg B [] (i:Int)=0 <;> simp[h]
def UY(B:List T3)(i:Nat):(kg B i).length<=i:=by
 unfold kg;rw[aL];have:=uu (λ(b:Nat)=>decide (cg B [] (b:Int)=0)) (List.range i);rwa[lH]at this
def aih(M:Nat)(B:List T3):KI M B [] (kg B M):=by
 refine KI.start (IE _ (λa b z e=>z li) ((abt (n:=M)).filter _)) λb=>?_
 .unfold kg;rw[eM];constructor
  .rintro⟨a,ha,rfl⟩;have:=jw.mp ha;have h1:=nW.mp this.1;exact⟨li,li,of_decide_eq_true this.2⟩
  .rintro⟨h1,h2,h3⟩;refine⟨b.toNat,jw.mpr ⟨nW.mpr li,?_⟩,li⟩;rw[Iu h1];exact decide_eq_true h3
def UO:Sp:=λvs H Q _=>∃(M:Nat) (b:e_) (us:List V) (B:List T3),vs=[.int (M:Nat),.ref b]/\M<=3000/\H b=a_ (.lst us)/\Paired (cU H) us B/\B.length<=100000/\(∀x∈B,(0<=x.1/\x.1<M)/\0<=x.2.1/\x.2.1<M)/\
 ∀H' l R,af H H'->H l=b_->H' l=a_ (.lst (R.map V.int))->KI M B R []->Q (.ref l) H'
def rD:ba ["many","befores","missing","behind","one",ap5,"why","ready",P_,R_] ["many","befores"] (aS LZ):=bj
def akq:(["missing",R_]:List Str).Nodup:=dk
def ae3(F:aQ K "counted_out" "counted_out" LZ f fd)(dQ:mg "range" = b_)(Pl:mg "min" = b_)(dM:mg "len" = b_):aG P w K mg base aI 1 f fd ["many","befores"] UO:=by
 refine F.ok rD λaJ A _ s H vs Q E hr h=>?_
 .obtain⟨M,b,us,B,e,hM,hb,hp,hB,hx,q⟩:=h;subst e
  refine let d:TS:=_;let g:TS:=_;let l:TS:=_;let m:TS:=_;let r:TS:=_;let t:TS:=_;let u:TS:=_;let C:TS:=_;let D:TS:=_;let G:TS:=_;let I:TS:=_;let L:TS:=_;let O:TS:=_;let S:TS:=_;⟨_,ar (bq (i:=2) rD.nd xz (zA xz) (br Fg (dW (ab aw ag)) (pv 0))) (pR S (ar (yM (i:=3) (N:=[R_]) (idx:=[]) rD.nd xz xz xz (dw.of (by kernel_rfl)) (iG (a8 _)) (oa xz dQ (ab (pv 0) ag)) (λ_ _ _ _=>bA (i:=0) V8 xz (aE xz) (.inr xz)) (λ_ _ _ _=>i3) λ_ _ _ _=>dW ag)
   (pR O (ar (ij gn xz (pX (pv 1)) (kK xz (dA (bA (i:=4) rD.nd xz (aE xz)) (dA (bA (i:=5) rD.nd xz (aE xz)) (dA (bA (i:=6) rD.nd xz (aE xz)) kH)))) (pR g (ar (Lv (pv 2) (pv 5) KA aw Wm set_list) (pR d (av (cX (ik m_ n_ o_ jR (aP cw (pv 3) (pv 4)) (ab (pv 5) ag)))))))) (pR L (ar (yM (i:=7) (N:=["missing",R_]) (idx:=[2]) rD.nd xz xz xz (dw.of (by kernel_rfl)) (iG (aA _)) (oa xz dQ (ab (pv 0) ag)) (λ_ _ _ _=>bA (i:=1) akq xz (aE xz) (.inr xz)) (λ_ _ _ _=>wJ (bM c7 (aP (BW K) (pv 0) (pv 1)) aw (bJ _))) λ_ _ _ _=>pv 1)
   (pR I (ar (bq (i:=8) rD.nd xz (aE xz) (dW ag)) (pR G (ar (EB gn (bM wQ (bU eU xz dM q_ (ab (pv 7) ag)) aw (bJ _)) (pR D (ar (bq (i:=9) rD.nd xz (aE xz) (bU (Tb xz) xz Pl boot_min (ab (pv 7) ag))) (pR C (ar (cX (ik m_ PySem.F.slot_list_remove PySem.F.type_list_remove adW (pv 7) (ab (pv 9) ag))) (pR u (ar (cX (ik m_ n_ o_ jR (pv 8) (ab (pv 9) ag))) (pR t (av (ij gn xz (pX (aP cw (pv 3) (pv 9))) (bA (i:=5) rD.nd xz (aE xz)) (pR r (ar (Lv (pv 2) (pv 5) KA aw aiW set_list) (pR m (av (b8 (bM c7 (aP cw (pv 2) (pv 5)) aw (bJ _)) (pR l (av (cX (ik m_ n_ o_ jR (pv 7) (ab (pv 5) ag))))) cp))))))))))))))) (av (aZ (pv 8))))))))))))),?_⟩
  have hsz:=fw;refine⟨qc,λl0 n0=>⟨_,xz,l0,(M:Int),[V.int 0],xz,xz,ao,li,li,by rw[hsz];simp;lia,λlm nm=>?_⟩⟩;rw[di,adX];have s0:=aB (o:=.lst [V.int 0]) (af.refl H) n0;generalize upd H l0 (.lst [V.int 0])=H0 at s0 nm ⊢;have s1:=aB (o:=.lst (dD M λ_=>0)) s0 nm;have Zy:=s0.free nm;have jc:upd H0 lm (.lst (dD M λ_=>0)) lm=a_ (.lst (dD M λ_=>0)):=ao;generalize upd H0 lm (.lst (dD M λ_=>0))=H1 at s1 jc ⊢;refine⟨_,xz,(M:Int),xz,li,li,gr (n:=M) (λi ys H'=>i<=M/\af H1 H'/\∃ps:List e_,ys=ps.map V.ref/\ps.length=i/\ps.Nodup/\∀p∈ps,H1 p=b_/\H' p=a_ (.lst [])) (by rw[hsz];lia) ⟨a8 _,af.refl _,[],xz,xz,Jc,λp h=>(by cases h)⟩ ?_ ?_ ?_ ?_ ?_⟩
  .rintro i ys H' ⟨_,_,ps,rfl,e,_⟩;rw[aL];exact pM e
  .rintro i ys H' hi _;show i<(M:Int).toNat;lia
  .rintro ys H' _;show (M:Int).toNat<=M;lia
  .rintro i ys H' hi ⟨_,s2,ps,rfl,e,nd,dS⟩ v H2 ⟨rfl,rfl⟩;refine⟨qc,λp np=>⟨hi,aB s2 np,ps++[p],by rw[fv];rfl,by rw[bL,e];rfl,A2.mpr ⟨nd,by simp,λa ha b hb=>?_⟩,λa ha=>?_⟩⟩
   .rw[cD.mp hb];exact bp (dS a ha).2 np
   .rcases dH.mp ha with z | z
    .exact⟨(dS a z).1,by rw[ai (bp (dS a z).2 np)];exact(dS a z).2⟩
    .rw[cD.mp z];exact⟨s2.free np,ao⟩
  .rintro ys H2 ⟨_,s2,ps,rfl,pl,nd,dS⟩;refine⟨by rw[hsz,aL];lia,λlb CB=>?_⟩;have OV:=bp (s2 _ _ jc) CB;have pm:=λp h=>cH (bp jc (dS p h).1);have pb:=λp h=>bp (dS p h).2 CB;have pH:=λp h=>s1.free (dS p h).1;have nbH:=(s1.trans s2).free CB;have s3:=aB (o:=.lst (ps.map V.ref)) (s1.trans s2) CB;have ja:upd H2 lb (.lst (ps.map V.ref)) lm=a_ (.lst (dD M λ_=>0)):=by rw[ai OV];exact s2 _ _ jc
   have yk:upd H2 lb (.lst (ps.map V.ref)) lb=a_ (.lst (ps.map V.ref)):=ao;have bh3:tO (upd H2 lb (.lst (ps.map V.ref))) ps (cV []):=⟨nd,λi p e=>by rw[ai (pb p (bu e))];exact(dS p (bu e)).2⟩;generalize upd H2 lb (.lst (ps.map V.ref))=H3 at s3 ja yk bh3 ⊢;clear dS s2 CB H2 s1 jc H1 s0 nm H0 n0;refine⟨_,xz,b,xz,⟨_,aj.of (s3 _ _ hb)⟩,?_⟩
   let W1:IV:=λi σ H'=>i<=B.length/\∃a c y,σ=[a_ (.int (M:Nat)),a_ (.ref b),a_ (.ref lm),a_ (.ref lb),a,c,y,b_,b_,b_]/\af H H'/\H' lm=a_ (.lst (dD M (cg (B.take i) [])))/\H' lb=a_ (.lst (ps.map V.ref))/\tO H' ps (cV (B.take i))
   refine Bu (xs:=us) W1 ⟨a8 _,b_,b_,b_,xz,s3,ja,yk,bh3⟩ ?_ ?_ ?_
   .rintro i σ H' _ ⟨_,a,c,y,rfl,s4,_⟩;exact aj.of (s4 _ _ hb)
   .rintro i x σ H' vQ ⟨_,a,c,y,rfl,s4,kx,AH,AO⟩;refine aq (kD hp vQ) λz sD aa=>aq aa λp ex Ph=>?_;subst ex;obtain⟨z1,z2,z3⟩:=z;have Hy:=hx _ (bu sD);obtain⟨a1,rfl⟩:∃n:Nat,z1=(n:Int):=⟨z1.toNat,by have:=Hy.1.1;lia⟩;obtain⟨o1,rfl⟩:∃n:Nat,z2=(n:Int):=⟨z2.toNat,by have:=Hy.2.1;lia⟩;have h1:a1<M:=by have:=Hy.1.2;lia
    have h2:o1<M:=by have:=Hy.2.2;lia
    have hi:i<B.length:=(bK.mp sD).1;have tk:B.take (i+1)=B.take i++[((a1:Int),(o1:Int),z3)]:=by rw[jv,sD];rfl
    refine⟨p,_,xz,aD.of (s4 _ _ Ph),xz,_,_,xz,_,_,xz,_,[],xz,xz,⟨_,xz,_,xz,lm,_,o1,_,xz,xz,kx,uM h2,_,_,xz,xz,lm,_,_,o1,xz,xz,kx,tw (by rw[wI];exact h2),?_⟩⟩
    have sf:(dD M (cg (B.take i) [])).set o1 (V.int (((cg (B.take i) [] (o1:Int):Nat):Int)+1))=dD M (cg (B.take (i+1)) []):=by
     rw[show ((cg (B.take i) [] (o1:Int):Nat):Int)+1=((cg (B.take i) [] (o1:Int)+1:Nat):Int) by lia];exact Ug (by rw[tk,Ut,if_pos rfl]) (λb hb=>by rw[tk,Ut,if_neg λz=>hb z.symm];rfl)
    rw[sf];have s5:=mI (o:=.lst (dD M (cg (B.take (i+1)) []))) s4 Zy;have ug:upd H' lm (.lst (dD M (cg (B.take (i+1)) []))) lm=a_ (.lst (dD M (cg (B.take (i+1)) []))):=ao;have PL:upd H' lm (.lst (dD M (cg (B.take (i+1)) []))) lb=a_ (.lst (ps.map V.ref)):=by rw[ai (cH OV)];exact AH
    have Qa:=AO.keep (H':=upd H' lm (.lst (dD M (cg (B.take (i+1)) [])))) λp h=>ai (pm p h);generalize upd H' lm (.lst (dD M (cg (B.take (i+1)) [])))=H5 at s5 ug PL Qa ⊢;have pk:ps[a1]?=a_ (ps[a1]' li):=aM _;have O3:=bu pk;have hl5:=Qa.at' a1 _ pk
    have bl:(cV (B.take i) (a1:Int)).length<=100000:=by
     unfold cV;rw[aL];have:=uu (λx:T3=>decide (x.1=(a1:Int))) (B.take i);rw[gm]at this;lia
    refine⟨_,xz,_,xz,rL (v:=.ref _) (aj.of PL) (cx (by rw[cO,pk];rfl)) ⟨.inl ⟨xz,_,aj.of hl5⟩,_,xz,_,_,_,xz,xz,hl5,by rw[hsz,aL];lia,hi,_,_,_,xz,mI s5 (pH _ O3),?_,?_,?_⟩⟩
    .rw[ai (cH (pm _ O3))];exact ug
    .rw[ai (cH (pb _ O3))];exact PL
    .have:=Qa.put (f':=cV (B.take (i+1))) pk λb hb=>by rw[tk,Vr,if_neg λz=>hb z.symm,sQ]
     rw[tk,Vr,if_pos xz,fv]at this;rw[tk];exact this
   .rintro σ H4 ⟨_,a,c,y,rfl,s4,kx,AH,AO⟩;rw[r_ hp,A5]at kx AO;refine⟨_,xz,(M:Int),xz,li,li,gr (n:=M) (λi ys H'=>i<=M/\H'=H4/\ys=(kg B i).map V.int) (by rw[hsz];lia) ⟨a8 _,xz,xz⟩ ?_ ?_ ?_ ?_ ?_⟩
    .rintro i ys H' ⟨_,_,rfl⟩;rw[aL];exact UY _ _
    .rintro i ys H' hi _;show i<(M:Int).toNat;lia
    .rintro ys H' _;show (M:Int).toNat<=M;lia
    .rintro i ys H' hi ⟨_,rfl,rfl⟩ v H5 ⟨rfl,rfl⟩;rw[wB];refine⟨_,xz,_,xz,rL (aj.of kx) (cx (uM hi)) (rq (H:=H5) xz ?_)⟩;rw[Ur];refine bG (λe=>?_) λe=>?_
     .refine vr xz ⟨hi,xz,?_⟩;rw[TY,if_pos li,fv];rfl
     .refine⟨hi,xz,?_⟩;rw[TY,if_neg λz=>e li,sQ]
    .rintro ys H5 ⟨_,rfl,rfl⟩;refine⟨by rw[hsz,aL];have:=UY B M;lia,λlr nr=>⟨qc,λlw nw=>?_⟩⟩
     obtain⟨Hz,Y9,zm,zr,zw,zb,zbh,sz⟩:∃Hz:Hp,af H Hz/\Hz lm=b_/\Hz lr=b_/\Hz lw=b_/\Hz lb=a_ (.lst (ps.map V.ref))/\tO Hz ps (cV B)/\af Hz (upd (upd H5 lr (.lst ((kg B M).map V.int))) lw (.lst [])):=by
      have nrH:=s4.free nr;have s5:=aB (o:=.lst ((kg B M).map V.int)) s4 nr;have nwH:=s5.free nw
      have nw5:H5 lw=none:=by
       rw[ai (λz=>by rw[z,ao]at nw;cases nw)]at nw;exact nw
      have keep:∀x o,x≠lm->H5 x=a_ o->(λx=>if x=lm\/x=lr\/x=lw then b_ else H5 x:Hp) x=a_ o:=λx o hx e=>by
       show (if x=lm\/x=lr\/x=lw then b_ else H5 x)=a_ o;rw[if_neg λz=>z.elim hx λz=>z.elim (bp e nr) (bp e nw5)];exact e
      refine⟨λx=>if x=lm\/x=lr\/x=lw then b_ else H5 x,λx o e=>keep x o (bp e Zy) (s4 _ _ e),if_pos (.inl xz),if_pos (.inr (.inl xz)),if_pos (.inr (.inr xz)),keep _ _ (cH OV) AH,⟨AO.nd,λi p e=>keep _ _ (pm p (bu e)) (AO.at' i p e)⟩,λx o e=>?_⟩;have e:(if x=lm\/x=lr\/x=lw then b_ else H5 x)=a_ o:=e
      split at e
      .cases e
      .rename_i hn
       rw[ai λz=>hn (.inr (.inr z)),ai λz=>hn (.inr (.inl z))];exact e
     have Hn:=bp ao nw;have CA:=cH (bp kx nr);have OT:lw≠lm:=λz=>by rw[z,ai (cH CA),kx]at nw;cases nw
     have HE:upd (upd H5 lr (.lst ((kg B M).map V.int))) lw (.lst []) lr=a_ (.lst ((kg B M).map V.int)):=by rw[ai Hn];exact ao
     have HK:upd (upd H5 lr (.lst ((kg B M).map V.int))) lw (.lst []) lm=a_ (.lst (dD M (cg B []))):=by rw[ai (cH OT),ai (cH CA)];exact kx
     have sE:upd (upd H5 lr (.lst ((kg B M).map V.int))) lw (.lst []) lw=a_ (.lst []):=ao;generalize upd (upd H5 lr (.lst ((kg B M).map V.int))) lw (.lst [])=H6 at sz HE HK sE ⊢;clear kx AH AO s4 nr nw;refine⟨λμ σ H'=>∃(R rd:List Int) (c z:Option V),σ=[a_ (.int (M:Nat)),a_ (.ref b),a_ (.ref lm),a_ (.ref lb),a,c,y,a_ (.ref lr),a_ (.ref lw),z]/\μ+R.length=M/\af Hz H'/\H' lm=a_ (.lst (dD M (cg B R)))/\H' lr=a_ (.lst (rd.map V.int))/\H' lw=a_ (.lst (R.map V.int))/\KI M B R rd,⟨M,[],kg B M,c,b_,xz,xz,sz,HK,HE,sE,aih M B⟩,?_⟩;rintro μ σ H' ⟨R,rd,c,z,rfl,hμ,s7,Pm,Az,qM,I7⟩;refine⟨_,xz,lr,_,xz,.inl (aj.of Az),_,_,xz,xz,_,xz,bG (λbz=>?_) λlC=>?_⟩
     .rw[aL]at bz;refine⟨λσ' H'=>∃μ',μ' < μ/\∃(R rd:List Int) (c z:Option V),σ'=[a_ (.int (M:Nat)),a_ (.ref b),a_ (.ref lm),a_ (.ref lb),a,c,y,a_ (.ref lr),a_ (.ref lw),z]/\μ'+R.length=M/\af Hz H'/\H' lm=a_ (.lst (dD M (cg B R)))/\H' lr=a_ (.lst (rd.map V.int))/\H' lw=a_ (.lst (R.map V.int))/\KI M B R rd,λσ' H' z=>z,⟨_,xz,lr,rd,xz,aj.of Az,λz=>by rw[z]at bz;exact absurd bz qc,λn hn _=>?_⟩⟩;have kn:=(I7.rm n).mp hn;have Xk:=I7.room hn;obtain⟨n1,rfl⟩:∃k:Nat,n=(k:Int):=⟨n.toNat,by have:=kn.1;lia⟩;refine⟨_,xz,.inl ⟨xz,_,aj.of Az⟩,_,xz,lr,rd,(n1:Int),xz,xz,Az,hn,?_⟩;have s8:=mI (o:=.lst ((rd.erase (n1:Int)).map V.int)) s7 zr;have qP:upd H' lr (.lst ((rd.erase (n1:Int)).map V.int)) lm=a_ (.lst (dD M (cg B R))):=by rw[ai (cH CA)];exact Pm
      have HD:upd H' lr (.lst ((rd.erase (n1:Int)).map V.int)) lr=a_ (.lst ((rd.erase (n1:Int)).map V.int)):=ao;have Av:upd H' lr (.lst ((rd.erase (n1:Int)).map V.int)) lw=a_ (.lst (R.map V.int)):=by rw[ai (cH Hn)];exact qM
      generalize upd H' lr (.lst ((rd.erase (n1:Int)).map V.int))=H8 at s8 qP HD Av ⊢;refine⟨_,xz,.inl ⟨xz,_,aj.of Av⟩,_,xz,lw,_,.int (n1:Int),xz,xz,Av,by rw[hsz,aL];lia,?_⟩;rw[show R.map V.int++[V.int (n1:Int)]=(R++[(n1:Int)]).map V.int by rw[fv];rfl];have s9:=mI (o:=.lst ((R++[(n1:Int)]).map V.int)) s8 zw;have ye:upd H8 lw (.lst ((R++[(n1:Int)]).map V.int)) lm=a_ (.lst (dD M (cg B R))):=by rw[ai (cH OT)];exact qP
      have hr9:upd H8 lw (.lst ((R++[(n1:Int)]).map V.int)) lr=a_ (.lst ((rd.erase (n1:Int)).map V.int)):=by rw[ai Hn];exact HD
      have Z5:upd H8 lw (.lst ((R++[(n1:Int)]).map V.int)) lw=a_ (.lst ((R++[(n1:Int)]).map V.int)):=ao;generalize upd H8 lw (.lst ((R++[(n1:Int)]).map V.int))=H9 at s9 ye hr9 Z5 ⊢;have yd:n1<M:=by have:=kn.2.1;lia
      have hpn:ps[n1]?=a_ (ps[n1]' li):=aM _;have zp:=zbh.at' n1 _ hpn;refine⟨_,xz,_,xz,rL (v:=.ref _) (aj.of (s9 _ _ zb)) (cx (by rw[cO,hpn];rfl)) ⟨_,xz,⟨_,aj.of (s9 _ _ zp)⟩,?_⟩⟩
      let W2:IV:=λj σ H'=>j<=(cV B (n1:Int)).length/\∃(c:Option V) (rd:List Int),σ=[a_ (.int (M:Nat)),a_ (.ref b),a_ (.ref lm),a_ (.ref lb),a,c,y,a_ (.ref lr),a_ (.ref lw),a_ (.int (n1:Int))]/\af Hz H'/\H' lm=a_ (.lst (dD M λb=>cg B R b-((cV B (n1:Int)).take j).count b))/\H' lr=a_ (.lst (rd.map V.int))/\H' lw=a_ (.lst ((R++[(n1:Int)]).map V.int))/\KJ M B R (n1:Int) j rd
      refine Bu (xs:=(cV B (n1:Int)).map V.int) W2 ⟨a8 _,c,_,xz,s9,ye,hr9,Z5,I7.go hn⟩ ?_ ?_ ?_
      .rintro j σ H' _ ⟨_,c,rd,rfl,vO,_⟩;exact aj.of (vO _ _ zp)
      .rintro j x σ H' Z1 ⟨_,c,ua,rfl,vO,xA,Oj,Og,J⟩;rw[cO]at Z1;refine aq (qU.mp Z1) λo ho eo=>?_;subst eo;have ko:=I7.other hn J ho (λx h=>(hx x h).2);have hj:j<(cV B (n1:Int)).length:=(bK.mp ho).1;have jl:=J.le;obtain⟨o1,rfl⟩:∃k:Nat,o=(k:Int):=⟨o.toNat,by have:=ko.1;lia⟩;have Pk:o1<M:=by have:=ko.2.1;lia
       have kc:=ko.2.2.2.2.2;have tc:=J9 ho;have Y6:=tc (o1:Int);rw[if_pos rfl]at Y6;refine⟨_,xz,_,xz,lm,_,o1,_,xz,xz,xA,uM Pk,_,_,xz,xz,lm,_,_,o1,xz,xz,xA,tw (by rw[wI];exact Pk),?_⟩
       have sf:(dD M λb=>cg B R b-((cV B (n1:Int)).take j).count b).set o1 (V.int (((cg B R (o1:Int)-((cV B (n1:Int)).take j).count (o1:Int):Nat):Int)-1))=dD M λb=>cg B R b-((cV B (n1:Int)).take (j+1)).count b:=by
        rw[show ((cg B R (o1:Int)-((cV B (n1:Int)).take j).count (o1:Int):Nat):Int)-1=((cg B R (o1:Int)-((cV B (n1:Int)).take (j+1)).count (o1:Int):Nat):Int) by rw[Y6];lia];exact Ug xz λb hb=>by rw[tc b,if_neg λz=>hb z.symm];rfl
       rw[sf];have kj:=mI (o:=.lst (dD M λb=>cg B R b-((cV B (n1:Int)).take (j+1)).count b)) vO zm;have xy:upd H' lm (.lst (dD M λb=>cg B R b-((cV B (n1:Int)).take (j+1)).count b)) lm=a_ (.lst (dD M λb=>cg B R b-((cV B (n1:Int)).take (j+1)).count b)):=ao;have Gh:upd H' lm (.lst (dD M λb=>cg B R b-((cV B (n1:Int)).take (j+1)).count b)) lr=a_ (.lst (ua.map V.int)):=by rw[ai CA];exact Oj
       have Oe:upd H' lm (.lst (dD M λb=>cg B R b-((cV B (n1:Int)).take (j+1)).count b)) lw=a_ (.lst ((R++[(n1:Int)]).map V.int)):=by rw[ai OT];exact Og
       generalize upd H' lm (.lst (dD M λb=>cg B R b-((cV B (n1:Int)).take (j+1)).count b))=Ic at kj xy Gh Oe ⊢;refine⟨_,xz,_,xz,rL (aj.of xy) (cx (uM Pk)) (rq (H:=Ic) xz ?_)⟩;rw[Ur];refine bG (λe=>?_) λe=>?_
       .refine⟨_,xz,.inl ⟨xz,_,aj.of Gh⟩,_,xz,lr,_,.int (o1:Int),xz,xz,Gh,by rw[hsz,aL];lia,hj,_,ua++[(o1:Int)],xz,mI kj zr,?_,?_,?_,J.yes ho ko li⟩
        .rw[ai (cH CA)];exact xy
        .rw[fv];exact ao
        .rw[ai (cH Hn)];exact Oe
       .exact⟨hj,_,ua,xz,kj,xy,Gh,Oe,J.no ho ko λz=>e li⟩
      .rintro σ H' ⟨_,c,ua,rfl,vO,xA,Oj,Og,J⟩;rw[aL]at J xA;have I8:=KJ.done I7 hn J;refine⟨μ-1,li,R++[(n1:Int)],ua,c,_,xz,by rw[bL];show μ-1+(R.length+1)=M;lia,vO,?_,Oj,Og,I8⟩;rw[xA,A5];refine congrArg (λf=>a_ (HO.lst (dD M f))) (funext λb=>?_);have:=Eo kn.2.2.1 b B;omega
     .rw[aL]at lC;have e:rd=[]:=aae li;subst e;exact vr xz (q H' lw R (Y9.trans s7) (Y9.free zw) qM I7)
def wW(ns:List Int)(k:Int):Int:=ns.getD k.toNat 0
def zK(c k:Int):Int:=(c%2147483647+7919*k+1)*48271%2147483647
def Fn(c k:Int):Int:=zK c k*(zK c k/1009+69621)%2147483647
def aiJ(c k:Int):0<=zK c k/\zK c k<2147483647:=⟨yE _ qc,AZ _ qc⟩
def afm(c k:Int):0<=Fn c k/\Fn c k<2147483647:=⟨yE _ qc,AZ _ qc⟩
def LN(K:u_):Sp:=λvs H Q _=>∃a ns k,vs=[.ref a,.int k]/\aj K H a (ns.map V.int)/\0<=k/\Q (.int (wW ns k)) H
def aic:ba zLm zLm (aS Lo):=bj
def agT(F:aQ K "_law_cell_at" "_law_cell_at" Lo f fd)(dM:mg "len" = b_):aG P w K mg base aI 1 f fd zLm (LN K):=by
 refine F.ok aic λaJ A _ s H vs Q E hr h=>?_
 .obtain⟨a,ns,j,rfl,ha,hj,k⟩:=h;refine⟨_,ar (b8 (bM zC (pv 1) (bU eU xz dM q_ (ab (pv 0) ag)) (bJ _)) (av (aZ (aP cw (pv 0) (pv 1)))) cp) (av (aZ aw)),?_⟩;refine⟨_,xz,_,xz,a,_,xz,.inl ha,_,_,xz,xz,_,xz,bG (λh1=>?_) λh1=>?_⟩
  .rw[aL]at h1;have bz:j.toNat<ns.length:=li;refine⟨_,xz,_,xz,a,_,j,.int (wW ns j),xz,xz,ha,?_,k⟩;have e:j=(j.toNat:Int):=li;rw[e];refine cx ?_;rw[cO,aM bz];unfold wW;rw[di,gg,aM bz];rfl
  .rw[aL]at h1
   have e:wW ns j=0:=by
    unfold wW;rw[gg,qV li];rfl
   rw[e]at k;exact k
def FC:Sp:=λvs H Q _=>∃c j,vs=[.int c,.int j]/\Q (.int (Fn c j)) H
def WI:ba ["_law_cell","_law_k","_law_number"] zLp (aS LU):=bj
def aip(F:aQ K "_law_mixed" "_law_mixed" LU f fd):aG P w K mg base aI 1 f fd zLp FC:=by
 refine F.ok WI λaJ A _ s H vs Q E hr h=>?_
 .obtain⟨c,j,rfl,k⟩:=h;refine let a:TS:=_;⟨_,ar (bq (i:=2) WI.nd xz (aE xz) (br iz (br BJ (br i5 (br i5 (br iz (pv 0) aw) (br BJ aw (pv 1))) aw) aw) aw)) (pR a (av (aZ (br iz (br BJ (pv 2) (br i5 (br oo (pv 2) aw) aw)) aw)))),?_⟩;have hb:=aiJ c j;refine⟨_,xz,_,_,xz,xz,(by show (0:Int)<2147483647;decide),_,xz,_,_,xz,xz,.inl ⟨qc,qc⟩,_,_,xz,xz,_,_,xz,xz,_,_,xz,xz,.inr ⟨qc,qc⟩,_,_,xz,xz,(by show (0:Int)<2147483647;decide),⟨_,xz,_,xz,_,_,xz,xz,⟨qc,qc⟩,_,_,xz,xz,_,_,xz,xz,.inl ⟨?_,?_⟩,_,_,xz,xz,(by show (0:Int)<2147483647;decide),k⟩⟩
  .show -(2^64)<zK c j;lia
  .show zK c j<2^64;lia
def wN(d:Int)(h:0<=d)(m:Int)(hm:0<m):∃r:Nat,d%m=(r:Int)/\(r:Int)<m:=by
 have h1:=yE d (show m≠0 by lia);have h2:=AZ d hm;exact⟨(d%m).toNat,li,li⟩
def Nn{d m:Int}(h:0<=d)(hm:0<=m):0<=d/m:=Int.ediv_nonneg h hm
def JM(s:af H0 H)(h:H0 r=b_):af H0 (upd H r o):=λb u e=>by
 rw[ai (bp e h)];exact s b u e
def aeA(r:Nat)(h:(r:Int)<3):r<10^60:=by
 have:=KY;lia
def Tt:Sp:=λvs H Q _=>∃(c:Int) (n:Nat),vs=[.int c,.int (n:Nat)]/\n<=100/\∀(H':Hp) (l:e_) (ds:List Int),af H H'->H l=b_->H' l=a_ (.lst (ds.map V.int))->ds.length=n->(∀d∈ds,(0:Int)<=d)->Q (.ref l) H'
def Br:ba ["_law_cell","_law_amount","_law_draws","_law_rest","_law_k"] zLt (aS Lf):=bj
def adO(F:aQ K "_law_stream" "_law_stream" Lf f fd)(dQ:mg "range" = b_)
  (DM:Dp P w K mg base 1 "_law_mixed" zLp FC):aG P w K mg base aI 2 f fd zLt Tt:=by
 refine F.ok Br λaJ A _ s H vs Q E hr h=>?_
 .obtain⟨c,n,rfl,hn,q⟩:=h;refine let a:TS:=_;let b:TS:=_;let g:TS:=_;let j:TS:=_;let k:TS:=_;let l:TS:=_;⟨_,ar (bq (i:=2) Br.nd xz (aE xz) (dW ag)) (pR l (ar (bq (i:=3) Br.nd xz (aE xz) (br oo (pv 0) aw)) (pR k (ar (ij gn xz (oa xz dQ (ab (pv 1) ag)) (bA (i:=4) Br.nd xz (aE xz)) (pR j (av (b8 (bM c7 (br iz (pv 0) aw) aw (bJ _)) (pR a (av (cX (ik m_ n_ o_ jR (pv 2) (ab (dO DM hr xz (ab (pv 3) (ab (pv 4) ag))) ag))))) (pR g (ar (cX (ik m_ n_ o_ jR (pv 2) (ab (br iz (pv 3) aw) ag))) (pR b (av (bq (i:=3) Br.nd xz (aE xz) (br oo (pv 3) aw)))))))))) (av (aZ (pv 2))))))),?_⟩;have hsz:=fw;refine⟨qc,λL nL=>?_⟩;obtain⟨H0,e,s0,hL⟩:=nw (o:=.lst []) nL;rw[e];clear e;refine⟨_,xz,_,_,xz,xz,⟨qc,qc⟩,⟨_,xz,_,xz,li,li,?_⟩⟩;rw[show ((n:Int)).toNat=n by lia]
  let W1:IV:=λi σ H'=>∃(ds:List Int) (r:Int) (w4:Option V),σ=[a_ (.int c),a_ (.int (n:Nat)),a_ (.ref L),a_ (.int r),w4]/\af H H'/\H' L=a_ (.lst (ds.map V.int))/\ds.length=i/\∀d∈ds,(0:Int)<=d
  refine sY (n:=n) W1 ⟨[],_,b_,xz,s0,hL,xz,λd z=>by cases z⟩ ?_ ?_
  .rintro i σ H1 hi ⟨ds,r,w4,rfl,s1,iV,hl,hd⟩
   have fin:∀(x:Int) (r':Int) (w5:Option V),0<=x->∃(P':List Int) (r'':Int) (w4':Option V),([a_ (.int c),a_ (.int (n:Nat)),a_ (.ref L),a_ (.int r'),w5]:L2.St)=[a_ (.int c),a_ (.int (n:Nat)),a_ (.ref L),a_ (.int r''),w4']/\af H (upd H1 L (.lst (ds.map V.int++[.int x])))/\upd H1 L (.lst (ds.map V.int++[.int x])) L=a_ (.lst (P'.map V.int))/\P'.length=i+1/\∀d∈P',(0:Int)<=d:=λx r' w5 hx=>by
    refine⟨ds++[x],r',w5,xz,JM (s1) nL,by rw[ao,fv];rfl,by rw[bL,hl];rfl,λd mw=>?_⟩;rcases dH.mp mw with z | z
    .exact hd d z
    .rw[cD.mp z];exact hx
   exact⟨_,xz,_,_,xz,xz,(by show (0:Int)<2;decide),xz,_,xz,bG (λ_=>⟨_,xz,.inl ⟨xz,_,aj.of iV⟩,_,xz,_,xz,_,_,xz,L,_,_,xz,xz,iV,by rw[aL,hsz];lia,fin _ _ _ (afm _ _).1⟩) λ_=>⟨_,xz,.inl ⟨xz,_,aj.of iV⟩,_,xz,_,_,xz,xz,(by show (0:Int)<6912;decide),L,_,_,xz,xz,iV,by rw[aL,hsz];omega,⟨_,xz,_,_,xz,xz,⟨qc,qc⟩,fin _ _ _ (yE _ qc)⟩⟩⟩
  .rintro σ H1 ⟨ds,r,w4,rfl,s1,iV,hl,hd⟩;exact⟨_,xz,q H1 L ds s1 nL iV hl hd⟩
def VN:Sp:=λvs H Q _=>∃(c k:Int) (n:Nat),vs=[.int c,.int k,.int (n:Nat)]/\0<n/\∀i:Nat,i<n->Q (.int (i:Nat)) H
def ah7:ba zLi zLi (aS MK):=bj
def Xe(d:Int){n:Nat}(h:0<n):∃r:Nat,d%(n:Int)=(r:Int)/\r<n:=by
 have h1:=yE d (show (n:Int)≠0 by lia);have h2:=AZ d (show (0:Int)<(n:Int) by lia);exact⟨(d%(n:Int)).toNat,li,li⟩
def agZ(F:aQ K "_law_pick" "_law_pick" MK f fd)
  (DM:Dp P w K mg base 1 "_law_mixed" zLp FC):aG P w K mg base aI 2 f fd zLi VN:=by
 refine F.ok ah7 λaJ A _ s H vs Q E hr h=>?_
 .obtain⟨c,k,n,rfl,hn,q⟩:=h;refine let a:TS:=_;let b:TS:=_;⟨_,ar (b8 (bM c7 (br iz (pv 0) aw) aw (bJ _)) (pR a (av (aZ (br iz (br oo (dO DM hr xz (ab (br oo (pv 0) aw) (ab (pv 1) ag))) aw) (pv 2))))) cp) (pR b (av (aZ (br iz (br oo (pv 0) aw) (pv 2))))),?_⟩;refine⟨_,xz,_,_,xz,xz,(by show (0:Int)<2;decide),xz,_,xz,bG (λ_=>?_) λ_=>?_⟩
  .obtain⟨r,er,vW⟩:=Xe (Fn (c/2) k/8) hn;refine⟨_,xz,_,_,xz,xz,⟨qc,qc⟩,_,xz,_,_,xz,_,_,xz,xz,⟨qc,qc⟩,_,xz,_,_,xz,xz,(by show (0:Int)<(n:Int);lia),?_⟩;have:=q r vW;rw[<-er]at this;exact this
  .obtain⟨r,er,vW⟩:=Xe (c/2) hn;refine⟨_,xz,_,_,xz,xz,⟨qc,qc⟩,_,xz,_,_,xz,xz,(by show (0:Int)<(n:Int);lia),?_⟩;have:=q r vW;rw[<-er]at this;exact this
def WD:Sp:=λvs H Q _=>∃d nm,∃len:Nat,vs=[.int d,.int (len:Nat),.int nm]/\0<=d/\len<=120/\0<nm/\nm<=12/\∀v H' s,af H H'->qf H' v s->cG len s->Q v H'
def FD:ba ["_law_draw","_law_length","_law_names","_law_kind","_law_box","_law_name"] zLj (aS NS):=bj
def ais(F:aQ K "_law_one" "_law_one" NS f fd):aG P w K mg base aI 1 f fd zLj WD:=by
 refine F.ok FD λaJ A _ s H vs Q E hr h=>?_
 .obtain⟨d,nm,len,rfl,hd,hlen,HJ,yd,q⟩:=h;refine let a:TS:=_;let b:TS:=_;let c:TS:=_;let g:TS:=_;let k:TS:=_;let m:TS:=_;let p:TS:=_;let t:TS:=_;let u:TS:=_;let v:TS:=_;let x:TS:=_;let y:TS:=_;let z:TS:=_;⟨_,ar (bq (i:=3) FD.nd xz (aE xz) (br iz (pv 0) aw)) (pR z (ar (bq (i:=4) FD.nd xz (aE xz) (br iz (br oo (pv 0) aw) aw)) (pR y (ar (bq (i:=5) FD.nd xz (aE xz) (br iz (br oo (pv 0) aw) (pv 2))) (pR x (ar (b8 (bM c7 (pv 3) aw (bJ _)) (pR a (av (aZ (fJ (ab cR (ab (pv 4) (ab (br iz (br oo (pv 0) aw) aw) ag))))))) cp) (pR v (ar (b8 (bM c7 (pv 3) aw (bJ _)) (pR b (av (aZ (fJ (ab cR (ab (pv 4) (ab (br iz (br oo (pv 0) aw) aw) ag))))))) cp) (pR u (ar (b8 (bM zC (pv 3) aw (bJ _)) (pR c (av (aZ (fJ (ab cR (ab (pv 5) (ab (pv 4) ag))))))) cp) (pR t (ar (b8 (bM zC (pv 3) aw (bJ _)) (pR g (av (aZ (fJ (ab cR (ab (pv 4) (ab (pv 5) ag))))))) cp) (pR p (ar (b8 (bM c7 (pv 3) aw (bJ _)) (pR k (av (aZ (aP cw (dW (ab (fJ (ab cR ag)) (ab (fJ (ab cR (ab (pv 4) (ab (pv 5) ag)))) ag))) (br iz (br oo (pv 0) aw) aw))))) cp) (pR m (av (aZ (fJ (ab cR (ab (pv 4) (ab (br iz (br oo (pv 0) aw) (br i5 (pv 1) aw)) ag))))))))))))))))))))),?_⟩;have h12:(0:Int)<12:=qc;obtain⟨bx,AN,hbx⟩:=wN (d/12) (Nn hd qc) 4 qc;obtain⟨na,P6,hna⟩:=wN (d/48) (Nn hd qc) nm HJ;have Au:0<=d/576:=Nn hd qc;refine⟨_,xz,_,_,xz,xz,(by show (0:Int)<12;decide),⟨_,xz,_,_,xz,xz,⟨qc,qc⟩,_,_,xz,xz,(by show (0:Int)<4;decide),⟨_,xz,_,_,xz,xz,⟨qc,qc⟩,_,xz,_,_,xz,xz,HJ,⟨_,xz,xz,_,xz,bG (λh0=>?_) λh0=>?_⟩⟩⟩⟩
  .obtain⟨r,er,sF⟩:=wN (d/576) Au 3 qc;refine⟨_,xz,_,xz,_,_,xz,xz,⟨qc,qc⟩,_,_,xz,xz,(by show (0:Int)<3;decide),(sl (n:=3)),λtp ht=>q _ _ (T_,[bx,r]) (aB (af.refl _) ht) ⟨tp,xz,?_⟩ (.put bx r li (aeA r sF))⟩;rw[ao];show a_ (HO.tup [.str T_,V.int (d/12%4),V.int (d/576%3)])=_;rw[AN,er];rfl
  refine⟨_,xz,xz,_,xz,bG (λh1=>?_) λh1=>?_⟩
  .obtain⟨r,er,qN⟩:=wN (d/576) Au 4 qc;refine⟨_,xz,_,xz,_,_,xz,xz,⟨qc,qc⟩,_,_,xz,xz,(by show (0:Int)<4;decide),(sl (n:=3)),λtp ht=>q _ _ (W_,[bx,r]) (aB (af.refl _) ht) ⟨tp,xz,?_⟩ (.add bx r om li)⟩;rw[ao];show a_ (HO.tup [.str W_,V.int (d/12%4),V.int (d/576%4)])=_;rw[AN,er];rfl
  refine⟨_,xz,_,_,xz,xz,_,xz,bG (λh2=>?_) λh2=>?_⟩
  .refine⟨_,xz,_,xz,(sl (n:=3)),λtp ht=>q _ _ (l_,[na,bx]) (aB (af.refl _) ht) ⟨tp,xz,?_⟩ (.set na bx li li)⟩;rw[ao];show a_ (HO.tup [.str l_,V.int (d/48%nm),V.int (d/12%4)])=_;rw[AN,P6];rfl
  refine⟨_,xz,_,_,xz,xz,_,xz,bG (λh3=>?_) λh3=>?_⟩
  .refine⟨_,xz,_,xz,(sl (n:=3)),λtp ht=>q _ _ (H_,[bx,na]) (aB (af.refl _) ht) ⟨tp,xz,?_⟩ (.look bx na om om)⟩;rw[ao];show a_ (HO.tup [.str H_,V.int (d/12%4),V.int (d/48%nm)])=_;rw[AN,P6];rfl
  refine⟨_,xz,xz,_,xz,bG (λh4=>?_) λh4=>?_⟩
  .refine⟨(sl (n:=1)),λt1 n1=>⟨_,xz,_,xz,(sl (n:=3)),λt2 n2=>⟨(sl (n:=2)),λl nl=>?_⟩⟩⟩;have g1:upd H t1 (.tup [.str M_]) t1=a_ (.tup [.str M_]):=ao;have s1:af H (upd H t1 (.tup [.str M_])):=aB (af.refl _) n1;generalize upd H t1 (.tup [.str M_])=H1 at g1 s1 n2 nl ⊢;have s2:=aB (o:=.tup [.str I_,V.int (d/12%4),V.int (d/48%nm)]) (af.refl H1) n2;have g2:upd H1 t2 (.tup [.str I_,V.int (d/12%4),V.int (d/48%nm)]) t2=a_ (.tup [.str I_,V.int (d/12%4),V.int (d/48%nm)]):=ao;have s3:=aB (o:=.lst [.ref t1,.ref t2]) s2 nl;obtain⟨ix,eix,hix⟩:=wN (d/576) Au 2 qc;have anI:ix=0\/ix=1:=li;rcases anI with e | e
   .subst e;exact⟨_,xz,_,_,xz,xz,⟨qc,qc⟩,_,_,xz,xz,(by show (0:Int)<2;decide),l,_,(0:Nat),.ref t1,xz,by show V.int (d/576%2)=_;rw[eix],aj.of ao,cx (j:=0) xz,q _ _ (M_,[]) (s1.trans s3) ⟨t1,xz,s3 _ _ g1⟩ .clear⟩
   .subst e;refine⟨_,xz,_,_,xz,xz,⟨qc,qc⟩,_,_,xz,xz,(by show (0:Int)<2;decide),l,_,(1:Nat),.ref t2,xz,by show V.int (d/576%2)=_;rw[eix],aj.of ao,cx (j:=1) xz,q _ _ (I_,[bx,na]) (s1.trans s3) ⟨t2,xz,?_⟩ (.swap bx na om om)⟩;have nl':upd H1 t2 (.tup [.str I_,V.int (d/12%4),V.int (d/48%nm)]) l=none:=nl;show upd (upd H1 t2 (.tup [.str I_,V.int (d/12%4),V.int (d/48%nm)])) l (.lst [.ref t1,.ref t2]) t2=a_ (HO.tup [.str I_,V.int ((bx:Nat):Int),V.int ((na:Nat):Int)]);rw[ai (bp g2 nl'),g2,AN,P6]
  .obtain⟨r,er,qN⟩:=wN (d/576) Au ((len:Int)+1) li;refine⟨_,xz,_,xz,_,_,xz,xz,⟨qc,qc⟩,_,xz,_,_,xz,xz,_,_,xz,xz,(by show (0:Int)<(len:Int)+1;lia),(sl (n:=3)),λtp ht=>q _ _ (Q_,[bx,r]) (aB (af.refl _) ht) ⟨tp,xz,?_⟩ (.skip bx r om li li)⟩;rw[ao];show a_ (HO.tup [.str Q_,V.int (d/12%4),V.int (d/576%((len:Int)+1))])=_;rw[AN,er];rfl
end TL
namespace L2
open PySem.SeqAt
section
variable{X:Cx}{e:Expr}{es:List Expr}
def PE.imp{t t':TE}(h:PE X e t)(hi:∀σ H Q,t' σ H Q->t σ H Q):PE X e t':=λp_ s σ H Q I q=>h p_ s σ H Q I (hi σ H Q q)
def PA.imp{t t':TA}(h:PA X es t)(hi:∀σ H Q,t' σ H Q->t σ H Q):PA X es t':=λpos p_ s σ H Q I q=>h pos p_ s σ H Q I (hi σ H Q q)
end
end L2
namespace TL
open PySem.SeqAt L2 L3 L4
variable{P:k_}{w:j_}{K:u_}{mg:Str->Option f_}{base:i_}
def notStar:Expr->Bool
 | .Starred _ _=>d_
 | _=>c_
def ah2(h:notStar e=c_):bV (e::es) env=(d_,eval e env)::bV es env:=by
 rw[bV];intro e' p z;subst z;cases h
def tK(R:Hp->V->Prop)(pre:L2.St->Prop):TE:=λσ H Q=>pre σ/\∀v H',af H H'->R H' v->Q v H'
def Gy(R:Hp->V->Prop)(pre:L2.St->Prop)(n:Nat):TA:=λσ H Q=>pre σ/\∀(vs:List V) H',vs.length=n->af H H'->(∀v∈vs,R H' v)->Q vs H'
def YD(R:Hp->V->Prop)(pre:L2.St->Prop)(n:Nat):TE:=λσ H Q=>pre σ/\∀l (vs:List V) H',vs.length=n->af H H'->H l=b_->H' l=a_ (.lst vs)->(∀v∈vs,R H' v)->Q (.ref l) H'
section
variable{X:Cx}{R:Hp->V->Prop}{pre:L2.St->Prop}{e:Expr}{es:List Expr}{n m:Nat}{p:Pos}
def aiS:PA X [] (Gy R pre 0):=ag.imp λ_ H _ h=>h.2 [] H xz (af.refl H) (λ_ z=>by cases z)
def Vg(hR:∀{H H':Hp} {v:V},R H v->af H H'->R H' v)(he:PE X e (tK R pre))(hn:notStar e=c_)(hr:PA X es (Gy R pre n)):PA X (e::es) (Gy R pre (n+1)):=(ab he hr (ah2 hn)).imp λσ H Q h=>
 ⟨h.1,λv H1 s1 hv=>⟨h.1,λvs H2 hl s2 nF=>h.2 (v::vs) H2 (by rw[fR,hl]) (s1.trans s2) λx hx=>by rcases bX.mp hx with e | e;(rw[e];exact hR hv s2);exact nF x e⟩⟩
def kl(hR:∀{H H':Hp} {v:V},R H v->af H H'->R H' v)(h:PA X es (Gy R pre n))(hn:n<=1000:=by decide):PE X (.List es p) (YD R pre n):=(dW h).imp λσ H Q q=>
 ⟨q.1,λvs H1 hl s1 nF=>⟨cY (eh w7),λr hr=>q.2 r vs _ hl (aB s1 hr) (s1.free hr) ao λv hv=>hR (nF v hv) (aB (af.refl _) hr)⟩⟩
end
def amN(us:List V)(i:Nat):lV us b_ (a_ (i:Int))=us.take i:=by
 unfold lV;rw[HT.UW,HT.TX,QZ,Nat.sub_zero]
 by_cases h:i<=us.length
 .rw[QS h]
 .rw[Nat.min_eq_right li,jP (aA _),jP om]
def qo(sz:Nat)(H:Hp)(v:V):Prop:=∃t,qf H v t/\cG sz t
def qo.same{sz:Nat}(h:qo sz H v)(s:af H H'):qo sz H' v:=by
 exact aq h λt h1 h2=>au t (h1.keep λb xs e=>s _ _ e) h2
def Rx{sz:Nat}:∀{vs:List V},(∀v∈vs,qo sz H v)->∃ts,Paired (qf H) vs ts/\∀t∈ts,cG sz t
 | [],_=>⟨[],.nil,λ_ z=>by cases z⟩
 | v::vs,h=>by
  refine aq (h v (by simp)) λt h1 h2=>aq (Rx λv hv=>h v (eL _ hv)) λts h3 h4=>au (t::ts) (.cons h1 h3) λx hx=>?_;rcases bX.mp hx with e | e
  .rw[e];exact h2
  .exact h4 x e
def amK:Stmt->List Stmt
 | .For _ _ b _ _=>b
 | _=>[]
def amJ:Stmt->Expr
 | .For g _ _ _ _=>g
 | _=>.Constant .none 0 ⟨0,0,0,0⟩
def amI:Stmt->Expr
 | .For _ i _ _ _=>i
 | _=>.Constant .none 0 ⟨0,0,0,0⟩
def vAt:Stmt->Expr
 | .Assign _ (.Subscript v _ _) _=>v
 | .Assign _ (.BinOp _ _ v _) _=>v
 | .Assign _ v _=>v
 | _=>.Constant .none 0 ⟨0,0,0,0⟩
def iAt:Stmt->Expr
 | .Assign _ (.Subscript _ i _) _=>i
 | _=>.Constant .none 0 ⟨0,0,0,0⟩
abbrev xC(n:Nat):Stmt:=(iL BG).getD n (.Pass ⟨0,0,0,0⟩)
abbrev Cf(n:Nat):Stmt:=(amK (xC 3)).getD n (.Pass ⟨0,0,0,0⟩)
@[irreducible] def B6:Expr:=vAt (Cf 1)
def ajg:∃p1 p2 p3 p4,iL BG=[xC 0,xC 1,xC 2,.For (amJ (xC 3)) (amI (xC 3)) [Cf 0,.Assign [.Name "_law_steps" p1] (.Subscript B6 (iAt (Cf 1)) p2) p3,Cf 2,Cf 3] [] p4,xC 4]:=by
 unfold B6;exact dX _ _ _ _ xz
def F1:L2.St->Prop:=λσ=>∃i:Nat,i<4/\σ[4]?=a_ (a_ (.int (0+(i:Int))))
def aeE(i:Nat)(h:i<4):7*i+2<10^60:=by
 have:=KY;lia
def ain(i:Nat)(h:i<4):1+i<10^60:=by
 have:=KY;lia
def aik(hN:X.N[4]?=a_ ("_law_clerk" : Str))(hV:GU X.env.scope ("_law_clerk" : Str)):PE X B6 (YD (qo 0) F1 2):=by
 unfold B6;refine @kl X (qo 0) F1 _ 2 _ qo.same (@Vg X (qo 0) F1 _ _ 1 qo.same (λp_ s σ H Q I q=>fJ (ab cR (ab aw (ab (br i5 aw (Ma hN hV)) ag))) p_ s σ H Q I ?_) xz (@Vg X (qo 0) F1 _ _ 0 qo.same (λp_ s σ H Q I q=>fJ (ab cR (ab aw (ab (br i5 (br BJ aw (Ma hN hV)) aw) ag))) p_ s σ H Q I ?_) xz aiS)) qc
 .refine oA q λaa k=>aq aa λi hi hσ=>au _ hσ ⟨_,⟨_,xz,xz,(sl (n:=3)),λtp ht=>k _ _ (aB (af.refl _) ht) (au (T_,[0,1+i]) ⟨tp,xz,?_⟩ (.put 0 _ qc (ain i hi)))⟩⟩;rw[ao];show a_ (HO.tup [.str T_,.int 0,V.int (1+(0+(i:Int)))])=a_ (HO.tup [.str T_,.int 0,V.int ((1+i:Nat):Int)]);rw[show (1+(0+(i:Int)))=((1+i:Nat):Int) by lia]
 .refine oA q λaa k=>aq aa λi hi hσ=>au _ hσ ⟨_,⟨_,xz,xz,.inl ⟨qc,qc⟩,_,_,xz,xz,(sl (n:=3)),λtp ht=>k _ _ (aB (af.refl _) ht) (au (T_,[1,7*i+2]) ⟨tp,xz,?_⟩ (.put 1 _ qc (aeE i hi)))⟩⟩;rw[ao];show a_ (HO.tup [.str T_,.int 1,V.int (7*(0+(i:Int))+2)])=a_ (HO.tup [.str T_,.int 1,V.int ((7*i+2:Nat):Int)]);rw[show (7*(0+(i:Int))+2)=((7*i+2:Nat):Int) by lia]
def Kz{k:Nat}(e:x=y)(h:i6 k y σ H Q):i6 k x σ H Q:=by rw[e];exact h
def E9{ds:List Int}{i:Nat}(h:i<ds.length):∃d,d∈ds/\gY (ds.map V.int) (i:Int)=a_ (.int d):=⟨ds[i],yB h,cx (by rw[cO,aM h];rfl)⟩
def UL:Sp:=λvs H Q _=>∃c,vs=[.int c]/\∀H' v ps,af H H'->lO H' v ps->kU ps->ps.length<=3->(∀p∈ps,p.length<=8)->Q v H'
def uQ:ba ["_law_cell","_law_parts","_law_draws","_law_names","_law_clerk","_law_length","_law_steps","_law_k"] ["_law_cell"] (aS BG):=bj
def afc{f:e_}{fd:jS}(F:aQ K "_law_program" "_law_program" BG f fd)(dM:mg "len" = b_)(dQ:mg "range" = b_)(ph:mg Y_ = b_)
  (DT:Dp P w K mg base 2 "_law_stream" zLt Tt)
  (DO:Dp P w K mg base 1 "_law_one" zLj WD) :
  aG P w K mg base aI 3 f fd ["_law_cell"] UL:=by
 refine F.ok uQ λaJ A _ s H vs Q E hr h=>?_
 .refine aq h λc aa q=>?_;clear h;subst aa;have dy:=hr.mono (show 1<=2 by decide);obtain⟨p1,p2,p3,p4,eB⟩:=ajg;rw[eB]
  refine let a:TS:=_;let d:TS:=_;let g:TS:=_;let k:TS:=_;let m:TS:=_;let r:TS:=_;let u:TS:=_;let B:TS:=_;let C:TS:=_;⟨_,ar (bq (i:=1) uQ.nd xz (aE xz) (dW ag)) (pR C (ar (bq (i:=2) uQ.nd xz (aE xz) (dO DT hr xz (ab (pv 0) (ab aw ag)))) (pR B (ar (bq (i:=3) uQ.nd xz (aE xz) (br i5 aw (br iz (aP cw (pv 2) aw) aw))) (pR u (ar (ij gn xz (oa xz dQ (ab (br i5 aw (br iz (aP cw (pv 2) aw) aw)) ag)) (bA (i:=4) uQ.nd xz (aE xz)) (pR m (ar (bq (i:=5) uQ.nd xz (aE xz) (br iz (aP cw (pv 2) (br i5 aw (pv 4))) aw)) (pR k (ar (bq (i:=6) uQ.nd xz (aE xz) (Bs K' (aik xz (aE xz)) Bz (By (pv 5))) (by first | rfl | (unfold B6;rfl)))
    (pR g (ar (ij gn xz (SG xz dQ (ab (bU eU xz dM q_ (ab (pv 6) ag)) (ab (pv 5) ag))) (bA (i:=7) uQ.nd xz (aE xz)) (pR a (av (cX (ik m_ n_ o_ jR (pv 6) (ab (dO DO dy xz (ab (aP cw (pv 2) (br i5 (br i5 aw (br BJ aw (pv 4))) (pv 7))) (ab (pv 5) (ab (pv 3) ag)))) ag)))))) (pR d (av (cX (ik m_ n_ o_ jR (pv 1) (ab (og wz xz ph rj (ab (pv 6) ag)) ag))))))))))))
   (pR r (av (aZ (og wz xz ph rj (ab (pv 1) ag))))))))))),?_⟩
  have hsz:=fw;refine⟨qc,λL nL=>?_⟩;obtain⟨H0,e,s0,hL⟩:=nw (o:=.lst []) nL;rw[e];clear e;refine vr xz (dP c 29 xz qc λH1 ld ds s1 nd hd PB hd0=>?_);have iV:=s1 _ _ hL;have nLd:L≠ld:=λz=>by rw[<-z,hL]at nd;cases nd
  refine aq (E9 (ds:=ds) (i:=0) li) λd0 m0 e0=>aq (E9 (ds:=ds) (i:=1) li) λd1 m1 e1=>?_;have b0:=yE d0 (show (3:Int)≠0 by decide);have b1:=AZ d0 (show (0:Int)<3 by decide);have c0:=yE d1 (show (2:Int)≠0 by decide);have c1:=AZ d1 (show (0:Int)<2 by decide);refine au _ xz (rL (v:=.int d0) (aj.of hd) (e0) ⟨_,⟨_,xz,xz,(by show (0:Int)<3;decide),_,_,xz,xz,?_⟩⟩);obtain⟨nm,enm⟩:∃nm,nm=1+d0%3:=⟨_,xz⟩;refine Kz (y:=.int nm) (by show V.int (1+d0%3)=_;rw[enm]) ?_;have HJ:0<nm:=li;have yd:nm<=12:=li;refine au _ xz (rL (v:=.int d1) (aj.of hd) (e1) ⟨_,⟨_,xz,xz,(by show (0:Int)<2;decide),_,_,xz,xz,_,xz,li,li,?_⟩⟩);obtain⟨n,hn,hn4,hn5⟩:∃n:Nat,(2+d1%2).toNat=n/\1<=n/\n<=3:=⟨_,xz,li,li⟩;rw[hn]
  let W1:IV:=λi σ H'=>∃ys ps w4 w5 w6 w7,σ=[a_ (.int c),a_ (.ref L),a_ (.ref ld),a_ (.int nm),w4,w5,w6,w7]/\af H H'/\H' ld=a_ (.lst (ds.map V.int))/\H' L=a_ (.lst ys)/\Paired (IsPart H') ys ps/\ps.length=i/\∀p∈ps,p.length<=8/\∀t∈p,cG p.length t
  refine sY (n:=n) W1 ⟨[],[],b_,b_,b_,b_,xz,s0.trans s1,hd,iV,.nil,xz,λp z=>by cases z⟩ ?_ ?_
  .rintro i σ H2 hi ⟨ys,ps,w4,w5,w6,w7,rfl,s2,hd2,lE,Hx,dG,kr⟩;have ZY:=r_ Hx;refine aq (E9 (ds:=ds) (i:=2+i) li) λd2 m2 e2=>aq (wN d2 (hd0 d2 m2) 9 qc) λlen el hl9=>vr xz (vr xz ⟨_,⟨_,xz,xz,ld,_,((2+i:Nat):Int),.int d2,xz,by show V.int (2+(0+(i:Int)))=_;rw[show (2+(0+(i:Int)))=((2+i:Nat):Int) by lia],aj.of hd2,e2,_,_,xz,xz,(by show (0:Int)<9;decide),Kz (y:=.int (len:Nat)) (by show V.int (d2%9)=_;rw[el]) ⟨⟨i,xb,xz⟩,λl vs H3 Z6 s3 nl hl nF=>⟨_,xz,(len:Int),xz,l,vs,xz,aj.of hl,λp np=>?_⟩⟩⟩⟩);rw[amN];have Zb:=aB (o:=.lst (vs.take len)) s3 np;have Za:=aB (o:=.lst (vs.take len)) (af.refl H3) np;have np2:=s3.free np;have hp:upd H3 p (.lst (vs.take len)) p=a_ (.lst (vs.take len)):=ao;generalize upd H3 p (.lst (vs.take len))=H4 at Zb Za hp ⊢;refine aq (Rx (vs:=vs.take len) (H:=H4) (sz:=0) λv hv=>(nF v (Iq hv)).same Za) λts0 Oh vZ=>?_;have uh:(vs.take len).length<=len:=by rw[gm];exact xl
   have ly:=r_ Oh;refine vr xz ⟨p,⟨_,xz,.inl (aj.of hp),_,xz,_,_,xz,⟨li,li,li,li⟩,?_⟩⟩;generalize vs.take len=us at hp Oh uh ly ⊢;rw[show ((len:Int)-(us.length:Int)).toNat=len-us.length by lia]
   let W2:IV:=λj σ H'=>∃zs ts w7,σ=[a_ (.int c),a_ (.ref L),a_ (.ref ld),a_ (.int nm),a_ (.int (0+(i:Int))),a_ (.int (len:Nat)),a_ (.ref p),w7]/\af H2 H'/\H' p=a_ (.lst zs)/\Paired (qf H') zs ts/\ts.length=us.length+j/\∀t∈ts,cG len t
   refine sY (n:=len-us.length) W2 ⟨us,ts0,_,xz,Zb,hp,Oh,li,λt ht=>(vZ t ht).mono (a8 _)⟩ ?_ ?_
   .rintro j σ H5 hj ⟨zs,ts,w7,rfl,s5,hz,CJ,Z8,hg⟩;have CK:=r_ CJ;refine aq (E9 (ds:=ds) (i:=5+8*i+(us.length+j)) li) λdk mk ek=>?_;have eI:(5+8*(0+(i:Int))+((us.length:Int)+(j:Int)))=((5+8*i+(us.length+j):Nat):Int):=li;refine vr xz ⟨.inl ⟨xz,_,aj.of hz⟩,⟨_,xz,_,xz,_,_,xz,xz,.inl ⟨qc,qc⟩,_,_,xz,xz,_,xz,_,_,xz,xz,ld,_,_,.int dk,xz,xz,aj.of (s5 _ _ hd2),(by rw[eI];exact ek),_,xz,_,xz,dk,nm,len,xz,hd0 dk mk,li,HJ,yd,λv H6 t s6 ht6 hg6=>⟨p,zs,v,xz,xz,s6 _ _ hz,by rw[hsz];lia,?_⟩⟩⟩;have Pb:=s6 _ _ hz;have kt:=pV (o:=.lst (zs++[v])) Pb;refine oX (zs++[v]) (ts++[t]) (jB _ xz (JM (s5.trans s6) np2) ao (mE (Paired.bZ CJ λ_ _ q=>q.keep λb xs e=>kt _ _ (s6 _ _ e)) (ht6.keep kt)) (by rw[bL,Z8];rfl) λx hx=>?_);rcases dH.mp hx with hx | hx
    .exact hg x hx
    .rw[cD.mp hx];exact hg6
   .rintro σ H5 ⟨zs,ts,w7,rfl,s5,hz,CJ,Z8,hg⟩;have CK:=r_ CJ;have HV:=s5 _ _ lE;have hd5:=s5 _ _ hd2;refine dJ _ xz (.inl ⟨xz,_,aj.of HV⟩) (vr xz (f7 p zs xz (.inl ⟨aj.of hz,λtp ht=>⟨L,ys,.ref tp,xz,xz,?_,by rw[hsz];lia,?_⟩⟩)))
    .rw[ai (bp HV ht)];exact HV
    .have s6:=aB (o:=.tup zs) (af.refl H5) ht;have ane:ts.length=len:=li;have hL6:=s6 _ _ HV;have kt:=pV (o:=.lst (ys++[.ref tp])) hL6;have Y':=s5.trans s6;refine⟨(ys++[.ref tp]),(ps++[ts]),_,_,_,(⟨_,xz,(JM (s2.trans Y') nL),?_,ao,(mE (Paired.bZ Hx λ_ _ q=>q.keep λb xs e=>kt _ _ (Y' _ _ e)) ⟨tp,zs,xz,kt _ _ ao,Paired.bZ CJ λ_ _ q=>q.keep λb xs e=>kt _ _ (s6 _ _ e)⟩),(by rw[bL,dG];rfl),(λx hx=>?_)⟩)⟩
     .rw[ai nLd.symm];exact s6 _ _ hd5
     .rcases dH.mp hx with hx | hx
      .exact kr x hx
      .rw[cD.mp hx];refine⟨li,λt ht=>?_⟩;rw[ane];exact hg t ht
  .rintro σ H2 ⟨ys,ps,w4,w5,w6,w7,rfl,s2,hd2,lE,Hx,dG,kr⟩;refine vr xz (f7 L ys xz (.inl ⟨aj.of lE,λtp ht=>?_⟩));have s3:=aB (o:=.tup ys) (af.refl H2) ht;exact q _ _ ps (s2.trans s3) ⟨tp,ys,xz,ao,Paired.bZ Hx λ_ _ q=>q.keep λb xs e=>s3 _ _ e⟩ ⟨li,w8,λp hp=>⟨by have:=(kr p hp).1;lia,(kr p hp).2⟩⟩ w8 λp hp=>(kr p hp).1
def acH(S:Mc)(i:Nat):qh S (i+1)=qh S i++(vd S i).toList:=by
 unfold qh;rw[sO,aaJ];cases h:vd S i <;> simp[h]
def Ei(S:Mc)(i:Nat):(qh S i).length<=i:=by
 have:=aar (vd S) (List.range i);rw[lH]at this;exact this
section
variable{t:aW}{C CT:e_}
def aeO:ba zLd zLd (aS Lp):=bj
def WT:([R_,"deed"]:List Str).Nodup:=dk
def agQ(F:aQ K "by_seen" "by_seen" Lp f fd)(cM:fh K C)(pC:mg "enumerate" = b_)
  (DD:Mt P w K mg base C 1 "deeds" zLc (za t C CT)):aG P w K mg base aI 2 f fd zLd (uW t C CT λS=>qh S S.ac.length):=by
 refine F.ok aeO λaJ A _ s H vs Q E hr h=>?_
 .obtain⟨m,A,S,aa,M,W,eT,Z,q⟩:=h;subst aa
  refine⟨_,av (aZ (iJ (N:=[R_,"deed"]) (idx:=[]) xz (dw.of (by kernel_rfl)) (Bh (a8 _) (a8 _)) (uU (b:=c_) xz pC (ab (lM (pv 0) cM.cl DD hr) ag))
     (λ_ _ _ _=>kK xz (dA (bA (i:=0) WT xz (aE xz) (.inr xz)) (dA (bA (i:=1) WT xz (aE xz) (.inr xz)) kH)))
     (λ_ _ _ _=>wJ (bM U3 (aP (BV K) (pv 1) aw) mV (bJ _))) λ_ _ _ _=>fJ (ab (aP (BV K) (pv 1) aw) (ab (pv 0) (ab cR ag))))),?_⟩
  have hsz:=fw;refine bQ (id M.obj) λdx fs hm G=>vM xz hm (G.ms _ dk) (⟨m,A,S,xz,M,(λld ws nd jM=>?_)⟩);have hd2:upd H ld (.lst ws) ld=a_ (.lst ws):=ao;have s2:af H (upd H ld (.lst ws)):=aB (af.refl _) nd;have nz:=Paired.bZ jM λ_ _ (q:jk H _ _)=>aq q λp e h=>(⟨p,e,s2 _ _ h⟩:jk (upd H ld (.lst ws)) _ _);generalize upd H ld (.lst ws)=H2 at hd2 s2 nz ⊢;have km:=r_ nz;refine⟨ld,⟨_,xz,aj.of hd2,gr (n:=S.ac.length) (λj ys H'=>j<=S.ac.length/\af H2 H'/\Paired (cU H') ys (qh S j)) (by rw[hsz];lia) (eJ (a8 _) (af.refl _) .nil) ?_ ?_ ?_ ?_ ?_⟩⟩
  .intro j ys H' ax;refine de ax λ_ _ e=>?_;rw[r_ e];exact Ei _ _
  .intro j ys H' hj ax;refine de ax λ_ s4 _=>?_;exact f7 _ (ws[j]' li) (aj.of (s4 _ _ hd2)) (aM _)
  .intro ys H' ax;refine de ax λ_ s4 _=>?_;exact au _ (aj.of (s4 _ _ hd2)) li
  .intro j ys H3 hj ax v H4 gA;refine de ax λ_ s4 e=>?_;refine jf gA λp x np ev eH hx=>?_;subst ev;subst eH;have dF:=hx _ (aj.of (s4 _ _ hd2));refine aq (kD nz dF) λa ha aa=>aq aa λpa ex pk=>?_;subst ex;have s5:=aB (o:=.tup [.int j,.ref pa]) (af.refl H3) np;have jN:upd H3 p (.tup [.int j,.ref pa]) p=a_ (.tup [.int j,.ref pa]):=ao;generalize upd H3 p (.tup [.int j,.ref pa])=H5 at s5 jN ⊢;have zX:=s5 _ _ (s4 _ _ pk);refine⟨p,⟨_,xz,aD.of jN,xz,_,_,xz,_,[],xz,xz,gH (v:=oV a.seen) (j:=5) xz zX xz ⟨xz,_,xz,?_⟩⟩⟩;have hO:vd S j=a.seen.map λd=>(d,(j:Int),("seen" : Str)):=by unfold vd;rw[ha];rfl
   rw[acH,hO];cases hs:a.seen with
   | none=>
    refine eJ hj (s4.trans s5) ?_;show Paired _ ys (qh S j++[]);rw[sQ];exact cU.all e λb xs e=>s5 _ _ e
   | some d=>
    exact gH (v:=.int d) (j:=5) xz zX (by unfold XW;rw[hs];rfl) ⟨_,xz,(sl (n:=3)),λtp ht=>⟨hj,aB (s4.trans s5) ht,mE (cU.all e λb xs e=>aB s5 ht _ _ e) (au tp xz ao)⟩⟩
  .intro ys H3 ax;refine de ax λ_ s4 e=>?_;have AE:=Ei S S.ac.length;exact⟨by rw[r_ e,hsz];lia,λrl fu=>q _ rl ys (s2.trans (aB s4 fu)) ((s2.trans s4).free fu) ao (cU.all e λb xs e=>aB (af.refl _) fu _ _ e)⟩
end
def RA(S:Mc)(i:Nat):rJ S (i+1)=rJ S i++(rK S i).toList:=by
 unfold rJ;rw[sO,aaJ];cases h:rK S i <;> simp[h]
def Jy(S:Mc)(i:Nat):(rJ S i).length<=i:=by
 have:=aar (rK S) (List.range i);rw[lH]at this;exact this
section
variable{t:aW}{C CT:e_}
def yS:ba ["machine","behind","found",R_,"deed",ap5] zLd (aS Kr):=bj
def ae4(F:aQ K "by_ahead" "by_ahead" Kr f fd)(cM:fh K C)(pC:mg "enumerate" = b_)
  (GB:aG P w K mg base aI 2 fB tW zLd (TJ t C CT)) (FB:aQ K "comers_behind" "comers_behind" EX fB tW) (bB:Binds K tW zLd []) (mB:mg "comers_behind" = a_ (.ref fB))
  (DD:Mt P w K mg base C 1 "deeds" zLc (za t C CT)):aG P w K mg base aI 3 f fd zLd (uW t C CT λS=>rJ S S.ac.length):=by
 refine F.ok yS λaJ A _ s H vs Q E hr h=>?_
 .obtain⟨m,A,S,aa,M,W,eT,Z,q⟩:=h;subst aa;have dy:=hr.mono (show 1<=2 by decide);refine let d:TS:=_;let l:TS:=_;let r:TS:=_;let u:TS:=_;let y:TS:=_;⟨_,ar (bq (i:=1) yS.nd xz (aE xz) (mQ GB hr xz mB FB.kp bB .nil c9 (ab (pv 0) ag))) (pR y (ar (bq (i:=2) yS.nd xz (aE xz) (dW ag)) (pR u (ar (ij gn xz (uU (b:=c_) xz pC (ab (lM (pv 0) cM.cl DD dy) ag)) (kK xz (dA (bA (i:=3) yS.nd xz (aE xz)) (dA (bA (i:=4) yS.nd xz (aE xz)) kH))) (pR r (ar (bq (i:=5) yS.nd xz (aE xz) (Ks (bM Md (aP cc (pv 4) aw) mV (bJ _)) mV (aeZ (tj hr) (pv 1) (fJ (ab (aP cc (pv 4) aw) (ab (aP cc (pv 4) aw) ag))) ⟨xz,xz,xz,xz⟩))) (pR l (av (b8 (PW.pt (pw_and (bM U3 (pv 5) mV (bJ _)) (pw_and1 (bM BQ (pv 5) (pv 3) (bJ _))))) (pR d (av (cX (ik m_ n_ o_ jR (pv 2) (ab (fJ (ab (pv 3) (ab (pv 5) (ab cR ag)))) ag))))) cp)))))) (av (aZ (pv 2))))))),?_⟩;have hsz:=fw;refine vr xz (⟨m,A,S,xz,M,W,eT,Z,(λH0 lb kvs s0 nb hb hB=>⟨qc,λlw nw=>?_⟩)⟩);have s1:=aB (o:=.lst []) s0 nw;have ju:=aB (o:=.lst []) (af.refl H0) nw _ _ hb;have Zu:=s0.free nw;have iP:upd H0 lw (.lst []) lw=a_ (.lst []):=ao;generalize upd H0 lw (.lst [])=H1 at s1 ju iP ⊢;refine bQ (id M.obj) λdx fs hm G=>vM xz (s1 _ _ hm) (G.ms _ dk) (⟨m,A,S,xz,(M.same s1),(λld ws nd jM=>?_)⟩);have hd2:upd H1 ld (.lst ws) ld=a_ (.lst ws):=ao;have s2:af H1 (upd H1 ld (.lst ws)):=aB (af.refl _) nd;have nz:=Paired.bZ jM λ_ _ (q:jk H1 _ _)=>aq q λp e h=>(⟨p,e,s2 _ _ h⟩:jk (upd H1 ld (.lst ws)) _ _);have n1:ld≠lw:=λz=>by rw[z,iP]at nd;cases nd
  have n2:lb≠lw:=λz=>by rw[z,iP]at ju;cases ju
  generalize upd H1 ld (.lst ws)=H2 at hd2 s2 nz ⊢;have km:=r_ nz
  let W1:IV:=λj σ H'=>j<=S.ac.length/\∃a b c us,σ=[a_ (.ref m),a_ (.ref lb),a_ (.ref lw),a,b,c]/\af H H'/\H' lb=a_ (.dT kvs)/\H' ld=a_ (.lst ws)/\Paired (jk H') ws S.ac/\H' lw=a_ (.lst us)/\Paired (cU H') us (rJ S j)
  refine⟨ld,⟨_,xz,aj.of hd2,zo (n:=S.ac.length) W1 ⟨a8 _,b_,b_,b_,[],xz,s1.trans s2,s2 _ _ ju,hd2,nz,s2 _ _ iP,.nil⟩ ?_ ?_ ?_ ?_⟩⟩
  .intro j σ H' hj ax;refine oA ax λ_ aa=>lN aa λ_ _ _ _ aa aT=>?_;subst aa;exact oH aT λ_ _ hd _=>f7 _ (ws[j]' li) (aj.of hd) (aM _)
  .intro σ H' ax;refine oA ax λ_ aa=>lN aa λ_ _ _ _ aa aT=>?_;subst aa;exact oH aT λ_ _ hd _=>au _ (aj.of hd) li
  .intro j σ H3 hj ax v H4 gA;refine oA ax λ_ aa=>lN aa λx1 x2 x3 us aa aT=>?_;subst aa;refine mX aT λs3 yk C4 X9 xW gK=>jf gA λp x np ev eH hx=>?_;subst ev;subst eH;have dF:=hx _ (aj.of C4);refine aq (kD X9 dF) λa ha aa=>aq aa λpa ex pk=>?_;subst ex;have s5:=aB (o:=.tup [.int j,.ref pa]) (af.refl H3) np;have jN:upd H3 p (.tup [.int j,.ref pa]) p=a_ (.tup [.int j,.ref pa]):=ao;generalize upd H3 p (.tup [.int j,.ref pa])=H5 at s5 jN ⊢;have zX:=s5 _ _ pk;have aH:=Z.ok j a ha;have hO:rK S j=zv S j a:=by unfold rK;rw[ha];rfl
   have X8:=Paired.bZ X9 λ_ _ (q:jk H3 _ _)=>aq q λp e h=>(⟨p,e,s5 _ _ h⟩:jk H5 _ _);have Yb:=cU.all gK λb xs e=>s5 _ _ e;have ub:=r_ gK;have hal:=Jy S j;refine⟨p,⟨_,xz,aD.of jN,xz,_,_,xz,_,[],xz,xz,gH (v:=oV a.got) (j:=3) xz zX xz ⟨xz,_,xz,?_⟩⟩⟩
   have stop:∀{H6:Hp} {o:Option V},af H5 H6->rK S j=b_->W1 (j+1) [a_ (.ref m),a_ (.ref lb),a_ (.ref lw),a_ (.int j),a_ (.ref pa),o] H6:=λ{H6 o} s6 e=>⟨hj,_,_,_,us,xz,(s3.trans s5).trans s6,s6 _ _ (s5 _ _ yk),s6 _ _ (s5 _ _ C4),Paired.bZ X8 λ_ _ (q:jk H5 _ _)=>aq q λp e h=>⟨p,e,s6 _ _ h⟩,s6 _ _ (s5 _ _ xW),by
    rw[RA,e];show Paired _ us (rJ S j++[]);rw[sQ];exact cU.all Yb λb xs e=>s6 _ _ e⟩
   cases hg:a.got with
   | none=>
    refine bG (λ_=>?_) λz=>absurd xz z;refine dJ _ xz xz (au _ xz (W' xz (eW (stop (af.refl _) ?_))));rw[hO];unfold zv;rw[if_pos];rcases aH.k with h | h | h
    .exact h.1
    .rw[hg]at h;cases h.2
    .rw[hg]at h;cases h.2
   | some g=>
    refine bG (λz=>nomatch z) λ_=>?_
    have iT:a.k ≠ l_:=λz=>by
     rcases aH.k with h | h | h
     .rw[hg]at h;cases h.2
     .rw[z]at h;exact absurd h.1 dk
     .rw[z]at h;exact absurd h.1 dk
    refine vr xz (dJ lb xz (.inr ⟨kvs,.inl (s5 _ _ yk)⟩) (gH (v:=.int (a.n:Nat)) (j:=2) xz zX xz (gH (v:=oV a.seen) (j:=5) xz zX xz ⟨(sl (n:=2)),λtp Cz=>?_⟩)));have s6:=aB (o:=.tup [.int (a.n:Nat),oV a.seen]) (af.refl H5) Cz;have ph:upd H5 tp (.tup [.int (a.n:Nat),oV a.seen]) tp=a_ (.tup [.int (a.n:Nat),oV a.seen]):=ao;generalize upd H5 tp (.tup [.int (a.n:Nat),oV a.seen])=H6 at s6 ph ⊢
    have hA:rK S j=(nextM (S.ov.getD a.n []) a.seen).bind λb=>if b=(j:Int) then b_ else a_ ((j:Int),b,("ahead" : Str)):=by
     rw[hO];unfold zv;rw[if_neg iT]
    refine au _ (jI.t (k:=[a_ (a.n:Int),a.seen]) (s6 _ _ (s5 _ _ yk)) (by rw[ph,WO];rfl)) ?_;rw[hB a.n a.seen aH.n];cases hn:nextM (S.ov.getD a.n []) a.seen with
    | none=>
     refine dJ _ xz xz (au _ xz (W' xz (eW (stop s6 ?_))));rw[hA,hn];rfl
    | some b=>
     rw[hn]at hA;rw[show (Option.map V.int (a_ b)).getD V.aN=V.int b from rfl];refine dJ _ xz xz (au _ xz (tD (λ_=>?_) λz=>nomatch z));refine vr xz (vr xz ⟨xz,⟨_,xz,tD (λz=>?_) λz=>?_⟩⟩)
     .have sE:=s6 _ _ (s5 _ _ xW);refine vr xz ⟨.inl ⟨xz,_,aj.of sE⟩,⟨_,xz,_,xz,(sl (n:=3)),λtq ntq=>?_⟩⟩;have s7:=aB (o:=.tup [.int j,.int b,.str "ahead"]) (af.refl H6) ntq;have Z7:upd H6 tq (.tup [.int j,.int b,.str "ahead"]) tq=a_ (.tup [.int j,.int b,.str "ahead"]):=ao;generalize upd H6 tq (.tup [.int j,.int b,.str "ahead"])=H7 at s7 Z7 ⊢;have Cw:=s6.trans s7;have qM:=s7 _ _ sE;have kt:=pV (o:=.lst (us++[.ref tq])) qM;refine oX lw us (jB _ xz xz qM (by rw[hsz];lia) hj ⟨_,_,_,us++[.ref tq],xz,mI ((s3.trans s5).trans Cw) Zu,?_,?_,Paired.bZ X8 λ_ _ (q:jk H5 _ _)=>aq q λp e h=>⟨p,e,kt _ _ (Cw _ _ h)⟩,ao,?_⟩)
      .rw[ai n2];exact Cw _ _ (s5 _ _ yk)
      .rw[ai n1];exact Cw _ _ (s5 _ _ C4)
      .rw[RA,hA];show Paired _ _ (rJ S j++(if b=(j:Int) then b_ else a_ ((j:Int),b,("ahead" : Str)):Option T3).toList);rw[if_neg λe=>z (by rw[e])];exact mE (cU.all Yb λb xs e=>kt _ _ (Cw _ _ e)) (au tq xz (kt _ _ Z7))
     .refine stop s6 ?_;rw[hA];show (if b=(j:Int) then b_ else _)=b_;rw[if_pos (V.int.inj z)]
  .intro σ H1 ax;refine oA ax λ_ aa=>lN aa λ_ _ _ us aa aT=>?_;subst aa;exact mX aT λs1 _ _ _ iP gK=>vr xz (q H1 lw us s1 Zu iP gK)
end
def Nv(S:Mc):Prop:=∀(i:Nat) k,S.ck[i]?=a_ k->k.es=[]
section
variable{t:aW}{C CT:e_}
def VM(t:aW)(C CT:e_):Sp:=λvs H Q _=>∃m A S,vs=[.ref m]/\bf t C CT H m A S/\ip S/\S.ac.length<=3000/\Nv S/\∀H',af H H'->Q .aN H'
def VV:ba ["machine",ap8] zLd (aS MJ):=bj
def agX(F:aQ K "refuse_waiting" "refuse_waiting" MJ f fd)(cM:fh K C)(dM:mg "len" = b_)(dQ:mg "range" = b_)
  (DW:Mt P w K mg base C 2 "waiting" zLb (Sw t C CT)):aG P w K mg base aI 3 f fd zLd (VM t C CT):=by
 refine F.ok VV λaJ A _ s H vs Q E hr h=>?_
 .obtain⟨m,A,S,aa,M,W,eT,hn,q⟩:=h;subst aa;refine⟨_,av (ij gn xz (oa xz dQ (ab (bU eU xz dM q_ (ab (bC (pv 0) xz) ag)) ag)) (bA (i:=1) VV.nd xz (aE xz)) (av (b8 (bM wQ (bU eU xz dM q_ (ab (jh (pv 0) cM.cl DW hr (ab (pv 1) ag)) ag)) aw (bJ _)) sX cp))),?_⟩;have h4:=W.good.le;refine bQ (id M.obj) λdx fs hm G=>eD (id M.pg) λpa pv ep hp mq=>?_;cases ep;refine vF xz hm cM.cl cM.program G.program ⟨A.pg,⟨_,xz,.inr (aD.of hp),_,xz,by rw[r_ mq];lia,by rw[r_ mq];lia,?_⟩⟩;rw[show ((pv.length:Int)).toNat=S.ck.length by rw[r_ mq,W.len];lia];refine sY (n:=S.ck.length) (λi σ H'=>∃c,σ=[a_ (.ref m),c]/\af H H') ⟨b_,xz,af.refl _⟩ ?_ ?_
  .rintro i σ H1 hi ⟨c,rfl,s1⟩;rw[wB];have hk:S.ck[i]?=a_ S.ck[i]:=aM hi;exact vM xz (s1 _ _ hm) (G.ms _ dk) (vr xz (⟨m,A,S,i,_,xz,(M.same s1),hk,(hn i _ hk),(λH2 l s2 hl=>dP l [] xz (.inl (aj.of hl)) ⟨_,⟨_,xz,xz,_,xz,bG (λz=>absurd z qc) λz=>⟨_,xz,s1.trans s2⟩⟩⟩)⟩))
  .rintro σ H1 ⟨c,rfl,s1⟩;exact q H1 s1
end
structure Vw(B L:List T3):Prop where
 mem:∀x,x∈B↔x∈L
 len:B.length=L.length
def aeC{K:u_}(hl:H l=a_ (.lst us))(hp:Paired (cU H) us L)(hz:L.length<=100000)
  (q:∀r ws B,H r=b_->Vw B L->Paired (cU (upd H r (.lst ws))) ws B->Q (.ref r) (upd H r (.lst ws))):V0 K [.ref l] H Q:=
 ⟨l,us,xz,aj.of hl,by rw[r_ hp,fw];lia,λv hv=>aq (pN hp hv) λx _ h=>aq h λp e hp=>⟨p,_,_,_,e,aD.of hp⟩,λr zs nr pm=>aq (XB pm hp) λB pB hB=>q r zs B nr ⟨λx=>pB.mem_iff,pB.length_eq⟩ (cU.all hB λb xs e=>aB (af.refl _) nr _ _ e)⟩
section
variable{t:aW}{C CT:e_}
def TK(t:aW)(C CT:e_):Sp:=λvs H Q _=>∃m A S,vs=[.ref m]/\bf t C CT H m A S/\ip S/\S.ac.length<=3000/\Nv S/\ni S/\∀H' l us B,af H H'->H l=b_->H' l=a_ (.lst us)->Paired (cU H') us B->Vw B (kJ S)->Q (.ref l) H'
def aeQ:ba zLd zLd (aS Lr):=bj
def adK(F:aQ K "before" "before" Lr f fd)(hso:mg "sorted" = b_)
  (DR:Dp P w K mg base 3 "refuse_waiting" zLd (VM t C CT))
  (DO:Dp P w K mg base 2 "by_own" zLd (uW t C CT λS=>oG S S.ps.length))
  (DS:Dp P w K mg base 2 "by_seen" zLd (uW t C CT λS=>qh S S.ac.length))
  (DV:Dp P w K mg base 2 "by_over" zLd (uW t C CT λS=>rQ S 12))
  (DA:Dp P w K mg base 3 "by_ahead" zLd (uW t C CT λS=>rJ S S.ac.length)):aG P w K mg base aI 4 f fd zLd (TK t C CT):=by
 refine F.ok aeQ λaJ A _ s H vs Q E hr h=>?_
 .refine Em h λm A S aa M W eT hn aT=>oA aT λZ q=>?_;clear h aT;subst aa;have iq:=hr.mono (show 2<=3 by decide);refine let a:TS:=_;⟨_,ar (cX (dO DR hr xz (ab (pv 0) ag))) (pR a (av (aZ (bU Rn xz hso boot_sorted (ab (br BK (br BK (br BK (dO DO iq xz (ab (pv 0) ag)) (dO DS iq xz (ab (pv 0) ag))) (dO DV iq xz (ab (pv 0) ag))) (dO DA hr xz (ab (pv 0) ag))) ag))))),?_⟩;have hsz:=fw;refine vr xz (⟨m,A,S,xz,M,W,eT,hn,(λH1 s1=>?_)⟩);have Gq:S.ac.length<=3000:=li;have dS:=W.good.le;refine vr xz (⟨m,A,S,xz,(M.same s1),W,Gq,Z,(λH2 l2 u2 s2 n2 h2 p2=>?_)⟩);have Ze:=s1.trans s2;refine vr xz (⟨m,A,S,xz,(M.same Ze),W,Gq,Z,(λH3 l3 u3 s3 n3 h3 p3=>?_)⟩);have z1:=r_ p2;have y1:=ED S S.ps.length;have y1':=Jb dS eT;have z2:=r_ p3;have y2:=Ei S S.ac.length;refine kF l2 l3 u2 u3 xz xz (s3 _ _ h2) h3 (by rw[hsz,z1,z2];dsimp only;lia) λl4 n4=>?_;have s4:=aB (o:=.lst (u2++u3)) (af.refl H3) n4;have h4:upd H3 l4 (.lst (u2++u3)) l4=a_ (.lst (u2++u3)):=ao;generalize upd H3 l4 (.lst (u2++u3))=H4 at s4 h4 ⊢;have p4:Paired (cU H4) (u2++u3) (oG S S.ps.length++qh S S.ac.length):=uE (cU.all p3 λb xs e=>s4 _ _ e) (cU.all p2 λb xs e=>s4 _ _ (s3 _ _ e));have Ao:=(Ze.trans s3).trans s4;refine vr xz (⟨m,A,S,xz,(M.same Ao),W,Gq,Z,(λH5 l5 u5 s5 n5 h5 p5=>?_)⟩);have z4:=r_ p4;have z5:=r_ p5;have y5:=El Z.lZ 12;rw[bL (as:=oG _ _)]at z4;refine kF l4 l5 _ u5 xz xz (s5 _ _ h4) h5 (by rw[hsz,z4,z5];dsimp only;lia) λl6 n6=>?_;have s6:=aB (o:=.lst (u2++u3++u5)) (af.refl H5) n6;have h6:upd H5 l6 (.lst (u2++u3++u5)) l6=a_ (.lst (u2++u3++u5)):=ao;generalize upd H5 l6 (.lst (u2++u3++u5))=H6 at s6 h6 ⊢;have p6:Paired (cU H6) (u2++u3++u5) (oG S S.ps.length++qh S S.ac.length++rQ S 12):=uE (cU.all p5 λb xs e=>s6 _ _ e) (cU.all p4 λb xs e=>s6 _ _ (s5 _ _ e));have Zd:=(Ao.trans s5).trans s6;refine vr xz (⟨m,A,S,xz,(M.same Zd),W,Gq,Z,(λH7 l7 u7 s7 n7 h7 p7=>?_)⟩);have z6:=r_ p6;have z7:=r_ p7;have y7:=Jy S S.ac.length;rw[bL (bs:=rQ _ _),bL (as:=oG _ _)]at z6;refine kF l6 l7 _ u7 xz xz (s7 _ _ h6) h7 (by rw[hsz,z6,z7];dsimp only;lia) λl8 n8=>?_;have s8:=aB (o:=.lst (u2++u3++u5++u7)) (af.refl H7) n8;have h8:upd H7 l8 (.lst (u2++u3++u5++u7)) l8=a_ (.lst (u2++u3++u5++u7)):=ao;generalize upd H7 l8 (.lst (u2++u3++u5++u7))=H8 at s8 h8 ⊢;have p8:Paired (cU H8) (u2++u3++u5++u7) (kJ S):=uE (cU.all p7 λb xs e=>s8 _ _ e) (cU.all p6 λb xs e=>s8 _ _ (s7 _ _ e));have Zc:=(Zd.trans s7).trans s8;have lb:(kJ S).length<=100000:=by unfold kJ;rw[bL,bL,bL];lia
  exact aeC h8 p8 lb λr ws B nr hB hP=>q _ r ws B (aB Zc nr) (Zc.free nr) ao hP hB
end
def yZ(h:nextM o s=a_ b):b∈o:=by
 unfold nextM at h;refine bQ (aat.mp h) λl1 l2 e _=>?_;have:(s,b)∈(b_::o.map a_).zip o:=by rw[e];simp
 exact(sP this).2
def MX(Z:ni S)(h:d∈S.ov.getD n []):0<=d/\d<S.ac.length:=by
 cases e:S.ov[n]? with
 | none=>rw[gg,e]at h;cases h
 | some o=>
  rw[ff e]at h;refine eD (Z.im n o e d h) λj a h1 h2 _=>?_;have:=(bK.mp h2).1;lia
def Th(Z:ni S)(h:x∈kJ S):(0<=x.1/\x.1<S.ac.length)/\0<=x.2.1/\x.2.1<S.ac.length:=by
 unfold kJ at h;rcases dH.mp h with h | h
 .rcases dH.mp h with h | h
  .rcases dH.mp h with h | h
   .refine aq (yA.mp h) λc _ h2=>jf (Wa h2) λi j e h3 h4 _=>?_;subst e;exact⟨⟨li,by show (i:Int)<_;lia⟩,by show (0:Int)<=(j:Int);lia,by show (j:Int)<_;lia⟩
   .refine aq (AY.mp h) λj _ h2=>cJ (TQ h2) λa h3 h4 h5 _=>?_;have hj:=(bK.mp h3).1;refine eD (Z.sn j a h3 _ h4) λi o h6 h7 _=>?_;lia
  .refine aq (yA.mp h) λn _ h2=>oA (Mh.mp h2) λh3 _=>?_;have h4:=sP h3;exact⟨MX Z h4.1,MX Z (Qx h4.2)⟩
 .refine aq (AY.mp h) λj _ h2=>?_;unfold rK at h2;refine aq (Dr.mp h2) λa h3 h4=>?_;have hj:=(bK.mp h3).1;unfold zv at h4
  split at h4
  .cases h4
  .refine aq (Dr.mp h4) λb h5 h6=>?_
   split at h6
   .cases h6
   .cases h6;exact⟨⟨li,by show (j:Int)<_;lia⟩,MX Z (yZ h5)⟩
def KI.iff(h:KI M B R rd)(e:∀x,x∈B↔x∈B'):KI M B' R rd:=
 ⟨h.nd,h.lt,λi b hi x hx=>h.rs i b hi x ((e x).mpr hx),h.rn,λb=>by
  rw[h.rm b,Bv,Bv];exact⟨λz=>⟨z.1,z.2.1,z.2.2.1,λx hx=>z.2.2.2 x ((e x).mpr hx)⟩,λz=>⟨z.1,z.2.1,z.2.2.1,λx hx=>z.2.2.2 x ((e x).mp hx)⟩⟩⟩
def KI.left{M:Nat}{B:List T3}(h:KI M B R []){b:Int}(h0:0<=b)(h1:b<M)(hn:b∉R):∃y∈B,y.1∉R/\y.2.1=b:=by
 have z:¬cg B R b=0:=λz=>by cases (h.rm b).mpr ⟨h0,h1,hn,z⟩
 rw[Bv]at z;refine oE (Qz.mp z) λy hy=>oE (Qz.mp hy) λh2 hy=>oE (Qz.mp hy) λh3 h4=>⟨y,h2,h4,h3⟩
def KI.akb(h:KI M B R [])(hl:R.length≠M):∃b:Int,0<=b/\b<M/\b∉R:=by
 refine yr λz=>hl (Nat.le_antisymm h.le ?_)
 have:=Dq (l₁:=(List.range M).map λ(i:Nat)=>(i:Int)) (l₂:=R) (IE _ (λa b z e=>z li) (abt (n:=M))) (λb hb=>by
  refine aq (eM.mp hb) λi hi e=>?_;have hi:=nW.mp hi;exact yr λq=>z ⟨b,li,li,q⟩)
 rwa[aL,lH]at this
section
variable{t:aW}{C CT:e_}
def VS(t:aW)(C CT:e_):Sp:=λvs H Q _=>∃m A S,vs=[.ref m]/\bf t C CT H m A S/\Q (.int (S.ac.length:Nat)) H
def aib:ba zLc zLc (aS MQ):=bj
def ag6(F:aQ K "deeds_done" "Machine.deeds_done" MQ f fd)(dM:mg "len" = b_)(cM:fh K C):aG P w K mg base aI 1 f fd zLc (VS t C CT):=by
 refine F.ok aib λaJ A _ s H vs Q E hr h=>?_
 .refine gD h λm A S aa M q=>?_;clear h;subst aa;refine qw (av (aZ (bU eU xz dM q_ (ab (bC (pv 0) xz) ag)))) (bQ (id M.obj) λdx fs hm G=>aq M.ac λws h1 h2=>vF xz hm cM.cl cM.gV G.gV ⟨A.ac,⟨_,xz,.inl (aj.of h1),?_⟩⟩);rw[r_ h2];exact q
def UI(t:aW)(C CT:e_):Sp:=λvs H Q _=>∃m A S,vs=[.ref m]/\bf t C CT H m A S/\ip S/\S.ac.length<=3000/\Nv S/\ni S/\(∀x∈kJ S,x.1≠x.2.1)/\
 ∀H' p x v (R:List Int),af H H'->H' p=a_ (.tup [.str x,v])->KI S.ac.length (kJ S) R []->(x = P_/\R.length=S.ac.length/\(∃l,v=.ref l/\H' l=a_ (.lst (R.map V.int)))\/x = "ring"/\∃d ts Y,v=.ref d/\H' d=a_ (.tup ts)/\Paired (se H') ts Y/\RingM (kJ S) Y)->Q (.ref p) H'
def ET:ba ["machine","befores","many",P_] zLd (aS LS):=bj
def ae2(F:aQ K "order" "order" LS f fd)(cM:fh K C)(dM:mg "len" = b_)
  (DB:Dp P w K mg base 4 "before" zLd (TK t C CT))
  (DD:Mt P w K mg base C 1 "deeds_done" zLc (VS t C CT))
  (DC:Dp P w K mg base 1 "counted_out" ["many","befores"] UO)
  (DR:Dp P w K mg base 2 "ring_of" zLq VL):aG P w K mg base aI 5 f fd zLd (UI t C CT):=by
 refine F.ok ET λaJ A _ s H vs Q E hr h=>?_
 .refine Em h λm A S aa M W eT hn aT=>de aT λZ tT q=>?_;clear h aT;subst aa;have dy:=hr.mono (show 1<=4 by decide);have iq:=hr.mono (show 2<=4 by decide);refine let a:TS:=_;let c:TS:=_;let g:TS:=_;let j:TS:=_;⟨_,ar (bq (i:=1) ET.nd xz (aE xz) (dO DB hr xz (ab (pv 0) ag))) (pR j (ar (bq (i:=2) ET.nd xz (aE xz) (lM (pv 0) cM.cl DD dy)) (pR g (ar (bq (i:=3) ET.nd xz (aE xz) (dO DC dy xz (ab (pv 2) (ab (pv 1) ag)))) (pR c (ar (b8 (bM c7 (bU eU xz dM q_ (ab (pv 3) ag)) (pv 2) (bJ _)) (av (aZ (fJ (ab cR (ab (pv 3) ag))))) cp) (pR a (av (aZ (fJ (ab cR (ab (dO DR iq xz (ab (pv 3) (ab (pv 1) ag))) ag)))))))))))),?_⟩;have hsz:=fw;refine⟨_,xz,m,A,S,xz,M,W,eT,hn,Z,λH1 lb us B s1 nb hb hp hB=>?_⟩
  have lB:B.length<=100000:=by
   rw[hB.len];unfold kJ;rw[bL,bL,bL];have y1:=ED S S.ps.length;have y1':=Jb W.good.le eT;have y2:=Ei S S.ac.length;have y5:=El Z.lZ 12;have y7:=Jy S S.ac.length;lia
  have bz:=λx hx=>Th Z ((hB.mem x).mp hx);refine bQ (id (M.same s1).obj) λdx fs hm G=>vM xz hm (G.ms _ dk) ⟨m,A,S,xz,M.same s1,⟨_,xz,_,xz,S.ac.length,lb,us,B,xz,li,hb,hp,lB,bz,λH2 l R s2 nl hl I=>⟨_,xz,l,_,xz,.inl (aj.of hl),_,xz,rq (H:=H2) xz ?_⟩⟩⟩;rw[aL,zd];have IB:=I.iff hB.mem;refine bG (λe=>?_) λe=>?_
  .refine⟨_,xz,sl (n:=2),λp np=>q _ p _ _ R (aB (s1.trans s2) np) ao IB (.inl ⟨xz,e,l,xz,?_⟩)⟩;rw[ai (bp hl np)];exact hl
  .have hle:=I.le;refine⟨_,xz,_,xz,l,lb,R,us,B,xz,hl,li,s2 _ _ hb,cU.all hp λb xs e=>s2 _ _ e,lB,?_,λx hx Pd=>?_,λx hx=>tT x ((hB.mem x).mp hx),λH3 d ts Y s3 nd hd hY rM=>⟨sl (n:=2),λp np=>q _ p _ _ R (aB ((s1.trans s2).trans s3) np) ao IB (.inr ⟨xz,d,ts,Y,xz,aB (af.refl _) np _ _ hd,se.all hY λb xs e=>aB (af.refl _) np _ _ e,rM.two,λx hx=>(hB.mem x).mp (rM.sub x hx),rM.nd,rM.Ai⟩)⟩⟩
   .refine a7 (I.akb e) λb h0 h1 hb=>a7 (I.left h0 h1 hb) λy hy Pc _=>⟨y,hy,Pc⟩
   .have:=bz x hx;exact I.left this.1.1 this.1.2 Pd
end
def kP(s:Tl):Option Nat:=if s.1 = l_ then s.2.head? else if s.1 = I_ then s.2[1]? else b_
structure Jn(mk:Nat->Nat->Nat)(aU:List Nat)(T:Int->Nat)(B now:Nat)(S:Mc):Prop where
 nb:now<B
 pl:aU.length=S.ac.length
 pp:∀(j:Nat) b,S.ac[j]?=a_ b->∃p,S.ps[b.c]?=a_ p/\aU.getD j 0<p.length
 st:∀(i:Nat) a,S.ac[i]?=a_ a->a.k ≠ H_->∃p s,S.ps[a.c]?=a_ p/\s∈p/\kP s=a_ a.n
 ok:∀(i:Nat) a,S.ac[i]?=a_ a->Ny S.ps.length a
 od:∀(i:Nat) a,S.ac[i]?=a_ a->(T i<now/\(a.k ≠ H_->(i:Int)∈S.ov.getD a.n []))\/T i=B/\a.k = l_/\∃k,S.ck[a.c]?=a_ k/\∃e∈k.es,e.d=(i:Int)
 es:∀(c:Nat) k,S.ck[c]?=a_ k->k.es.Pairwise (λe f=>e.d<f.d)/\∀e∈k.es,∃(i:Nat) (a:Act),e.d=(i:Int)/\S.ac[i]?=a_ a/\a.k = l_/\a.c=c/\e.n=(a.n:Int)/\T i=B
 ov:∀(n:Nat) o,S.ov[n]?=a_ o->o.Pairwise (λx y=>T x<T y)/\∀x∈o,T x<now/\∃(i:Nat) (a:Act),x=(i:Int)/\S.ac[i]?=a_ a/\a.n=n/\a.k ≠ H_
 own:∀(i j:Nat) a b,i<j->S.ac[i]?=a_ a->S.ac[j]?=a_ b->a.c=b.c->(a.k ≠ l_\/b.k ≠ H_)->T j<B->T i<T j
 sn:∀(j:Nat) b d,S.ac[j]?=a_ b->b.k ≠ l_->b.seen=a_ d->∃(s:Nat) (a:Act),d=(s:Int)/\S.ac[s]?=a_ a/\a.n=b.n/\a.k ≠ H_/\(T d<T j\/s<j/\a.k = l_/\a.c=b.c)
 ah:∀(j:Nat) b X,S.ac[j]?=a_ b->b.k ≠ l_->nextM (S.ov.getD b.n []) b.seen=a_ X->X≠(j:Int)->T j<T X
 lk:∀(i j:Nat) a b,i<j->S.ac[i]?=a_ a->S.ac[j]?=a_ b->b.k = H_->a.k = l_->a.c=b.c->T j<T i->(mk b.c (aU.getD j 0)).testBit a.n=c_/\(a.n=b.n->∃(s:Nat) (a':Act),b.seen=a_ (s:Int)/\i<=s/\s<j/\S.ac[s]?=a_ a'/\a'.k = l_/\a'.c=b.c)
def xD(g:Nat->Nat):Nat->Nat
 | 0=>0
 | m+1=>max (xD g m) (g m)
def M9:∀{m s:Nat},s<m->g s<=xD g m
 | m+1,s,h=>by
  show g s<=max _ _
  by_cases e:s=m
  .rw[e];exact Nat.le_max_right _ _
  .exact cu (M9 (m:=m) om) (Nat.le_max_left _ _)
def WY:∀{m:Nat},xD g m=0\/∃s,s<m/\xD g m=g s
 | 0=>.inl xz
 | m+1=>by
  show max (xD g m) (g m)=0\/_
  by_cases e:xD g m<=g m
  .exact .inr ⟨m,om,Nat.max_eq_right e⟩
  .rcases WY (g:=g) (m:=m)with h | ⟨s,h1,h2⟩
   .omega
   .exact .inr ⟨s,om,(Nat.max_eq_left om).trans h2⟩
def Lx(h:nextM o (a_ d)=a_ X):(d,X)∈o.zip o.tail:=by
 unfold nextM at h;refine bQ (aat.mp h) λl1 l2 e _=>?_;have hm:(a_ d,X)∈(b_::o.map a_).zip o:=by rw[e];simp
 cases o with
 | nil=>simp at hm
 | cons y r=>
  have hm:(a_ d,X)∈(b_,y)::((y::r).map a_).zip r:=hm;rcases bX.mp hm with e | e
  .cases e
  .rw[List.zip_map_left]at e;refine aq (eM.mp e) λp hp z=>?_;injection z with z1 z2
   injection z1 with z1
   rw[<-z1,<-z2];exact hp
section
variable{mk:Nat->Nat->Nat}{aU:List Nat}{T:Int->Nat}{B now:Nat}{S:Mc}
open Classical in
def vJ(S:Mc)(T:Int->Nat)(j s:Nat):Nat:=if s=j\/(ma S s=ma S j/\∃a,S.ac[s]?=a_ a/\a.k = l_) then T s else 0
def kh(S:Mc)(T:Int->Nat)(j:Nat):Nat:=xD (vJ S T j) (j+1)
def EZ(j:Nat):T j<=kh S T j:=by
 have h:=M9 (g:=vJ S T j) (m:=j+1) (s:=j) om;unfold vJ at h;rw[if_pos (.inl xz)]at h;exact h
def L'{i j:Nat}(h:i<j)(ha:S.ac[i]?=a_ a)(hb:S.ac[j]?=a_ b)(hc:a.c=b.c)(hk:a.k = l_):T i<=kh S T j:=by
 have h:=M9 (g:=vJ S T j) (m:=j+1) (s:=i) om;unfold vJ at h;rw[if_pos (.inr ⟨by unfold ma;rw[ha,hb];show a_ a.c=a_ b.c;rw[hc],a,ha,hk⟩)]at h;exact h
def MU(hb:S.ac[j]?=a_ b):kh S T j=T j\/∃(i:Nat) (a:Act),i<j/\S.ac[i]?=a_ a/\a.c=b.c/\a.k = l_/\kh S T j=T i:=by
 have h0:=EZ (S:=S) (T:=T) j;rcases WY (g:=vJ S T j) (m:=j+1)with e | ⟨s,hs,e⟩
 .left
  have e:kh S T j=0:=e;omega
 .have e:kh S T j=vJ S T j s:=e;unfold vJ at e
  split at e
  .rename_i h
   by_cases z:s=j
   .rw[z]at e;exact .inl e
   .obtain⟨h1,a,h2,h3⟩:=h.resolve_left z;unfold ma at h1;rw[h2,hb]at h1;exact .inr ⟨s,a,om,h2,cE h1,h3,e⟩
  .left;omega
def Jn.flat(J:Jn mk aU T B now S){j:Nat}(hb:S.ac[j]?=a_ b)(hk:b.k ≠ H_)(ht:T j<B):kh S T j=T j:=by
 rcases MU (T:=T) hb with e | ⟨i,a,hi,ha,hc,hs,e⟩
 .exact e
 .have h1:=J.own i j a b hi ha hb hc (.inr hk) ht;have h2:=EZ (S:=S) (T:=T) j;omega
def X1(mk:Nat->Nat->Nat)(aU:List Nat)(S:Mc)(x:T3):Prop:=∃(j X:Nat) (b a:Act) (m:Nat),x.1≠x.2.1/\x.1=(j:Int)/\x.2.2 = "ahead"/\S.ac[j]?=a_ b/\b.k = H_/\m≠b.n/\(mk b.c (aU.getD j 0)).testBit m=c_/\S.ac[X]?=a_ a/\a.k ≠ H_/\a.n=b.n/\a.c≠b.c
def oU(S:Mc)(T:Int->Nat)(x:Int):Nat:=kh S T x.toNat*(S.ac.length+1)+x.toNat
def WJ(h:kh S T i<=kh S T j)(lA:i<j):oU S T i<oU S T j:=by
 unfold oU;rw[di,di];have:=Ip (S.ac.length+1) h;omega
def MT(h:kh S T i<kh S T j)(hi:i<S.ac.length):oU S T i<oU S T j:=by
 unfold oU;rw[di,di];have:=Ip (S.ac.length+1) (show kh S T i+1<=kh S T j from h);rw[Nat.add_mul]at this;omega
def Jn.over(J:Jn mk aU T B now S)(h:(x,y)∈(S.ov.getD n []).zip (S.ov.getD n []).tail):T x<T y/\∃(i j:Nat) (a b:Act),x=(i:Int)/\y=(j:Int)/\S.ac[i]?=a_ a/\S.ac[j]?=a_ b/\a.k ≠ H_/\b.k ≠ H_/\b.n=n:=by
 cases e:S.ov[n]? with
 | none=>rw[gg,e]at h;cases h
 | some o=>
  rw[ff e]at h;have z:=J.ov n o e;have hm:=sP h;obtain⟨_,i,a,e1,h1,_,h2⟩:=z.2 _ hm.1;obtain⟨_,j,b,e2,h3,h4,h5⟩:=z.2 _ (Qx hm.2);exact⟨Fz z.1 h,i,j,a,b,e1,e2,h1,h3,h2,h5,h4⟩
def Jn.XT(J:Jn mk aU T B now S)(Z:ni S)(out:∀i:Nat,i<S.ac.length->T i<B){x:T3}(hx:x∈kJ S):oU S T x.1<oU S T x.2.1\/X1 mk aU S x:=by
 have lt:∀{i:Nat} {a:Act},S.ac[i]?=a_ a->i<S.ac.length:=λh=>(bK.mp h).1;have fl:∀{i:Nat} {a:Act},S.ac[i]?=a_ a->a.k ≠ H_->kh S T i=T i:=λh k=>J.flat h k (out _ (lt h));unfold kJ at hx;rcases dH.mp hx with h | h
 .left
  rcases dH.mp h with h | h
  .rcases dH.mp h with h | h
   .obtain⟨c,_,h2⟩:=yA.mp h;obtain⟨i,j,e,lA,hj,h4,h5⟩:=Wa h2;subst e;unfold ma at h4 h5;obtain⟨a,ha,ea⟩:=qU.mp h4;obtain⟨b,hb,eb⟩:=qU.mp h5;have ec:=ea.trans eb.symm;refine WJ (i:=i) (j:=j) ?_ lA;rcases MU (T:=T) ha with e | ⟨s,a',hs,HS,hc,hk,e⟩
    .rw[e]
     by_cases hk:a.k = l_
     .exact L' lA ha hb ec hk
     .have:=J.own i j a b lA ha hb ec (.inl hk) (out j (lt hb));have:=EZ (S:=S) (T:=T) j;omega
    .rw[e];exact L' (q8 hs lA) HS hb (hc.trans ec) hk
   .obtain⟨j,_,h2⟩:=AY.mp h;obtain⟨b,hb,h4,h5,_⟩:=TQ h2;rw[h5];obtain⟨_,o,_,_,ho,hd⟩:=Z.sn j b hb _ h4;obtain⟨_,s,a,es,ha,_,hk⟩:=(J.ov _ _ ho).2 _ hd;have h0:=EZ (S:=S) (T:=T) j;have hbk:b.k ≠ l_:=λz=>by rw[(Z.ok j b hb).s z]at h4;cases h4
    obtain⟨s',a',e6,HS,_,_,h6 | ⟨hs,sG,lD⟩⟩:=J.sn j b _ hb hbk h4
    .rw[es]at h6 ⊢;exact MT (by rw[fl ha hk];omega) (lt ha)
    .rw[e6];refine WJ ?_ hs;rw[fl HS (by rw[sG];decide +kernel)];exact L' hs HS hb lD sG
  .obtain⟨n,_,h2⟩:=yA.mp h;obtain⟨h3,i,j,a,b,e1,e2,ha,hb,hka,nH,_⟩:=J.over (Mh.mp h2).1;rw[e1,e2]at h3 ⊢;exact MT (by rw[fl ha hka,fl hb nH];exact h3) (lt ha)
 .obtain⟨j,_,h2⟩:=AY.mp h;unfold rK at h2;obtain⟨b,hb,h3⟩:=Dr.mp h2;unfold zv at h3
  split at h3
  .cases h3
  rename_i sf
  obtain⟨X,hX,h4⟩:=Dr.mp h3
  split at h4
  .cases h4
  rename_i dr
  cases h4;have hjX:=J.ah j b X hb sf hX dr
  obtain⟨Xn,aX,eX,AI,hnX,Pq⟩:∃(i:Nat) (a:Act),X=(i:Int)/\S.ac[i]?=a_ a/\a.n=b.n/\a.k ≠ H_:=by
   have hm:=yZ hX;cases e:S.ov[b.n]? with
   | none=>rw[gg,e]at hm;cases hm
   | some o=>
    rw[ff e]at hm;obtain⟨_,i,a,h1,h2,h3,h4⟩:=(J.ov _ _ e).2 _ hm;exact⟨i,a,h1,h2,h3,h4⟩
  subst eX;show oU S T (j:Int)<oU S T (Xn:Int)\/_
  by_cases bz:kh S T j<T Xn
  .exact .inl (MT (by rw[fl AI Pq];exact bz) (lt hb))
  right
  obtain⟨s,a,hs,ha,hc,hk,ep⟩:=(MU (T:=T) hb).resolve_left (λe=>om);rw[ep]at bz
  have yf:b.k = H_:=yr λz=>by
   have:=J.own s j a b hs ha hb hc (.inr z) (out j (lt hb));omega
  obtain⟨anQ,aoK⟩:=J.lk s j a b hs ha hb yf hk hc om
  have got:∀(i:Nat) (a1:Act),i<j->S.ac[i]?=a_ a1->a1.k = l_->a1.c=b.c->a1.n=b.n->T j<T i->T i<T Xn:=λi a1 h1 h2 h3 h4 h5 h6=>by
   obtain⟨s',a',e1,e2,e3,e4,e5,e6⟩:=(J.lk i j a1 b h1 h2 hb yf h3 h4 h6).2 h5;rw[e1]at hX;have h7:=(J.over (Lx hX)).1
   by_cases z:i=s'
   .rw[z];exact h7
   .have:=J.own i s' a1 a' om h2 e4 (h4.trans e6.symm) (.inr (by rw[e5];decide +kernel)) (out s' (lt e4));omega
  have HG:a.n≠b.n:=λz=>by
   have:=got s a hs ha hk hc z om;omega
  refine⟨j,Xn,b,aX,a.n,cH dr,xz,xz,hb,yf,HG,anQ,AI,Pq,hnX,λz=>?_⟩;rcases IA Xn j with q | q | q
  .by_cases hks:aX.k = l_
   .have:=got Xn aX q AI hks z hnX hjX;omega
   .have:=J.own Xn j aX b q AI hb z (.inl hks) (out j (lt hb));omega
  .exact dr (by rw[q])
  .have:=J.own s Xn a aX om ha AI (hc.trans z.symm) (.inr Pq) (out Xn (lt AI));omega
def Jn.ring(J:Jn mk aU T B now S)(Z:ni S)(out:∀i:Nat,i<S.ac.length->T i<B)(R:RingM (kJ S) Y):∃y∈Y,X1 mk aU S y:=by
 refine yr λz=>?_;have up:=λy hy=>(J.XT Z out (R.sub y hy)).resolve_right λq=>z ⟨y,hy,q⟩;have two:=R.two;have h0:Y[0]?=a_ Y[0]:=aM om
 have mono:∀(k:Nat) y,Y[k]?=a_ y->oU S T Y[0].1<=oU S T y.1:=λk=>by
  induction k with
  | zero=>intro y hy;rw[h0]at hy;cases hy;exact aA _
  | succ k ih=>
   intro y hy;have hk:=(bK.mp hy).1;have hx:Y[k]?=a_ Y[k]:=aM om;have e:=R.Ai (k+1) Y[k] y hy (by rw[if_neg (QN k)];exact hx);have h1:=ih _ hx;have h2:=up _ (bu hx);rw[e]at h2;omega
 have hl:Y[Y.length-1]?=a_ Y[Y.length-1]:=aM om;have e:=R.Ai 0 _ _ h0 (by rw[if_pos rfl];exact hl);have h1:=mono _ _ hl;have h2:=up _ (bu hl);rw[e]at h2;omega
end
def pW{α:Type}{l:List α}{a b:α}{i:Nat}(h:(l++[a])[i]?=a_ b):l[i]?=a_ b\/i=l.length/\b=a:=by
 by_cases z:i<l.length
 .rw[kA z]at h;exact .inl h
 .have hi:=(bK.mp h).1;rw[bL]at hi;have hi:i<l.length+1:=hi;have e:i=l.length:=om;subst e;rw[nK (aA _),uB]at h;cases h;exact .inr ⟨xz,xz⟩
def wO{α:Type}{l:List α}{a b:α}{i:Nat}(h:l[i]?=a_ b):(l++[a])[i]?=a_ b:=by
 rw[kA (bK.mp h).1];exact h
def Mr{α:Type}{l:List α}{a:α}:(l++[a])[l.length]?=a_ a:=by
 rw[nK (aA _),uB];rfl
def Ue(y:Int)(s:Option Int)(X:Int):∀(o:List Int) (a:Option Int),((a::(o++[y]).map a_).zip (o++[y])).lookup s=a_ X->((a::o.map a_).zip o).lookup s=a_ X\/X=y
 | [],a,h=>by
  have h:sV s [(a,y)]=a_ X:=h;rw[lJ]at h
  split at h
  .exact .inr (cE h).symm
  .cases h
 | z::r,a,h=>by
  have h:sV s ((a,z)::(a_ z::(r++[y]).map a_).zip (r++[y]))=a_ X:=h;show sV s ((a,z)::(a_ z::r.map a_).zip r)=a_ X\/_;rw[lJ]at h ⊢
  split at h
  .exact .inl h
  .exact Ue y s X r (a_ z) h
def SN(h:nextM (o++[y]) s=a_ X):nextM o s=a_ X\/X=y:=Ue y s X o b_ h
def adU(p:o.Pairwise R)(tT:∀x,¬R x x)(asy:∀x y,R x y->¬R y x):nextM o o.getLast?=none:=by
 cases e:nextM o o.getLast? with
 | none=>rfl
 | some X=>
  exfalso;cases g:o.getLast? with
  | none=>rw[aao.mp g]at e;cases e
  | some d=>
   rw[g]at e;have h1:=Fz p (Lx e);have hX:=yZ e
   have ho:o=o.dropLast++[d]:=by
    have dr:o≠[]:=λz=>by rw[z]at g;cases g
    rw[aad dr]at g;rw[<-cE g,Qg]
   rw[ho]at p hX;rcases dH.mp hX with q | q
   .exact asy _ _ h1 ((yu.mp p).2.2 X q d du)
   .rw[cD.mp q]at h1;exact tT _ h1
def Wh{l:List (List Int)}{n m:Nat}{x y:Int}(h:x∈l.getD m []):x∈(l.set n (l.getD n []++[y])).getD m []:=by
 by_cases e:n=m
 .subst e
  by_cases hl:n<l.length
  .rw[ff (gC hl)];exact nN _ h
  .rw[gg,qV om]at h;cases h
 .rw[gg,lG e,<-gg];exact h
def kX(T:Int->Nat)(x:Int)(v:Nat):Int->Nat:=λy=>if y=x then v else T y
def mP:kX T x v x=v:=if_pos xz
def KS(h:y≠x):kX T x v y=T y:=if_neg h
section
variable{mk:Nat->Nat->Nat}{aU:List Nat}{T:Int->Nat}{B now:Nat}{S S':Mc}{c n:Nat}{k:Ck}
def Jn.done(J:Jn mk aU T B now S){i:Nat}(h:S.ac[i]?=a_ a)(hk:a.k ≠ l_):T i<now:=((J.od i a h).resolve_right λq=>hk q.2.1).1
def Jn.vD(J:Jn mk aU T B now S)(n:Nat):(S.ov.getD n []).Pairwise (λx y=>T x<T y)/\∀x∈S.ov.getD n [],T x<now/\∃(i:Nat) (a:Act),x=(i:Int)/\S.ac[i]?=a_ a/\a.n=n/\a.k ≠ H_:=by
 cases e:S.ov[n]? with
 | none=>rw[gg,e];exact⟨ID,λx h=>by cases h⟩
 | some o=>rw[ff e];exact J.ov n o e
def Jn.same(J:Jn mk aU T B now S)(e1:S'.ac=S.ac)(e2:S'.ov=S.ov)(e3:S'.ps=S.ps)(e4:∀c:Nat,S'.ck[c]?.map Ck.es=S.ck[c]?.map Ck.es):Jn mk aU T B now S':=by
 refine⟨J.nb,by rw[e1];exact J.pl,by rw[e1,e3];exact J.pp,by rw[e1,e3];exact J.st,by rw[e1,e3];exact J.ok,?_,?_,by rw[e1,e2];exact J.ov,by rw[e1];exact J.own,by rw[e1];exact J.sn,by rw[e1,e2];exact J.ah,by rw[e1];exact J.lk⟩
 .rw[e1,e2];intro i a h;refine(J.od i a h).imp_right λ⟨h1,h2,k,hk,h3⟩=>⟨h1,h2,?_⟩;have:=e4 a.c;rw[hk]at this;obtain⟨k',h4,h5⟩:=qU.mp this;exact⟨k',h4,by rw[h5];exact h3⟩
 .rw[e1];intro c k' sG;have:=e4 c;rw[sG]at this;obtain⟨k,h4,h5⟩:=qU.mp this.symm;rw[<-h5];exact J.es c k h4
def Wo(hk:S.ck[c]?=a_ k)(e:k'.es=k.es)(i:Nat):((S.ck.set c k')[i]?).map Ck.es=S.ck[i]?.map Ck.es:=by
 by_cases z:c=i
 .subst z;rw[gC (bK.mp hk).1,hk];show a_ k'.es=a_ k.es;rw[e]
 .rw[lG z]
def Jn.Ae(J:Jn mk aU T B now S)(c r:Nat)(v:Int):Jn mk aU T B now (f6 S c r v):=by
 unfold f6;cases e:S.ck[c]? with
 | none=>exact J
 | some k=>exact J.same xz xz xz (Wo e xz)
def Jn.YT(J:Jn mk aU T B now S)(c:Nat)(s:Tl):Jn mk aU T B now (qu S c s):=by
 unfold qu;cases e:S.ck[c]? with
 | none=>exact J
 | some k=>exact J.same xz xz xz (Wo e xz)
def Jn.amE(J:Jn mk aU T B now S)(h:now+1<B):Jn mk aU T B (now+1) S:=
 ⟨h,J.pl,J.pp,J.st,J.ok,λi a q=>(J.od i a q).imp_left λz=>⟨nT z.1,z.2⟩,J.es,λn o q=>⟨(J.ov n o q).1,λx hx=>⟨nT ((J.ov n o q).2 x hx).1,((J.ov n o q).2 x hx).2⟩⟩,J.own,J.sn,J.ah,J.lk⟩
def Jn.carry(J:Jn mk aU T B now S)(h:now+1<B)(hk:S.ck[c]?=a_ k)(he:k.es=e::r)(hn:e.n=(n:Int))(hl:n<S.ov.length)(e1:S'.ac=S.ac)(e2:S'.ov=S.ov.set n (S.ov.getD n []++[e.d]))(e3:S'.ps=S.ps)(e4:S'.ck=S.ck.set c k')(e5:k'.es=r):Jn mk aU (kX T e.d now) B (now+1) S':=by
 have yi:=J.es c k hk;rw[he]at yi;have hp:=Iw.mp yi.1;obtain⟨i,a,ed,ha,hak,eT,han,hT⟩:=yi.2 e du;have HG:a.n=n:=om;have nb:=J.nb;have hc:c<S.ck.length:=(bK.mp hk).1;rw[ed]at e2 ⊢;have ne:∀{x:Int},T x<B->kX T (i:Int) now x=T x:=λ{x} hx=>KS λz=>by rw[z]at hx;omega
 have nj:∀{j:Nat},j≠i->kX T (i:Int) now (j:Int)=T j:=λ{j} hj=>KS λz=>hj om;have dn:∀{j:Nat} {b:Act},S.ac[j]?=a_ b->b.k ≠ l_->kX T (i:Int) now (j:Int)=T j:=λhb hk=>ne (q8 (J.done hb hk) nb);have nE:=λ{x m} hx=>ne (q8 ((J.vD m).2 x hx).1 nb);refine⟨h,by rw[e1];exact J.pl,by rw[e1,e3];exact J.pp,by rw[e1,e3];exact J.st,by rw[e1,e3];exact J.ok,?_,?_,?_,?_,?_,?_,?_⟩
 .rw[e1,e4,e2];intro j b hb
  by_cases z:j=i
  .subst z;rw[ha]at hb;cases hb;rw[mP,HG,ff (gC hl)];exact .inl ⟨om,λ_=>fb _ du⟩
  rw[nj z];refine(J.od j b hb).imp (λz=>⟨nT z.1,λy=>Wh (z.2 y)⟩) λ⟨h1,h2,k0,h3,e',h4,h5⟩=>⟨h1,h2,?_⟩
  by_cases y:c=b.c
  .rw[<-y]at h3 ⊢;rw[hk]at h3;cases h3;refine⟨k',gC hc,e',?_,h5⟩;rw[he]at h4;rw[e5];refine(bX.mp h4).resolve_left λq=>z ?_;rw[q,ed]at h5;omega
  .exact⟨k0,by rw[lG y];exact h3,e',h4,h5⟩
 .rw[e1,e4];intro c' k1 CZ
  by_cases y:c=c'
  .subst y;rw[gC hc]at CZ;cases CZ;rw[e5];refine⟨hp.2,λe' h'=>?_⟩;obtain⟨i',a',q1,q2,q3,q4,q5,q6⟩:=yi.2 e' (eL _ h');have:=hp.1 e' h';exact⟨i',a',q1,q2,q3,q4,q5,by rw[nj om];exact q6⟩
  .rw[lG y]at CZ;refine⟨(J.es c' k1 CZ).1,λe' h'=>?_⟩;obtain⟨i',a',q1,q2,q3,q4,q5,q6⟩:=(J.es c' k1 CZ).2 e' h';refine⟨i',a',q1,q2,q3,q4,q5,(nj λz=>y ?_).trans q6⟩;rw[z,ha]at q2;cases q2;exact eT.symm.trans q4
 .rw[e1,e2];intro m o ho
  by_cases y:n=m
  .subst y;have hl:=(bK.mp ho).1;rw[mD]at hl;rw[gC hl]at ho;cases ho;have q:=J.vD n;refine⟨yu.mpr ⟨q.1.imp_of_mem λh1 h2 h3=>by rw[nE h1,nE h2];exact h3,Ds _ _,λx hx y hy=>?_⟩,λx hx=>?_⟩
   .rw[cD.mp hy,mP,nE hx];exact(q.2 x hx).1
   .rcases dH.mp hx with z | z
    .rw[nE z];exact⟨nT (q.2 x z).1,(q.2 x z).2⟩
    .rw[cD.mp z,mP];exact⟨om,i,a,xz,ha,HG,by rw[hak];decide +kernel⟩
  .rw[lG y]at ho;have q:=J.ov m o ho;have on:=λ{x} hx=>ne (q8 (q.2 x hx).1 nb);exact⟨q.1.imp_of_mem λh1 h2 h3=>by rw[on h1,on h2];exact h3,λx hx=>by rw[on hx];exact⟨nT (q.2 x hx).1,(q.2 x hx).2⟩⟩
 .rw[e1];intro i1 j1 a1 b1 lA h1 h2 h3 h4 h5
  by_cases z:j1=i
  .subst z;rw[ha]at h2;cases h2;rw[mP,nj om];refine((J.od i1 a1 h1).resolve_right λ⟨_,_,k0,g3,e',g4,g5⟩=>?_).1;rw[h3,eT,hk]at g3;cases g3;rw[he]at g4;rcases bX.mp g4 with q | q
   .rw[q,ed]at g5;omega
   .have:=hp.1 e' q;omega
  .rw[nj z]at h5 ⊢;have:=J.own i1 j1 a1 b1 lA h1 h2 h3 h4 h5;rw[ne om];exact this
 .rw[e1];intro j b d hb nH hd;obtain⟨s,a',q1,q2,y1,y2,q3⟩:=J.sn j b d hb nH hd;refine⟨s,a',q1,q2,y1,y2,q3.imp_left λq=>?_⟩;have:=J.done hb nH;rw[dn hb nH,ne om];exact q
 .rw[e1,e2];intro j b X hb nH hX dr;rw[dn hb nH];have hT:=J.done hb nH
  by_cases y:n=b.n
  .rw[<-y,ff (gC hl)]at hX;rcases SN hX with q | q
   .rw[nE (yZ q)];exact J.ah j b X hb nH (y ▸ q) dr
   .rw[q,mP];exact hT
  .rw[gg,lG y,<-gg]at hX;rw[nE (yZ hX)];exact J.ah j b X hb nH hX dr
 .rw[e1];intro i1 j1 a1 b1 lA h1 h2 h3 h4 h5 h6;have ju:b1.k ≠ l_:=by rw[h3];decide +kernel
  rw[dn h2 ju]at h6;refine J.lk i1 j1 a1 b1 lA h1 h2 h3 h4 h5 ?_
  by_cases z:i1=i
  .subst z;have:=J.done h2 ju;omega
  .rw[nj z]at h6;exact h6
def Jn.act(J:Jn mk aU T B now S)(h:now+1<B){a:Act}{v p:Nat}(e1:S'.ac=S.ac++[a])(e3:S'.ps=S.ps)(hw:∀(c:Nat) k,S.ck[c]?=a_ k->∃k',S'.ck[c]?=a_ k'/\∀e∈k.es,e∈k'.es)
  (mq:∃q,S.ps[a.c]?=a_ q/\p<q.length) (cB:a.k ≠ H_->∃p s,S.ps[a.c]?=a_ p/\s∈p/\kP s=a_ a.n)
  (aH:Ny S.ps.length a) (hup:∀n x,x∈S.ov.getD n []->x∈S'.ov.getD n []) (CQ:(v<now+1/\(a.k ≠ H_->(S.ac.length:Int)∈S'.ov.getD a.n []))\/v=B/\a.k = l_/\∃k,S'.ck[a.c]?=a_ k/\∃e∈k.es,e.d=(S.ac.length:Int))
  (yi:∀(c:Nat) k,S'.ck[c]?=a_ k->k.es.Pairwise (λe f=>e.d<f.d)/\∀e∈k.es,(∃k0,S.ck[c]?=a_ k0/\e∈k0.es)\/e.d=(S.ac.length:Int)/\a.k = l_/\a.c=c/\e.n=(a.n:Int)/\v=B)
  (jr:∀(n:Nat) o,S'.ov[n]?=a_ o->S.ov[n]?=a_ o\/o=S.ov.getD n []++[(S.ac.length:Int)]/\v=now/\a.n=n/\a.k ≠ H_)
  (how:∀(i:Nat) a1,S.ac[i]?=a_ a1->a1.c=a.c->(a1.k ≠ l_\/a.k ≠ H_)->v<B->T i<v)
  (hsn:a.k ≠ l_->∀d,a.seen=a_ d->∃(s:Nat) (b:Act),d=(s:Int)/\S.ac[s]?=a_ b/\b.n=a.n/\b.k ≠ H_/\(T d<v\/b.k = l_/\b.c=a.c))
  (hah:a.k ≠ l_->nextM (S.ov.getD a.n []) a.seen=b_)
  (yf:a.k = H_->∀(i:Nat) a1,S.ac[i]?=a_ a1->a1.k = l_->a1.c=a.c->v<T i->(mk a.c p).testBit a1.n=c_/\(a1.n=a.n->∃(s:Nat) (a':Act),a.seen=a_ (s:Int)/\i<=s/\S.ac[s]?=a_ a'/\a'.k = l_/\a'.c=a.c)) :
  Jn mk (aU++[p]) (kX T (S.ac.length:Int) v) B (now+1) S':=by
 have nb:=J.nb;have lt:∀{i:Nat} {b:Act},S.ac[i]?=a_ b->i<S.ac.length:=λh=>(bK.mp h).1;have ol:∀{i:Nat} {b:Act},S.ac[i]?=a_ b->kX T (S.ac.length:Int) v (i:Int)=T i:=λhb=>KS λz=>by have:=lt hb;omega
 have nE:∀{x:Int} {m:Nat},x∈S.ov.getD m []->kX T (S.ac.length:Int) v x=T x:=λ{x m} hx=>by
  obtain⟨_,i,b,rfl,hb,_⟩:=(J.vD m).2 x hx;exact ol hb
 have Zs:∀{j:Nat} {b:Act},S.ac[j]?=a_ b->(aU++[p]).getD j 0=aU.getD j 0:=λ{j b} hb=>by
  rw[gg,kA (by rw[J.pl];exact lt hb),<-gg]
 have Zr:(aU++[p]).getD S.ac.length 0=p:=ff (by rw[<-J.pl];exact Mr);refine⟨h,by rw[e1,bL,bL,J.pl];rfl,?_,?_,?_,?_,?_,?_,?_,?_,?_,?_⟩
 .rw[e1,e3];intro j b hb;rcases pW hb with q | ⟨rfl,rfl⟩
  .rw[Zs q];exact J.pp j b q
  .rw[Zr];exact mq
 .rw[e1,e3];intro i b hb hk;rcases pW hb with q | ⟨_,rfl⟩
  .exact J.st i b q hk
  .exact cB hk
 .rw[e1,e3];intro i b hb;rcases pW hb with q | ⟨_,rfl⟩
  .exact J.ok i b q
  .exact aH
 .rw[e1];intro i b hb;rcases pW hb with q | ⟨rfl,rfl⟩
  .rw[ol q];refine(J.od i b q).imp (λz=>⟨nT z.1,λy=>hup _ _ (z.2 y)⟩) λ⟨h1,h2,k,h3,e,h4,h5⟩=>⟨h1,h2,?_⟩;obtain⟨k',g1,g2⟩:=hw _ k h3;exact⟨k',g1,e,g2 e h4,h5⟩
  .rw[mP];exact CQ
 .rw[e1];intro c k hk;refine⟨(yi c k hk).1,λe he=>?_⟩;rcases(yi c k hk).2 e he with ⟨k0,g1,g2⟩ | ⟨g1,g2,g3,g4,g5⟩
  .obtain⟨i,b,q1,q2,q3,q4,q5,q6⟩:=(J.es c k0 g1).2 e g2;exact⟨i,b,q1,wO q2,q3,q4,q5,by rw[ol q2];exact q6⟩
  .exact⟨_,a,g1,Mr,g2,g3,g4,by rw[mP];exact g5⟩
 .rw[e1];intro n o ho;rcases jr n o ho with q | ⟨q,hv,hn,hk⟩
  .have z:=J.ov n o q;have on:∀{x:Int},x∈o->kX T (S.ac.length:Int) v x=T x:=λ{x} hx=>nE (m:=n) (by rw[ff q];exact hx);refine⟨z.1.imp_of_mem λh1 h2 h3=>by rw[on h1,on h2];exact h3,λx hx=>?_⟩;obtain⟨g1,i,b,g2,g3,g4⟩:=z.2 x hx;rw[on hx];exact⟨nT g1,i,b,g2,wO g3,g4⟩
  .subst q;have z:=J.vD n;refine⟨yu.mpr ⟨z.1.imp_of_mem λh1 h2 h3=>by rw[nE h1,nE h2];exact h3,Ds _ _,λx hx y hy=>?_⟩,λx hx=>?_⟩
   .rw[cD.mp hy,mP,nE hx,hv];exact(z.2 x hx).1
   .rcases dH.mp hx with y | y
    .obtain⟨g1,i,b,g2,g3,g4⟩:=z.2 x y;rw[nE y];exact⟨nT g1,i,b,g2,wO g3,g4⟩
    .rw[cD.mp y,mP,hv];exact⟨om,_,a,xz,Mr,hn,hk⟩
 .rw[e1];intro i j a1 b1 lA h1 h2 h3 h4 h5;rcases pW h2 with q | ⟨rfl,rfl⟩
  .have q1:S.ac[i]?=a_ a1:=(pW h1).resolve_right λz=>by have:=lt q;omega
   rw[ol q]at h5 ⊢;rw[ol q1];exact J.own i j a1 b1 lA q1 q h3 h4 h5
  .have q1:S.ac[i]?=a_ a1:=(pW h1).resolve_right λz=>om;rw[mP]at h5 ⊢;rw[ol q1];exact how i a1 q1 h3 h4 h5
 .rw[e1];intro j b d hb hk hd;rcases pW hb with q | ⟨rfl,rfl⟩
  .obtain⟨s,a',g1,g2,y1,y2,g3⟩:=J.sn j b d q hk hd;refine⟨s,a',g1,wO g2,y1,y2,?_⟩;rw[g1,ol g2,ol q,<-g1];exact g3
  .obtain⟨s,b',g1,g2,y1,y2,g3⟩:=hsn hk d hd;refine⟨s,b',g1,wO g2,y1,y2,?_⟩;rw[mP,g1,ol g2,<-g1];exact g3.imp_right λz=>⟨lt g2,z⟩
 .rw[e1];intro j b X hb hk hX dr
  have old:nextM (S.ov.getD b.n []) b.seen=a_ X\/X=(S.ac.length:Int)/\v=now:=by
   cases e:S'.ov[b.n]? with
   | none=>rw[gg,e]at hX;cases hX
   | some o=>
    rw[ff e]at hX;rcases jr _ _ e with q | ⟨q,hv,_⟩
    .rw[ff q];exact .inl hX
    .rw[q]at hX;exact(SN hX).imp_right λz=>⟨z,hv⟩
  rcases pW hb with q | ⟨rfl,rfl⟩
  .rw[ol q];rcases old with z | ⟨z,hv⟩
   .rw[nE (yZ z)];exact J.ah j b X q hk z dr
   .rw[z,mP,hv];exact J.done q hk
  .rcases old with z | ⟨z,_⟩
   .rw[hah hk]at z;cases z
   .exact absurd z dr
 .rw[e1];intro i j a1 b1 lA h1 h2 h3 h4 h5 h6
  have q1:S.ac[i]?=a_ a1:=(pW h1).resolve_right λz=>by
   have:=(bK.mp h2).1;rw[bL]at this;have:j<S.ac.length+1:=this;omega
  rcases pW h2 with q | ⟨rfl,rfl⟩
  .rw[ol q,ol q1]at h6;obtain⟨g1,g2⟩:=J.lk i j a1 b1 lA q1 q h3 h4 h5 h6;refine⟨by rw[Zs q];exact g1,λz=>?_⟩;obtain⟨s,a',r1,r2,r3,r4,r5⟩:=g2 z;exact⟨s,a',r1,r2,r3,wO r4,r5⟩
  .rw[mP,ol q1]at h6;obtain⟨g1,g2⟩:=yf h3 i a1 q1 h4 h5 h6;refine⟨by rw[Zr];exact g1,λz=>?_⟩;obtain⟨s,a',r1,r2,r3,r4⟩:=g2 z;exact⟨s,a',r1,r2,lt r3,wO r3,r4⟩
end
end TL
namespace L2
def gd.XH{t t':TS}(h:gd X ss t)(hi:∀D σ H,t' D σ H->t D σ H):gd X ss t':=λp_ s σ H D I q=>h p_ s σ H D I (hi D σ H q)
end L2
namespace TL
open PySem.SeqAt L2 L3 L4
variable{P:k_}{w:j_}{K:u_}{mg:Str->Option f_}{base:i_}
def Uo(a:e_)(r n:Nat):dY (.ref a) H_ ([r,n].map λ(n:Nat)=>V.int (n:Int))=aO J_ (.int (n:Nat)) (aO O_ (.int (r:Nat)) (aO K_ (.ref a) [])):=by kernel_rfl
def afG(a:e_)(r n:Nat):dY (.ref a) I_ ([r,n].map λ(n:Nat)=>V.int (n:Int))=aO J_ (.int (n:Nat)) (aO O_ (.int (r:Nat)) (aO K_ (.ref a) [])):=by kernel_rfl
def zc(n r:Nat)(a:e_):(aO J_ (.int (n:Nat)) (aO O_ (.int (r:Nat)) (aO K_ (.ref a) []))).lookup (J_ : Str)=a_ (V.int (n:Nat)):=by rw[eV,if_pos rfl]
def Mj(n r:Nat)(a:e_):(aO J_ (.int (n:Nat)) (aO O_ (.int (r:Nat)) (aO K_ (.ref a) []))).lookup (O_ : Str)=a_ (V.int (r:Nat)):=by rw[eV,if_neg dk,eV,if_pos rfl]
section
variable{t:aW}{C CT:e_}{u:mm}
def TF(t:aW)(C CT:e_):Sp:=λvs H Q _=>∃m A S c k z dz a r n lab,vs=[.ref m,.int (c:Nat),.ref z]/\bf t C CT H m A S/\jn lab m A/\ip S/\S.ck[c]?=a_ k/\H z=a_ (.ins t.jF dz (dY (.ref a) H_ ([r,n].map λ(n:Nat)=>V.int (n:Int))))/\r<4/\n<12/\
 ∀H',bf t C CT H' m A (ox S c r n)->aY (cq m A) H H'->KL H H'->Q .aN H'
def Kh:ba [U_,ap8,"step","setting"] zLe (aS Ln):=bj
def adT(F:aQ K "do_look" "Machine.do_look" Ln f fd)(cM:fh K C)(cT:kT K CT)(ST:rO K mg t)
  (DL:Mt P w K mg base CT 1 "latest" zLf (Tw CT))
  (DB:Mt P w K mg base C 1 "on_board" zLf (JH t C CT)):aG P w K mg base aI 2 f fd zLe (TF t C CT):=by
 refine F.ok Kh λaJ A _ s H vs Q E hr h=>?_
 .refine Bf h λm A S c k z dz a r n aa=>Me aa λlab aa M L W aT=>?_;subst aa;obtain⟨hk,hz,qN,hn,q⟩:=aT;refine let g:TS:=_;let l:TS:=_;let p:TS:=_;let u:TS:=_;⟨_,ar (bq (i:=3) Kh.nd xz (aE xz) (E1 (aP cw (bC (pv 0) xz) (pv 1)) cT.cl DL.m DL.G hr DL.b .nil c9 (ab (bC (pv 2) xz) ag))) (pR u (ar (b8 (bM Md (pv 3) mV (bJ _)) (pR g (av (bq (i:=3) Kh.nd xz (aE xz) (jh (pv 0) cM.cl DB hr (ab (bC (pv 2) xz) ag))))) cp) (gd.XH (t':=λD σ H1=>∃st x,σ=[a_ (.ref m),a_ (.int (c:Nat)),a_ (.ref z),a_ (.ref st)]/\H1 st=a_ (.tup [x,.int (cI S k n).1,oV (cI S k n).2])/\af H H1/\∀σ' H',bf t C CT H' m A (ox S c r n)->aY (cq m A) H H'->KL H H'->D.nx σ' H') (pR p (ar (cX (ik m_ n_ o_ jR (bC (pv 0) xz) (ab (fJ (ab cR (ab (pv 1) (ab (bC (pv 2) xz) (ab (aP cc (pv 3) aw) (ab mV (ab (aP cc (pv 3) aw) ag))))))) ag))) (pR l (av (uZ (aP cc (pv 3) aw) (wM (aP cw (bC (pv 0) xz) (pv 1)) (bC (pv 2) xz) set_list)))))) ?tl))),?_⟩
  case tl=>
   rintro D σ H1 ⟨st,x,rfl,cB,s1,q⟩;rw[Uo]at hz;have M1:=M.same s1;refine bQ (id M1.obj) λdx fs hm G=>aq M1.ac λws eT jM=>?_;have fj:=s1 _ _ hz;refine vF xz hm cM.cl cM.gV G.gV ⟨.inl ⟨xz,_,aj.of eT⟩,au _ xz (vF xz fj ST.rG ST.Fm (zc n r a) (gH (j:=1) xz cB xz (gH (j:=2) xz cB xz ⟨(sl (n:=6)),(λtp ht=>?_)⟩)))⟩;have s2:=aB (o:=.tup [.str H_,.int (c:Nat),.int (n:Nat),.int (cI S k n).1,.aN,oV (cI S k n).2]) (af.refl H1) ht;have km:=r_ jM;have Yo:=W.ac;refine pU A.ac ws (.ref tp) xz xz (s2 _ _ eT) (by rw[km,fw];exact wb) ?_;have M2:=Mz (M1.same s2) L (s2 _ _ eT) (x:=.ref tp) (a:=⟨H_,c,n,a_ (cI S k n).1,b_,(cI S k n).2⟩) ⟨tp,xz,ao⟩;have sC:aY (cq m A) H (upd (upd H1 tp (.tup [.str H_,.int (c:Nat),.int (n:Nat),.int (cI S k n).1,.aN,oV (cI S k n).2])) A.ac (.lst (ws++[.ref tp]))):=(aY.of s1).trans ((aY.of s2).trans (aY.upd .ac));have l2:KL H1 (upd (upd H1 tp (.tup [.str H_,.int (c:Nat),.int (n:Nat),.int (cI S k n).1,.aN,oV (cI S k n).2])) A.ac (.lst (ws++[.ref tp]))):=(KL.of s2).trans (KL.upd (s2 _ _ eT));have o7:=l2 _ _ (λxs z=>by cases z) fj;have zV:=l2.tup _ _ cB;generalize upd (upd H1 tp (.tup [.str H_,.int (c:Nat),.int (n:Nat),.int (cI S k n).1,.aN,oV (cI S k n).2])) A.ac (.lst (ws++[.ref tp]))=H2 at M2 sC l2 o7 zV ⊢;refine bQ (id M2.obj) λyo qB ja G3=>aq (M2.fg (k:=k) hk) λra iE fu=>?_;have dQ:=W.rg k (bu hk);refine gH (j:=1) xz zV xz (vF xz ja cM.cl cM.fg G3.fg (vr xz (rL (v:=.ref ra) (aj.of M2.rg) (iA iE) (vF xz o7 ST.rG ST.Wd (Mj n r a) (⟨ra,_,_,r,xz,xz,fu,(tw (by rw[aL,dQ];exact qN)),?_⟩)))));have M3:=FA M2 L (k:=k) hk iE r (cI S k n).1;refine q _ _ ?_ (sC.trans (aY.upd (.rs (bu iE)))) ((KL.of s1).trans (l2.trans (KL.upd fu)))
   have e:ox S c r n={ (gX S ⟨H_,c,n,a_ (cI S k n).1,b_,(cI S k n).2⟩)with ck:=S.ck.set c { k with rg:=k.rg.set r (cI S k n).1 } }:=by
    unfold ox;rw[hk];dsimp only;unfold f6;rw[show (gX S ⟨H_,c,n,a_ (cI S k n).1,b_,(cI S k n).2⟩).ck[c]?=a_ k from hk];rfl
   rw[e];exact M3
  refine bQ (id M.obj) λdx fs hm G=>aq (M.vm hk) λx hx T=>fe (id T.obj) λuo qS ea e1 e2 e3 em el=>?_;have anK:=W.bounds hk;have Hw:=hz;rw[Uo]at Hw;refine vF xz hm cM.cl cM.gE G.gE (vr xz (rL (v:=.ref x.1) (aj.of M.lt) (Bg hx) (rM ea (em _ dk) (vF xz Hw ST.rG ST.Fm (zc n r a) (⟨x.1,n,_,_,_,_,(⟨_,xz,T,li,li,w4,(λi9=>?_),(λe st he cB=>?_)⟩)⟩)))))
  .rw[di]at i9;refine au _ xz ⟨xz,⟨_,xz,bG (λ_=>?_) λy=>absurd xz y⟩⟩;refine vM xz hm (G.ms _ dk) (vF xz Hw ST.rG ST.Fm (zc n r a) (kF m A S n xz M hn W.bd W.ov λtp ht=>?_));have es:cI S k n=(S.bd.getD n 0,(S.ov.getD n []).getLast?):=by unfold cI;rw[i9]
   refine⟨tp,(.int (n:Nat)),xz,?_,(aB (af.refl H) ht),(λσ' H' h1 h2 h3=>q H' h1 h2 h3)⟩;rw[ao,es];rfl
  .rw[di]at he;refine au _ xz ⟨xz,⟨_,xz,bG (λy=>by cases y) λ_=>?_⟩⟩;have es:cI S k n=(e.num,a_ e.d):=by unfold cI;rw[he]
   exact⟨st,(.int e.n),xz,(by rw[es];exact cB),(af.refl H),(λσ' H' h1 h2 h3=>q H' h1 h2 h3)⟩
def TB(t:aW)(C CT:e_):Sp:=λvs H Q _=>∃m A S c k z dz a r n lab,vs=[.ref m,.int (c:Nat),.ref z]/\bf t C CT H m A S/\jn lab m A/\ip S/\Al S/\S.ck[c]?=a_ k/\H z=a_ (.ins t.jE dz (dY (.ref a) I_ ([r,n].map λ(n:Nat)=>V.int (n:Int))))/\r<4/\n<12/\
 ∀H',bf t C CT H' m A (qg S c r n)->aY (cq m A) H H'->KL H H'->Q .aN H'
def Kf:ba [U_,ap8,"step","gave","setting"] zLe (aS Ll):=bj
def adR(F:aQ K "do_swap" "Machine.do_swap" Ll f fd)(cM:fh K C)(ST:rO K mg t)(dM:mg "len" = b_)
  (DB:Mt P w K mg base C 1 "on_board" zLf (JH t C CT))
  (DC:Mt P w K mg base C 1 "come" zLz (LM t C CT)):aG P w K mg base aI 2 f fd zLe (TB t C CT):=by
 refine F.ok Kf λaJ A _ s H vs Q E hr h=>?_
 .refine Bf h λm A S c k z dz a r n aa=>Me aa λlab aa M L W aT=>?_;subst aa;refine mX aT λjr hk hz qN hn q=>?_;refine let b:TS:=_;let d:TS:=_;let l:TS:=_;let p:TS:=_;⟨_,ar (bq (i:=3) Kf.nd xz (aE xz) (aP cw (aP cw (bC (pv 0) xz) (pv 1)) (bC (pv 2) xz))) (pR p (ar (bq (i:=4) Kf.nd xz (aE xz) (jh (pv 0) cM.cl DB hr (ab (bC (pv 2) xz) ag))) (pR l (ar (cX (jh (pv 0) cM.cl DC hr (ab (fJ (ab (bC (pv 2) xz) (ab (pv 3) (ab (bU eU xz dM q_ (ab (bC (pv 0) xz) ag)) ag)))) ag))) (pR d (ar (cX (ik m_ n_ o_ jR (bC (pv 0) xz) (ab (fJ (ab cR (ab (pv 1) (ab (bC (pv 2) xz) (ab (aP cc (pv 4) aw) (ab (pv 3) (ab (aP cc (pv 4) aw) ag))))))) ag))) (pR b (av (uZ (aP cc (pv 4) aw) (wM (aP cw (bC (pv 0) xz) (pv 1)) (bC (pv 2) xz) set_list)))))))))),?_⟩;rw[afG]at hz;refine bQ (id M.obj) λdx fs hm G=>aq (M.fg hk) λra iE fu=>?_;have dQ:=W.rg k (bu hk);have hg:k.rg[r]?=a_ (k.rg[r]'wg):=aM wg;have eg:k.rg.getD r 0=k.rg[r]'wg:=ff hg;refine vF xz hm cM.cl cM.fg G.fg (vr xz (rL (v:=.ref ra) (aj.of M.rg) (iA iE) (vF xz hz ST.qe ST.Mf (Mj n r a) (rL (aj.of fu) (iA hg) ?_))));generalize k.rg[r]'wg=g at eg;refine vM xz hm (G.ms _ dk) (vF xz hz ST.qe ST.Fj (zc n r a) (kF m A S n xz M hn W.bd W.ov λst anf=>?_));have s1:=aB (o:=.tup (BO S n)) (af.refl H) anf;have cB:upd H st (.tup (BO S n)) st=a_ (.tup [.int (n:Nat),.int (S.bd.getD n 0),oV (S.ov.getD n []).getLast?]):=ao;have M1:=M.same s1;generalize upd H st (.tup (BO S n))=H1 at s1 cB M1 ⊢;refine aq M1.ac λws eT jM=>?_;have km:=r_ jM;have Yo:=W.ac;refine vM xz (s1 _ _ hm) (G.ms _ dk) (vF xz (s1 _ _ hz) ST.qe ST.Fj (zc n r a) (vr xz (vF xz (s1 _ _ hm) cM.cl cM.gV G.gV (⟨A.ac,ws,xz,(.inl (aj.of eT)),(sl (n:=3)),(λtp ht=>?_)⟩))));have s2:=aB (o:=.tup [.int (n:Nat),.int g,.int (ws.length:Nat)]) (af.refl H1) ht;refine⟨m,A,S,tp,n,g,(ws.length:Nat),lab,xz,(M1.same s2),L,ao,hn,W.bd,(eJ W.ov jr λH2 M2 k2 l2=>?_)⟩;have O6:=(KL.of s2).trans l2;have o7:=O6 _ _ (λxs z=>by cases z) (s1 _ _ hz);have zV:=O6.tup _ _ cB;refine bQ (id M2.obj) λyo qB ja G3=>aq M2.ac λCs Gn nz=>?_;have ana:Cs.length=S.ac.length:=r_ nz;refine au _ xz (dX m C yo qB (⟨_,xz,ja,cM.cl,cM.gV,G3.gV,(.inl ⟨xz,_,aj.of Gn⟩),(au _ xz (vF xz o7 ST.qe ST.Fj (zc n r a) (gH (j:=1) xz zV xz (vr xz (gH (j:=2) xz zV xz ⟨(sl (n:=6)),(λtq hq=>?_)⟩)))))⟩));have s3:=aB (o:=.tup [.str I_,.int (c:Nat),.int (n:Nat),.int (S.bd.getD n 0),.int g,oV (S.ov.getD n []).getLast?]) (af.refl H2) hq;refine pU A.ac Cs (.ref tq) xz xz (s3 _ _ Gn) (by rw[ana,fw];exact wb) ?_;have M3:=Mz (M2.same s3) L (s3 _ _ Gn) (x:=.ref tq) (a:=⟨I_,c,n,a_ (S.bd.getD n 0),a_ g,(S.ov.getD n []).getLast?⟩) ⟨tq,xz,ao⟩;have Hr:aY (cq m A) H (upd (upd H2 tq (.tup [.str I_,.int (c:Nat),.int (n:Nat),.int (S.bd.getD n 0),.int g,oV (S.ov.getD n []).getLast?])) A.ac (.lst (Cs++[.ref tq]))):=((aY.of s1).trans ((aY.of s2).trans k2)).trans ((aY.of s3).trans (aY.upd .ac));have l3:KL H2 (upd (upd H2 tq (.tup [.str I_,.int (c:Nat),.int (n:Nat),.int (S.bd.getD n 0),.int g,oV (S.ov.getD n []).getLast?])) A.ac (.lst (Cs++[.ref tq]))):=(KL.of s3).trans (KL.upd (s3 _ _ Gn));have Hv:=l3 _ _ (λxs z=>by cases z) o7;have Yc:=l3.tup _ _ zV;generalize upd (upd H2 tq (.tup [.str I_,.int (c:Nat),.int (n:Nat),.int (S.bd.getD n 0),.int g,oV (S.ov.getD n []).getLast?])) A.ac (.lst (Cs++[.ref tq]))=H3 at M3 Hr l3 Hv Yc ⊢;refine bQ (id M3.obj) λdx4 fs4 kx G4=>aq (M3.fg (k:=k) hk) λZf Oi Yd=>gH (j:=1) xz Yc xz (vF xz kx cM.cl cM.fg G4.fg (vr xz (rL (v:=.ref Zf) (aj.of M3.rg) (iA Oi) (vF xz Hv ST.qe ST.Mf (Mj n r a) (⟨Zf,_,_,r,xz,xz,Yd,(tw (by rw[aL,dQ];exact qN)),?_⟩)))));have M4:=FA M3 L (k:=k) hk Oi r (S.bd.getD n 0);refine q _ ?_ (Hr.trans (aY.upd (.rs (bu Oi)))) ((KL.of s1).trans (O6.trans (l3.trans (KL.upd Yd))))
  have e:qg S c r n={ (gX (oq S n g (ws.length:Nat)) ⟨I_,c,n,a_ (S.bd.getD n 0),a_ g,(S.ov.getD n []).getLast?⟩)with ck:=S.ck.set c { k with rg:=k.rg.set r (S.bd.getD n 0) } }:=by
   unfold qg;rw[hk];dsimp only;rw[eg,km];unfold f6;rw[show (gX (oq S n g (S.ac.length:Nat)) ⟨I_,c,n,a_ (S.bd.getD n 0),a_ g,(S.ov.getD n []).getLast?⟩).ck[c]?=a_ k from hk];rfl
  rw[e];exact M4
end
section
variable{S:Mc}{c:Nat}{k:Ck}
structure X0(S S':Mc)(c:Nat)(k k':Ck):Prop where
 at':S'.ck[c]?=a_ k'
 pl:k'.pl=k.pl
 ct:k'.ct=k.ct
 rg:k'.rg.length=k.rg.length
def EY(hk:S.ck[c]?=a_ k):X0 S (f6 S c r v) c k { k with rg:=k.rg.set r v }:=by
 have e:f6 S c r v={ S with ck:=S.ck.set c { k with rg:=k.rg.set r v } }:=by unfold f6;rw[hk]
 rw[e];exact⟨gC (bK.mp hk).1,xz,xz,mD⟩
def ajc{sz:Nat}(g:cG sz s)(hk:S.ck[c]?=a_ k):∃k',X0 S (cy S c s) c k k':=by
 have hc:c<S.ck.length:=(bK.mp hk).1;cases g with
 | put r n h1 h2=>exact⟨_,EY hk⟩
 | add r o h1 h2=>
  have e:cy S c (W_,[r,o])=f6 S c r ((k.rg.getD r 0+k.rg.getD o 0)%k7):=by
   unfold cy;rw[if_neg (show ¬(W_ : Str) = T_ from dk),if_pos xz,hk];rfl
  rw[e];exact⟨_,EY hk⟩
 | set n r h1 h2=>
  have e:cy S c (l_,[n,r])=setM S c n r:=by kernel_rfl
  rw[e];unfold setM;rw[hk];dsimp only
  split
  .unfold jT;rw[show (gX (xp S c n k (k.rg.getD r 0)) ⟨l_,c,n,b_,a_ (k.rg.getD r 0),b_⟩).ck[c]?=a_ { k with tn:=k.tn+1,es:=k.es++[⟨k.tn,n,k.rg.getD r 0,S.ac.length⟩] } from gC hc];dsimp only
   split
   .exact⟨_,⟨gC hc,xz,xz,xz⟩⟩
   .exact⟨{ k with tn:=k.tn+1,es:=ji (k.es++[⟨k.tn,n,k.rg.getD r 0,S.ac.length⟩]) n },⟨gC (by show c<(S.ck.set c _).length;rw[mD];exact hc),xz,xz,xz⟩⟩
  .exact⟨_,⟨gC hc,xz,xz,xz⟩⟩
 | look r n h1 h2=>
  have e:cy S c (H_,[r,n])=f6 (gX S ⟨H_,c,n,a_ (cI S k n).1,b_,(cI S k n).2⟩) c r (cI S k n).1:=by
   unfold cy;rw[if_neg (show ¬(H_ : Str) = T_ from dk),if_neg (show ¬(H_ : Str) = W_ from dk),if_neg (show ¬(H_ : Str) = l_ from dk),if_pos rfl];show ox S c r n=_;unfold ox;rw[hk]
  rw[e];have r:=EY (S:=gX S ⟨H_,c,n,a_ (cI S k n).1,b_,(cI S k n).2⟩) (r:=r) (v:=(cI S k n).1) hk;exact⟨_,⟨r.at',r.pl,r.ct,r.rg⟩⟩
 | swap r n h1 h2=>
  have e:cy S c (I_,[r,n])=f6 (gX (oq S n (k.rg.getD r 0) S.ac.length) ⟨I_,c,n,a_ (S.bd.getD n 0),a_ (k.rg.getD r 0),(S.ov.getD n []).getLast?⟩) c r (S.bd.getD n 0):=by
   unfold cy;rw[if_neg (show ¬(I_ : Str) = T_ from dk),if_neg (show ¬(I_ : Str) = W_ from dk),if_neg (show ¬(I_ : Str) = l_ from dk),if_neg (show ¬(I_ : Str) = H_ from dk),if_pos rfl];show qg S c r n=_;unfold qg;rw[hk]
  rw[e];have r:=EY (S:=gX (oq S n (k.rg.getD r 0) S.ac.length) ⟨I_,c,n,a_ (S.bd.getD n 0),a_ (k.rg.getD r 0),(S.ov.getD n []).getLast?⟩) (r:=r) (v:=(S.bd.getD n 0)) hk;exact⟨_,⟨r.at',r.pl,r.ct,r.rg⟩⟩
 | clear=>
  have e:cy S c (M_,[])=S:=by kernel_rfl
  rw[e];exact⟨k,⟨hk,xz,xz,xz⟩⟩
 | skip r q h1 h2 h3=>
  have e:cy S c (Q_,[r,q])=S:=by kernel_rfl
  rw[e];exact⟨k,⟨hk,xz,xz,xz⟩⟩
end
section
variable{t:aW}{C CT:e_}{u:mm}
def TC(t:aW)(C CT PT:e_):Sp:=λvs H Q _=>∃m A S c k p s sz lab,vs=[.ref m,.int (c:Nat)]/\bf t C CT H m A S/\jn lab m A/\ip S/\Al S/\cQ PT LP LQ H/\S.ck[c]?=a_ k/\S.ps[c]?=a_ p/\p[k.pl]?=a_ s/\cG sz s/\
 ∀H',bf t C CT H' m A (tY S c)->aY (cq m A) H H'->cQ PT LP LQ H'->Q .aN H'
def Kg:ba [U_,ap8,"step","regs"] zLb (aS Lm):=bj
def L8{k:Ck}(hk:S.ck[c]?=a_ k):f6 S c r v={ S with ck:=S.ck.set c { k with rg:=k.rg.set r v } }:=by unfold f6;rw[hk]
def adS{f PT:e_}(F:aQ K "do_step" "Machine.do_step" Lm f fd)(cM:fh K C)(O:xq K mg t u)
  (DP:Dp P w K mg base 1 "place_behind" zLu (Q7 t))
  (DS:Mt P w K mg base C 5 "do_set" zLe (UN t C CT PT))
  (DL:Mt P w K mg base C 2 "do_look" zLe (TF t C CT))
  (DW:Mt P w K mg base C 2 "do_swap" zLe (TB t C CT)):aG P w K mg base aI 6 f fd zLb (TC t C CT PT):=by
 refine aq O.st.cn.top λuT mT rT=>F.ok Kg λaJ A _ s H vs Q E hr h=>?_
 .refine fX h λm A S c k aa=>lN aa λp st sz lab aa aT=>?_;subst aa;refine mX aT λM L W jr hL aa=>wR aa λhk hp hs g q=>?_;have dy:=hr.mono (show 1<=5 by decide);have iq:=hr.mono (show 2<=5 by decide);refine aq (M.fg hk) λra iE fu=>?_;have dQ:=W.rg k (bu hk);refine gD (M.part hp) λvs b us h1 h2 aa=>oA aa λh3 h4=>aq (pO h4 hs) λv hv aa=>BR aa λz a dz aa hz=>?_;subst aa;have anp:=M.agf hz
  have hdo:tY S c=qu (cy S c st) c st:=by
   unfold tY;rw[hk,hp];dsimp only;rw[hs]
  refine let d:TS:=_;let j:TS:=_;let l:TS:=_;let x:TS:=_;let B:TS:=_;let I:TS:=_;let J:TS:=_;let N:TS:=_;let R:TS:=_;let T:TS:=_;let U:TS:=_;let X:TS:=_;let Y:TS:=_;⟨_,ar (bq (i:=2) Kg.nd xz (aE xz) (aP cc (aP cc (bC (pv 0) xz) (pv 1)) (aP cw (bC (pv 0) xz) (pv 1)))) (pR Y (ar (bq (i:=3) Kg.nd xz (aE xz) (aP cw (bC (pv 0) xz) (pv 1))) (pR X (ar (b8 (gu (bU iZ xz O.st.bl.iO jd (ab (pv 2) (ab (fq (v:=.ref t.jY) xz O.st.WZ xz) ag)))) (pR d (av (uZ (bC (pv 2) xz) (wM (pv 3) (bC (pv 2) xz) set_list)))) (pR R (av (b8 (gu (bU iZ xz O.st.bl.iO jd (ab (pv 2) (ab (fq (v:=.ref t.jZ) xz O.st.W0 xz) ag)))) (pR j (av (uZ (br iz (br i5 (aP cw (pv 3) (bC (pv 2) xz)) (aP cw (pv 3) (bC (pv 2) xz))) (fq xz mT rT)) (wM (pv 3) (bC (pv 2) xz) set_list)))) (pR N (av (b8 (gu (bU iZ xz O.st.bl.iO jd (ab (pv 2) (ab (fq (v:=.ref t.iM) xz O.st.M' xz) ag)))) (pR l (av (cX (jh (pv 0) cM.cl DS hr (ab (pv 1) (ab (pv 2) ag)))))) (pR J (av (b8 (gu (bU iZ xz O.st.bl.iO jd (ab (pv 2) (ab (fq (v:=.ref t.jF) xz O.st.Wg xz) ag)))) (pR x (av (cX (jh (pv 0) cM.cl DL iq (ab (pv 1) (ab (pv 2) ag)))))) (pR I (av (b8 (gu (bU iZ xz O.st.bl.iO jd (ab (pv 2) (ab (fq (v:=.ref t.jE) xz O.st.Wf xz) ag)))) (pR B (av (cX (jh (pv 0) cM.cl DW iq (ab (pv 1) (ab (pv 2) ag))))))
         cp)))))))))))))
   (gd.XH (t':=λD σ H1=>σ=[a_ (.ref m),a_ (.int (c:Nat)),a_ (.ref z),a_ (.ref ra)]/\bf t C CT H1 m A (cy S c st)/\aY (cq m A) H H1/\cQ PT LP LQ H1/\∀σ' H',bf t C CT H' m A (tY S c)->aY (cq m A) H H'->cQ PT LP LQ H'->D.nx σ' H') (pR U (ar (uZ (dO DP dy xz (ab (pv 2) (ab (aP cw (bC (pv 0) xz) (pv 1)) (ab (pv 3) ag)))) (wM (bC (pv 0) xz) (pv 1) set_list)) (pR T (av (Lv (bC (pv 0) xz) (pv 1) KA aw Wm set_list))))) ?tl))))),?_⟩
  case tl=>
   rintro D σ H1 ⟨rfl,M1,k1,iV,q⟩;refine oE (ajc g hk) λk' ef=>bQ (id M1.obj) λdx fs hm G=>?_;have fj:=k1.k z _ anp (λps y=>by cases y) hz;refine aq (M1.fg ef.at') λZg Ye anj=>?_;have era:Zg=ra:=by rw[iE]at Ye;exact(cE Ye).symm
   subst era;have hc:c<(cy S c st).ck.length:=(bK.mp ef.at').1;refine vr xz (vF xz hm cM.cl cM.places G.places (vr xz (rL (aj.of M1.pl) (iA (f:=λk:Ck=>V.int (k.pl:Nat)) ef.at') (vr xz (⟨z,a,dz,st,sz,Zg,k'.rg,k'.pl,xz,fj,g,anj,(by rw[ef.rg];exact dQ),(vF xz hm cM.cl cM.places G.places (vr xz (⟨A.pl,_,_,c,xz,xz,M1.pl,(tw (by rw[aL];exact hc)),?_⟩)))⟩)))));have M2:=ajP M1 L ef.at' (ig st k'.rg k'.pl);have k2:aY (cq m A) H1 (upd H1 A.pl (.lst (((cy S c st).ck.map λk=>V.int (k.pl:Nat)).set c (.int (ig st k'.rg k'.pl:Nat))))):=aY.upd .pl;have l2:KL H1 (upd H1 A.pl (.lst (((cy S c st).ck.map λk=>V.int (k.pl:Nat)).set c (.int (ig st k'.rg k'.pl:Nat))))):=KL.upd M1.pl;generalize upd H1 A.pl (.lst (((cy S c st).ck.map λk=>V.int (k.pl:Nat)).set c (.int (ig st k'.rg k'.pl:Nat))))=H2 at M2 k2 l2 ⊢;refine bQ (id M2.obj) λyo qB ja G3=>?_;have e2:((cy S c st).ck.set c { k' with pl:=ig st k'.rg k'.pl })[c]?=a_ { k' with pl:=ig st k'.rg k'.pl }:=gC hc;refine au _ xz (dX m C yo qB (jB _ xz ja cM.cl cM.counts G3.counts (vr xz (⟨A.ct,_,c,(.int (k'.ct:Nat)),xz,xz,M2.ct,(by rw[cO,e2];rfl),⟨_,_,xz,xz,A.ct,_,_,c,xz,xz,M2.ct,tw (by rw[aL,mD];exact hc),?_⟩⟩))));have M3:=ajR M2 L e2 (k'.ct+1);refine q _ _ ?_ ((k1.trans k2).trans (aY.upd .ct)) ((l2.trans (KL.upd M2.ct)).lam iV);rw[hdo]
   have e:qu (cy S c st) c st={ (cy S c st)with ck:=((cy S c st).ck.set c { k' with pl:=ig st k'.rg k'.pl }).set c { k' with pl:=ig st k'.rg k'.pl,ct:=k'.ct+1 } }:=by
    unfold qu;rw[ef.at',Jq]
   rw[e];exact M3
  refine bQ (id M.obj) λdx fs hm G=>vF xz hm cM.cl cM.steps G.steps (vr xz (⟨A.st,_,_,(.ref b),xz,xz,(aD.of h1),(cx h2),(vF xz hm cM.cl cM.places G.places (vr xz (rL (aj.of M.pl) (iA (f:=λk:Ck=>V.int (k.pl:Nat)) hk) (⟨b,_,_,(.ref z),xz,xz,(aD.of h3),(cx hv),(au _ xz (dX m C dx fs (jB _ xz hm cM.cl cM.fg G.fg (vr xz (rL (v:=.ref ra) (aj.of M.rg) (iA iE) (aq (Fq O g hz) λD ty c6=>vr xz (dX _ (.ref t.jY) _ (.ref t.jY) (gR _ xz ty xz c6.amy (tk (bG (λh=>?_) λn1=>?_))))))))))⟩))))⟩))
  .cases g with
   | put r n g1 g2=>
    have hz:H z=a_ (.ins (da t T_) dz (dY (.ref a) T_ ([r,n].map λ(n:Nat)=>V.int (n:Int)))):=hz;rw[E7,ahD]at hz;refine vF xz hz O.st.vg O.st.WV Mi (vr xz (vF xz hz O.st.vg O.st.WX (Fo dk) (⟨ra,_,_,r,xz,xz,fu,(tw (by rw[aL,dQ];exact g1)),(⟨xz,?_,(aY.upd (.rs (bu iE))),((KL.upd fu).lam hL),(λσ' H' h1 h2 h3=>q H' h1 h2 h3)⟩)⟩)));have e:cy S c (T_,[r,n])=f6 S c r (n:Nat):=rfl;rw[e,L8 hk];exact FA M L hk iE r (n:Nat)
   | add=>exact absurd (show ("add" : Str) = "put" from h) dk
   | set=>exact absurd (show ("set" : Str) = "put" from h) dk
   | look=>exact absurd (show ("look" : Str) = "put" from h) dk
   | swap=>exact absurd (show ("swap" : Str) = "put" from h) dk
   | clear=>exact absurd (show ("clear" : Str) = "put" from h) dk
   | skip=>exact absurd (show ("skip" : Str) = "put" from h) dk
  refine vr xz (dX _ (.ref t.jZ) _ (.ref t.jZ) (gR _ xz ty xz c6.amA (tk (bG (λh=>?_) λn2=>?_))))
  .cases g with
   | add r o g1 g2=>
    have hz:H z=a_ (.ins (da t W_) dz (dY (.ref a) W_ ([r,o].map λ(n:Nat)=>V.int (n:Int)))):=hz;rw[E8,ahE]at hz;have vY:k.rg[r]?=a_ (k.rg[r]'wg):=aM wg;have hg2:k.rg[o]?=a_ (k.rg[o]'wg):=aM wg;have eg1:k.rg.getD r 0=k.rg[r]'wg:=ff vY;have eg2:k.rg.getD o 0=k.rg[o]'wg:=ff hg2;refine vr xz (vF xz hz O.st.tF O.st.M8 (Fo dk) (rL (aj.of fu) (iA vY) (vr xz (vF xz hz O.st.tF O.st.WW Mi (rL (aj.of fu) (iA hg2) ⟨_,⟨_,xz,xz,_,_,xz,xz,by show (0:Int)<k7;decide +kernel,vr xz (vF xz hz O.st.tF O.st.M8 (Fo dk) (⟨ra,_,_,r,xz,xz,fu,(tw (by rw[aL,dQ];exact g1)),(⟨xz,?_,(aY.upd (.rs (bu iE))),((KL.upd fu).lam hL),(λσ' H' h1 h2 h3=>q H' h1 h2 h3)⟩)⟩))⟩⟩)))))
    have e:cy S c (W_,[r,o])=f6 S c r ((k.rg[r]'wg+k.rg[o]'wg)%k7):=by
     unfold cy;rw[if_neg (show ¬(W_ : Str) = T_ from dk),if_pos xz,hk];show f6 S c r ((k.rg.getD r 0+k.rg.getD o 0)%k7)=_;rw[eg1,eg2]
    rw[e,L8 hk];exact FA M L hk iE r _
   | put=>exact absurd (show ("put" : Str) = "add" from h) dk
   | set=>exact absurd (show ("set" : Str) = "add" from h) dk
   | look=>exact absurd (show ("look" : Str) = "add" from h) dk
   | swap=>exact absurd (show ("swap" : Str) = "add" from h) dk
   | clear=>exact absurd (show ("clear" : Str) = "add" from h) dk
   | skip=>exact absurd (show ("skip" : Str) = "add" from h) dk
  refine vr xz (dX _ (.ref t.iM) _ (.ref t.iM) (gR _ xz ty xz c6.XD (tk (bG (λh=>?_) λn3=>?_))))
  .cases g with
   | set n r g1 g2=>
    have hz:H z=a_ (.ins (da t l_) dz (dY (.ref a) l_ ([n,r].map λ(n:Nat)=>V.int (n:Int)))):=hz;rw[BB]at hz;refine vM xz hm (G.ms _ dk) (vr xz (vr xz ⟨m,⟨A,S,c,k,z,dz,a,n,r,lab,xz,M,L,W,jr,hL,hk,hz,g1,g2,λH1 M1 k1 iV=>⟨xz,?_,k1,iV,(λσ' H' h1 h2 h3=>q H' h1 h2 h3)⟩⟩⟩));have e:cy S c (l_,[n,r])=setM S c n r:=by kernel_rfl
    rw[e];exact M1
   | put=>exact absurd (show ("put" : Str) = "set" from h) dk
   | add=>exact absurd (show ("add" : Str) = "set" from h) dk
   | look=>exact absurd (show ("look" : Str) = "set" from h) dk
   | swap=>exact absurd (show ("swap" : Str) = "set" from h) dk
   | clear=>exact absurd (show ("clear" : Str) = "set" from h) dk
   | skip=>exact absurd (show ("skip" : Str) = "set" from h) dk
  refine vr xz (dX _ (.ref t.jF) _ (.ref t.jF) (gR _ xz ty xz c6.aki (tk (bG (λh=>?_) λn4=>?_))))
  .cases g with
   | look r n g1 g2=>
    have hz:H z=a_ (.ins (da t H_) dz (dY (.ref a) H_ ([r,n].map λ(n:Nat)=>V.int (n:Int)))):=hz;rw[EJ]at hz;refine vM xz hm (G.ms _ dk) (vr xz (vr xz ⟨m,⟨A,S,c,k,z,dz,a,r,n,lab,xz,M,L,W,hk,hz,g1,g2,λH1 M1 k1 l1=>⟨xz,?_,k1,(l1.lam hL),(λσ' H' h1 h2 h3=>q H' h1 h2 h3)⟩⟩⟩));have e:cy S c (H_,[r,n])=ox S c r n:=by kernel_rfl
    rw[e];exact M1
   | put=>exact absurd (show ("put" : Str) = "look" from h) dk
   | add=>exact absurd (show ("add" : Str) = "look" from h) dk
   | set=>exact absurd (show ("set" : Str) = "look" from h) dk
   | swap=>exact absurd (show ("swap" : Str) = "look" from h) dk
   | clear=>exact absurd (show ("clear" : Str) = "look" from h) dk
   | skip=>exact absurd (show ("skip" : Str) = "look" from h) dk
  refine vr xz (dX _ (.ref t.jE) _ (.ref t.jE) (gR _ xz ty xz c6.akh (tk (bG (λh=>?_) λn5=>?_))))
  .cases g with
   | swap r n g1 g2=>
    have hz:H z=a_ (.ins (da t I_) dz (dY (.ref a) I_ ([r,n].map λ(n:Nat)=>V.int (n:Int)))):=hz;rw[EH]at hz;refine vM xz hm (G.ms _ dk) (vr xz (vr xz ⟨m,⟨A,S,c,k,z,dz,a,r,n,lab,xz,M,L,W,jr,hk,hz,g1,g2,λH1 M1 k1 l1=>⟨xz,?_,k1,(l1.lam hL),(λσ' H' h1 h2 h3=>q H' h1 h2 h3)⟩⟩⟩));have e:cy S c (I_,[r,n])=qg S c r n:=by kernel_rfl
    rw[e];exact M1
   | put=>exact absurd (show ("put" : Str) = "swap" from h) dk
   | add=>exact absurd (show ("add" : Str) = "swap" from h) dk
   | set=>exact absurd (show ("set" : Str) = "swap" from h) dk
   | look=>exact absurd (show ("look" : Str) = "swap" from h) dk
   | clear=>exact absurd (show ("clear" : Str) = "swap" from h) dk
   | skip=>exact absurd (show ("skip" : Str) = "swap" from h) dk
  have e:cy S c st=S:=by
   unfold cy;rw[if_neg n1,if_neg n2,if_neg n3,if_neg n4,if_neg n5]
  exact⟨xz,(by rw[e];exact M),(aY.refl H),hL,(λσ' H' h1 h2 h3=>q H' h1 h2 h3)⟩
end
def Ni:List V->Bool
 | .str _::r=>r.all tS
 | _=>d_
def Vv:∀is:List Int,(is.map V.int).all tS=c_
 | []=>rfl
 | i::is=>by rw[gq,Ba,Vv is];rfl
def ahg(mv:Mv):Ni (sh mv)=true:=Vv mv.2
def tR(mv:Mv):PyData:=.tuple (.str mv.1::mv.2.map Eh)
def Up:∀l m:List Int,A' (l.map Eh) (m.map Eh)=decide (l=m)
 | [],[]=>by simp[A']
 | [],_::_=>by simp[A']
 | _::_,[]=>by simp[A']
 | a::l,b::m=>by
  rw[gq,gq];simp only[A',sW];rw[Up l m]
  by_cases h1:a=b
  .subst h1
   by_cases h2:l=m
   .subst h2;simp
   .simp[h2]
  .simp[h1]
def ai8(a b:Mv):sW (tR a) (tR b)=decide (a=b):=by
 obtain⟨x,is⟩:=a;obtain⟨y,js⟩:=b;unfold tR;simp only[sW,A'];rw[Up]
 by_cases h1:x=y
 .subst h1
  by_cases h2:is=js
  .subst h2;simp
  .simp[h2]
 .simp[h1]
def ajr(l:List Mv)(b:Mv):(l.map tR).any (λd=>sW d (tR b))=decide (b∈l):=by
 induction l with
 | nil=>simp
 | cons a l ih=>
  rw[gq,sS,ih,ai8]
  by_cases h:a=b
  .subst h;simp
  .have h':¬b=a:=λz=>h z.symm;simp[h,h']
def SQ(h:Jp mv.1=c_):shaped (tR mv)=true:=by
 unfold tR shaped;rw[lK];refine⟨?_,decide_eq_true ?_⟩
 .simp only[Ja,A1];rw[h,D5];exact Sg λa _=>rfl
 .have h:=S9 (f:=Eh) (k:=1) (l:=mv.2) (λa _=>by simp[PyData.depth]);simp only[PyData.depth,IP];lia
def Sd{K:u_}:∀is:List Int,lQ K H (is.map V.int) (is.map Eh)
 | []=>.nil
 | i::is=>.cons (.int i) (Sd is)
def We{K:u_}(h:H p=a_ (.tup (sh mv))):k8 K H (.ref p) (tR mv):=.tup (aD.of h) (.cons (.str mv.1) (Sd mv.2))
section
variable{t:aW}{C CT:e_}{u:mm}
def VQ:Sp:=λvs H Q _=>∃p xs,vs=[.ref p]/\H p=a_ (.tup xs)/\(∀x∈xs,∃T,tyName H x=a_ T)/\xs.length<=1000/\∀H',af H H'->Q (.bl (Ni xs)) H'
def aia:ba ["move"] ["move"] (aS MO):=bj
def afk:(zLw:List Str).Nodup:=dk
def ag4(F:aQ K "has_form_of_move" "has_form_of_move" MO f fd)(T:rO K mg t):aG P w K mg base aI 2 f fd ["move"] VQ:=by
 have GW:aG P w K mg base aI 1 t.fW t.sk [ap7] K1:=T9 T.OD T.bl;refine F.ok aia λaJ A _ s H vs Q E hr h=>?_
 .obtain⟨a,xs,aa,ha,uc,hl,k⟩:=h;subst aa;have B:=T.bl
  refine let b:TS:=_;⟨_,ar (b8 (PW.pt (pw_or (ou (gu (bU iZ xz B.iO jd (ab (pv 0) (ab (pY (v:=.ty Y_) xz B.tuple rj xz) ag))))) (pw_or (bM c7 (bU eU xz B.len q_ (ab (pv 0) ag)) aw (bJ _)) (pw_or1 (ou (gu (bU iZ xz B.iO jd (ab (aP cc (pv 0) aw) (ab (pY (v:=.ty "str") xz B.str boot_str xz) ag))))))))) (av (aZ jU)) cp) (pR b (av (aZ (bU (EN xz) xz B.all boot_all (ab (iJ (N:=["part"]) (idx:=[]) xz (dw.of (by kernel_rfl)) (iG (a8 _))
    (ow (Bs VT (pv 0) (By aw) Bz))
    (λ_ _ _ _=>bA (i:=0) afk xz (aE xz) (.inr xz))
    (λ_ _ _ _=>i3)
    λ_ _ _ _=>mQ GW hr xz T.mW T.OD.kp T.bW .nil c9 (ab (pv 0) ag)) ag))))),?_⟩
  have hT:=Eb ha;refine vr xz (dX _ _ _ _ (gR _ xz (oS hT) xz (oK hT qc) (au _ xz (eW ?_))));cases xs with
  | nil=>
   refine vr xz (dP a ([]) xz (.inr (aD.of ha)) ⟨xz,⟨_,xz,bG (λe=>?_) λn0=>absurd xz n0⟩⟩);exact jW (k H (af.refl H))
  | cons y ps=>
   refine vr xz (dP a (y::ps) xz (.inr (aD.of ha)) ⟨xz,⟨_,xz,bG (λe=>?_) λn0=>?_⟩⟩)
   .injection e with e
    exact absurd e (by simp only[fR];lia)
   refine oE (uc y du) λTy hy=>gH (v:=y) (j:=0) xz ha xz (dX _ _ _ _ (gR _ xz (oS hy) xz (oK hy qc) (au _ xz (Nf (λh1=>?_) λh1=>?_))))
   .have e:Ni (y::ps)=false:=by
     cases y with
     | str x=>exact absurd ((Fs hy).mpr ⟨x,xz⟩) (by rw[h1];exact dU)
     | _=>rfl
    have q:=k H (af.refl H);rw[e]at q;exact q
   refine oE ((Fs hy).mp h1) λx0 e0=>?_;subst e0;have k:∀H',af H H'->Q (.bl (ps.all tS)) H':=k;refine au _ xz (au 1 xz ⟨a,⟨_,xz,aD.of ha,?_,λq hq=>?_⟩⟩)
   .intro z;have z1:=z.1;rw[NU]at z1;cases z1
   rw[N7];have s2:af H (upd H q (.tup ps)):=aB (af.refl H) hq;have ud:upd H q (.tup ps) q=a_ (.tup ps):=ao;generalize upd H q (.tup ps)=H3 at s2 ud ⊢;have lx:ps.length<=1000:=by rw[fR]at hl;lia
   refine dJ q xz ⟨_,aD.of ud⟩ (gr (n:=ps.length) (λi ys H'=>i<=ps.length/\H'=H3/\ys=(ps.take i).map λz=>V.bl (tS z)) (cY (eh w0)) (eJ (a8 _) xz xz) ?_ ?_ ?_ ?_ ?_)
   .rintro i ys H' ⟨_,_,e⟩;rw[e,aL,gm];exact xl
   .rintro i ys H' hi ⟨_,rfl,_⟩;exact f7 _ _ (aD.of ud) (aM hi)
   .rintro ys H' ⟨_,rfl,_⟩;exact au _ (aD.of ud) (aA _)
   .rintro i ys H' hi ⟨_,rfl,e⟩ z iF ⟨eH,fj⟩;subst eH;have hz:=fj _ (aD.of ud);refine oE (uc z (eL _ (bu hz))) λTx PN=>?_;have Ot:=Rw s2 PN;dsimp only[ng,i6];rw[if_pos rfl];refine vr xz (⟨z,Tx,xz,Ot,hi,xz,?_⟩);rw[jv,hz,fv,<-e];rfl
   .rintro ys H' ⟨_,rfl,e⟩;refine⟨?_,λr dR=>?_⟩
    .rw[e,aL,gm];have:=eh (n:=ps.length) w0;lia
    have ey:ys=(ps.map tS).map V.bl:=by
     rw[e,jP (aA _),uD];rfl
    refine dP r (ps.map tS) xz (aj.of (by rw[ao,ey])) ?_;rw[Be];exact k _ (aB s2 dR)
end
def gF(S:Mc)(mv:Mv):Mc:=if mv.1 = "do" then tY S (mv.2.getD 0 0).toNat else jT S (mv.2.getD 0 0).toNat (mv.2.getD 1 0).toNat
def yT(h:mv∈jg S):(∃c:Nat,mv=(("do" : Str),[(c:Int)])/\c<S.ck.length/\xo S c=c_)\/(∃(c:Nat) (k:Ck) (n:Int),mv=((Z_ : Str),[(c:Int),n])/\S.ck[c]?=a_ k/\n∈iy S.kd k.es):=by
 unfold jg at h;rcases dH.mp h with h | h
 .left
  unfold vt at h;refine aq (eM.mp h) λc hc aa=>?_;subst aa;exact oA (jw.mp hc) λh1 h2=>dJ c xz (nW.mp h1) h2
 .right
  unfold iY vw at h;refine aq (yA.mp h) λaa hx hm=>?_;obtain⟨k,c⟩:=aa;unfold BX at hm;refine aq (eM.mp hm) λn hn aa=>?_;subst aa;have hc:S.ck[c]?=a_ k:=Qf.mp hx;exact⟨c,k,n,xz,hc,hn⟩
def SR(h:mv∈jg S):Jp mv.1=true:=by
 rcases yT h with ⟨c,rfl,_,_⟩ | ⟨c,k,n,rfl,_,_⟩
 .show Jp "do" = c_;decide +kernel
 .show Jp Z_ = c_;decide +kernel
def Ku(W:ip S)(hc:c<S.ck.length)(h:xo S c=c_):∃k p s sz,S.ck[c]?=a_ k/\S.ps[c]?=a_ p/\p[k.pl]?=a_ s/\cG sz s:=by
 have hk:S.ck[c]?=a_ S.ck[c]:=aM hc;refine cJ (W.part hk) λp hp _ _ hg=>?_;rw[E3 hk hp]at h;unfold oJ at h;cases e:p[S.ck[c].pl]? with
 | none=>rw[e]at h;cases h
 | some s=>exact⟨_,p,s,_,hk,hp,e,hg s (bu e)⟩
def aiE(mv:Mv):∀x∈sh mv,∃T,tyName H x=a_ T:=by
 intro x hx;unfold sh at hx;rcases bX.mp hx with e | e
 .rw[e];exact⟨_,xz⟩
 .refine aq (eM.mp e) λi _ aa=>?_;subst aa;exact⟨_,xz⟩
def aiF(h:mv∈jg S):(sh mv).length<=1000:=by
 rcases yT h with ⟨c,rfl,_⟩ | ⟨c,k,n,rfl,_⟩ <;> simp[sh]
section
variable{t:aW}{C CT:e_}{u:mm}
def NO(t:aW)(C CT PT:e_):Sp:=λvs H Q _=>∃m A S p mv lab,vs=[.ref m,.ref p]/\bf t C CT H m A S/\jn lab m A/\ip S/\Al S/\cQ PT LP LQ H/\H p=a_ (.tup (sh mv))/\mv∈jg S/\
 ∀H',bf t C CT H' m A (gF S mv)->aY (cq m A) H H'->cQ PT LP LQ H'->Q .aN H'
def aj2:ba [U_,"move"] [U_,"move"] (aS NT):=bj
def af8{k:Nat}(r:eG k A):A.units+65<cLine:=by have:=r.un;lia
def afN{K:u_}(h:Paired (jH H) vs l):lQ K H vs (l.map tR):=Ta (F:=jH H) (λv a q=>by
 obtain⟨p,rfl,q⟩:=q;exact We q) h
def ait{f PT:e_}(F:aQ K "do" "Machine.do" NT f fd)(cM:fh K C)
  (DF:Dp P w K mg base 2 "has_form_of_move" ["move"] VQ)
  (DM:Mt P w K mg base C 4 "moves" zLc (K2 t C CT PT))
  (DS:Mt P w K mg base C 6 "do_step" zLb (TC t C CT PT))
  (DC:Mt P w K mg base C 4 Z_ zLo (K7 t C CT PT)):aG P w K mg base aI 7 f fd [U_,"move"] (NO t C CT PT):=by
 refine F.ok aj2 λaJ A _ s H vs Q E hr h=>?_
 .refine mG h λm A S p mv lab aa M L W aT=>?_;subst aa;obtain⟨jr,xB,Z0,jO,q⟩:=aT;have iq:=hr.mono (show 2<=6 by decide);have qN:=hr.mono (show 4<=6 by decide);refine let e:TS:=_;let o:TS:=_;let r:TS:=_;⟨_,ar (b8 (PW.pt (pw_or (ou (gu (dO DF iq xz (ab (pv 1) ag)))) (pw_or1 (bM (adF (af8 hr)) (pv 1) (lM (pv 0) cM.cl DM qN) xz)))) sX cp) (pR r (av (b8 (bM c7 (aP cc (pv 1) aw) cR (bJ _)) (pR e (av (cX (jh (pv 0) cM.cl DS hr (ab (aP cc (pv 1) aw) ag))))) (pR o (av (cX (jh (pv 0) cM.cl DC qN (ab (aP cc (pv 1) aw) (ab (aP cc (pv 1) aw) ag))))))))),?_⟩;refine vr xz (⟨p,_,xz,Z0,(aiE mv),(aiF jO),(λH1 s1=>(au _ xz ?_))⟩);rw[ahg];have M1:=M.same s1;refine bQ (id M1.obj) λdx fs hm G=>eW (vr xz (vM xz hm (G.ms _ dk) (pU m A S xz M1 W (lL xB s1) λH2 l vs k2 lE hn lx nF=>?_)));have vS:=k2.B2 _ _ (s1 _ _ Z0);refine⟨l,vs,_,(⟨_,xz,(aj.of lx),(afN nF),(We vS),(SQ (SR jO)),(λd hd=>?_),(au _ xz ?_)⟩)⟩
  .refine aq (eM.mp hd) λa ha aa=>?_;subst aa;exact SQ (SR ha)
  rw[if_pos xz,ajr];have k02:=(aY.of s1).trans k2
  .rw[decide_eq_true jO];refine eW ?_;have M2:=M1.oz k2;refine bQ (id M2.obj) λyo qB ja G3=>?_;have kk:∀H',aY (cq m A) H2 H'->aY (cq m A) H H':=λH' k=>(k02.mono λb z=>z.elim).trans k;rcases yT jO with ⟨c,rfl,hc,jo⟩ | ⟨c,k,n,rfl,hk,ky⟩
   .refine lN (Ku W hc jo) λk pt st sz hk aa=>de aa λxZ cB g=>gH (j:=0) xz vS xz ⟨xz,⟨_,xz,bG (λ_=>?_) λy=>absurd xz y⟩⟩;exact vM xz ja (G3.ms _ dk) (gH (j:=1) xz vS xz (⟨m,A,S,c,k,pt,st,sz,lab,xz,M2,L,W,jr,(⟨lE,hk,xZ,cB,g,(λH3 M3 k3 uk=>q H3 M3 (kk _ k3) uk)⟩)⟩))
   .refine aq (M.vm hk) λx hx T=>a7 (JU T.wf ky) λi hi aa _=>?_;subst aa;exact gH (j:=0) xz vS xz ⟨xz,⟨_,xz,bG (λy=>absurd (show (Z_ : Str) = "do" from NL y) dk) λ_=>vM xz ja (G3.ms _ dk) (gH (j:=1) xz vS xz (gH (j:=2) xz vS xz (⟨m,A,S,c,k,i,lab,xz,M2,L,lE,hk,ky,hi,(⟨W.bd,W.ov,jr,(λH3 M3 k3 uk=>q H3 M3 (kk _ k3) uk)⟩)⟩)))⟩⟩
end
structure gc(n:Nat)(S:Mc):Prop where
 wf:ip S
 ac:S.ac.length<=n
 ov:∀o∈S.ov,o.length<=n
def gc.YF(W:gc n S)(h:n<=16000):Al S:=λo ho=>cu (W.ov o ho) h
structure qG(n:Nat)(nm:Option Nat)(S S':Mc)(c:Nat)(k k':Ck):Prop where
 ck:S'.ck=S.ck.set c k'
 ps:S'.ps=S.ps
 kd:S'.kd=S.kd
 rg:k'.rg.length=k.rg.length
 bd:S'.bd.length=S.bd.length
 GC:S'.ov.length=S.ov.length
 GR:S.ac.length<=S'.ac.length
 GQ:S'.ac.length<=S.ac.length+1
 es:k'.es.length<=S'.ac.length
 ov:∀o∈S'.ov,o.length<=n+1
 en:∀e∈k'.es,e∈k.es\/∃i:Nat,nm=a_ i/\e.n=(i:Int)
def agO(W:gc n S)(i:Nat):(S.ov.getD i []).length<=n:=by
 cases h:S.ov[i]? with
 | none=>rw[gg,h];exact a8 _
 | some o=>rw[gg,h];exact W.ov o (bu h)
def V3(W:gc n S):∀o∈S.ov.set i (S.ov.getD i []++[d]),o.length<=n+1:=by
 intro o ho;rcases Ik ho with h | h
 .exact wm (W.ov o h)
 .rw[h,bL];exact wt (agO W i)
def MW(W:gc n S):∀o∈S.ov,o.length<=n+1:=λo ho=>wm (W.ov o ho)
def afL(es:List Ent)(n:Int):(ji es n).length<=es.length:=List.length_eraseP_le
def adu{α:Type}{l:List α}{c:Nat}{k:α}(h:l[c]?=a_ k):l.set c k=l:=by
 refine oE (bK.mp h) λhc e=>?_;rw[<-e];exact List.set_getElem_self hc
section
variable{S:Mc}{n c:Nat}{k:Ck}{nm:Option Nat}
def Um(W:gc n S)(hk:S.ck[c]?=a_ k):qG n nm S S c k k:=⟨(adu hk).symm,xz,xz,xz,xz,xz,aA _,jy _,W.wf.es k (bu hk),MW W,λe he=>.inl he⟩
def E6(h:qG n nm S S' c k k')(hc:c<S.ck.length)(r:Nat)(v:Int):qG n nm S (f6 S' c r v) c k { k' with rg:=k'.rg.set r v }:=by
 have e:S'.ck[c]?=a_ k':=by rw[h.ck];exact gC hc
 rw[L8 e];exact⟨by show S'.ck.set c _=_;rw[h.ck,Jq],h.ps,h.kd,by show (k'.rg.set r v).length=_;rw[mD];exact h.rg,h.bd,h.GC,h.GR,h.GQ,h.es,h.ov,h.en⟩
def SY(W:gc n S)(h:qG n nm S S' c k k')(jr:S'.ov=S.ov)(hc:c<S.ck.length)(i:Nat):∃xS,qG n nm S (jT S' c i) c k xS/\xS.pl=k'.pl/\xS.ct=k'.ct:=by
 have e:S'.ck[c]?=a_ k':=by rw[h.ck];exact gC hc
 unfold jT;rw[e];dsimp only;cases (cA k'.es i).head? with
 | none=>exact⟨k',h,xz,xz⟩
 | some x=>
  refine dJ ({ k' with es:=ji k'.es i }) ⟨by show S'.ck.set c _=_;rw[h.ck,Jq],h.ps,h.kd,h.rg,?_,?_,h.GR,h.GQ,cu (afL _ _) h.es,?_,λe he=>h.en e (List.mem_of_mem_eraseP he)⟩ xz xz
  .show (S'.bd.set i x.num).length=_;rw[mD];exact h.bd
  .show (S'.ov.set i (S'.ov.getD i []++[x.d])).length=_;rw[mD];exact h.GC
  .show ∀o∈S'.ov.set i (S'.ov.getD i []++[x.d]),o.length<=n+1;rw[jr];exact V3 W
def ahG{sz:Nat}(W:gc n S)(g:cG sz s)(hk:S.ck[c]?=a_ k):∃k',qG n (if s.1 = l_ then s.2.head? else b_) S (cy S c s) c k k'/\k'.pl=k.pl/\k'.ct=k.ct:=by
 have hc:c<S.ck.length:=(bK.mp hk).1;have f0:=λnm=>Um (nm:=nm) W hk;cases g with
 | put r m h1 h2=>exact⟨_,E6 (f0 _) hc _ _,xz,xz⟩
 | add r o h1 h2=>
  have e:cy S c (W_,[r,o])=f6 S c r ((k.rg.getD r 0+k.rg.getD o 0)%k7):=by
   unfold cy;rw[if_neg (show ¬(W_ : Str) = T_ from dk),if_pos xz,hk];rfl
  rw[e];exact dJ _ (E6 (f0 _) hc _ _) xz xz
 | set i r h1 h2=>
  have e:cy S c (l_,[i,r])=setM S c i r:=by kernel_rfl
  rw[e];unfold setM;rw[hk];dsimp only
  have f1:qG n (a_ i) S (gX (xp S c i k (k.rg.getD r 0)) ⟨l_,c,i,b_,a_ (k.rg.getD r 0),b_⟩) c k { k with tn:=k.tn+1,es:=k.es++[⟨k.tn,i,k.rg.getD r 0,S.ac.length⟩] }:=by
   refine⟨xz,xz,xz,xz,xz,xz,?_,?_,?_,λo ho=>MW W o ho,λe he=>?_⟩
   .show S.ac.length<=(S.ac++[_]).length;rw[bL];exact Dy _ _
   .show (S.ac++[_]).length<=_;rw[bL];exact aA _
   .show (k.es++[_]).length<=(S.ac++[_]).length;rw[bL,bL];exact wt (W.wf.es k (bu hk))
   .exact(dH.mp he).imp id λz=>⟨i,xz,by rw[cD.mp z]⟩
  rw[show (if ((l_,[i,r]):Tl).1 = l_ then ((l_,[i,r]):Tl).2.head? else b_)=a_ i by kernel_rfl]
  split
  .exact a7 (SY W f1 xz hc i) λxS f2 e1 e2=>dJ xS f2 e1 e2
  .exact dJ _ f1 xz xz
 | look r i h1 h2=>
  have e:cy S c (H_,[r,i])=f6 (gX S ⟨H_,c,i,a_ (cI S k i).1,b_,(cI S k i).2⟩) c r (cI S k i).1:=by
   unfold cy;rw[if_neg (show ¬(H_ : Str) = T_ from dk),if_neg (show ¬(H_ : Str) = W_ from dk),if_neg (show ¬(H_ : Str) = l_ from dk),if_pos rfl];show ox S c r i=_;unfold ox;rw[hk]
  rw[e]
  have f1:∀nm,qG n nm S (gX S ⟨H_,c,i,a_ (cI S k i).1,b_,(cI S k i).2⟩) c k k:=by
   refine λnm=>⟨(f0 b_).ck,xz,xz,xz,xz,xz,?_,?_,?_,λo ho=>MW W o ho,λe he=>.inl he⟩
   .show S.ac.length<=(S.ac++[_]).length;rw[bL];exact Dy _ _
   .show (S.ac++[_]).length<=_;rw[bL];exact aA _
   .show k.es.length<=(S.ac++[_]).length;rw[bL];exact wm (W.wf.es k (bu hk))
  exact dJ _ (E6 (f1 _) hc _ _) xz xz
 | swap r i h1 h2=>
  have e:cy S c (I_,[r,i])=f6 (gX (oq S i (k.rg.getD r 0) S.ac.length) ⟨I_,c,i,a_ (S.bd.getD i 0),a_ (k.rg.getD r 0),(S.ov.getD i []).getLast?⟩) c r (S.bd.getD i 0):=by
   unfold cy;rw[if_neg (show ¬(I_ : Str) = T_ from dk),if_neg (show ¬(I_ : Str) = W_ from dk),if_neg (show ¬(I_ : Str) = l_ from dk),if_neg (show ¬(I_ : Str) = H_ from dk),if_pos rfl];show qg S c r i=_;unfold qg;rw[hk]
  rw[e]
  have f1:∀nm,qG n nm S (gX (oq S i (k.rg.getD r 0) S.ac.length) ⟨I_,c,i,a_ (S.bd.getD i 0),a_ (k.rg.getD r 0),(S.ov.getD i []).getLast?⟩) c k k:=by
   refine λnm=>⟨(f0 b_).ck,xz,xz,xz,?_,?_,?_,?_,?_,?_,λe he=>.inl he⟩
   .show (S.bd.set i _).length=_;rw[mD]
   .show (S.ov.set i _).length=_;rw[mD]
   .show S.ac.length<=(S.ac++[_]).length;rw[bL];exact Dy _ _
   .show (S.ac++[_]).length<=_;rw[bL];exact aA _
   .show k.es.length<=(S.ac++[_]).length;rw[bL];exact wm (W.wf.es k (bu hk))
   .exact V3 W
  exact dJ _ (E6 (f1 _) hc _ _) xz xz
 | clear=>
  have e:cy S c (M_,[])=S:=by kernel_rfl
  rw[e];exact dJ k (f0 _) xz xz
 | skip r q h1 h2 h3=>
  have e:cy S c (Q_,[r,q])=S:=by kernel_rfl
  rw[e];exact dJ k (f0 _) xz xz
def aiY(W:gc n S)(hn:n<15000)(h:qG n nm S S' c k k')(hk:S.ck[c]?=a_ k)(dG:∀p,S.ps[c]?=a_ p->k'.pl<=p.length):gc (n+1) S':=by
 have eT:=W.ac;have h2:=h.GQ;have h1:=h.GR;have hc:c<S.ck.length:=(bK.mp hk).1;refine⟨⟨by rw[h.ps];exact W.wf.good,by rw[h.ck,mD,h.ps];exact W.wf.len,by rw[h.bd];exact W.wf.bd,by rw[h.GC];exact W.wf.ov,?_,?_,li,?_⟩,li,h.ov⟩
 .intro x hx;rw[h.ck]at hx;rcases Ik hx with y | y
  .exact W.wf.rg x y
  .rw[y,h.rg];exact W.wf.rg k (bu hk)
 .intro i x p hx hp;rw[h.ps]at hp;rw[h.ck]at hx
  by_cases e:c=i
  .subst e;rw[gC hc]at hx;cases hx;exact dG p hp
  .rw[lG e]at hx;exact W.wf.pl i x p hx hp
 .intro x hx;rw[h.ck]at hx;rcases Ik hx with y | y
  .exact cu (W.wf.es x y) h1
  .rw[y];exact h.es
def aeo{s:Tl}{rg:List Int}{pl:Nat}{p:Pt}(g:cG p.length s)(h:pl<p.length):ig s rg pl<=p.length:=by
 unfold ig
 split
 .rename_i hs
  cases g with
  | skip r q h1 h2 h3=>exact h2
  | put=>exact absurd (show ("put" : Str) = "skip" from hs.1) dk
  | add=>exact absurd (show ("add" : Str) = "skip" from hs.1) dk
  | set=>exact absurd (show ("set" : Str) = "skip" from hs.1) dk
  | look=>exact absurd (show ("look" : Str) = "skip" from hs.1) dk
  | swap=>exact absurd (show ("swap" : Str) = "skip" from hs.1) dk
  | clear=>exact absurd (show ("clear" : Str) = "skip" from hs.1) dk
 .exact h
def Kv(W:gc n S)(h:mv∈jg S):∃(c:Nat) (k k':Ck) (nm:Option Nat) (p:Pt),S.ck[c]?=a_ k/\S.ps[c]?=a_ p/\qG n nm S (gF S mv) c k k'/\((nm=b_/\k'.pl=k.pl)\/∃s rg,p[k.pl]?=a_ s/\cG p.length s/\nm=(if s.1 = l_ then s.2.head? else b_)/\k'.pl=ig s rg k.pl/\(k.es=[]\/jD s=d_)):=by
 rcases yT h with ⟨c,rfl,hc,jo⟩ | ⟨c,k,i,rfl,hk,ky⟩
 .refine lN (Ku W.wf hc jo) λk p s _ hk aa=>de aa λhp hs _=>cJ (W.wf.part hk) λp' AB _ _ hg=>?_;have ep:p'=p:=by rw[hp]at AB;exact(cE AB).symm
  subst ep;have g:=hg s (bu hs);refine a7 (ahG W g hk) λk' f e1 e2=>?_
  have e:gF S ("do",[(c:Int)])=qu (cy S c s) c s:=by
   unfold gF;rw[if_pos rfl];show tY S ((c:Int)).toNat=_;rw[di];unfold tY;rw[hk,hp];dsimp only;rw[hs]
  rw[e];have ec:(cy S c s).ck[c]?=a_ k':=by rw[f.ck];exact gC hc
  refine⟨c,k,{ k' with pl:=ig s k'.rg k'.pl,ct:=k'.ct+1 },(if s.1 = l_ then s.2.head? else b_),p',hk,hp,?_,.inr ⟨s,k'.rg,hs,g,xz,by rw[<-e1],?_⟩⟩
  .unfold qu;rw[ec];exact⟨by show (cy S c s).ck.set c _=_;rw[f.ck,Jq],f.ps,f.kd,f.rg,f.bd,f.GC,f.GR,f.GQ,f.es,f.ov,f.en⟩
  .rw[E3 hk hp]at jo;unfold oJ at jo;rw[hs]at jo;simpa using jo
 .have hc:c<S.ck.length:=(bK.mp hk).1
  have e:gF S (Z_,[(c:Int),i])=jT S c i.toNat:=by
   unfold gF;rw[if_neg (show ¬(Z_ : Str) = "do" from dk)];show jT S ((c:Int)).toNat _=_;rw[di];rfl
  rw[e];exact a7 (SY (nm:=b_) W (Um W hk) xz hc i.toNat) λxS f e1 e2=>cJ (W.wf.part hk) λp' AB _ _ hg=>⟨c,k,xS,b_,p',hk,AB,f,.inl ⟨xz,e1⟩⟩
def Vc(W:gc n S)(hn:n<15000)(h:mv∈jg S):gc (n+1) (gF S mv):=by
 obtain⟨c,k,k',nm,p,hk,hp,f,o⟩:=Kv W h;refine aiY W hn f hk λq hq=>?_;rw[hp]at hq;cases hq;rcases o with ⟨_,e⟩ | ⟨s,rg,hs,g,_,e,_⟩
 .rw[e];exact W.wf.pl c k p hk hp
 .rw[e];exact aeo g (bK.mp hs).1
end
def aiz(g:kU ps):gc 0 (qq kd ps):=by
 refine⟨⟨g,by show (ps.map _).length=_;rw[aL];rfl,by show (cW 12 (0:Int)).length=12;rfl,by show (cW 12 ([]:List Int)).length=12;rfl,?_,?_,a8 _,?_⟩,aA _,?_⟩
 .intro k hk;refine aq (eM.mp hk) λ_ _ aa=>?_;subst aa;rfl
 .intro c k p hk hp;have:k∈(ps.map λ_=>k0):=bu hk;refine aq (eM.mp this) λ_ _ aa=>?_;subst aa;exact a8 _
 .intro k hk;refine aq (eM.mp hk) λ_ _ aa=>?_;subst aa;exact aA _
 .intro o ho;rw[Qm ho];exact aA _
def ahq:∀{l:List Ent} {z:Ent},l.Pairwise (λe f=>e.d<f.d)->l.getLast?=a_ z->∀x∈l,x.d<=z.d:=λ{l z} p h x hx=>by
 have dr:l≠[]:=λe=>by rw[e]at h;cases h
 rw[aad dr]at h;have ho:l=l.dropLast++[z]:=by rw[<-cE h,Qg]
 rw[ho]at p hx;rcases dH.mp hx with q | q
 .exact Int.le_of_lt ((yu.mp p).2.2 x q z du)
 .rw[cD.mp q];exact Int.le_refl _
section
variable{mk:Nat->Nat->Nat}{aU:List Nat}{T:Int->Nat}{B now:Nat}{S S':Mc}{c n:Nat}{k:Ck}
def Jn.qy(J:Jn mk aU T B now S)(n:Nat):nextM (S.ov.getD n []) (S.ov.getD n []).getLast?=none:=adU (J.vD n).1 (λ_ h=>je _ h) (λ_ _ h g=>Nat.lt_asymm h g)
def Jn.set(J:Jn mk aU T B now S)(h:now+1<B)(hk:S.ck[c]?=a_ k)(hp:S.ps[c]?=a_ p)(hs:s∈p)(hb:kP s=a_ n)(hq:q<p.length)(hn:n<12) :
  Jn mk (aU++[q]) (kX T (S.ac.length:Int) B) B (now+1) (gX (xp S c n k g) ⟨l_,c,n,b_,a_ g,b_⟩):=by
 have hc:c<S.ck.length:=(bK.mp hk).1;have at':(S.ck.set c { k with tn:=k.tn+1,es:=k.es++[⟨k.tn,n,g,S.ac.length⟩] })[c]?=a_ _:=gC hc;refine J.act h (a:=⟨l_,c,n,b_,a_ g,b_⟩) xz xz (λc' k' h'=>?_) ⟨p,hp,hq⟩ (λ_=>⟨p,s,hp,hs,hb⟩) ⟨(bK.mp hp).1,hn,.inl ⟨xz,xz⟩,λ_=>rfl⟩ (λ_ _ h=>h) (.inr ⟨xz,xz,_,at',_,fb _ du,xz⟩) (λc' k' h'=>?_) (λn o ho=>.inl ho) (λi a1 _ _ _ z=>absurd z (je _)) (λz=>absurd xz z) (λz=>absurd xz z) λz=>absurd (show (l_ : Str) = H_ from z) dk
 .by_cases y:c=c'
  .subst y;rw[hk]at h';cases h';exact⟨_,at',λe he=>nN _ he⟩
  .exact⟨k',by show (S.ck.set c _)[c']?=_;rw[lG y];exact h',λe he=>he⟩
 .have h':(S.ck.set c _)[c']?=a_ k':=h'
  by_cases y:c=c'
  .subst y;rw[at']at h';cases h';have z:=J.es c k hk;refine⟨yu.mpr ⟨z.1,Ds _ _,λx hx w hw=>?_⟩,λe he=>?_⟩
   .rw[cD.mp hw];obtain⟨i,a,e1,h1,_⟩:=z.2 x hx;have:=(bK.mp h1).1;show x.d<(S.ac.length:Int);omega
   .rcases dH.mp he with w | w
    .exact .inl ⟨k,hk,w⟩
    .rw[cD.mp w];exact .inr ⟨xz,xz,xz,xz,xz⟩
  .rw[lG y]at h';exact⟨(J.es c' k' h').1,λe he=>.inl ⟨k',h',he⟩⟩
def Jn.look(J:Jn mk aU T B now S)(h:now+1<B)(hk:S.ck[c]?=a_ k)(held:∀e∈k.es,∃m:Nat,e.n=(m:Int)/\(mk c k.pl).testBit m=c_)(hp:S.ps[c]?=a_ p)(hq:k.pl<p.length)(hn:n<12)(v:Int) :
  Jn mk (aU++[k.pl]) (kX T (S.ac.length:Int) now) B (now+1) (gX S ⟨H_,c,n,a_ v,b_,(cI S k n).2⟩):=by
 have z:=J.es c k hk;have nb:=J.nb;refine J.act h (a:=⟨H_,c,n,a_ v,b_,(cI S k n).2⟩) xz xz (λc' k' h'=>⟨k',h',λe he=>he⟩) ⟨p,hp,hq⟩ (λq=>absurd xz q) ⟨(bK.mp hp).1,hn,.inr (.inl ⟨xz,xz⟩),λz=>absurd (show (H_ : Str) = l_ from z) dk⟩ (λ_ _ h=>h) (.inl ⟨qW _,λz=>absurd xz z⟩) (λc' k' h'=>⟨(J.es c' k' h').1,λe he=>.inl ⟨k',h',he⟩⟩) (λn o ho=>.inl ho) (λi a1 h1 _ h2 _=>?_) (λ_ d hd=>?_) (λ_=>?_) λ_ i a1 h1 h2 h3 h4=>?_
 .exact J.done h1 (h2.resolve_right λq=>q xz)
 .have hd:(cI S k n).2=a_ d:=hd;unfold cI at hd;cases e:pZ k.es n with
  | some x=>
   rw[e]at hd;unfold pZ at e;have hm:=(jw.mp (AV e)).1;have hx:=of_decide_eq_true (jw.mp (AV e)).2;obtain⟨i,a,e1,h1,h2,h3,h4,_⟩:=z.2 x hm;cases hd;exact⟨i,a,e1,h1,(by show a.n=n;omega),by rw[h2];decide +kernel,.inr ⟨h2,h3⟩⟩
  | none=>
   rw[e]at hd;obtain⟨g1,i,a,g2,g3,g4,g5⟩:=(J.vD n).2 d (AV hd);exact⟨i,a,g2,g3,g4,g5,.inl g1⟩
 .show nextM (S.ov.getD n []) (cI S k n).2=b_;unfold cI;cases e:pZ k.es n with
  | some x=>
   unfold pZ at e;have hm:=(jw.mp (AV e)).1;obtain⟨i,a,e1,_,_,_,_,h6⟩:=z.2 x hm;cases g:nextM (S.ov.getD n []) (a_ x.d)with
   | none=>rfl
   | some X=>
    have:=((J.vD n).2 x.d (sP (Lx g)).1).1;rw[e1]at this;omega
  | none=>exact J.qy n
 .obtain⟨_,_,k0,g1,e,g2,g3⟩:=(J.od i a1 h1).resolve_left (λz=>by have:=z.1;omega);rw[h3,hk]at g1;cases g1;obtain⟨i',a',e1,q1,q2,q3,q4,q5⟩:=z.2 e g2;have ei:i'=i:=om;subst ei;rw[h1]at q1;cases q1;obtain⟨m,em,hb⟩:=held e g2;have ea:m=a1.n:=om;subst ea;refine⟨hb,λhn=>?_⟩;have hq:e∈cA k.es n:=jw.mpr ⟨g2,decide_eq_true (by rw[q4,hn])⟩;cases el:pZ k.es n with
  | none=>
   unfold pZ at el;rw[aao.mp el]at hq;cases hq
  | some x=>
   have hl:=el;unfold pZ at hl;have hle:=ahq (z.1.filter _) hl e hq;obtain⟨s,a',e2,r1,r2,r3,_⟩:=z.2 x (jw.mp (AV hl)).1;refine⟨s,a',?_,om,r1,r2,r3⟩;show (cI S k n).2=_;unfold cI;rw[el,<-e2]
def Jn.swap(J:Jn mk aU T B now S)(h:now+1<B)(hk:S.ck[c]?=a_ k)(he:k.es=[])(hn:n<S.ov.length)(hp:S.ps[c]?=a_ p)(hs:s∈p)(hb:kP s=a_ n)(hq:q<p.length)(HI:n<12) :
  Jn mk (aU++[q]) (kX T (S.ac.length:Int) now) B (now+1) (gX (oq S n g S.ac.length) ⟨I_,c,n,a_ v,a_ g,(S.ov.getD n []).getLast?⟩):=by
 refine J.act h (a:=⟨I_,c,n,a_ v,a_ g,(S.ov.getD n []).getLast?⟩) xz xz (λc' k' h'=>⟨k',h',λe he=>he⟩) ⟨p,hp,hq⟩ (λ_=>⟨p,s,hp,hs,hb⟩) ⟨(bK.mp hp).1,HI,.inr (.inr ⟨xz,xz⟩),λz=>absurd (show (I_ : Str) = l_ from z) dk⟩ (λ_ _ h=>Wh h) (.inl ⟨qW _,λ_=>(by show (S.ac.length:Int)∈(S.ov.set n _).getD n [];rw[ff (gC hn)];exact fb _ du)⟩) (λc' k' h'=>⟨(J.es c' k' h').1,λe he=>.inl ⟨k',h',he⟩⟩) (λm o ho=>?_) (λi a1 h1 h2 _ _=>?_) (λ_ d hd=>?_) (λ_=>J.qy n) λz=>absurd (show (I_ : Str) = H_ from z) dk
 .have ho:(S.ov.set n _)[m]?=a_ o:=ho
  by_cases y:n=m
  .subst y;rw[gC hn]at ho;cases ho;exact .inr ⟨xz,xz,xz,show (I_ : Str) ≠ H_ by decide +kernel⟩
  .rw[lG y]at ho;exact .inl ho
 .refine((J.od i a1 h1).resolve_right λ⟨_,_,k0,g1,e,g2,_⟩=>?_).1;rw[h2,hk]at g1;cases g1;rw[he]at g2;cases g2
 .obtain⟨g1,i,a,g2,g3,g4,g5⟩:=(J.vD n).2 d (AV hd);exact⟨i,a,g2,g3,g4,g5,.inl g1⟩
def zJ(S:Mc)(mv:Mv):Nat:=(S.ck[(mv.2.getD 0 0).toNat]?.map Ck.pl).getD 0
def xj(aU:List Nat)(S:Mc)(mv:Mv):List Nat:=if S.ac.length<(gF S mv).ac.length then aU++[zJ S mv] else aU
def agF(S:Mc)(c r:Nat)(v:Int):(f6 S c r v).ac=S.ac:=by
 unfold f6;cases S.ck[c]? <;> rfl
def ahA(S:Mc)(c:Nat)(s:Tl):(qu S c s).ac=S.ac:=by
 unfold qu;cases S.ck[c]? <;> rfl
def xN(mk:Nat->Nat->Nat)(aU:List Nat)(B now p l:Nat)(S:Mc):Prop:=∃T' q,(q=aU/\S.ac.length=l\/q=aU++[p]/\S.ac.length=l+1)/\Jn mk q T' B now S
def xN.Ae(h:xN mk aU B now p l S)(c r:Nat)(v:Int):xN mk aU B now p l (f6 S c r v):=by
 obtain⟨T',q,e,J⟩:=h;exact⟨T',q,by rw[agF];exact e,J.Ae c r v⟩
def Jn.eff(J:Jn mk aU T B now S)(h:now+1<B){m sz:Nat}(W:gc m S)(hd:S.kd = P_)(hk:S.ck[c]?=a_ k)(held:∀e∈k.es,∃m:Nat,e.n=(m:Int)/\(mk c k.pl).testBit m=c_)(hp:S.ps[c]?=a_ p)(hs:s∈p)(hq:k.pl<p.length)(g:cG sz s)(he:k.es=[]\/jD s=d_):xN mk aU B (now+1) k.pl S.ac.length (cy S c s):=by
 have J0:xN mk aU B (now+1) k.pl S.ac.length S:=⟨T,aU,.inl ⟨xz,xz⟩,J.amE h⟩;have one:∀a:Act,(S.ac++[a]).length=S.ac.length+1:=λa=>bL;cases g with
 | put r m h1 h2=>exact J0.Ae c _ _
 | add r o h1 h2=>
  unfold cy;rw[if_neg (show ¬(W_ : Str) = T_ from dk),if_pos xz,hk];exact J0.Ae c _ _
 | set i r h1 h2=>
  have e:cy S c (l_,[i,r])=setM S c i r:=by kernel_rfl
  rw[e];unfold setM;rw[hk];dsimp only;rw[if_neg (by rw[hd];decide +kernel)];exact⟨_,_,.inr ⟨xz,one _⟩,J.set h hk hp hs xz hq h1⟩
 | look r i h1 h2=>
  have e:cy S c (H_,[r,i])=ox S c r i:=by kernel_rfl
  rw[e];unfold ox;rw[hk];exact xN.Ae ⟨_,_,.inr ⟨xz,one _⟩,J.look h hk held hp hq h2 _⟩ c r _
 | swap r i h1 h2=>
  have e:cy S c (I_,[r,i])=qg S c r i:=by kernel_rfl
  rw[e];unfold qg;rw[hk];refine xN.Ae ⟨_,_,.inr ⟨xz,one _⟩,J.swap h hk (he.resolve_right λz=>?_) (by rw[W.wf.ov];exact h2) hp hs (by kernel_rfl) hq h2⟩ c r _;rw[SV]at z;cases z
 | clear=>exact J0
 | skip r q h1 h2 h3=>exact J0
def Jn.made(J:Jn mk aU T B now S)(h:now+1<B)(W:gc m S)(hd:S.kd = P_)(held:∀(c:Nat) k,S.ck[c]?=a_ k->∀e∈k.es,∃m:Nat,e.n=(m:Int)/\(mk c k.pl).testBit m=c_)(hm:mv∈jg S) :
  ∃T',Jn mk (xj aU S mv) T' B (now+1) (gF S mv):=by
 rcases yT hm with ⟨c,rfl,hc,jo⟩ | ⟨c,k,i,rfl,hk,ky⟩
 .obtain⟨k,p,s,sz,hk,hp,hs,g⟩:=Ku W.wf hc jo
  have em:gF S (("do" : Str),[(c:Int)])=qu (cy S c s) c s:=by
   unfold gF;rw[if_pos rfl];show tY S ((c:Int)).toNat=_;rw[di];unfold tY;rw[hk,hp];dsimp only;rw[hs]
  have he:k.es=[]\/jD s=false:=by
   rw[E3 hk hp]at jo;unfold oJ at jo;rw[hs]at jo;have jo:(decide (k.es=[]) || !jD s)=true:=jo
   by_cases z:k.es=[]
   .exact .inl z
   .rw[decide_eq_false z,Ri,Bool.not_eq_true']at jo;exact .inr jo
  obtain⟨T',q,e,J'⟩:=J.eff h W hd hk (held c k hk) hp (bu hs) (bK.mp hs).1 g he;refine⟨T',?_⟩;unfold xj zJ;rw[em,ahA];show Jn mk (if _ then aU++[(S.ck[((c:Int)).toNat]?.map Ck.pl).getD 0] else aU) _ _ _ _;rw[di,hk];rcases e with ⟨rfl,e⟩ | ⟨rfl,e⟩
  .rw[if_neg om];exact J'.YT c s
  .rw[if_pos om];exact J'.YT c s
 .cases he:k.es with
  | nil=>rw[hd,he]at ky;cases ky
  | cons e r=>
   rw[hd,he]at ky;have hn:i=e.n:=cD.mp ky;obtain⟨m,em,_⟩:=held c k hk e (by rw[he];exact du);have ei:=hn.trans em;subst ei
   have ec:gF S ((Z_ : Str),[(c:Int),(m:Int)])=oq { S with ck:=S.ck.set c { k with es:=r } } m e.num e.d:=by
    unfold gF;rw[if_neg (show ¬(Z_ : Str) = "do" from dk)];show jT S ((c:Int)).toNat ((m:Int)).toNat=_;rw[di,di];unfold jT;rw[hk]
    have e1:(cA k.es m).head?=a_ e:=by
     unfold cA;rw[he,Qq (p:=λe:Ent=>decide (e.n=(m:Int))) (decide_eq_true em)];rfl
    have e2:ji k.es m=r:=by
     unfold ji;rw[he,List.eraseP_cons_of_pos (p:=λe:Ent=>decide (e.n=(m:Int))) (decide_eq_true em)]
    dsimp only;rw[e1,e2]
   unfold xj;rw[ec];refine⟨kX T e.d now,?_⟩;show Jn mk (if S.ac.length<S.ac.length then aU++[zJ S ((Z_ : Str),[(c:Int),(m:Int)])] else aU) (kX T e.d now) B (now+1) _;rw[if_neg (je _)];obtain⟨i,a,_,ha,_,_,hn,_⟩:=(J.es c k hk).2 e (by rw[he];exact du);have:=(J.ok i a ha).n;exact J.carry h hk he em (by rw[W.wf.ov];omega) xz xz xz xz xz
def Jn.new(hB:0<B):Jn mk [] T B 0 (qq P_ ps):=by
 have no:∀{c:Nat} {k:Ck},(qq P_ ps).ck[c]?=a_ k->k.es=[]:=λ{c k} h=>by
  have:k∈(ps.map λ_=>k0):=bu h;obtain⟨_,_,rfl⟩:=eM.mp this;rfl
 have nv:∀{n:Nat} {o:List Int},(qq P_ ps).ov[n]?=a_ o->o=[]:=λ{n o} h=>Qm (bu h);refine⟨hB,xz,λi a z=>(by cases z),λi a z=>(by cases z),λi a z=>(by cases z),λi a z=>(by cases z),λc k z=>?_,λn o z=>?_,λi j a b _ z=>(by cases z),λj b d z=>(by cases z),λj b X z=>(by cases z),λi j a b _ z=>(by cases z)⟩
 .rw[no z];exact⟨ID,λe he=>by cases he⟩
 .rw[nv z];exact⟨ID,λe he=>by cases he⟩
end
def iB(S:Mc):Nat:=(S.ck.map λk=>k.es.length).sum
def sum_set{α:Type}(f:α->Nat){x y:α}:∀{l:List α} {c:Nat},l[c]?=a_ x->((l.set c y).map f).sum+f x=(l.map f).sum+f y
 | [],_,h=>by simp at h
 | z::l,0,h=>by
  simp at h;subst h;simp only[List.set_cons_zero,gq,D4];lia
 | z::l,c+1,h=>by
  have ih:=sum_set f (y:=y) (l:=l) (c:=c) (by simpa using h);simp only[List.set_cons_succ,gq,D4];lia
def acA{c n:Nat}{k:Ck}(hk:S.ck[c]?=a_ k)(hq:cA k.es n=e::r):iB (jT S c n)<iB S:=by
 have hm:e∈cA k.es n:=by rw[hq];simp
 unfold cA at hm;refine oA (jw.mp hm) λh1 h2=>?_;unfold jT;rw[hk];dsimp only;rw[hq];show ((S.ck.set c { k with es:=ji k.es n }).map λk=>k.es.length).sum<_;have h3:=sum_set (λk:Ck=>k.es.length) (y:={ k with es:=ji k.es n }) hk
 have h4:(ji k.es n).length=k.es.length-1:=by
  unfold ji;exact List.length_eraseP_of_mem h1 h2
 have h5:=List.length_pos_of_mem h1;unfold iB;have h6:({ k with es:=ji k.es n }:Ck).es.length=(ji k.es n).length:=rfl;rw[h6,h4]at h3;lia
def Sf(h:mv∈iY S):∃(c:Nat) (k:Ck) (n:Int),mv=((Z_ : Str),[(c:Int),n])/\S.ck[c]?=a_ k/\n∈iy S.kd k.es:=by
 unfold iY vw at h;refine aq (yA.mp h) λaa hx hm=>?_;obtain⟨k,c⟩:=aa;unfold BX at hm;refine aq (eM.mp hm) λn hn aa=>?_;subst aa;exact⟨c,k,n,xz,(Qf.mp hx),hn⟩
def Q9(h:mv∈iY S):mv∈jg S:=fb _ h
def adh(hwf:∀k∈S.ck,lh k.tn k.es)(h:mv∈iY S):iB (gF S mv)<iB S:=by
 refine gD (Sf h) λc k n aa hk hf=>?_;subst aa;refine a7 (JU (hwf k (bu hk)) hf) λi _ aa aT=>?_;subst aa;refine vE aT λe r hq=>?_;unfold gF;rw[if_neg (show ¬(Z_ : Str) = "do" from dk)];show iB (jT S ((c:Int)).toNat ((i:Int)).toNat)<iB S;rw[di,di];exact acA hk hq
def bf.FL{t:aW}(M:bf t C CT H m A S)(hb:cq m A b):∃o,H b=a_ o/\((∃C dx fs,o=.ins C dx fs)\/∃xs,o=.lst xs):=by
 cases hb with
 | m=>obtain⟨dx,fs,h,_⟩:=M.obj;exact⟨_,h,.inl ⟨_,_,_,xz⟩⟩
 | lt=>exact⟨_,M.lt,.inr ⟨_,xz⟩⟩
 | pl=>exact⟨_,M.pl,.inr ⟨_,xz⟩⟩
 | ct=>exact⟨_,M.ct,.inr ⟨_,xz⟩⟩
 | rg=>exact⟨_,M.rg,.inr ⟨_,xz⟩⟩
 | ce=>exact⟨_,M.ce,.inr ⟨_,xz⟩⟩
 | ac=>obtain⟨vs,h,_⟩:=M.ac;exact⟨_,h,.inr ⟨_,xz⟩⟩
 | cm=>exact⟨_,M.cm,.inr ⟨_,xz⟩⟩
 | rs h=>obtain⟨c,_,q⟩:=pN M.rs h;exact⟨_,q,.inr ⟨_,xz⟩⟩
 | cs h=>obtain⟨c,_,q⟩:=pN M.cs h;exact⟨_,q,.inr ⟨_,xz⟩⟩
 | ts h h2=>
  exact aq (pN M.ts h) λc _ q=>oE (q.there _ h2) λo e=>⟨o,e,q.kinds _ h2 _ e⟩
def bf.NG{t:aW}(M:bf t C CT H m A S):∀k∈S.ck,lh k.tn k.es:=λk hk=>by
 refine oE (pG hk) λi hi=>?_;exact aq (M.vm hi) λx _ T=>T.wf
section
variable{t:aW}{C CT:e_}
def Tu(t:aW)(C CT PT:e_):Sp:=λvs H Q _=>∃m A S lab n,∃J:Mc->Prop,vs=[.ref m]/\bf t C CT H m A S/\jn lab m A/\gc n S/\n+iB S<=10000/\cQ PT LP LQ H/\J S/\(∀T n mv,J T->gc n T->(∀k∈T.ck,lh k.tn k.es)->mv∈iY T->J (gF T mv))/\
 ∀H' l S',J S'->iY S'=[]->ip S'->bf t C CT H' m A S'->aY (cq m A) H H'->Q (.ref l) H'
def Ez:ba [U_,"made","carries"] zLc (aS Li):=bj
def adP{f PT:e_}(F:aQ K "settle" "Machine.settle" Li f fd)(cM:fh K C)(dM:mg "len" = b_)
  (DC:Mt P w K mg base C 3 "carries" zLc (JI t C CT PT))
  (DD:Mt P w K mg base C 7 "do" [U_,"move"] (NO t C CT PT)):aG P w K mg base aI 8 f fd zLc (Tu t C CT PT):=by
 refine F.ok Ez λaJ A _ s H vs Q E hr h=>?_
 .refine fX h λm A S lab n aa=>aha aa λJ aa M L W hn aT=>?_;subst aa;refine oH aT λlam hJ hJs q=>?_;have sF:=hr.mono (show 3<=7 by decide);refine let a:TS:=_;let c:TS:=_;let d:TS:=_;let g:TS:=_;let j:TS:=_;⟨_,ar (bq (i:=1) Ez.nd xz (aE xz) (dW ag)) (pR j (ar (bq (i:=2) Ez.nd xz (aE xz) (lM (pv 0) cM.cl DC sF)) (pR g (ar (EB gn (bM wQ (bU eU xz dM q_ (ab (pv 2) ag)) aw (bJ _)) (pR d (ar (cX (jh (pv 0) cM.cl DD hr (ab (aP cw (pv 2) aw) ag))) (pR c (ar (cX (ik m_ n_ o_ jR (pv 1) (ab (aP cw (pv 2) aw) ag))) (pR a (av (bq (i:=2) Ez.nd xz (aE xz) (lM (pv 0) cM.cl DC sF))))))))) (av (aZ (pv 1))))))),?_⟩;have hsz:=fw;refine⟨qc,λlw nw=>?_⟩;have s0:af H (upd H lw (.lst [])):=aB (af.refl _) nw;have pf:upd H lw (.lst []) lw=a_ (.lst []):=ao
  have ZF:¬cq m A lw:=λz=>by
   refine aq (M.FL z) λo e _=>?_;rw[nw]at e;cases e
  generalize upd H lw (.lst [])=H0 at s0 pf ⊢;refine bQ (id (M.same s0).obj) λdx fs hm G=>vM xz hm (G.ms _ dk) (pU m A S xz (M.same s0) W.wf.four (lL lam s0) λH1 lc cs k1 vA nc hc qR=>⟨λμ σ H2=>∃S' ws lc cs n',σ=[a_ (.ref m),a_ (.ref lw),a_ (.ref lc)]/\μ=iB S'/\J S'/\bf t C CT H2 m A S'/\gc n' S'/\ws.length+iB S'<=iB S/\n'+iB S'<=n+iB S/\cQ PT LP LQ H2/\aY (cq m A) H H2/\H2 lw=a_ (.lst ws)/\H2 lc=a_ (.lst cs)/\¬cq m A lc/\lc≠lw/\Paired (jH H2) cs (iY S'),⟨_,S,[],lc,cs,n,xz,xz,hJ,(M.same s0).oz k1,W,by simp,aA _,vA,(aY.of s0).trans (k1.mono λb z=>z.elim),k1.vo pf,hc,λz=>?_,λz=>?_,qR⟩,?_⟩)
  .refine aq ((M.same s0).FL z) λo e _=>?_;rw[nc]at e;cases e
  .rw[z,pf]at nc;cases nc
  rintro μ σ H2 ⟨S',ws,lc,cs,n',rfl,rfl,hC,M2,W2,ju,hb2,xw,k2,CM,C5,O0,ncw,Yn⟩;have jt:=r_ Yn;refine vr xz (dP lc cs xz (.inl (aj.of C5)) ⟨_,⟨_,xz,xz,_,xz,bG (λbz=>?_) λlC=>?_⟩⟩)
  .have zW:0<cs.length:=li;have h0:cs[0]?=a_ cs[0]:=aM zW;refine aq (kD Yn h0) λmv CV aa=>aq aa λp ep hp=>?_;have jO:=bu CV;have Yk:=Q9 jO;have Z3:=adh M2.NG jO;refine⟨λσ' H'=>∃μ',μ'<iB S'/\∃yp OL Hq cs' ZL,σ'=[a_ (.ref m),a_ (.ref lw),a_ (.ref Hq)]/\μ'=iB yp/\J yp/\bf t C CT H' m A yp/\gc ZL yp/\OL.length+iB yp<=iB S/\ZL+iB yp<=n+iB S/\cQ PT LP LQ H'/\aY (cq m A) H H'/\H' lw=a_ (.lst OL)/\H' Hq=a_ (.lst cs')/\¬cq m A Hq/\Hq≠lw/\Paired (jH H') cs' (iY yp),λσ' H' z=>z,bQ (id M2.obj) λuo qS lu G2=>?_⟩;have hat:gY cs (0:Nat)=a_ (.ref p):=by rw[<-ep];exact cx h0
   refine vM xz lu (G2.ms _ dk) (vr xz (rL (v:=.ref p) (aj.of C5) (hat) (⟨m,A,S',p,mv,lab,xz,M2,L,W2.wf,(W2.YF li),xw,hp,Yk,(λH3 M3 k3 amZ=>?_)⟩)));have xW:=k3.k _ _ ZF (λps z=>by cases z) CM;have hc3:=k3.k _ _ O0 (λps z=>by cases z) C5;refine dJ _ xz (.inl ⟨xz,_,aj.of xW⟩) (vr xz (rL (v:=.ref p) (aj.of hc3) (hat) (pU lw ws (.ref p) xz xz xW (by rw[hsz];lia) ?_)));have k4:aY (λb=>b=lw) H3 (upd H3 lw (.lst (ws++[.ref p]))):=aY.upd rfl;have M4:=M3.Na k4 λb z=>⟨by rw[z];exact ZF,λo e=>by rw[z,xW]at e;cases e;exact⟨_,xz⟩⟩;have X7:=Vf (o:=.lst (ws++[.ref p])) xW amZ;have vU:upd H3 lw (.lst (ws++[.ref p])) lw=a_ (.lst (ws++[.ref p])):=ao;have K4:aY (cq m A) H (upd H3 lw (.lst (ws++[.ref p]))):=⟨λb o h1 h2 e=>k4.k b o (λz=>by rw[z,nw]at e;cases e) h2 (k3.k b o h1 h2 (k2.k b o h1 h2 e)),λb e=>k2.t b (k3.t b (k4.t b e))⟩;generalize upd H3 lw (.lst (ws++[.ref p]))=H4 at k4 M4 X7 vU K4 ⊢;have W4:=Vc W2 li Yk;refine bQ (id M4.obj) λdx4 fs4 kx G4=>vM xz kx (G4.ms _ dk) (pU m A (gF S' mv) xz M4 W4.wf.four X7 λH5 lc5 cs5 k5 amY OZ HQ anL=>⟨_,⟨Z3,gF S' mv,ws++[.ref p],lc5,cs5,n'+1,xz,xz,hJs S' n' mv hC W2 M2.NG jO,M4.oz k5,W4,by rw[bL];simp;lia,li,amY,K4.trans (k5.mono λb z=>z.elim),k5.vo vU,HQ,λz=>?_,λz=>?_,anL⟩⟩)
   .refine aq (M4.FL z) λo e _=>?_;rw[OZ]at e;cases e
   .rw[z,vU]at OZ;cases OZ
  .have e0:iY S'=[]:=ur.mp li;exact vr xz (q H2 lw S' hC e0 W2.wf M2 k2)
end
def IsPart.same(s:af H H')(h:IsPart H v p):IsPart H' v p:=h.keep λ_ _ e=>s _ _ e
def lO.same(s:af H H')(h:lO H v p):lO H' v p:=h.keep λ_ _ e=>s _ _ e
def Paired.at'{α β:Type}{F:α->β->Prop}:∀{l:List α} {m:List β} {i:Nat} {x:α},Paired F l m->l[i]?=a_ x->∃y,m[i]?=a_ y/\F x y
 | _,_,_,_,.nil,h=>by simp at h
 | _,_,0,_,.cons h _,e=>by
  simp only[List.getElem?_cons_zero,wj]at e;subst e;exact⟨_,xz,h⟩
 | _,_,i+1,_,.cons _ t,e=>by
  rw[Qp]at e ⊢;exact Paired.at' t e
def aeR(s:af H H')(h:H l=b_):af H (upd H' l o):=λb u e=>by
 rw[ai (bp e h)];exact s b u e
def aem:pK l_ = a_ (.type l_):=dk
def ah1(P:k_)(w:j_)(K:u_)(hc:X.calm=c_)(h1:X.prog=P:=by rfl)(h2:X.w=w:=by rfl)(h3:X.K=K:=by rfl):jj X (.type l_) (WL P w K):=by subst h1 h2 h3;exact aek hc
def agk(P:k_)(w:j_)(hc:X.calm=c_)(h1:X.prog=P:=by rfl)(h2:X.w=w:=by rfl):jj X (.builtin "sorted") (VZ P w):=by subst h1 h2;exact aca hc
def agi:Sp:=λvs H Q _=>∃a p,vs=[.ref a,.int p]/\∀l,H l=b_->Q (.ref l) (upd H l (.lst [.int (p+1)]))
def agh(K:u_):Sp:=λvs H Q _=>∃a C dx fs p q,vs=[.ref a,.int p]/\H a=a_ (.ins C dx fs)/\dg K C/\bT K C ac2/\fs.lookup (ac2 : Str)=a_ (.int q)/\
 ∀H' l zs,af H H'->H l=b_->H' l=a_ (.lst zs)->dN zs ((ql [p+1,q]).map V.int)->Q (.ref l) H'
def acj:ba zLn zLn (aS Ec):=bj
def ab7(F:aQ K V_ "Skip.nexts" Ec f fd)(hs:mg "sorted" = b_)(ht:mg l_ = b_):aG P w K mg base aI 1 f fd zLn (agh K):=by
 refine F.ok acj λaJ A _ s H vs Q E hr h=>?_
 .obtain⟨a,C,dx,fs,p,q,rfl,ha,cl,na,hl,k⟩:=h;refine⟨_,av (aZ (bU (agk P w xz) xz hs boot_sorted (ab (og (ah1 P w K xz) xz ht aem (ab (dW (ab (br i5 (pv 1) aw) (ab (bC (pv 0) xz) ag))) ag)) ag))),⟨_,xz,_,_,xz,xz,_,xz,a,C,dx,fs,_,xz,ha,cl,na,hl,by show 2<=bw;decide,λl0 n0=>⟨l0,[p+1,q],xz,aj.of ao,by show 2<4000;decide,λb nb=>⟨b,_,xz,ao,?_,λl zs nl hp=>?_⟩⟩⟩⟩
  .have:=T8 [p+1,q];simp only[fR,List.length_nil]at this;omega
  .have s1:af H (upd (upd (upd H l0 (.lst [.int (p+1),.int q])) b (B3 P w b (ql [p+1,q]))) l (.lst zs)):=aB (aB (aB (af.refl _) n0) nb) nl;exact k _ l zs s1 ((aB (aB (af.refl _) n0) nb).free nl) ao hp
def agu:ba zLn zLn (aS EV):=bj
def ae9(F:aQ K V_ "Step.nexts" EV f fd):aG P w K mg base aI 1 f fd zLn agi:=by
 refine F.ok agu λaJ A _ s H vs Q E hr h=>?_
 .obtain⟨a,p,rfl,k⟩:=h;exact⟨_,av (aZ (dW (ab (br i5 (pv 1) aw) ag))),_,xz,_,_,xz,xz,by show 1<=bw;decide,λl nl=>k l nl⟩
structure OK where
 (a6:mm)
 (vK Xc:e_)
 (N1 Mo:jS)
structure vx(K:u_)(mg:Str->Option f_)(t:aW)(u:OK):Prop where
 ob:xq K mg t u.a6
 sorted:mg "sorted" = b_
 set:mg l_ = b_
 amL:aQ K V_ "Step.nexts" EV u.vK u.N1
 OG:Binds K u.N1 zLn []
 ai2:aQ K V_ "Skip.nexts" Ec u.Xc u.Mo
 Nt:Binds K u.Mo zLn []
 akl:Meth K t.jY V_ u.vK
 akm:Meth K t.jZ V_ u.vK
 akk:Meth K t.iM V_ u.vK
 aix:Meth K t.jF V_ u.vK
 aiv:Meth K t.jE V_ u.vK
 ahb:Meth K t.rH V_ u.vK
 aiw:Meth K t.i7 V_ u.Xc
def vx.st{K:u_}{mg:Str->Option f_}{t:aW}(T:vx K mg t u):rO K mg t:=T.ob.st
def setB(s:Tl):Option Nat:=if s.1 = l_ then s.2.head? else b_
def qz(s:Tl)(i:Nat):List Nat:=if s.1 = Q_ then [i+1,s.2.getD 1 0] else [i+1]
def Ac(i:Nat)(s:Tl):L5.Sp:=⟨setB s,jD s,qz s i⟩
def La(ns:List Nat):setB (T_,ns)=none:=by kernel_rfl
def Lb(ns:List Nat):setB (W_,ns)=none:=by kernel_rfl
def set_set(ns:List Nat):setB (l_,ns)=ns.head?:=by kernel_rfl
def Ke(ns:List Nat):setB (H_,ns)=none:=by kernel_rfl
def Kc(ns:List Nat):setB (I_,ns)=none:=by kernel_rfl
def JK(ns:List Nat):setB (M_,ns)=none:=by kernel_rfl
def Kd(ns:List Nat):setB (Q_,ns)=none:=by kernel_rfl
abbrev nV(n:Nat):V:=.int (n:Int)
def natOf:V->Nat
 | .int i=>i.toNat
 | _=>0
def aeX{L:List Int}{zs:List V}(h:zs.Perm (L.map V.int))(h0:∀x∈L,0<=x):∃ks:List Nat,zs=ks.map nV/\(∀c:Nat,c∈ks↔(c:Int)∈L)/\ks.length=L.length:=by
 have hv:∀v∈zs,∃x∈L,0<=x/\v=V.int x:=λv hv=>by
  obtain⟨x,hx,e⟩:=eM.mp (h.mem_iff.mp hv);exact⟨x,hx,h0 x hx,e.symm⟩
 refine⟨zs.map natOf,?_,λc=>⟨λhc=>?_,λhc=>eM.mpr ⟨V.int c,h.mem_iff.mpr (eM.mpr ⟨_,hc,xz⟩),by show ((c:Int)).toNat=c;omega⟩⟩,by rw[aL,h.length_eq,aL]⟩
 .rw[uD];refine((aaY (g:=id) λv h1=>?_).trans (List.map_id _)).symm;obtain⟨x,_,h2,rfl⟩:=hv v h1;show V.int ((x.toNat:Nat):Int)=V.int x;rw[Iu h2]
 .obtain⟨v,h1,e⟩:=eM.mp hc;obtain⟨x,h2,h3,rfl⟩:=hv v h1;have e:x.toNat=c:=e;rw[<-e,Iu h3];exact h2
def ahv{t:aW}(T:vx K mg t u){sz:Nat}(g:cG sz s)(hz:H z=a_ (.ins (da t s.1) dx (dY (.ref a) s.1 (s.2.map λ(n:Nat)=>V.int (n:Int))))):∃C:e_,gG K H (.ref z) (.ref C)/\v_ K (.ref C) (.ref t.iM)=a_ (setB s).isSome:=by
 refine aq (Fq T.ob g hz) λC ty c=>⟨C,ty,?_⟩;rw[c.XD];cases g <;> kernel_rfl
def afi{t:aW}{u:OK}(T:vx K mg t u){z a dx:e_}{H:Hp}{s:Tl}{sz:Nat}(i:Nat)(g:cG sz s)(hz:H z=a_ (.ins (da t s.1) dx (dY (.ref a) s.1 (s.2.map λ(n:Nat)=>V.int (n:Int))))) :
  ∃C f fd pn sp,H z=a_ (.ins C dx (dY (.ref a) s.1 (s.2.map λ(n:Nat)=>V.int (n:Int))))/\dg K C/\Meth K C V_ f/\aG P w K mg base aI 1 f fd pn sp/\Binds K fd pn []/\∀(Q:VK) (E:XK),(∀l H' (zs:List Nat),af H H'->H l=b_->H' l=a_ (.lst (zs.map nV))->(∀c,c∈zs↔c∈qz s i)->zs.length<=2->Q (.ref l) H')->sp [.ref z,.int (i:Int)] H Q E:=by
 have one:∀{C:e_},da t s.1=C->dg K C->Meth K C V_ u.vK->qz s i=[i+1]->∃C f fd pn sp,H z=a_ (.ins C dx (dY (.ref a) s.1 (s.2.map λ(n:Nat)=>V.int (n:Int))))/\dg K C/\Meth K C V_ f/\aG P w K mg base aI 1 f fd pn sp/\Binds K fd pn []/\∀(Q:VK) (E:XK),(∀l H' (zs:List Nat),af H H'->H l=b_->H' l=a_ (.lst (zs.map nV))->(∀c,c∈zs↔c∈qz s i)->zs.length<=2->Q (.ref l) H')->sp [.ref z,.int (i:Int)] H Q E:=λ{C} e c m e2=>
  ⟨C,_,_,_,_,e ▸ hz,c,m,ae9 T.amL,T.OG,λQ E q=>⟨z,(i:Int),xz,λl hl=>q l _ [i+1] (aB (af.refl H) hl) hl ao (λc=>by rw[e2]) (jy 1)⟩⟩
 cases g with
 | put=>exact one (E7 _) T.st.vg T.akl (by kernel_rfl)
 | add=>exact one (E8 _) T.st.tF T.akm (by kernel_rfl)
 | set=>exact one (BB _) T.st.qm T.akk (by kernel_rfl)
 | look=>exact one (EJ _) T.st.rG T.aix (by kernel_rfl)
 | swap=>exact one (EH _) T.st.qe T.aiv (by kernel_rfl)
 | clear=>exact one (JZ _) T.st.ze T.ahb (by kernel_rfl)
 | skip r m h1 h2 h3=>
  have hz:H z=a_ (.ins (da t Q_) dx _):=hz;rw[EI]at hz;refine⟨_,_,_,_,_,hz,T.st.rF,T.aiw,ab7 T.ai2 T.sorted T.set,T.Nt,λQ E q=>⟨z,_,dx,_,(i:Int),(m:Int),xz,hz,T.st.rF,T.st.Fl,?_,λH' l zs s1 hl h4 hp=>?_⟩⟩
  .show (dY (.ref a) Q_ [V.int (r:Int),V.int (m:Int)]).lookup (ac2 : Str)=a_ (.int (m:Int))
   kernel_rfl
  .have hm:∀x,x∈ql [(i:Int)+1,(m:Int)]↔x=(i:Int)+1\/x=(m:Int):=λx=>by rw[ae1];simp
   obtain⟨ks,rfl,hk,lx⟩:=aeX hp λx hx=>by rcases(hm x).mp hx with e | e <;> omega
   refine q l H' ks s1 hl h4 (λc=>?_) (by rw[lx];exact T8 _);rw[hk,hm,show qz (Q_,[r,m]) i=[i+1,m] by kernel_rfl,bX,cD];omega
def Vp(a b:Nat):Jj (a:Int) (b:Int)=((a ||| b:Nat):Int):=by
 rw[bitOr_and,bitAnd_pp (yx a) (yx b),di,di];have:=nat_or_add_and a b;omega
def afV(a b:Nat):A8 (a:Int) (b:Int)=((a &&& b:Nat):Int):=by
 rw[bitAnd_pp (yx a) (yx b),di,di]
def US(m:Nat):(1:Int)*(2:Int)^(m:Int).toNat=((1 <<< m:Nat):Int):=by
 rw[di,QI,Int.one_mul];simp
def kZ(s:Tl)(a:Nat):Nat:=L5.behind ⟨setB s,jD s,[]⟩ a
def VI:Sp:=λvs H Q _=>∃a m:Nat,vs=[nV a,nV m]/\m<12/\Q (nV (a ||| (1 <<< m))) H
def ah3:ba ["names",J_] ["names",J_] (aS ME):=bj
def agU(F:aQ K "with_name" "with_name" ME f fd):aG P w K mg base aI 1 f fd ["names",J_] VI:=by
 refine F.ok ah3 λaJ A _ s H vs Q E hr h=>?_
 .obtain⟨a,m,rfl,hm,k⟩:=h;refine⟨_,av (aZ (br WN (pv 0) (br V4 aw (pv 1)))),⟨_,xz,_,xz,_,_,xz,xz,⟨om,om,qc⟩,_,_,xz,xz,?_⟩⟩;show Q (V.int (Jj (a:Int) ((1:Int)*(2:Int)^(m:Int).toNat))) H;rw[US,Vp];exact k
def Sv:Sp:=λvs H Q _=>∃a b:Nat,vs=[nV a,nV b]/\Q (nV (a-(a &&& b))) H
def adw:ba zLA zLA (aS Kj):=bj
def acN(F:aQ K "without_all" "without_all" Kj f fd):aG P w K mg base aI 1 f fd zLA Sv:=by
 refine F.ok adw λaJ A _ s H vs Q E hr h=>?_
 .obtain⟨a,b,rfl,k⟩:=h;refine⟨_,av (aZ (br ail (pv 0) (br V5 (pv 0) (pv 1)))),⟨_,xz,_,xz,_,xz,_,_,xz,xz,_,_,xz,xz,?_⟩⟩;have hle:a &&& b<=a:=QT;have e:(a:Int)-((a &&& b:Nat):Int)=((a-(a &&& b):Nat):Int):=om;show Q (V.int ((a:Int)-A8 (a:Int) (b:Int))) H;rw[afV,e];exact k
def LL(t:aW):Sp:=λvs H Q _=>∃(v:V) (s:Tl) (sz a:Nat),vs=[v,nV a]/\jV t H v s/\cG sz s/\Q (nV (kZ s a)) H
def ah9:ba zLy zLy (aS MN):=bj
def ag1{t:aW}(T:vx K mg t u)(F:aQ K "names_behind" "names_behind" MN f fd)(DW:Dp P w K mg base 1 "with_name" ["names",J_] VI) :
  aG P w K mg base aI 2 f fd zLy (LL t):=by
 refine F.ok ah9 λaJ A _ s H vs Q E hr h=>?_
 .obtain⟨v,st,sz,n,rfl,⟨z,a,dx,rfl,hz⟩,hg,k⟩:=h;refine let b:TS:=_;let c:TS:=_;⟨_,ar (b8 (gu (T5 (k:=1) (CX:=aI) (E:=E0) (P:=P) (w:=w) (K:=K) (mg:=mg) (base:=base) (pv 0) hr c9)) (av (aZ aw)) cp) (pR c (ar (b8 (gu (bU iZ xz T.st.bl.iO jd (ab (pv 0) (ab (fq (v:=.ref t.iM) xz T.st.M' xz) ag)))) (pR b (av (aZ (dO DW hr xz (ab (pv 1) (ab (bC (pv 0) xz) ag)))))) cp) (av (aZ (pv 1))))),?_⟩;have no:=wL N_ dk (.ref a) st.1 (st.2.map λ(n:Nat)=>V.int (n:Int));obtain⟨C1,ty,one⟩:=ahv T hg hz;obtain⟨C,f1,Dg,pn,sp,hc,cl,me,G,bi,q⟩:=Ws (P:=P) (w:=w) (base:=base) (mg:=mg) T.ob hg hz;refine⟨_,xz,z,C,dx,_,f1,Dg,pn,sp,xz,hc,no,cl,me,G,bi,q _ _ ?_⟩
  .refine⟨_,xz,vp (λhk=>?_) λhk=>?_⟩
   .have e:kZ st n=0:=by unfold kZ L5.behind;rw[if_pos hk]
    rw[e]at k;exact k
   .refine⟨_,xz,_,_,_,_,_,xz,ty,xz,one,_,xz,vp (λhs=>?_) λhs=>?_⟩
    .cases hg with
     | set nm r h1 h2=>
      have sD:H z=a_ (.ins (da t l_) dx (dY (.ref a) l_ [V.int (nm:Int),V.int (r:Int)])):=hz;rw[BB]at sD;refine⟨_,xz,_,xz,z,_,dx,_,.int (nm:Int),xz,sD,T.st.qm,T.st.BS,?_,n,nm,xz,h1,?_⟩
      .unfold dY;rw[if_neg dk,if_neg dk,if_pos xz,eV,if_neg dk,eV,if_pos rfl];rfl
      .have e:kZ (l_,[nm,r]) n=n ||| (1 <<< nm):=by unfold kZ L5.behind;rw[Kw,set_set];rfl
       rw[e]at k;exact k
     | put=>rw[La]at hs;cases hs
     | add=>rw[Lb]at hs;cases hs
     | look=>rw[Ke]at hs;cases hs
     | swap=>rw[Kc]at hs;cases hs
     | clear=>rw[JK]at hs;cases hs
     | skip=>rw[Kd]at hs;cases hs
    .have e:kZ st n=n:=by
      unfold kZ L5.behind;rw[hk]
      have:setB st=none:=by cases h:setB st with
       | none=>rfl
       | some m=>rw[h]at hs;cases hs
      rw[this];rfl
     rw[e]at k;exact⟨_,xz,k⟩
def VP(t:aW):Sp:=λvs H Q _=>∃(v:V) (s:Tl) (sz i:Nat) (l:e_) (row:List Nat),vs=[v,nV i,.ref l]/\jV t H v s/\cG sz s/\H l=a_ (.lst (row.map nV))/\i<row.length/\(∀a∈qz s i,a<row.length)/\
 ∀(l':e_) (H':Hp) (ks:List Nat),af H H'->H l'=b_->H' l'=a_ (.lst (ks.map nV))->(∀c,c∈ks↔c∈qz s i/\kZ s (row.getD i 0)-(kZ s (row.getD i 0) &&& row.getD c 0)≠0)->Q (.ref l') H'
def VW:ba ["step",ac2,P_,"behind"] zLx (aS Kp):=bj
def aiA:(["behind",P_,"after"]:List Str).Nodup:=dk
def zu{row:List Nat}{i:Nat}(h:i<row.length):gY (row.map nV) (i:Int)=a_ (nV (row.getD i 0)):=by
 refine cx ?_;rw[cO,aM h,gg,aM h];rfl
def ag3{t:aW}(T:vx K mg t u)(F:aQ K "places_lacking" "places_lacking" Kp f fd)(DB:Dp P w K mg base 2 "names_behind" zLy (LL t))
  (DO:Dp P w K mg base 1 "without_all" zLA Sv) :
  aG P w K mg base aI 3 f fd zLx (VP t):=by
 refine F.ok VW λaJ A _ s H vs Q E hr h=>?_
 .obtain⟨v,st,sz,i,l,row,rfl,ho,hg,hl,hi,hnx,k⟩:=h;have dy:=hr.mono (show 1<=2 by decide)
  refine let d:TS:=_;⟨_,ar (bq (i:=3) VW.nd xz (zA xz) (dO DB hr xz (ab (pv 0) (ab (aP (BW K) (pv 2) (pv 1)) ag)))) (pR d (av (aZ (iJ (N:=["behind",P_,"after"]) (idx:=[3,2]) xz (dw.of (by kernel_rfl)) (iG (aA _))
    (pX (adE (k:=1) (CX:=aI) (E:=E0) (P:=P) (w:=w) (K:=K) (mg:=mg) (base:=base) (pv 0) dy c9 (ab (pv 1) ag)))
    (λ_ _ _ _=>bA (i:=2) aiA xz (aE xz) (.inr xz))
    (λ_ _ _ _=>wJ (bM BQ (dO DO dy xz (ab (pv 0) (ab (aP (BW K) (pv 1) (pv 2)) ag))) aw (bJ _)))
    λ_ _ _ _=>pv 2)))),?_⟩
  refine⟨_,xz,_,xz,_,xz,l,_,_,_,xz,xz,aj.of hl,zu hi,_,st,sz,_,xz,ho,hg,?_⟩;obtain⟨z,a,dx,rfl,hz⟩:=ho;have no:=wL V_ dk (.ref a) st.1 (st.2.map λ(n:Nat)=>V.int (n:Int));generalize hb:kZ st (row.getD i 0)=b;obtain⟨C,f1,Dg,pn,sp,hc,cl,me,G,bi,q⟩:=afi (P:=P) (w:=w) (base:=base) (mg:=mg) T i hg hz;refine⟨_,xz,z,C,dx,_,f1,Dg,pn,sp,xz,hc,no,cl,me,G,bi,_,xz,q _ _ λlz H1 ns s1 n1 h1 iT lx=>⟨lz,xz,⟨_,aj.of h1⟩,?_⟩⟩;have ani:=s1 _ _ hl
  let ok:Nat->Bool:=λa=>decide (b-(b &&& row.getD a 0)≠0)
  refine gr (n:=(ns.map nV).length) (λm ys H'=>H'=H1/\ys=((ns.take m).filter ok).map nV) (cY (eh (by rw[aL];omega))) ⟨xz,xz⟩ ?_ ?_ ?_ ?_ ?_
  .rintro m ys H' ⟨_,e⟩;rw[e,aL];have:=uu ok (ns.take m);rw[gm]at this;omega
  .rintro m ys H' lu ⟨rfl,_⟩;exact⟨_,_,aj.of h1,aM lu⟩
  .rintro ys H' ⟨rfl,_⟩;exact⟨_,aj.of h1,aA _⟩
  .rintro m ys H' lu ⟨rfl,e⟩ x iF ⟨eH,dF⟩;subst eH;have hx:=dF _ (aj.of h1);rw[aL]at lu;rw[cO,aM lu]at hx;cases hx;have zY:=yB lu;have bz:=hnx _ ((iT _).mp zY);refine⟨_,xz,_,xz,_,xz,l,_,_,_,xz,xz,aj.of ani,zu bz,b,_,xz,xz,_,xz,?_⟩;have et:ns.take (m+1)=ns.take m++[ns[m]]:=by rw[jv,aM lu];rfl
   rw[et,yw,fv];refine tD (λh=>?_) λh=>?_
   .have ho:ok ns[m]=true:=decide_eq_true λz=>h (by rw[z];rfl);refine⟨_,xz,xz,?_⟩;rw[e,Qq ho];rfl
   .have ho:ok ns[m]=false:=decide_eq_false λz=>z (by
     injection h with h
     omega)
    refine⟨xz,?_⟩;rw[e,aau (by rw[ho];exact dU)];simp
  .rintro ys H' ⟨rfl,e⟩;rw[aL,jP (aA _)]at e;have hfl:=uu ok ns;refine⟨by rw[e,aL];exact cY (eh om),λr dR=>k r _ (ns.filter ok) (aB s1 dR) (s1.free dR) (by rw[ao,e]) λc=>?_⟩;rw[jw,iT c,hb];exact and_congr_right λ_=>decide_eq_true_iff
def MZ{sz i:Nat}(g:cG sz s)(hi:i<sz):∀a∈qz s i,a<=sz:=λa ha=>by
 unfold qz at ha
 split at ha
 .rename_i h
  cases g with
  | skip r m h1 h2 h3=>
   rcases bX.mp ha with e | e
   .omega
   .rw[cD.mp e];exact h2
  | put=>exact absurd (show ("put" : Str) = "skip" from h) dk
  | add=>exact absurd (show ("add" : Str) = "skip" from h) dk
  | set=>exact absurd (show ("set" : Str) = "skip" from h) dk
  | look=>exact absurd (show ("look" : Str) = "skip" from h) dk
  | swap=>exact absurd (show ("swap" : Str) = "skip" from h) dk
  | clear=>exact absurd (show ("clear" : Str) = "skip" from h) dk
 .have:=cD.mp ha;omega
def ahu(h:a<n):nC n (a:Int)=a_ a:=by
 unfold nC;rw[if_pos om,if_pos om,di]
def kN(part:Pt):List L5.Sp:=part.mapIdx Ac
def Ex(part:Pt):(kN part).length=part.length:=by unfold kN;simp
def K0{part:Pt}:(kN part)[i]?=part[i]?.map (Ac i):=by unfold kN;rw[List.getElem?_mapIdx]
def ahK(s:Tl)(i a:Nat):L5.behind (Ac i s) a=kZ s a:=rfl
def ag'{t:aW}(h:jV t H v s)(hl:H l=a_ (.lst xs)):jV t (upd H l o) v s:=by
 obtain⟨z,a,dx,e,h⟩:=h;refine⟨z,a,dx,e,?_⟩;rw[ai λq=>by rw[q,hl]at h;cases h];exact h
def SO(row:List Nat):(row.map nV).map natOf=row:=by
 rw[uD];have:(natOf ∘ nV)=id:=by funext n;rfl
 rw[this,List.map_id]
def GH(lr:e_)(B:Nat)(σ:L2.St)(H:Hp):Nat:=match (σ[3]? : Option (Option V)),H lr with
 | some (a_ (V.bl c_)),a_ (HO.lst vs)=>1+B-(vs.map natOf).sum
 | _,_=>0
structure sq(t:aW)(part:Pt)(H0 H:Hp)(ls lr:e_)(iD:List V)(row:List Nat):Prop where
 same:af H0 H
 new:H0 lr=b_
 steps:H ls=a_ (.lst iD)
 objs:Paired (jV t H) iD part
 row:H lr=a_ (.lst (row.map nV))
 ne:ls≠lr
def sq.grow{t:aW}{part:Pt}{row:List Nat}(s:sq t part H0 H ls lr iD row)(e:af H H'):sq t part H0 H' ls lr iD row:=
 ⟨s.same.trans e,s.new,e _ _ s.steps,Paired.bZ s.objs λ_ _ q=>q.same e,e _ _ s.row,s.ne⟩
def sq.set{t:aW}{part:Pt}{row:List Nat}(s:sq t part H0 H ls lr iD row)(gy:List Nat):sq t part H0 (upd H lr (.lst (gy.map nV))) ls lr iD gy:=
 ⟨aeR s.same s.new,s.new,by rw[ai s.ne];exact s.steps,Paired.bZ s.objs λ_ _ q=>ag' q s.row,ao,s.ne⟩
structure sr(n:Nat)(row:List Nat):Prop where
 len:row.length=n+1
 lt:∀x∈row,x<2^12
def sr.at'(s:sr n row)(i:Nat):row.getD i 0<2^12:=by
 rw[gg];cases e:row[i]? with
 | none=>exact(by decide:0<2^12)
 | some x=>exact s.lt x (bu e)
def sr.set(s:sr n row)(hb:b<2^12):sr n (row.set c (L5.iC row c ||| b)):=by
 refine⟨by rw[mD];exact s.len,λx hx=>?_⟩;rcases Ik hx with q | q
 .exact s.lt x q
 .rw[q];exact abe (s.at' c) hb
def sr.sum(s:sr n row):row.sum<=(n+1)*4096:=by
 have:∀(l:List Nat),(∀x∈l,x<2^12)->l.sum<=l.length*4096:=by
  intro l
  induction l with
  | nil=>simp
  | cons x l ih=>
   intro h;have h1:=h x (by simp);have h2:=ih λy hy=>h y (eL _ hy);rw[D4,fR,Bc];omega
 have:=this row s.lt;rw[s.len]at this;exact this
def ajm{sz a:Nat}(g:cG sz s)(h:a<2^12):kZ s a<2^12:=by
 unfold kZ L5.behind
 split
 .decide
 .cases g with
  | set n r h1 h2=>
   rw[set_set];refine abe h ?_;rw[QI];exact Nat.pow_lt_pow_right qc h1
  | put=>rw[La];exact h
  | add=>rw[Lb];exact h
  | look=>rw[Ke];exact h
  | swap=>rw[Kc];exact h
  | clear=>rw[JK];exact h
  | skip=>rw[Kd];exact h
def N9(row:List Nat)(p:Pt):Prop:=row.length=p.length+1/\L5.Fx (kN p) p.length row
def Xw:Sp:=λvs H Q _=>∃(v:V) (part:Pt),vs=[v]/\IsPart H v part/\part.length<=120/\(∀t∈part,cG part.length t)/\∀(v':V) (row:List Nat) (H':Hp),af H H'->(∃a,v'=.ref a/\H' a=a_ (.tup (row.map nV)))->N9 row part->Q v' H'
def qp:ba ["part","steps",P_,"grown",ac2,"step","behind","lacking","after"] zLw (aS Lj):=bj
def agE(n:Nat):(cW n ([V.int 0]:List V)).flatten=(cW n 0).map nV:=by
 induction n with
 | zero=>rfl
 | succ n ih=>rw[uw,A3,ih,uw];rfl
def akg{t:aW}{u:OK}(T:vx K mg t u)(F:aQ K "marks_of_part" "marks_of_part" Lj f fd)(pC:mg "enumerate" = b_)
  (DB:Dp P w K mg base 2 "names_behind" zLy (LL t))
  (DL:Dp P w K mg base 3 "places_lacking" zLx (VP t)) :
  aG P w K mg base aI 5 f fd zLw Xw:=by
 have GO:aG P w K mg base aI 4 t.fO t.xF [ac1] (Ey t):=JQ T.st;refine F.ok qp λaJ A _ s H vs Q E hr h=>?_
 .obtain⟨v,part,rfl,⟨a,dZ,rfl,ha,xa⟩,hlen,hg,k⟩:=h;have iq:=hr.mono (show 2<=4 by decide);have sF:=hr.mono (show 3<=4 by decide);have dG:=r_ xa
  refine let l:TS:=_;let p:TS:=_;let C:TS:=_;let D:TS:=_;let G:TS:=_;let I:TS:=_;let J:TS:=_;let L:TS:=_;let M:TS:=_;let O:TS:=_;⟨_,ar (yM (i:=1) (N:=[ac1]) (idx:=[]) qp.nd xz xz xz (dw.of (by kernel_rfl)) (iG (a8 _)) (ow (pv 0)) (λ_ _ _ _=>bA (i:=0) U8 xz (aE xz) (.inr xz)) (λ_ _ _ _=>i3)
    λ_ _ _ _=>mQ GO hr xz T.st.mO T.st.GK.kp T.st.bO .nil c9 (ab (pv 0) ag))
   (pR O (ar (bq (i:=2) qp.nd xz (aE xz) (br Fg (dW (ab aw ag)) (br i5 (bU eU xz T.st.bl.len q_ (ab (pv 0) ag)) aw))) (pR M (ar (bq (i:=3) qp.nd xz (aE xz) jU) (pR L (ar (EB gn (gu (pv 3)) (pR I (ar (bq (i:=3) qp.nd xz (aE xz) jU) (pR G (av (ij gn xz (uU (b:=c_) xz pC (ab (pv 1) ag)) (kK xz (dA (bA (i:=4) qp.nd xz (aE xz)) (dA (bA (i:=5) qp.nd xz (aE xz)) kH))) (pR D (ar (bq (i:=6) qp.nd xz (aE xz) (dO DB iq xz (ab (pv 5) (ab (aP cw (pv 2) (pv 4)) ag)))) (pR C (ar (bq (i:=7) qp.nd xz (aE xz) (dO DL sF xz (ab (pv 5) (ab (pv 4) (ab (pv 2) ag))))) (pR p (av (ij gn xz (pX (pv 7)) (bA (i:=8) qp.nd xz (aE xz)) (pR l (ar (uZ (br WN (aP cw (pv 2) (pv 8)) (pv 6)) (wM (pv 2) (pv 8) set_list)) (av (bq (i:=3) qp.nd xz (aE xz) jU))))))))))))))))) (pR J (av (aZ (og wz xz T.st.bl.tuple rj (ab (pv 2) ag))))))))))),?_⟩
  refine⟨_,xz,a,xz,⟨_,aD.of ha⟩,gr (n:=dZ.length) (λi ys H'=>i<=dZ.length/\af H H'/\Paired (jV t H') ys (part.take i)) (cY (eh om)) ⟨a8 _,af.refl _,.nil⟩ ?_ ?_ ?_ ?_ ?_⟩
  .rintro i ys H' ⟨_,_,e⟩;rw[r_ e,gm];omega
  .rintro i ys H' hi ⟨_,s1,_⟩;exact⟨_,dZ[i],aD.of (s1 _ _ ha),aM hi⟩
  .rintro ys H' ⟨_,s1,_⟩;exact⟨_,aD.of (s1 _ _ ha),aA _⟩
  .rintro i ys H' hi ⟨_,s1,e⟩ x iF ⟨eH,dF⟩;subst eH;obtain⟨td,vV,b,rfl,hb⟩:=Paired.at' xa (dF _ (aD.of (s1 _ _ ha)));have gt:=hg td (bu vV);refine⟨_,xz,b,td.1,td.2.map λ(n:Nat)=>V.int (n:Int),xz,s1 _ _ hb,JT gt,⟨by rw[aL];have:=gt.len;omega,λy hy=>?_⟩,λz dx H2 s2 _ hz=>⟨hi,s1.trans s2,?_⟩⟩
   .obtain⟨n,_,rfl⟩:=eM.mp hy;exact⟨_,xz⟩
   .rw[jv,vV];exact Paired.snoc (Paired.bZ e λ_ _ q=>q.same s2) ⟨z,b,dx,xz,hz⟩
  rintro iD H1 ⟨_,s1,xx⟩;rw[dG,jP (aA _)]at xx;have Z9:=r_ xx;refine⟨by rw[Z9];exact cY (eh om),λls CW=>?_⟩;have e1:=aB (o:=.lst iD) (af.refl H1) CW;refine⟨qc,λl0 uh=>?_⟩;have e2:=aB (o:=.lst [.int 0]) (af.refl _) uh;refine⟨_,xz,a,dZ,xz,.inr (aD.of (((s1.trans e1).trans e2) _ _ ha)),_,_,xz,xz,l0,_,_,xz,xz,ao,om,om,?_,λlr Pn=>?_⟩
  .rw[show ([V.int 0]:List V).length=1 from xz,fw];omega
  have elr:((dZ.length:Int)+1).toNat=(kN part).length+1:=by rw[Ex];omega
  have e3:=aB (o:=.lst (cW ((dZ.length:Int)+1).toNat [V.int 0]).flatten) (af.refl _) Pn
  have Cu:sq t part H (upd (upd (upd H1 ls (.lst iD)) l0 (.lst [.int 0])) lr (.lst (cW ((dZ.length:Int)+1).toNat [V.int 0]).flatten)) ls lr iD (cW ((kN part).length+1) 0):=by
   refine⟨((s1.trans e1).trans e2).trans e3,((s1.trans e1).trans e2).free Pn,e3 _ _ (e2 _ _ ao),Paired.bZ xx λ_ _ q=>q.same ((e1.trans e2).trans e3),?_,?_⟩
   .rw[ao,agE,elr]
   .exact bp (e2 _ _ ao) Pn
  generalize upd (upd (upd H1 ls (.lst iD)) l0 (.lst [.int 0])) lr (.lst (cW ((dZ.length:Int)+1).toNat [V.int 0]).flatten)=H2 at Cu
  let B:Nat:=((kN part).length+1)*4096
  refine aew (λσ H'=>∃(row:List Nat) (g:Bool) (x4 x5 x6 x7 x8:Option V),σ=[a_ (.ref a),a_ (.ref ls),a_ (.ref lr),a_ (.bl g),x4,x5,x6,x7,x8]/\sq t part H H' ls lr iD row/\sr part.length row/\(g=d_->L5.Fx (kN part) (kN part).length row))
   (GH lr B) ⟨_,c_,b_,b_,b_,b_,b_,xz,Cu,⟨by rw[Du,Ex],λx hx=>by rw[Qm hx];decide⟩,λz=>by cases z⟩ ?_ ?_
  .rintro σ H3 ⟨xv,g,x4,x5,x6,x7,x8,rfl,jJ,OM,OF⟩;refine⟨_,xz,g,xz,?_⟩;cases g with
   | false=>
    exact eW ⟨_,xz,lr,_,xz,.inl ⟨aj.of jJ.row,λq hq=>k (.ref q) xv _ (jJ.same.trans (aB (af.refl _) hq)) ⟨q,xz,ao⟩ ⟨OM.len,by have:=OF rfl;rw[Ex]at this;exact this⟩⟩⟩
   | true=>
    refine jW ?_;have hs0:=OM.sum
    have hmu:GH lr B [a_ (V.ref a),a_ (V.ref ls),a_ (V.ref lr),a_ (V.bl c_),x4,x5,x6,x7,x8] H3=1+B-xv.sum:=by
     unfold GH;rw[jJ.row];show 1+B-((xv.map nV).map natOf).sum=_;rw[SO]
    refine⟨_,xz,ls,iD,xz,aj.of jJ.steps,zo (n:=iD.length) (λj σ H'=>∃(row:List Nat) (g:Bool) (x4 x5 x6 x7 x8:Option V),σ=[a_ (.ref a),a_ (.ref ls),a_ (.ref lr),a_ (.bl g),x4,x5,x6,x7,x8]/\sq t part H H' ls lr iD row/\sr part.length row/\ ((g=d_/\row=xv/\L5.Fx (kN part) j xv)\/(g=c_/\xv.sum<row.sum))) ⟨xv,d_,x4,x5,x6,x7,x8,xz,jJ,OM,.inl ⟨xz,xz,λj s hj=>absurd hj (wx _)⟩⟩ ?_ ?_ ?_ ?_⟩
    .rintro j σ H4 hj ⟨_,_,_,_,_,_,_,_,dq,_⟩;exact⟨iD,iD[j],aj.of dq.steps,aM hj⟩
    .rintro σ H4 ⟨_,_,_,_,_,_,_,_,dq,_⟩;exact⟨iD,aj.of dq.steps,aA _⟩
    .rintro j σ H4 hj ⟨row,g,y4,y5,y6,y7,y8,rfl,dq,An,x9⟩ zt H5 ⟨r,x,dR,ez,eH,dF⟩;subst ez;subst eH;have hx:=dF iD (aj.of dq.steps);obtain⟨td,vV,hob⟩:=Paired.at' dq.objs hx;have gt:=hg td (bu vV);have hjl:j<part.length:=om;have gf:=dq.grow (aB (o:=.tup [.int j,x]) (af.refl _) dR);have fu:=An.len;have hjr:j<row.length:=om;have OS:=hob.same (aB (o:=.tup [.int j,x]) (af.refl _) dR);have pj:(kN part)[j]?=a_ (Ac j td):=by rw[K0,vV];rfl
     refine⟨r,[.int j,x],xz,aD.of ao,xz,.int j,[x],xz,x,[],xz,xz,?_⟩;generalize upd H4 r (.tup [.int j,x])=H6 at gf OS ⊢;refine⟨_,xz,_,xz,_,xz,lr,_,_,_,xz,xz,aj.of gf.row,zu hjr,x,td,_,_,xz,OS,gt,⟨_,xz,_,xz,_,xz,x,td,_,j,lr,row,xz,OS,gt,gf.row,hjr,λa ha=>by have:=MZ gt hjl a ha;omega,λlk H7 zs s7 nk hk zY=>?_⟩⟩;have t8:=gf.grow s7;have yf:lk≠lr:=λz=>by rw[z,gf.row]at nk;cases nk
     generalize hb:kZ td (row.getD j 0)=b at zY ⊢;have AH:=hb ▸ ajm gt (An.at' j);refine⟨_,xz,lk,xz,⟨_,aj.of hk⟩,Bu (xs:=zs.map nV) (λm σ H'=>∃(gy:List Nat) (g':Bool) (y:Option V),σ=[a_ (.ref a),a_ (.ref ls),a_ (.ref lr),a_ (.bl g'),a_ (.int j),a_ x,a_ (nV b),a_ (.ref lk),y]/\sq t part H H' ls lr iD gy/\H' lk=a_ (.lst (zs.map nV))/\sr part.length gy/\ (m=0->gy=row/\g'=g)/\(0<m->g'=c_/\row.sum<gy.sum)) ⟨row,g,y8,xz,t8,hk,An,λ_=>⟨xz,xz⟩,λz=>absurd z (je _)⟩ (λm σ H' _ ⟨_,_,_,_,_,h,_⟩=>aj.of h) ?_ ?_⟩
     .rintro m v σ H8 hv ⟨gy,g',y,rfl,gZ,hk5,Hf,h0,h1⟩;rw[cO]at hv;cases ez:zs[m]? with
      | none=>rw[ez]at hv;cases hv
      | some c=>
       rw[ez]at hv;cases hv;obtain⟨hcn,jt⟩:=(zY c).mp (bu ez);have ao7:=Hf.len;have HP:c<gy.length:=by have:=MZ gt hjl c hcn;omega
       refine⟨_,xz,_,xz,lr,_,_,_,xz,xz,aj.of gZ.row,zu HP,_,xz,_,_,xz,xz,⟨_,xz,_,xz,lr,_,_,c,xz,xz,gZ.row,ahu (by rw[aL];exact HP),?_⟩⟩
       have an7:(gy.map nV).set c (V.int (Jj ((gy.getD c 0:Nat):Int) (b:Int)))=(gy.set c (L5.iC gy c ||| b)).map nV:=by
        rw[Vp,Bd]
       refine⟨gy.set c (L5.iC gy c ||| b),c_,a_ (nV c),xz,?_,?_,Hf.set AH,λz=>absurd z (QN _),λ_=>⟨xz,?_⟩⟩
       .have:=gZ.set (gy.set c (L5.iC gy c ||| b));rw[<-an7]at this;exact this
       .rw[ai yf];exact hk5
       .have ao4:=L5.sum_set (v:=L5.iC gy c ||| b) HP;have lC:L5.iC gy c<=L5.iC gy c ||| b:=Nat.left_le_or
        by_cases HL:m=0
        .obtain⟨er,_⟩:=h0 HL;subst er;have:L5.iC gy c<L5.iC gy c ||| b:=L5.aka λz=>jt (L5.without.mpr z)
         omega
        .have:=(h1 om).2;omega
     .rintro σ H8 ⟨gy,g',y,rfl,gZ,hk5,Hf,h0,h1⟩;rw[aL]at h0 h1;refine⟨gy,g',_,_,_,_,_,xz,gZ,Hf,?_⟩
      by_cases HL:zs.length=0
      .obtain⟨er,eg⟩:=h0 HL;subst er;subst eg;rcases x9 with ⟨vZ,dy,PJ⟩ | ⟨vY,Pf⟩
       .refine .inl ⟨vZ,dy,?_⟩;subst dy;intro i' s' C3 Ay c hc
        by_cases e:i'<j
        .exact PJ i' s' e Ay c hc
        .have e':i'=j:=om;subst e';rw[pj]at Ay;cases Ay;rw[<-L5.without];have ans:=aae HL;rw[ans]at zY;have lD:=mt (zY c).mpr (by simp);rw[ahK,show kZ td (L5.iC gy i')=b from hb];exact yr λz=>lD ⟨hc,z⟩
       .exact .inr ⟨vY,Pf⟩
      .obtain⟨eg,nG⟩:=h1 om;refine .inr ⟨eg,?_⟩;rcases x9 with ⟨_,dy,_⟩ | ⟨_,Pf⟩
       .rw[<-dy];exact nG
       .omega
    .rintro σ H4 ⟨row,g,y4,y5,y6,y7,y8,rfl,dq,An,x9⟩;refine⟨⟨row,g,y4,y5,y6,y7,y8,xz,dq,An,λvZ=>?_⟩,?_⟩
     .rcases x9 with ⟨_,dy,PJ⟩ | ⟨vY,_⟩
      .rw[dy];have e:iD.length=(kN part).length:=by rw[Ex];exact Z9
       rw[<-e];exact PJ
      .rw[vY]at vZ;cases vZ
     .rw[hmu];rcases x9 with ⟨vZ,_,_⟩ | ⟨vY,Pf⟩
      .rw[vZ];show 0<_;omega
      .rw[vY];unfold GH;rw[dq.row];show 1+B-((row.map nV).map natOf).sum<_;rw[SO];have:=An.sum;omega
  .rintro σ H' Q1 Q2 hQ ⟨v,e,d,ed,q⟩;exact⟨v,e,d,ed,hQ _ _ q⟩
def wY(H:Hp)(v:V)(row:List Nat):Prop:=∃a,v=.ref a/\H a=a_ (.tup (row.map nV))
def amQ(H:Hp)(v:V)(rows:List (List Nat)):Prop:=∃a us,v=.ref a/\H a=a_ (.tup us)/\Paired (wY H) us rows
def wY.same(s:af H H')(h:wY H v row):wY H' v row:=aq h λa e h=>⟨a,e,s _ _ h⟩
def Oa(rows:List (List Nat))(ps:List Pt):Prop:=Paired N9 rows ps
def Xv:Sp:=λvs H Q _=>∃(v:V) (ps:List Pt),vs=[v]/\lO H v ps/\kU ps/\∀(v':V) (rows:List (List Nat)) (H':Hp),af H H'->amQ H' v' rows->Oa rows ps->Q v' H'
def amo:ba zLs zLs (aS LW):=bj
def ahi{v0:Option V}{n:Nat}{KK:List V->Hp->Prop}(xa:Paired (IsPart H) dZ ps)(hg:kU ps)(ha:H a=a_ (.tup dZ))(s0:af H H1)
  (Pe:∀(x:V) (part:Pt) (H2:Hp) (Q:VK),af H H2->IsPart H2 x part->part.length<=120->(∀t∈part,cG part.length t)->(∀(v':V) (row:List Nat) (H':Hp),af H2 H'->wY H' v' row->N9 row part->Q v' H')->te (σ0.set n (a_ x)) H2 Q)
  (z0:∀(us:List V) (rows:List (List Nat)) (H2:Hp),af H1 H2->Paired (wY H2) us rows->Oa rows ps->us.length<=4->KK us H2):FV (Am K a) (i6 n) ng te σ0 H1 KK:=by
 have dG:=r_ xa;have hle:=hg.le;refine gr (n:=dZ.length) (λi ys H'=>i<=dZ.length/\af H1 H'/\∃rows,Paired (wY H') ys rows/\Oa rows (ps.take i)) (cY (eh om)) ⟨a8 _,af.refl _,[],.nil,.nil⟩ ?_ ?_ ?_ ?_ ?_
 .rintro i ys H' ⟨_,_,rows,e1,e2⟩;rw[r_ e1,r_ e2,gm];omega
 .rintro i ys H' hi ⟨_,s1,_⟩;exact⟨_,dZ[i],aD.of ((s0.trans s1) _ _ ha),aM hi⟩
 .rintro ys H' ⟨_,s1,_⟩;exact⟨_,aD.of ((s0.trans s1) _ _ ha),aA _⟩
 .rintro i ys H' hi ⟨_,s1,rows,e1,e2⟩ x iF ⟨eH,dF⟩;subst eH;obtain⟨p,hp,xZ⟩:=Paired.at' xa (dF _ (aD.of ((s0.trans s1) _ _ ha)));obtain⟨g1,g2⟩:=hg.part p (bu hp);refine Pe x p _ _ (s0.trans s1) (xZ.same (s0.trans s1)) g1 g2 λv' row H2 s2 hr hm=>⟨hi,s1.trans s2,rows++[row],Paired.snoc (Paired.bZ e1 λ_ _ q=>q.same s2) hr,?_⟩;rw[jv,hp];exact Paired.snoc e2 hm
 .rintro ys H' ⟨_,s1,rows,e1,e2⟩;rw[dG,jP (aA _)]at e2;refine z0 ys rows H' s1 e1 e2 ?_;rw[r_ e1,r_ e2];exact hle
def akf(F:aQ K "marks" "marks" LW f fd)(B:Bl mg)(DP:Dp P w K mg base 5 "marks_of_part" zLw Xw) :
  aG P w K mg base aI 6 f fd zLs Xv:=by
 refine F.ok amo λaJ A _ s H vs Q E hr h=>?_
 .obtain⟨v,ps,rfl,⟨a,dZ,rfl,ha,xa⟩,hg,k⟩:=h
  refine⟨_,av (aZ (og wz xz B.tuple rj (ab (iJ (N:=["part"]) (idx:=[]) xz (dw.of (by kernel_rfl)) (iG (a8 _)) (ow (pv 0))
   (λ_ _ _ _=>bA (i:=0) U9 xz (aE xz) (.inr xz)) (λ_ _ _ _=>i3) λ_ _ _ _=>dO DP hr xz (ab (pv 0) ag)) ag))),?_⟩
  refine⟨_,xz,a,xz,⟨_,aD.of ha⟩,ahi (v0:=b_) xa hg ha (af.refl H) (λx part H2 Q2 s2 hp h1 h2 q=>⟨_,xz,x,part,xz,hp,h1,h2,q⟩) λus rows H2 s2 hr hm hl=>?_⟩
  .refine⟨cY (eh om),λr dR=>⟨r,us,xz,.inl ⟨aj.of ao,λq hq=>?_⟩⟩⟩;have s3:=aB (o:=.lst us) (af.refl H2) dR;have s4:=aB (o:=.tup us) s3 hq;exact k _ rows _ (s2.trans s4) ⟨q,us,xz,ao,Paired.bZ hr λ_ _ z=>z.same s4⟩ hm
def VU{sz:Nat}{t:Tl}(g:cG sz t)(h:setB t=a_ m):m<12/\jD t=d_/\t.1 = l_:=by
 cases g with
 | set n r h1 h2=>rw[set_set]at h;cases h;exact⟨h1,Kw _,xz⟩
 | put=>rw[La]at h;cases h
 | add=>rw[Lb]at h;cases h
 | look=>rw[Ke]at h;cases h
 | swap=>rw[Kc]at h;cases h
 | clear=>rw[JK]at h;cases h
 | skip=>rw[Kd]at h;cases h
def agg{part:Pt}{td:Tl}(h:part[i]?=a_ td):(kN part)[i]?=a_ (Ac i td):=by rw[K0,h];rfl
def F'(rows:List (List Nat))(S:Mc):Prop:=∀(c:Nat) (k:Ck),S.ck[c]?=a_ k->∀e∈k.es,∃m:Nat,e.n=(m:Int)/\(L5.iC (rows.getD c []) k.pl).testBit m=c_
def Cr(rows:List (List Nat))(ps:List Pt):Prop:=∀(c:Nat) (p:Pt),ps[c]?=a_ p->L5.Fx (kN p) p.length (rows.getD c [])
def aen(s:Tl)(rg:List Int)(i:Nat):ig s rg i∈qz s i:=by
 unfold ig qz
 by_cases h:s.1 = Q_
 .rw[if_pos h]
  split
  .exact eL _ du
  .exact du
 .rw[if_neg h,if_neg λz=>h z.1];simp
def afB(rows:List (List Nat))(kd:Str)(ps:List Pt):F' rows (qq kd ps):=λc k hk e he=>by
 have:k∈(ps.map λ_=>k0):=bu hk;obtain⟨_,_,rfl⟩:=eM.mp this;cases he
def ad9{rows:List (List Nat)}{n:Nat}(W:gc n S)(cl:Cr rows S.ps)(h:F' rows S)(hm:mv∈jg S):F' rows (gF S mv):=by
 obtain⟨c,k,k',nm,p,hk,hp,f,o⟩:=Kv W hm;have hc:c<S.ck.length:=(bK.mp hk).1;intro i x hx e he;rw[f.ck]at hx
 by_cases ec:c=i
 .subst ec;rw[gC hc]at hx;cases hx;rcases o with ⟨e0,e1⟩ | ⟨s,rg,hs,g,e0,e1,jo⟩
  .rcases f.en e he with z | ⟨m,z,_⟩
   .rw[e1];exact h c k hk e z
   .rw[e0]at z;cases z
  .have sf:nm=setB s:=e0;have jt:=λm hb=>cl c p hp k.pl (Ac k.pl s) (bK.mp hs).1 (agg hs) _ (aen s rg k.pl) m hb;rw[<-e1]at jt;rcases f.en e he with z | ⟨m,z,en⟩
   .obtain⟨m,en,hb⟩:=h c k hk e z;refine⟨m,en,jt m (L5.Jx.mpr ⟨jo.resolve_left λq=>?_,.inl hb⟩)⟩;rw[q]at z;cases z
   .exact⟨m,en,jt m (L5.Jx.mpr ⟨(VU g (sf.symm.trans z)).2.1,.inr (sf.symm.trans z)⟩)⟩
 .rw[lG ec]at hx;exact h i x hx e he
def Wb(x y:Nat):decide (nV x=nV y)=decide (x=y):=by
 by_cases h:x=y
 .rw[decide_eq_true h,decide_eq_true (by rw[h])]
 .rw[decide_eq_false h,decide_eq_false λz=>h (by injection z with z;omega)]
def UE(x y:Str):decide (V.str x=V.str y)=decide (x=y):=by
 by_cases h:x=y
 .rw[decide_eq_true h,decide_eq_true (by rw[h])]
 .rw[decide_eq_false h,decide_eq_false λz=>h (str_inj z)]
def KU(s:Tl):gY (tv s) 0=a_ (.str s.1):=cx (j:=0) xz
def agM(h:Paired (IsPart H) dZ ps)(hc:c<ps.length):∃(b:e_) (us:List V),gY dZ (c:Int)=a_ (.ref b)/\H b=a_ (.tup us)/\Paired (qf H) us (ps.getD c []):=by
 have hl:=r_ h;obtain⟨y,hy,a,us,e,ha,hp⟩:=Paired.at' h (aM (show c<dZ.length by omega));have e2:ps.getD c []=y:=by rw[gg,hy];rfl
 rw[e2];exact⟨a,us,cx (by rw[aM (show c<dZ.length by omega),e]),ha,hp⟩
def ahz(hg:kU ps)(hc:c<ps.length):(ps.getD c []).length<=120/\∀t∈ps.getD c [],cG (ps.getD c []).length t:=by
 have e:ps.getD c []=ps[c]:=by rw[gg,aM hc];rfl
 rw[e];exact hg.part _ (yB hc)
def TN(ns:List Nat):kP (l_,ns)=ns.head?:=by kernel_rfl
def adt(ns:List Nat):kP (I_,ns)=ns[1]?:=by kernel_rfl
def ads{t:Tl}(h:kP t=a_ n):t.1 = l_\/t.1 = I_:=by
 unfold kP at h
 by_cases h1:t.1 = l_
 .exact .inl h1
 .rw[if_neg h1]at h
  by_cases h2:t.1 = I_
  .exact .inr h2
  .rw[if_neg h2]at h;cases h
def Xu:Sp:=λvs H Q _=>∃(v:V) (c n:Nat) (ps:List Pt),vs=[v,nV c,nV n]/\lO H v ps/\kU ps/\∀b:Bool,((∃o,o<ps.length/\o≠c/\∃t∈ps.getD o [],kP t=a_ n)->b=c_)->Q (.bl b) H
def FZ:ba ["_law_program_here","_law_clerk","_law_name","_law_other","_law_step","_law_sets"] zLh (aS Lh):=bj
def ake(F:aQ K "_law_shared" "_law_shared" Lh f fd)(B:Bl mg)(dQ:mg "range" = b_):aG P w K mg base aI 1 f fd zLh Xu:=by
 refine F.ok FZ λaJ A _ s H vs Q E hr h=>?_
 .obtain⟨v,c,n,ps,rfl,⟨a,dZ,rfl,ha,hv⟩,hg,k⟩:=h;have hlen:=r_ hv;have hle:=hg.le;refine let d:TS:=_;let g:TS:=_;let l:TS:=_;⟨_,ar (ij gn xz (oa xz dQ (ab (bU eU xz B.len q_ (ab (pv 0) ag)) ag)) (bA (i:=3) FZ.nd xz (aE xz)) (pR l (av (ij gn xz (ow (aP cc (pv 0) (pv 3))) (bA (i:=4) FZ.nd xz (aE xz)) (pR g (ar (bq (i:=5) FZ.nd xz (aE xz) (Ff (BA c7 (aP cc (pv 4) aw) cR (bJ _)) (BI (BA c7 (aP cc (pv 4) aw) (pv 2) (bJ _))))) (pR d (av (b8 (PW.pt (pw_and (bM BQ (pv 3) (pv 1) (bJ _)) (pw_and1 (PW.pt (pw_or (gu (pv 5)) (pw_or1 (PW.pt (pw_and (bM c7 (aP cc (pv 4) aw) cR (bJ _)) (pw_and1 (bM c7 (aP cc (pv 4) aw) (pv 2) (bJ _))))))))))) (av (aZ jU)) cp))))))))) (av (aZ jU)),?_⟩;refine⟨_,xz,a,dZ,xz,.inr (aD.of ha),_,xz,om,om,?_⟩;have ecn:((dZ.length:Int)).toNat=ps.length:=om;rw[ecn];refine sY (n:=ps.length) (λi σ H'=>H'=H/\(∃(x3 x4 x5:Option V),σ=[a_ (.ref a),a_ (nV c),a_ (nV n),x3,x4,x5])/\∀o,o<i->o≠c->∀t∈ps.getD o [],kP t≠a_ n) ⟨xz,⟨b_,b_,b_,xz⟩,λo ho=>absurd ho (wx _)⟩ ?_ ?_
  .rintro i σ H1 hi ⟨rfl,⟨x3,x4,x5,rfl⟩,i9⟩;refine Kz (y:=nV i) (by show V.int (0+(i:Int))=V.int (i:Int);rw[wB]) ?_;obtain⟨b,us,hat,hb,hu⟩:=agM hv hi;obtain⟨dG,kr⟩:=ahz hg hi;have ub:=r_ hu;refine⟨_,xz,_,xz,a,_,_,_,xz,xz,aD.of ha,hat,b,xz,⟨us,aD.of hb⟩,Vj (xs:=us) (λj σ H'=>H'=H1/\(∃(x4 x5:Option V),σ=[a_ (.ref a),a_ (nV c),a_ (nV n),a_ (nV i),x4,x5])/\(i≠c->∀m,m<j->∀t,(ps.getD i [])[m]?=a_ t->kP t≠a_ n)) ⟨xz,⟨x4,x5,xz⟩,λ_ m hm=>absurd hm (wx _)⟩ ?_ ?_ ?_⟩
   .rintro j σ H2 _ ⟨rfl,_⟩;exact aD.of hb
   .rintro j x σ H2 hx ⟨rfl,⟨x4,x5,rfl⟩,hm⟩;obtain⟨td,vV,e,rfl,he⟩:=Paired.at' hu hx;have gt:=kr td (bu vV)
    have qy:(i≠c->kP td≠a_ n)->i≠c->∀m,m<j+1->∀t,(ps.getD i [])[m]?=a_ t->kP t≠a_ n:=λh C2 m jc t ht=>by
     by_cases q:m<j
     .exact hm C2 m q t ht
     .have q':m=j:=om;subst q';rw[vV]at ht;cases ht;exact h C2
    have sf:∃b:Bool,(b=c_↔td.1 = l_/\kP td=a_ n)/\(∀(R:VK),R (.bl b) H2->(WB (sg GA (sg (xh K) (oF 4) (tC (V.int 0))) (tC (V.str l_))) (sg GA (sg (xh K) (oF 4) (tC (V.int 1))) (oF 2))) [a_ (.ref a),a_ (nV c),a_ (nV n),a_ (nV i),a_ (.ref e),x5] H2 R):=by
     by_cases hw:td.1 = l_
     .cases gt with
      | set r m h1 h2=>
       refine⟨decide (r=n),⟨λh=>⟨xz,by rw[TN];exact congrArg a_ (of_decide_eq_true h)⟩,λh=>?_⟩,λR r1=>?_⟩
       .have:=h.2;rw[TN]at this;injection this with this
        exact decide_eq_true this
       .refine⟨_,xz,e,_,_,_,xz,xz,aD.of he,KU _,xz,_,xz,jW ⟨_,xz,e,_,_,_,xz,xz,aD.of he,cx (j:=1) xz,_,xz,xz,?_⟩⟩;rw[Wb];exact r1
      | put=>exact absurd hw (show ¬(("put" : Str) = "set") from dk)
      | add=>exact absurd hw (show ¬(("add" : Str) = "set") from dk)
      | look=>exact absurd hw (show ¬(("look" : Str) = "set") from dk)
      | swap=>exact absurd hw (show ¬(("swap" : Str) = "set") from dk)
      | clear=>exact absurd hw (show ¬(("clear" : Str) = "set") from dk)
      | skip=>exact absurd hw (show ¬(("skip" : Str) = "set") from dk)
     .refine⟨d_,⟨λh=>(by cases h),λh=>absurd h.1 hw⟩,λR r1=>⟨_,xz,e,_,_,_,xz,xz,aD.of he,KU _,xz,_,xz,?_⟩⟩;rw[UE,decide_eq_false hw];exact eW r1
    obtain⟨sb,Ax,hev⟩:=sf;refine hev _ ⟨_,xz,_,xz,xz,_,xz,?_⟩;rw[Wb];refine tD (λC2=>?_) λC2=>?_
    .refine⟨_,xz,_,xz,vp (λh=>jW (k c_ λ_=>rfl)) λh=>?_⟩
     .refine⟨_,xz,e,_,_,_,xz,xz,aD.of he,KU _,xz,_,xz,?_⟩;rw[UE];refine bG (λhw=>?_) λhw=>?_
      .cases gt with
       | swap r m h1 h2=>
        refine⟨_,xz,e,_,_,_,xz,xz,aD.of he,cx (j:=2) xz,_,xz,xz,_,xz,bG (c:=nV m=nV n) (λq=>k c_ λ_=>rfl) λq=>?_⟩
        .refine⟨xz,⟨_,_,xz⟩,qy λ_ z=>q ?_⟩;rw[adt]at z;injection z with z
         have z:=z;rw[z]
       | put=>exact absurd hw (show ¬(("put" : Str) = "swap") from dk)
       | add=>exact absurd hw (show ¬(("add" : Str) = "swap") from dk)
       | look=>exact absurd hw (show ¬(("look" : Str) = "swap") from dk)
       | set=>exact absurd hw (show ¬(("set" : Str) = "swap") from dk)
       | clear=>exact absurd hw (show ¬(("clear" : Str) = "swap") from dk)
       | skip=>exact absurd hw (show ¬(("skip" : Str) = "swap") from dk)
      .refine eW ⟨xz,⟨_,_,xz⟩,qy λ_ z=>?_⟩;rcases ads z with q | q
       .rw[Ax.mpr ⟨q,z⟩]at h;cases h
       .exact hw q
    .exact eW ⟨xz,⟨_,_,xz⟩,qy λz=>absurd C2 z⟩
   .rintro σ H2 ⟨rfl,⟨x4,x5,rfl⟩,hm⟩;refine⟨xz,⟨_,x4,x5,xz⟩,λo ho pq t ht=>?_⟩
    by_cases q:o<i
    .exact i9 o q pq t ht
    .have q':o=i:=om;subst q';obtain⟨m,jc,lu⟩:=pI ht;exact hm pq m om t (by rw[aM jc,lu])
  .rintro σ H1 ⟨rfl,⟨x3,x4,x5,rfl⟩,i9⟩;exact k d_ λ⟨o,ho,pq,t,ht,hs⟩=>absurd hs (i9 o ho pq t ht)
def YJ(rows:List (List Nat))(c p:Nat):Nat:=L5.iC (rows.getD c []) p
def JJ(ps:List Pt)(aU:List Nat)(S:Mc):Prop:=∀rows,Cr rows ps->F' rows S/\∃now,∀B,now<B->∃T,Jn (YJ rows) aU T B now S
def JJ.new:JJ ps [] (qq P_ ps):=λrows _=>⟨afB _ _ _,0,λB h=>⟨λ_=>0,Jn.new h⟩⟩
def JJ.made(h:JJ ps aU S)(W:gc n S)(hd:S.kd = P_)(dS:S.ps=ps)(hm:mv∈jg S):JJ ps (xj aU S mv) (gF S mv):=λrows cl=>by
 obtain⟨hl,now,hJ⟩:=h rows cl;refine⟨ad9 W (dS ▸ cl) hl hm,now+1,λB hB=>?_⟩;obtain⟨T,J⟩:=hJ B om;exact J.made hB W hd hl hm
def Ve(h:mv∈iY S):(gF S mv).ac=S.ac:=by
 refine gD (Sf h) λc k n aa hk hf=>?_;subst aa;unfold gF;rw[if_neg (show ¬(Z_ : Str) = "do" from dk)];unfold jT;cases S.ck[((([(c:Int),n]:List Int)).getD 0 0).toNat]? with
 | none=>rfl
 | some k=>
  dsimp only;cases (cA k.es _).head? <;> rfl
def agN(h:mv∈iY S):xj aU S mv=aU:=by
 unfold xj;rw[Ve h,if_neg (je _)]
def Vd(W:gc n S)(hm:mv∈jg S):(gF S mv).kd=S.kd/\(gF S mv).ps=S.ps:=by
 obtain⟨c,k,k',nm,p,hk,hp,f,o⟩:=Kv W hm;exact⟨f.kd,f.ps⟩
def LA(g:kU ps):Cr (ps.map λp=>cW (p.length+1) (2^12-1)) ps:=λc p hp j s hj hs a ha k hb=>by
 have hr:(ps.map λp:Pt=>cW (p.length+1) (2^12-1)).getD c []=cW (p.length+1) (2^12-1):=ff (by rw[cO,hp];rfl);rw[hr]at hb ⊢;have gp:=(g.part p (bu hp)).2;rw[K0]at hs;obtain⟨t,ht,rfl⟩:=qU.mp hs;have gt:=gp t (bu ht);have at':∀i,i<=p.length->L5.iC (cW (p.length+1) (2^12-1)) i=2^12-1:=λi hi=>ff (by rw[Io,if_pos om]);rw[at' j om]at hb;rw[at' a (MZ gt hj a ha),aag];obtain⟨_,hb⟩:=L5.Jx.mp hb;rcases hb with hb | hb
 .rw[aag]at hb;exact hb
 .exact decide_eq_true (VU gt hb).1
def Jn.out{mk:Nat->Nat->Nat}{aU:List Nat}{T:Int->Nat}{B now:Nat}(J:Jn mk aU T B now S)(e0:∀k∈S.ck,k.es=[]):∀i:Nat,i<S.ac.length->T i<B:=λi hi=>by
 have nb:=J.nb;refine q8 ((J.od i _ (aM hi)).resolve_right λ⟨_,_,k,hk,e,he,_⟩=>?_).1 nb;rw[e0 k (bu hk)]at he;cases he
def JJ.len(h:JJ ps aU S)(g:kU ps):aU.length=S.ac.length:=by
 obtain⟨_,now,hJ⟩:=h _ (LA g);obtain⟨T,J⟩:=hJ (now+1) (qW _);exact J.pl
def JJ.aml(h:JJ ps aU S)(g:kU ps)(W:ip S)(e0:∀k∈S.ck,k.es=[]):ni S:=by
 obtain⟨_,now,hJ⟩:=h _ (LA g);obtain⟨T,J⟩:=hJ (now+1) (qW _);refine⟨λn o ho=>(J.ov n o ho).1.imp λh e=>by rw[e]at h;exact je _ h,λn o ho d hd=>?_,λi a ha d hd=>?_,J.ok⟩
 .obtain⟨_,i,a,h1,h2,h3,_⟩:=(J.ov n o ho).2 d hd;exact⟨i,a,h1,h2,h3⟩
 .have hk:a.k ≠ l_:=λz=>by rw[(J.ok i a ha).s z]at hd;cases hd
  obtain⟨s,b,h1,h2,h3,h4,_⟩:=J.sn i a d ha hk hd;have hn:=(J.ok i a ha).n
  have ho:S.ov[a.n]?=a_ (S.ov.getD a.n []):=by
   have hl:a.n<S.ov.length:=by rw[W.ov];exact hn
   rw[ff (aM hl)];exact aM hl
  refine⟨s,_,h1,(bK.mp h2).1,ho,?_⟩;rcases J.od s b h2 with q | ⟨_,_,k,hk,e,he,_⟩
  .rw[h1,<-h3];exact q.2 h4
  .rw[e0 k (bu hk)]at he;cases he
def JJ.tT(h:JJ ps aU S)(g:kU ps)(Z:ni S)(e0:∀k∈S.ck,k.es=[])(x:T3)(hx:x∈kJ S):x.1≠x.2.1:=by
 obtain⟨_,now,hJ⟩:=h _ (LA g);obtain⟨T,J⟩:=hJ (now+1) (qW _);rcases J.XT Z (J.out e0) hx with q | ⟨_,_,_,_,_,q,_⟩
 .exact λe=>by rw[e]at q;exact je _ q
 .exact q
def JJ.ring{aU:List Nat}(h:JJ ps aU S){rows:List (List Nat)}(cl:Cr rows ps)(dS:S.ps=ps)(Z:ni S)(e0:∀k∈S.ck,k.es=[]){Y:List T3}(R:RingM (kJ S) Y) :
  (∀(j:Nat) b,S.ac[j]?=a_ b->∃p,ps[b.c]?=a_ p/\aU.getD j 0<p.length)/\∃y∈Y,∃(j:Nat) (b:Act) (m:Nat),y.1=(j:Int)/\y.2.2 = "ahead"/\S.ac[j]?=a_ b/\b.k = H_/\m≠b.n/\(YJ rows b.c (aU.getD j 0)).testBit m=c_/\∃o,o<ps.length/\o≠b.c/\∃t∈ps.getD o [],kP t=a_ b.n:=by
 obtain⟨_,now,hJ⟩:=h rows cl;obtain⟨T,J⟩:=hJ (now+1) (qW _);obtain⟨y,hy,j,X,b,a,m,_,h1,h2,h3,h4,h5,h6,h7,h8,h9,h10⟩:=J.ring Z (J.out e0) R;obtain⟨p,s,g1,g2,g3⟩:=J.st X a h7 h8;rw[dS]at g1;refine⟨by rw[<-dS];exact J.pp,y,hy,j,b,m,h1,h2,h3,h4,h5,h6,a.c,(bK.mp g1).1,h10,s,?_,by rw[g3,h9]⟩;rw[ff g1];exact g2
def ac':pK "min" = a_ (.builtin "min"):=dk
def ahx{G:Bool->Hp->Prop}(h:∀Qk:Bool->Hp->Prop,(∀b H3,G b H3->Qk b H3)->T σ H Qk)(k:∀b H3,G b H3->if b=c_ then A D σ H3 else B D σ H3):NI T A B D σ H:=h _ k
def akp:(["_law_move"]:List Str).Nodup:=dk
def VG{α:Type}(f:α->Nat)(n:Nat):∀(l:List α),(∀x∈l,f x<=n)->(l.map f).sum<=l.length*n
 | [],_=>by simp
 | x::l,h=>by
  have h1:=h x du;have h2:=VG f n l λy hy=>h y (eL _ hy);rw[gq,D4,fR,Bc];lia
def af6(W:gc n S):iB S<=4*n:=by
 have h:=VG (λk:Ck=>k.es.length) n S.ck λk hk=>cu (W.wf.es k hk) W.ac;have h4:=W.wf.four;unfold iB;exact cu h (Ip n h4)
structure RI(t:aW)(C CT PT:e_)(H0:Hp)(m:e_)(A:MA)(lp:e_)(ps:List Pt)(H:Hp)(S:Mc)(n:Nat)(aU:List Nat):Prop where
 M:bf t C CT H m A S
 W:gc n S
 lam:cQ PT LP LQ H
 kd:S.kd = P_
 pe:S.ps=ps
 J:JJ ps aU S
 k:aY (cq m A) H0 H
 lp:H lp=a_ (.lst (aU.map nV))
def RI.oz{t:aW}{C CT PT:e_}{lp:e_}(I:RI t C CT PT H0 m A lp ps H S n aU)(k:aY su H H')(l:cQ PT LP LQ H'):RI t C CT PT H0 m A lp ps H' S n aU:=⟨I.M.oz k,I.W,l,I.kd,I.pe,I.J,I.k.trans (k.mono λb z=>z.elim),k.vo I.lp⟩
def RI.same{t:aW}{C CT PT:e_}{lp:e_}(I:RI t C CT PT H0 m A lp ps H S n aU)(s:af H H'):RI t C CT PT H0 m A lp ps H' S n aU:=I.oz (aY.of s) (lL I.lam s)
def RI.app{t:aW}{C CT PT:e_}{lp:e_}(M:bf t C CT H m A S)(W:gc n S)(lam:cQ PT LP LQ H)(kd:S.kd = P_)(pe:S.ps=ps)(J:JJ ps (aU++[p]) S)(k:aY (cq m A) H0 H)(hl:H lp=a_ (.lst (aU.map nV)))(nI:¬cq m A lp)(n0:H0 lp=b_):RI t C CT PT H0 m A lp ps (upd H lp (.lst (aU.map nV++[nV p]))) S n (aU++[p]):=by
 refine⟨M.Na (F:=λb=>b=lp) (aY.upd xz) λb e=>⟨by rw[e];exact nI,λo ho=>⟨_,by rw[e,hl]at ho;exact(cE ho).symm⟩⟩,W,yP (F:=[lp]) lam (λb o nb e=>by rw[ai λz=>nb (by rw[z];exact du)];exact e) (λb hb o e=>by rw[cD.mp hb,hl]at e;cases e;exact .inr ⟨_,xz⟩),kd,pe,J,⟨λb o h1 h2 e=>?_,λb e=>?_⟩,by rw[fv];exact ao⟩
 .rw[ai λz=>by rw[z,n0]at e;cases e];exact k.k b o h1 h2 e
 .by_cases z:b=lp
  .rw[z];exact n0
  .rw[ai z]at e;exact k.t b e
def akw(h:mv∈jg S):∃(c:Nat) (k:Ck),S.ck[c]?=a_ k/\gY (sh mv) 1=a_ (.int (c:Nat))/\zJ S mv=k.pl:=by
 have z:∀{c:Nat} {k:Ck} {w:Str} {r:List Int},S.ck[c]?=a_ k->zJ S (w,(c:Int)::r)=k.pl:=λ{c k w r} hk=>by
  unfold zJ;show (S.ck[((c:Int)).toNat]?.map Ck.pl).getD 0=_;rw[di,hk];rfl
 rcases yT h with ⟨c,rfl,hc,_⟩ | ⟨c,k,n,rfl,hk,_⟩
 .exact⟨c,_,aM hc,cx (j:=1) xz,z (aM hc)⟩
 .exact⟨c,k,hk,cx (j:=1) xz,z hk⟩
section
variable{t:aW}{C CT PT:e_}
def WC(K:u_)(t:aW)(C CT PT:e_):Sp:=λvs H Q _=>∃(a:e_) (ns:List Int) (m:e_) (A:MA) (ps:List Pt) (lab:e_->Nat),vs=[.ref a,.ref A.pg,.ref m]/\bf t C CT H m A (qq P_ ps)/\jn lab m A/\kU ps/\cQ PT LP LQ H/\ns.length<=63/\(∀H',aY (cq m A) H H'->aj K H' a (ns.map V.int))/\
 ∀H' lp S aU,bf t C CT H' m A S->ip S->iY S=[]->S.ps=ps->S.ac.length<=61->JJ ps aU S->H' lp=a_ (.lst (aU.map nV))->Q (.ref lp) H'
def qj:ba [ap4,"_law_program_here","_law_machine","_law_places","_law_late","_law_k","_law_moves","_law_draw","_law_does","_law_move","_law_known","_law_at"] zLg (aS NR):=bj
def air(F:aQ K "_law_ran" "_law_ran" NR f fd)(cM:fh K C)(dM:mg "len" = b_)(dQ:mg "range" = b_)(anx:mg "min" = b_)
  (DC:Dp P w K mg base 1 "_law_cell_at" zLm (LN K))
  (DM:Dp P w K mg base 1 "_law_mixed" zLp FC)
  (DV:Mt P w K mg base C 4 "moves" zLc (K2 t C CT PT))
  (DP:Dp P w K mg base 2 "_law_pick" zLi VN)
  (Ig:Mt P w K mg base C 1 "deeds" zLc (za t C CT))
  (DWh:Mt P w K mg base C 1 "where" zLb (UH t C CT Ck.pl))
  (DDo:Mt P w K mg base C 7 "do" [U_,"move"] (NO t C CT PT))
  (DS:Mt P w K mg base C 8 "settle" zLc (Tu t C CT PT)) :
  aG P w K mg base aI 9 f fd zLg (WC K t C CT PT):=by
 refine F.ok qj λaJ Ar outer s H vs Q E hr h=>?_
 .obtain⟨a,ns,m,A,ps,lab,e,M0,L,hg,am0,iT,hS,q⟩:=h;subst e;have hu:=UB hr;have dy:=hr.mono (show 1<=8 by decide);have iq:=hr.mono (show 2<=8 by decide);have qN:=hr.mono (show 4<=8 by decide);have Az:=hr.mono (show 7<=8 by decide)
  refine let R1:TS:=_;let R2:TS:=_;let R3:TS:=_;let R4:TS:=_;let R5:TS:=_;let R6:TS:=_;let R7:TS:=_;let R8:TS:=_;let R9:TS:=_;let nJ:TS:=_;let R11:TS:=_;let R12:TS:=_;let R13:TS:=_;let R14:TS:=_;⟨_,ar (bq (i:=3) qj.nd xz (aE xz) (dW ag)) (pR R14 (ar (bq (i:=4) qj.nd xz (aE xz) (br iz (dO DC dy xz (ab (pv 0) (ab (aw) ag))) (aw))) (pR R13 (ar (ij gn xz (SG xz dQ (ab (aw) (ab (bU (ael xz) xz anx ac' (ab (bU eU xz dM q_ (ab (pv 0) ag)) (ab (aw) ag))) ag))) (bA (i:=5) qj.nd xz (aE xz)) (pR nJ (ar (bq (i:=6) qj.nd xz (aE xz) (lM (pv 2) cM.cl DV qN)) (pR R9 (ar (bq (i:=7) qj.nd xz (aE xz) (dO DM dy xz (ab (aP cw (pv 0) (pv 5)) (ab (pv 5) ag)))) (pR R8 (ar (yM (i:=8) (N:=["_law_move"]) (idx:=[]) qj.nd xz xz xz (dw.of (by kernel_rfl)) (iG (a8 _)) (pX (pv 6)) (λ_ _ _ _=>bA (i:=0) akp xz (aE xz) (.inr xz)) (λ_ _ _ _=>wJ (bM c7 (aP (BV K) (pv 0) aw) cR (bJ _))) λ_ _ _ _=>pv 0)
   (pR R7 (ar (b8 (PW.pt (pw_and (bM (T7 hu) (pv 8) (dW ag) (bJ _)) (pw_and1 (bM zC (br iz (pv 7) (aw)) (br i5 (pv 4) (aw)) (bJ _))))) (av (bq (i:=6) qj.nd xz (aE xz) (pv 8))) cp) (pR R6 (av (b8 (bM (T7 hu) (pv 6) (dW ag) (bJ _)) (pR R5 (ar (bq (i:=9) qj.nd xz (aE xz) (aP cw (pv 6) (dO DP iq xz (ab (aP cw (pv 0) (pv 5)) (ab (pv 5) (ab (bU eU xz dM q_ (ab (pv 6) ag)) ag)))))) (pR R4 (ar (bq (i:=10) qj.nd xz (aE xz) (bU eU xz dM q_ (ab (lM (pv 2) cM.cl Ig dy) ag))) (pR R3 (ar (bq (i:=11) qj.nd xz (aE xz) (jh (pv 2) cM.cl DWh dy (ab (aP cc (pv 9) (aw)) ag))) (pR R2 (ar (cX (jh (pv 2) cM.cl DDo Az (ab (pv 9) ag))) (pR R1 (av (b8 (bM wQ (bU eU xz dM q_ (ab (lM (pv 2) cM.cl Ig dy) ag)) (pv 10) (bJ _)) (av (cX (ik m_ n_ o_ jR (pv 3) (ab (pv 11) ag)))) cp))))))))))) cp))))))))))))
   (pR R12 (ar (cX (lM (pv 2) cM.cl DS hr)) (pR R11 (av (aZ (pv 3)))))))))),?_⟩
  have hsz:=fw;refine⟨qc,λlp OW=>a7 (nw (o:=.lst []) OW) λH1 e1 s1 Po=>?_⟩;rw[e1];clear e1;have nI:¬cq m A lp:=λz=>aq (M0.FL z) λo e _=>by rw[OW]at e;cases e
  have I0:RI t C CT PT H m A lp ps H1 (qq P_ ps) 0 []:=⟨M0.same s1,aiz hg,lL am0 s1,xz,xz,JJ.new,aY.of s1,Po⟩;refine vr xz (⟨a,ns,1,xz,(hS _ I0.k),qc,⟨_,_,xz,xz,(by show (0:Int)<4;decide),?_⟩⟩)
  have Xl:(if (61:Int)<((ns.map V.int).length:Int) then (61:Int) else ((ns.map V.int).length:Int))<=61/\0<=(if (61:Int)<((ns.map V.int).length:Int) then (61:Int) else ((ns.map V.int).length:Int))/\(if (61:Int)<((ns.map V.int).length:Int) then (61:Int) else ((ns.map V.int).length:Int))<=ns.length:=by
   rw[aL]
   split <;> lia
  refine vr xz ⟨a,⟨_,xz,.inl (hS _ I0.k),_,_,xz,2,_,xz,⟨qc,qc,li,om⟩,?_⟩⟩;generalize (if (61:Int)<((ns.map V.int).length:Int) then (61:Int) else ((ns.map V.int).length:Int))=mx at Xl ⊢;obtain⟨x1,x2,x3⟩:=Xl
  let W1:IV:=λi σ H'=>i<=(mx-2).toNat/\∃S n aU z5 z6 z7 z8 z9 t7 t6,σ=[a_ (.ref a),a_ (.ref A.pg),a_ (.ref m),a_ (.ref lp),a_ (.int (wW ns 1%4)),z5,z6,z7,z8,z9,t7,t6]/\RI t C CT PT H m A lp ps H' S n aU/\n<=i
  refine sY (n:=(mx-2).toNat) W1 ⟨a8 _,qq P_ ps,0,[],_,_,_,_,_,_,_,xz,I0,aA _⟩ ?_ ?_
  .rintro i σ H5 hi ⟨_,S,n,aU,z5,z6,z7,z8,z9,t7,t6,rfl,I5,HH⟩;have hc:i+2<ns.length:=om
   have hat:gY (ns.map V.int) (2+(i:Int))=a_ (.int ns[i+2]):=by
    rw[show (2+(i:Int))=((i+2:Nat):Int) by lia];exact iA (f:=V.int) (aM hc)
   have tC:∀{D:Ends} {H7:Hp} {l:e_} {z7 z8:Option V} {ws:List V} {O2:List Mv},(∀σ H,W1 (i+1) σ H->D.nx σ H)->RI t C CT PT H m A lp ps H7 S n aU->H7 l=a_ (.lst ws)->Paired (jH H7) ws O2->(∀mv∈O2,mv∈jg S)->
     R6 D [a_ (.ref a),a_ (.ref A.pg),a_ (.ref m),a_ (.ref lp),a_ (.int (wW ns 1%4)),a_ (.int (2+(i:Int))),a_ (.ref l),z7,z8,z9,t7,t6] H7:=λ{D H7 l z7 z8 ws O2} hD I7 hl jM CV=>by
    refine⟨_,xz,qc,λle OX=>a7 (nw (o:=.lst []) OX) λH8 e8 s8 hle=>?_⟩;rw[e8];clear e8;have I8:=I7.same s8;have Pp:=s8 _ _ hl;refine⟨l,le,ws,xz,xz,Pp,hle,_,xz,tD (λhe=>?_) λ_=>hD _ _ ⟨hi,S,n,aU,_,_,_,_,_,_,_,xz,I8,li⟩⟩;have zW:=aa0.mpr he;refine⟨_,xz,_,xz,_,xz,a,_,_,_,xz,xz,hS _ I8.k,hat,_,xz,_,xz,l,ws,xz,.inl (aj.of Pp),_,_,ws.length,xz,zW,λj hj=>?_⟩;have Z4:ws[j]?=a_ ws[j]:=aM hj;refine aq (kD jM Z4) λmv anw aa=>aq aa λp ep hp=>?_;have jO:=CV mv (bu anw);obtain⟨c,k,hk,anR,dG⟩:=akw jO;refine⟨l,_,_,.ref p,xz,xz,aj.of Pp,(by rw[<-ep];exact cx Z4),bQ (id I8.M.obj) λdx8 fs8 qP G8=>vM xz qP (G8.ms _ dk) ⟨m,A,S,xz,I8.M,λld wd nd HF=>a7 (nw (o:=.lst wd) nd) λH9 e9 s9 hd9=>?_⟩⟩;rw[e9];clear e9;have I9:=I8.same s9;have ye:=s9 _ _ qP;have hp9:=s9 _ _ (s8 _ _ hp);refine⟨ld,wd,xz,.inl (aj.of hd9),vM xz ye (G8.ms _ dk) ⟨_,xz,p,_,_,_,xz,xz,aD.of hp9,anR,m,A,S,c,k,xz,I9.M,hk,vM xz ye (G8.ms _ dk) (vr xz ⟨m,A,S,p,mv,lab,xz,I9.M,L,I9.W.wf,I9.W.YF li,I9.lam,hp9,jO,λIe Ia CI Xj=>bQ (id Ia.obj) λap2 Ou xA G10=>vM xz xA (G10.ms _ dk) ⟨m,A,_,xz,Ia,λlq wq nq hpq=>a7 (nw (o:=.lst wq) nq) λIc e11 kj anl=>?_⟩⟩)⟩⟩;rw[e11];clear e11;have kp:=Vd I9.W jO;have Gf:=kj _ _ (CI.k _ _ nI (λps z=>by cases z) I9.lp);have ZU:=(I9.k.trans CI).trans (aY.of kj);have W11:=Vc I9.W li jO;have Dm:=I9.J.made I9.W I9.kd I9.pe jO;unfold xj at Dm;refine⟨lq,wq,xz,.inl (aj.of anl),_,xz,_,_,xz,xz,_,xz,bG (λbz=>?_) λbz=>?_⟩
    .rw[r_ HF,r_ hpq]at bz;rw[if_pos li,dG]at Dm;refine⟨_,xz,.inl ⟨xz,_,aj.of Gf⟩,_,xz,lp,_,_,xz,xz,Gf,?_,hD _ _ ⟨hi,_,n+1,_,_,_,_,_,_,_,_,xz,RI.app (Ia.same kj) W11 (lL Xj kj) (kp.1.trans I9.kd) (kp.2.trans I9.pe) Dm ZU Gf nI OW,li⟩⟩;have:=I9.J.len hg;have:=I9.W.ac;rw[aL,hsz];lia
    .rw[r_ HF,r_ hpq]at bz;rw[if_neg li]at Dm;exact hD _ _ ⟨hi,_,n+1,aU,_,_,_,_,_,_,_,xz,⟨Ia.same kj,W11,lL Xj kj,kp.1.trans I9.kd,kp.2.trans I9.pe,Dm,ZU,Gf⟩,li⟩
   refine bQ (id I5.M.obj) λdx5 fs5 ug G5=>vM xz ug (G5.ms _ dk) (pU m A S xz I5.M I5.W.wf I5.lam λH6 l ws k6 amX nl hl jM=>?_);have I6:=I5.oz k6 amX
   have km:ws.length<=3000:=by
    have h1:=KO S S.ck.length;have h2:=EM S.kd S.ck.zipIdx;have h4:=I6.W.wf.four;rw[QE]at h2;rw[r_ jM,jg,bL,iY];lia
   refine⟨_,xz,_,xz,a,_,_,_,xz,xz,hS _ I6.k,hat,_,xz,_,_,xz,⟨_,xz,l,xz,⟨_,aj.of hl⟩,gr (n:=ws.length) (λj ys H'=>H'=H6/\ys.length<=j/\∃cs,Paired (jH H6) ys cs/\∀mv∈cs,mv∈jg S) (by rw[hsz];lia) ⟨xz,a8 _,[],.nil,λmv z=>by cases z⟩ (λj ys H' z=>z.2.1) ?_ ?_ ?_ ?_⟩⟩
   .rintro j ys H' hj ⟨rfl,_⟩;exact f7 _ _ (aj.of hl) (aM hj)
   .rintro ys H' ⟨rfl,_⟩;exact au _ (aj.of hl) (aA _)
   .rintro j ys H' hj ⟨rfl,ZY,cs,qR,AG⟩ x iF ⟨eH,hx⟩;subst eH;have dF:=hx _ (aj.of hl);refine aq (kD jM dF) λmv CV aa=>aq aa λp ep hp=>?_;subst ep;refine⟨_,xz,rT (v:=.str mv.1) (aD.of hp) (show gY (sh mv) ((0:Nat):Int)=_ from cx xz) ⟨xz,_,xz,vp (λ_=>?_) λ_=>⟨xz,li,cs,qR,AG⟩⟩⟩;exact⟨_,xz,xz,by rw[bL];show _+1<=_;lia,cs++[mv],mE qR ⟨p,xz,hp⟩,λy hy=>(dH.mp hy).elim (AG y) λz=>by rw[cD.mp z];exact bu CV⟩
   rintro ys H' ⟨rfl,ZY,cs,qR,AG⟩;refine⟨by rw[hsz];lia,λlc nlc=>a7 (nw (o:=.lst ys) nlc) λH7 e7 s7 hlc=>?_⟩;rw[e7];clear e7;have I7:=I6.same s7;have hR7:R7=Xr (NI _ _ _) _:=rfl;show R7 _ _ _;rw[hR7];refine ahx (G:=λb H3=>af H7 H3) (λQk hk=>?_) λb H3 s8=>?_
   .refine⟨_,xz,qc,λle OX=>a7 (nw (o:=.lst []) OX) λH8 e8 s8 hle=>?_⟩;rw[e8];clear e8;refine⟨lc,le,ys,xz,xz,s8 _ _ hlc,hle,_,xz,tD (λ_=>?_) λ_=>hk _ _ s8⟩;exact⟨_,xz,_,_,xz,xz,(by show (0:Int)<5;decide),_,xz,_,_,xz,xz,_,_,xz,xz,_,xz,hk _ _ s8⟩
   .have I8:=I7.same s8;cases b with
    | true=>exact⟨_,xz,tC (λσ H h=>h) I8 (s8 _ _ hlc) (Paired.bZ qR λ_ _ q=>jH.keep (λb xs e=>s8 _ _ (s7 _ _ e)) q) AG⟩
    | false=>exact eW (tC (λσ H h=>h) I8 (s8 _ _ (s7 _ _ hl)) (Paired.bZ jM λ_ _ q=>jH.keep (λb xs e=>s8 _ _ (s7 _ _ e)) q) λmv h=>h)
  .rintro σ H5 ⟨_,S,n,aU,z5,z6,z7,z8,z9,t7,t6,rfl,I5,HH⟩;have eT:=I5.W.ac;have Z3:=af6 I5.W;refine bQ (id I5.M.obj) λdx5 fs5 ug G5=>vM xz ug (G5.ms _ dk) ⟨m,A,S,lab,n,λT=>T.ac.length<=61/\T.kd = P_/\T.ps=ps/\JJ ps aU T,xz,I5.M,L,I5.W,li,I5.lam,⟨li,I5.kd,I5.pe,I5.J⟩,λT n mv hT W hE h=>?_,λH6 l6 S6 hJ hc W6 M6 k6=>?_⟩
   .obtain⟨g2,g3,g4,g5⟩:=hT;have hm:=Q9 h;have:=Vd W hm;exact⟨by rw[Ve h];exact g2,this.1.trans g3,this.2.trans g4,by have:=g5.made W g3 g4 hm;rw[agN h]at this;exact this⟩
   .exact vr xz (q _ _ _ _ M6 W6 hc hJ.2.2.1 hJ.1 hJ.2.2.2 (k6.k _ _ nI (λps z=>by cases z) I5.lp))
end
def aiP{PT m C dx:e_}{fs:List (Str×V)}(k:eF m H H')(hm:H m=a_ (.ins C dx fs))(h:cQ PT LP LQ H):cQ PT LP LQ H':=
 yP (F:=[m]) h (λb o n e=>k.k b o (λz=>n (by rw[z];exact cD.mpr xz)) e) λb hb o e=>by rw[cD.mp hb,hm]at e;cases e;exact .inl ⟨_,_,_,xz⟩
def aeB{K:u_}(k:aY su H H')(h:aj K H a xs):aj K H' a xs:=by
 rcases h with (h | ⟨o,h⟩) | h
 .exact .inl (.inl (k.k _ _ (λz=>z) (λps z=>by cases z) h))
 .exact .inl (.inr ⟨o,k.k _ _ (λz=>z) (λps z=>by cases z) h⟩)
 .exact .inr h
def afU(a b:Nat):A8 (a:Int) (sR (b:Int))=((a-(a &&& b):Nat):Int):=by
 have e:sR (sR (b:Int))=(b:Int):=by unfold sR;omega
 have h0:¬(0:Int)<=sR (b:Int):=by unfold sR;omega
 have hle:a &&& b<=a:=QT;unfold A8;rw[decide_eq_true (yx a),decide_eq_false h0];show (a:Int)-(((a:Int).toNat &&& (sR (sR (b:Int))).toNat:Nat):Int)=_;rw[e,di,di];omega
def ajh(h:a.testBit m=c_)(e:m≠n):a-(a &&& (1 <<< n))≠0:=λz=>e (by
 have:=L5.without.mp z m h;rw[L5.Vq]at this;exact(of_decide_eq_true this).symm)
section
variable{t:aW}{C CT PT:e_}
def WE(K:u_)(PT:e_):Sp:=λvs H Q _=>∃(a:e_) (ns:List Int),vs=[.ref a]/\aj K H a (ns.map V.int)/\ns.length<=63/\cQ PT LP LQ H/\∀H',Q (.bl c_) H'
def kQ:ba [ap4,"_law_program_here","_law_machine","_law_places","_law_told","_law_sets","_law_deeds","_law_number","_law_why","_law_kind","_law_clerk","_law_name","_law_got","_law_gave","_law_seen"] [ap4] (aS xg):=bj
def aiq(F:aQ K "law" "law" xg f fd)(cM:fh K C)
  (DC:Dp P w K mg base 1 "_law_cell_at" zLm (LN K))
  (DP:Dp P w K mg base 3 "_law_program" ["_law_cell"] UL)
  (mk:Mk K C fI) (GI:aG P w K mg base aI 7 fI gI zLl (UK t C CT)) (alQ:mg "Machine" = a_ (.ref C)) (tk:Nat) (b2:Binds K gI zLl [.str P_ tk])
  (DRa:Dp P w K mg base 9 "_law_ran" zLg (WC K t C CT PT))
  (DOr:Dp P w K mg base 5 "order" zLd (UI t C CT))
  (DMk:Dp P w K mg base 6 "marks" zLs Xv)
  (Ig:Mt P w K mg base C 1 "deeds" zLc (za t C CT))
  (DSh:Dp P w K mg base 1 "_law_shared" zLh Xu) :
  aG P w K mg base aI 10 f fd [ap4] (WE K PT):=by
 have dv:Vals [V.str P_] [uK P_ tk]:=.cons ⟨tk,xz⟩ .nil;refine F.ok kQ λaJ Ar outer s H vs Q E hr h=>?_
 .obtain⟨a,ns,e,hS,hlen,lam,q⟩:=h;subst e;have hu:=UB hr;have dy:=hr.mono (show 1<=9 by decide);have sF:=hr.mono (show 3<=9 by decide);have Pg:=hr.mono (show 5<=9 by decide);have HE:=hr.mono (show 6<=9 by decide);have HD:=hr.mono (show 8<=9 by decide);refine let g:TS:=_;let l:TS:=_;let B:TS:=_;let D:TS:=_;let G:TS:=_;let I:TS:=_;let J:TS:=_;let N:TS:=_;let O:TS:=_;let T:TS:=_;⟨_,ar (bq (i:=1) kQ.nd xz (aE xz) (dO DP sF xz (ab (dO DC dy xz (ab (pv 0) (ab (aw) ag))) ag))) (pR T (ar (bq (i:=2) kQ.nd xz (aE xz) (tf mk GI HD xz alQ b2 dv c9 (ab (pv 1) ag))) (pR O (ar (bq (i:=3) kQ.nd xz (aE xz) (dO DRa hr xz (ab (pv 0) (ab (pv 1) (ab (pv 2) ag))))) (pR N (ar (bq (i:=4) kQ.nd xz (aE xz) (dO DOr Pg xz (ab (pv 2) ag))) (pR J (ar (b8 (bM c7 (aP cc (pv 4) (aw)) cR (bJ _)) (av (aZ jU)) cp) (pR I (ar (bq (i:=5) kQ.nd xz (aE xz) (dO DMk HE xz (ab (pv 1) ag))) (pR G (ar (bq (i:=6) kQ.nd xz (aE xz) (lM (pv 2) cM.cl Ig dy)) (pR D (ar (ij gn xz (ow (aP cc (pv 4) (aw))) (kK xz (dA (bA (i:=7) kQ.nd xz (aE xz)) (dA (bA (i:=8) kQ.nd xz (aE xz)) kH))) (pR B (ar (uZ (aP cw (pv 6) (pv 7)) (kK xz (dA (bA (i:=9) kQ.nd xz (aE xz)) (dA (bA (i:=10) kQ.nd xz (aE xz)) (dA (bA (i:=11) kQ.nd xz (aE xz)) (dA (bA (i:=12) kQ.nd xz (aE xz)) (dA (bA (i:=13) kQ.nd xz (aE xz)) (dA (bA (i:=14) kQ.nd xz (aE xz)) kH)))))))) (pR l (av (b8 (PW.pt (pw_and (bM c7 (pv 8) cR (bJ _)) (pw_and (bM c7 (pv 9) cR (bJ _)) (pw_and1 (bM BQ (br V5 (aP cc (aP cc (pv 5) (pv 10)) (aP cw (pv 3) (pv 7))) (MV ahT (br V4 (aw) (pv 11)))) aw (bJ _)))))) (pR g (av (b8 (gu (dO DSh dy xz (ab (pv 1) (ab (pv 10) (ab (pv 11) ag))))) (av (aZ jU)) cp))) cp)))))) (av (aZ jU)))))))))))))))),?_⟩;have hsz:=fw;refine⟨_,xz,a,ns,0,xz,hS,qc,_,xz,λH1 v ps s1 hP hg h3 _=>⟨_,xz,λm dx nm gJ ne=>?_⟩⟩;have nm2:upd H1 dx (.own m) m=none:=by rw[ai ne.symm];exact nm
  have sa:=aB (o:=.ins C dx []) (aB (o:=.own m) (af.refl H1) gJ) nm2;have hm:upd (upd H1 dx (.own m)) m (.ins C dx []) m=a_ (.ins C dx []):=ao;generalize upd (upd H1 dx (.own m)) m (.ins C dx [])=Hb at sa hm ⊢;refine⟨m,dx,v,ps,P_,xz,hm,hP.keep λb xs e=>sa _ _ e,hg,.inl xz,λH4 A lab M L ev k4 fr=>⟨xz,?_⟩⟩;subst ev;have Hh:=s1.trans sa
  have fr0:∀b,cq m A b->H b=none:=λb hb=>by
   rcases fr b hb with e | e
   .rw[e];exact s1.free nm
   .exact Hh.free e
  have hS4:∀H',aY (cq m A) H4 H'->aj K H' a (ns.map V.int):=λH' k=>aeB ⟨λb o h1 h2 e=>k.k b o (λz=>by rw[fr0 b z]at e;cases e) h2 (k4.k b o (λz=>by rw[z,s1.free nm]at e;cases e) (Hh _ _ e)),λb e=>Hh.free (k4.t b (k.t b e))⟩ hS;refine⟨_,xz,_,xz,_,xz,a,ns,m,A,ps,lab,xz,M,L,hg,aiP k4 hm (lL lam Hh),hlen,hS4,λH5 lp S aU M5 W5 hc dS eT J5 Po=>?_⟩;have e0:=ai7 M5.NG hc;have Z:=J5.aml hg W5 e0;refine⟨_,xz,m,A,S,xz,M5,W5,li,λi k h=>e0 k (bu h),Z,J5.tT hg Z e0,λH6 p x u R s6 Pj hK x9=>?_⟩;rcases x9 with ⟨rfl,_⟩ | ⟨rfl,d,ts,Y,rfl,hd,hY,rM⟩
  .exact⟨_,xz,p,_,_,_,xz,xz,aD.of Pj,cx (j:=0) xz,xz,_,xz,bG (λ_=>q _) λz=>absurd xz z⟩
  refine⟨_,xz,p,_,_,_,xz,xz,aD.of Pj,cx (j:=0) xz,xz,_,xz,bG (λz=>absurd (V.str.inj z) dk) λ_=>?_⟩;have M6:=M5.same s6;have hP6:lO H6 (.ref A.pg) ps:=by rw[<-dS];exact M6.pg
  refine⟨_,xz,_,ps,xz,hP6,hg,λv7 rows H7 s7 hmk hof=>?_⟩
  have cl:Cr rows ps:=λc p hp=>by
   obtain⟨r,hr,h⟩:=pO hof hp;rw[ff hr];exact h.2
  obtain⟨mq,yb,hyb,jb,bb,mb,e1,e2,e3,e4,e5,e6,e7⟩:=J5.ring cl dS Z e0 rM;obtain⟨kb,nH⟩:=pG hyb;have M7:=M6.same s7;refine bQ (id M7.obj) λdx7 fs7 Pm G7=>vM xz Pm (G7.ms _ dk) ⟨m,A,S,xz,M7,λld wd nd HF=>a7 (nw (o:=.lst wd) nd) λH8 e8 s8 hd8=>?_⟩;rw[e8];clear e8;have qK:=s7.trans s8;have pk:Paired (jk H8) wd S.ac:=Paired.bZ HF λ_ _ q=>q.keep λb xs e=>s8 _ _ e;obtain⟨va,us,rfl,hva,gK⟩:=hmk;have anD:=qK _ _ (s6 _ _ Po);have hP8:=hP6.same qK;refine⟨_,xz,p,_,_,_,xz,xz,aD.of (qK _ _ Pj),cx (j:=1) xz,d,xz,⟨_,aD.of (qK _ _ hd)⟩,?_⟩
  let W1:IV:=λi σ H'=>i<=kb/\H'=H8/\∃z7 z8 z9 t7 t6 Ha G' G9,σ=[a_ (.ref a),a_ (.ref A.pg),a_ (.ref m),a_ (.ref lp),a_ (.ref p),a_ (.ref va),a_ (.ref ld),z7,z8,z9,t7,t6,Ha,G',G9]
  refine Vj (xs:=ts) W1 ⟨a8 _,xz,_,_,_,_,_,_,_,_,xz⟩ (λi σ H' _ h=>by obtain⟨_,rfl,_⟩:=h;exact aD.of (qK _ _ hd)) ?_ ?_
  .rintro i x σ H' hx ⟨hi,rfl,z7,z8,z9,t7,t6,Ha,G',G9,rfl⟩;obtain⟨y,hy,py,rfl,hpy⟩:=kD hY hx;have ZZ:=Th Z (rM.sub y (bu hy));obtain⟨j,ej⟩:∃j:Nat,y.1=(j:Int):=⟨y.1.toNat,om⟩;have hj:j<S.ac.length:=om;have AD:S.ac[j]?=a_ S.ac[j]:=aM hj;generalize S.ac[j]=b at AD;obtain⟨wv,hwv,pa,rfl,ano⟩:=pO pk AD;refine⟨py,_,xz,aD.of (qK _ _ hpy),xz,_,_,xz,_,[],xz,xz,⟨_,xz,_,xz,ld,_,_,.ref pa,xz,xz,aj.of hd8,(by rw[ej];exact cx hwv),pa,_,xz,aD.of ano,xz,_,_,xz,_,_,xz,_,_,xz,_,_,xz,_,_,xz,_,[],xz,xz,?_⟩⟩
   have bad:i=kb->y=yb/\j=jb/\b=bb:=λe=>by
    subst e;rw[nH]at hy;cases hy;have ejb:j=jb:=om;subst ejb;rw[e3]at AD;cases AD;exact⟨xz,xz,xz⟩
   have qy:i≠kb->∀{z7 z8 z9 t7 t6 Ha G' G9:Option V},W1 (i+1) [a_ (.ref a),a_ (.ref A.pg),a_ (.ref m),a_ (.ref lp),a_ (.ref p),a_ (.ref va),a_ (.ref ld),z7,z8,z9,t7,t6,Ha,G',G9] H':=λe=>λ{_ _ _ _ _ _ _ _}=>⟨om,xz,_,_,_,_,_,_,_,_,xz⟩;obtain⟨pt,xZ,dG⟩:=mq j b AD;obtain⟨r,dR,dy⟩:=pO hof xZ;obtain⟨uv,huv,ra,rfl,iE⟩:=pO gK dR;have ao8:=J5.len hg;have hn:=(Z.ok j b AD).n;refine⟨_,xz,xz,_,xz,bG (λh1=>?_) λh1=>eW (qy λe=>h1 ?_)⟩
   .refine⟨_,xz,xz,_,xz,bG (λh2=>?_) λh2=>eW (qy λe=>h2 ?_)⟩
    .refine⟨_,xz,_,xz,va,_,_,.ref ra,xz,xz,aD.of (s8 _ _ hva),cx huv,_,xz,_,xz,lp,_,_,nV (aU.getD j 0),xz,xz,aj.of anD,(by rw[ej];exact zu om),ra,_,_,nV (r.getD (aU.getD j 0) 0),xz,xz,aD.of (s8 _ _ iE),zu (by rw[dy.1];omega),⟨_,xz,_,_,xz,xz,⟨om,om,qc⟩,_,xz,_,_,xz,xz,xz,_,xz,?_⟩⟩;show if (!decide (V.int (A8 ((r.getD (aU.getD j 0) 0:Nat):Int) (sR ((1:Int)*(2:Int)^((b.n:Nat):Int).toNat)))=V.int 0))=c_ then _ else _
     rw[US,afU];refine tD (λh3=>?_) λh3=>qy λe=>?_
     .refine⟨_,xz,_,xz,_,xz,_,b.c,b.n,ps,xz,hP8,hg,λbs C7=>⟨_,xz,vp (λ_=>q _) λhf=>qy λe=>?_⟩⟩;obtain⟨_,_,rfl⟩:=bad e;rw[C7 e7]at hf;cases hf
     .obtain⟨_,rfl,rfl⟩:=bad e;have h3:=V.int.inj h3;have e6:(L5.iC (rows.getD b.c []) (aU.getD j 0)).testBit mb=true:=e6;rw[ff dR]at e6;exact ajh (a:=r.getD (aU.getD j 0) 0) e6 e5 (Int.ofNat.inj h3)
    .obtain⟨_,_,rfl⟩:=bad e;rw[e4]
   .obtain⟨rfl,_,_⟩:=bad e;rw[e2]
  .rintro σ H' ⟨hi,_⟩;exfalso;have:=(bK.mp nH).1;have:=r_ hY;omega
end
end TL
namespace TL
open PySem.SeqAt L2 L3
def W9{us:List f_}(h:us.length=1):∃a,us=[a]:=aaB.mp h
def F5{us:List f_}{n:Nat}(h:us.length=n+1):∃a l,us=a::l/\l.length=n:=by
 cases us with
 | nil=>cases h
 | cons a l=>exact⟨a,l,xz,ach h⟩
def W8{us:List f_}(h:us.length=2):∃a b,us=[a,b]:=bQ (F5 h) λa _ e h=>oE (W9 h) λb z=>⟨a,b,by rw[e,z]⟩
def W7{us:List f_}(h:us.length=3):∃a b c,us=[a,b,c]:=bQ (F5 h) λa _ e h=>vE (W8 h) λb c z=>⟨a,b,c,by rw[e,z]⟩
def W3{us:List f_}(h:us.length=4):∃a b c d,us=[a,b,c,d]:=bQ (F5 h) λa _ e h=>amz (W7 h) λb c d z=>⟨a,b,c,d,by rw[e,z]⟩
def aoH{us:List f_}(h:us.length=5):∃a b c d e,us=[a,b,c,d,e]:=bQ (F5 h) λa _ e h=>akj (W3 h) λb c d f z=>⟨a,b,c,d,f,by rw[e,z]⟩
abbrev xJ(x q:Str)(st:Stmt)(ps:List Str):Prop:=∀(kV doc pm:f_) (an:Option e_) (aJ ct:f_) (us:List f_),us.length=ps.length->uO (B_ x q (kI st) (iL st) (aS st) .none kV doc pm an aJ ct) ⟨us,[]⟩=pure (ps.zip us)
section
variable{K:u_}{h:i_}{mg:Str->Option f_}{x q m:Str}{st:Stmt}{f c e:e_}
def dm(X:K.In h)(G:h.Ns eN mg)(p:fN K x)(l:HT.bg K (gN K x)=fp x x st)(ps:List Str)(hb:xJ x x st ps):∃fd,aQ K x x st (gN K x) fd/\x_ K (.ref (gN K x))=c_/\Binds K fd ps []/\mg x=a_ (.ref (gN K x)):=by
 obtain⟨oc,od,kV,dc,pm,an,cd,ct,sl,l1,c1⟩:=HT.wV l p.2.1;have F:=Wn (st:=st) l1 c1 p.2.2;exact⟨_,F,p.2.2,F.binds hb,C_ X G (HT.mZ p.1)⟩
def dE(p:fM K c m q)(l:HT.bg K (gM K c m)=fp m q st)(ps:List Str)(hb:xJ m q st ps):∃fd,aQ K m q st (gM K c m) fd/\Binds K fd ps []/\Meth K c m (gM K c m):=by
 obtain⟨oc,od,kV,dc,pm,an,cd,ct,sl,l1,c1⟩:=HT.wV l p.2.1;have F:=Wn (st:=st) l1 c1 p.2.2.1;exact⟨_,F,F.binds hb,HT.mZ p.1,p.2.2.2,p.2.2.1⟩
def amC(p:fM K c m q)(l:HT.bg K (gM K c m)=fp m q st)(ci:HT.F8 K (gM K c m)=c_)(ps:List Str)(hb:xJ m q st ps):∃fd,vz K m q st (gM K c m) fd (HT.zP K (gM K c m))/\Binds K fd ps []/\Meth K c m (gM K c m):=by
 obtain⟨oc,od,kV,dc,pm,an,ct,sl,l1,c1⟩:=HT.ai6 l p.2.1 ci;have F:=ahB (st:=st) l1 c1 p.2.2.1;exact⟨_,F,F.fun.binds hb,HT.mZ p.1,p.2.2.2,p.2.2.1⟩
def mkD{d:Str}(p:fM K c m q)(l:HT.F6 K (gM K c m)=fp m q st)(df:HT.F7 K (gM K c m) d=c_):∃fd,B8 K m q st (gM K c m) fd d:=by
 obtain⟨oc,od,T,kV,dc,pm,an,cd,ct,sl,c1,d1,n1,t9,tk,e1,e2,e3⟩:=HT.ai4 l p.2.1 df;exact⟨_,⟨⟨oc,od,T,kV,dc,pm,an,cd,ct,sl,c1,d1,n1,t9,tk,xz,e1,e2,e3⟩,p.2.2.1⟩⟩
def si(X:K.In h)(G:h.Ns eN mg)(p:cK K x):dg K (gN K x)/\mg x=a_ (.ref (gN K x)):=⟨⟨p.2.1,p.2.2.1,p.2.2.2.1,p.2.2.2.2⟩,C_ X G (HT.mZ p.1)⟩
end
def Wv(l:W.OpenLaw)(w:j_)(K:u_)(mg:Str->Option f_)(fa:e_):Prop:=
  ∃fd:jS,(∀(s:g_) (v:f_),BindsTo s fd ⟨[v],[]⟩ [(ap4,v)])/\(∃c,W.codeHdIn K c 461=c_)/\∀base:i_,K.In base->base.Ns eN mg->tN mg base->aG l.prog w K mg base aI 10 fa fd [ap4] (WE K 461)
def sL9{K:u_}(E:seen K=c_)(i:Nat){b:Bool}(h:(Ad K ())[i]?=a_ b):b=true:=IK.mp E b (bu h)
section
variable{K:u_}(E:seen K=c_)
def ak{K:u_}(E:seen K=c_)(i:Nat){p:Prop}{d:Decidable p}(h:(Ad K ())[i]?=a_ (@decide p d)):p:=@of_decide_eq_true p d (sL9 E i h)
def S4:=ak E 2 xz
def S7:=ak E 7 xz
def S0:=ak E 12 xz
def Sa:=ak E 17 xz
def RY:=ak E 22 xz
def RZ:=ak E 27 xz
def Ry:=ak E 32 xz
def RX:=ak E 35 xz
def Q8:=ak E 40 xz
def Mq:=ak E 55 xz
def KD:=ak E 56 xz
def KH:=ak E 57 xz
def KC:=ak E 58 xz
def JY:=ak E 59 xz
def JW:=ak E 60 xz
def JX:=ak E 61 xz
def p0:=ak E 62 xz
def Lz:=ak E 68 xz
def Vk:=ak E 73 xz
def KG:=ak E 78 xz
def mU:=ak E 119 xz
end
def bo{K:u_}(E:qi K=oB)(i:Nat){a b:Option HT.qH}(h:(qi K)[i]?=a_ a)(g:oB[i]?=a_ b):a=b:=by rw[E,g]at h;exact(cE h).symm
def eK{x q:Str}{st:Stmt}{ps:List Str}(l:ps.length=1:=by rfl)(h:∀(kV doc pm:f_) (an:Option e_) (aJ ct:f_) (u0:f_),uO (B_ x q (kI st) (iL st) (aS st) .none kV doc pm an aJ ct) ⟨[u0],[]⟩=pure (ps.zip [u0]):=by intros;rfl):xJ x q st ps:=by
 intro k1 k2 k3 k4 k5 k6 us hl;obtain⟨u0,e⟩:=W9 (hl.trans l);subst e;exact h k1 k2 k3 k4 k5 k6 u0
def eP{x q:Str}{st:Stmt}{ps:List Str}(l:ps.length=2:=by rfl)(h:∀(kV doc pm:f_) (an:Option e_) (aJ ct:f_) (u0 u1:f_),uO (B_ x q (kI st) (iL st) (aS st) .none kV doc pm an aJ ct) ⟨[u0,u1],[]⟩=pure (ps.zip [u0,u1]):=by intros;rfl):xJ x q st ps:=by
 intro k1 k2 k3 k4 k5 k6 us hl;obtain⟨u0,u1,e⟩:=W8 (hl.trans l);subst e;exact h k1 k2 k3 k4 k5 k6 u0 u1
def qE{x q:Str}{st:Stmt}{ps:List Str}(l:ps.length=3:=by rfl)(h:∀(kV doc pm:f_) (an:Option e_) (aJ ct:f_) (u0 u1 u2:f_),uO (B_ x q (kI st) (iL st) (aS st) .none kV doc pm an aJ ct) ⟨[u0,u1,u2],[]⟩=pure (ps.zip [u0,u1,u2]):=by intros;rfl):xJ x q st ps:=by
 intro k1 k2 k3 k4 k5 k6 us hl;obtain⟨u0,u1,u2,e⟩:=W7 (hl.trans l);subst e;exact h k1 k2 k3 k4 k5 k6 u0 u1 u2
def bn4{x q:Str}{st:Stmt}{ps:List Str}(l:ps.length=4:=by rfl)(h:∀(kV doc pm:f_) (an:Option e_) (aJ ct:f_) (u0 u1 u2 u3:f_),uO (B_ x q (kI st) (iL st) (aS st) .none kV doc pm an aJ ct) ⟨[u0,u1,u2,u3],[]⟩=pure (ps.zip [u0,u1,u2,u3]):=by intros;rfl):xJ x q st ps:=by
 intro k1 k2 k3 k4 k5 k6 us hl;obtain⟨u0,u1,u2,u3,e⟩:=W3 (hl.trans l);subst e;exact h k1 k2 k3 k4 k5 k6 u0 u1 u2 u3
def facts{l:W.OpenLaw}{w:j_}{K:u_}{h:i_}{mg:Str->Option f_}{fa:e_}(E:(seen K,qi K)=(c_,oB))(X:K.In h)(G:h.Ns eN mg)(hfa:mg "law" = a_ (.ref fa)):Wv l w K mg fa:=by
 have hb:=(wD E).1;have hl:=(wD E).2;have a:=@ak K hb;have b:=@bo K hl;refine cJ (dm X G (a 51 xz) (b 0 xz xz) [ap7] eK) λsk FW kW bW gW=>?_;refine cJ (dm X G (a 52 xz) (b 1 xz xz) ["word"] eK) λtW FB kB bB gB=>?_;refine cJ (dm X G (a 53 xz) (b 2 xz xz) [ac1] eK) λGL FS kS bS gS=>?_;refine cJ (dm X G (a 54 xz) (b 3 xz xz) [ac1] eK) λxF FO kO bO gO=>?_;refine a7 (dE (Mq hb) (b 4 xz xz) zLa eP) λgI FI bI MI=>?_;refine a7 (dE (KD hb) (b 5 xz xz) zLa eP) λFQ aom Ow Yu=>?_;refine a7 (dE (KH hb) (b 6 xz xz) zLa eP) λFR aow Ox Yv=>?_;refine a7 (dE (KC hb) (b 7 xz xz) zLa eP) λFP aol Ov Yt=>?_;refine a7 (dE (JY hb) (b 8 xz xz) zLa eP) λFv amc NF Xq=>?_;refine a7 (dE (JW hb) (b 9 xz xz) zLa eP) λFt al9 NC Xo=>?_;refine a7 (dE (JX hb) (b 10 xz xz) zLa eP) λFu ama ND Xp=>?_;refine a7 (dE (p0 hb) (b 11 xz xz) zLc eK) λN2 FEm xK MEm=>?_;refine a7 (dE (a 63 xz) (b 12 xz xz) zLc eK) λMn al' Nr al3=>?_;refine a7 (dE (a 64 xz) (b 13 xz xz) zLc eK) λMp amd Nu al5=>?_;refine cJ (dm X G (a 65 xz) (b 14 xz xz) zLs eK) λapI FHC kHC bHC gHC=>?_;refine cJ (dm X G (a 66 xz) (b 15 xz xz) zLv qE) λapJ FFI kFI bFI gFI=>?_;refine cJ (dm X G (a 67 xz) (b 16 xz xz) zLs eK) λapG FLO kLO bLO gLO=>?_;refine a7 (dE (Lz hb) (b 17 xz xz) [U_,S_] eP) λapl FTI bTI MTI=>?_;refine a7 (dE (a 69 xz) (b 18 xz xz) zLk bn4) λapq FTA bTA MTA=>?_;refine a7 (dE (a 70 xz) (b 19 xz xz) zLf eP) λapk FTL bTL MTL=>?_;refine a7 (amC (a 71 xz) (b 20 xz xz) (a 72 xz) zLc eK) λapm FTF bTF MTF=>?_;refine a7 (dE (a 74 xz) (b 21 xz xz) zLf eP) λapi FTT bTT MTT=>?_;refine a7 (dE (a 75 xz) (b 22 xz xz) zLc eK) λapn FTE bTE MTE=>?_;refine a7 (dE (a 76 xz) (b 23 xz xz) zLc eK) λapo FTD bTD MTD=>?_;refine cJ (dm X G (a 77 xz) (b 24 xz xz) [S_] eK) λapj FTO kTO bTO gTO=>?_;refine oE (mkD (KG hb) (b 25 xz xz) (a 79 xz)) λaoP Yw=>?_;refine a7 (dE (a 80 xz) (b 26 xz xz) zLb eP) λap1 FAE bAE MAE=>?_;refine a7 (dE (a 81 xz) (b 27 xz xz) zLb eP) λapC FMY bMY MMY=>?_;refine a7 (dE (a 82 xz) (b 28 xz xz) zLc eK) λapS FCR bCR MCR=>?_;refine a7 (dE (a 83 xz) (b 29 xz xz) zLc eK) λapD FMV bMV MMV=>?_;refine a7 (dE (a 84 xz) (b 30 xz xz) [U_,"move"] eP) λapN FDO bDO MDO=>?_;refine a7 (dE (a 85 xz) (b 31 xz xz) zLb eP) λapM FDS bDS MDS=>?_;refine a7 (dE (a 86 xz) (b 32 xz xz) zLe qE) λapL FDT bDT MDT=>?_;refine a7 (dE (a 87 xz) (b 33 xz xz) zLe qE) λapP FDL bDL MDL=>?_;refine a7 (dE (a 88 xz) (b 34 xz xz) zLe qE) λapK FDW bDW MDW=>?_;refine a7 (dE (a 89 xz) (b 35 xz xz) zLo qE) λapR FCY bCY MCY=>?_;refine a7 (dE (a 90 xz) (b 36 xz xz) zLz eP) λapU FCM bCM MCM=>?_;refine a7 (dE (a 91 xz) (b 37 xz xz) zLf eP) λapA FOB bOB MOB=>?_;refine a7 (dE (a 92 xz) (b 38 xz xz) zLc eK) λaps FSE bSE MSE=>?_;refine a7 (dE (a 93 xz) (b 39 xz xz) zLb eP) λape FWT bWT MWT=>?_;refine a7 (dE (a 94 xz) (b 40 xz xz) zLc eK) λapQ FDE bDE MDE=>?_;refine a7 (dE (a 95 xz) (b 41 xz xz) zLf eP) λapy FOV bOV MOV=>?_;refine a7 (dE (a 96 xz) (b 42 xz xz) zLc eK) λapO FDN bDN MDN=>?_;refine a7 (dE (a 97 xz) (b 43 xz xz) zLb eP) λapg FWH bWH MWH=>?_;refine cJ (dm X G (a 98 xz) (b 44 xz xz) zLu qE) λapw FPB kPB bPB gPB=>?_;refine cJ (dm X G (a 99 xz) (b 45 xz xz) ["move"] eK) λapH FHF kHF bHF gHF=>?_;refine cJ (dm X G (a 100 xz) (b 46 xz xz) zLw eK) λapr FSO kSO bSO gSO=>?_;refine cJ (dm X G (a 101 xz) (b 47 xz xz) zLr eP) λapB Qd kNB bNB gNB=>?_;refine cJ (dm X G (a 102 xz) (b 48 xz xz) zLd eK) λapV FBW kBW bBW gBW=>?_;refine cJ (dm X G (a 103 xz) (b 49 xz xz) zLd eK) λapX FBS kBS bBS gBS=>?_;refine cJ (dm X G (a 104 xz) (b 50 xz xz) zLd eK) λapW FBV kBV bBV gBV=>?_;refine cJ (dm X G (a 105 xz) (b 51 xz xz) zLd eK) λapZ FBB kBB bBB gBB=>?_;refine cJ (dm X G (a 106 xz) (b 52 xz xz) zLd eK) λap0 FBA kBA bBA gBA=>?_;refine cJ (dm X G (a 107 xz) (b 53 xz xz) zLd eK) λapu FRF kRF bRF gRF=>?_;refine cJ (dm X G (a 108 xz) (b 54 xz xz) zLd eK) λapY FBF kBF bBF gBF=>?_;refine cJ (dm X G (a 109 xz) (b 55 xz xz) zLq eP) λapx FPA kPA bPA gPA=>?_;refine cJ (dm X G (a 110 xz) (b 56 xz xz) zLq eP) λapt FRO kRO bRO gRO=>?_;refine cJ (dm X G (a 111 xz) (b 57 xz xz) ["many","befores"] eP) λapT FCO kCO bCO gCO=>?_;refine cJ (dm X G (a 112 xz) (b 58 xz xz) zLd eK) λapz FOD kOD bOD gOD=>?_;refine cJ (dm X G (a 113 xz) (b 59 xz xz) ["names",J_] eP) λapf FWN kWN bWN gWN=>?_;refine cJ (dm X G (a 114 xz) (b 60 xz xz) zLA eP) λaph FWA kWA bWA gWA=>?_;refine cJ (dm X G (a 115 xz) (b 61 xz xz) zLy eP) λaoO aon am1 an' anV=>?_;refine cJ (dm X G (a 116 xz) (b 62 xz xz) zLx qE) λapv FPL kPL bPL gPL=>?_;refine cJ (dm X G (a 117 xz) (b 63 xz xz) zLw eK) λapE FMP kMP bMP gMP=>?_;refine cJ (dm X G (a 118 xz) (b 64 xz xz) zLs eK) λapF FMA kMA bMA gMA=>?_;refine a7 (dE (mU hb) (b 65 xz xz) zLn eP) λN1 FNx OG MNx=>?_;refine a7 (dE (a 120 xz) (b 66 xz xz) zLn eP) λMo amb Nt al4=>?_;refine cJ (dm X G (a 121 xz) (b 67 xz xz) zLm eP) λaoX aov am9 aoh an6=>?_;refine cJ (dm X G (a 122 xz) (b 68 xz xz) zLp eP) λaoW aou am8 aog an5=>?_;refine cJ (dm X G (a 123 xz) (b 69 xz xz) zLt eP) λaoQ aoo am2 aoa anY=>?_;refine cJ (dm X G (a 124 xz) (b 70 xz xz) zLi qE) λaoU aos am6 aoe an2=>?_;refine cJ (dm X G (a 125 xz) (b 71 xz xz) zLj qE) λaoV aot am7 aof an4=>?_;refine cJ (dm X G (a 126 xz) (b 72 xz xz) ["_law_cell"] eK) λaoT aor am5 aod an1=>?_;refine cJ (dm X G (a 127 xz) (b 73 xz xz) zLh qE) λaoR aop am3 aob anZ=>?_;refine cJ (dm X G (a 128 xz) (b 74 xz xz) zLg qE) λaoS aoq am4 aoc an0=>?_;refine cJ (dm X G (a 129 xz) (b 75 xz xz) [ap4] eK) λal1 Yx ao2 ap3 anW=>?_;have e:=hfa.symm.trans anW;cases e;refine oA (si X G (a 0 xz)) λaoG ajJ=>?_;refine oA (si X G (a 1 xz)) λvg alZ=>?_;refine oA (si X G (a 6 xz)) λtF al0=>?_;refine oA (si X G (a 11 xz)) λqm alY=>?_;refine oA (si X G (a 16 xz)) λrG ajL=>?_;refine oA (si X G (a 21 xz)) λqe ajI=>?_;refine oA (si X G (a 26 xz)) λrF ajK=>?_;refine oA (si X G (a 31 xz)) λze ahQ=>?_;refine oA (si X G (a 34 xz)) λajM ajH=>?_;refine oA (si X G (a 39 xz)) λaes aer=>?_;have Yu:Mk K (fL K) (Mu K):=⟨(S4 hb).1,HT.mZ (KD hb).1,(KD hb).2.2.2,(S4 hb).2⟩;have Yv:Mk K (fQ K) (Mx K):=⟨(S7 hb).1,HT.mZ (KH hb).1,(KH hb).2.2.2,(S7 hb).2⟩;have Yt:Mk K (fK K) (Ms K):=⟨(S0 hb).1,HT.mZ (KC hb).1,(KC hb).2.2.2,(S0 hb).2⟩;have Xq:Mk K (fH K) (LF K):=⟨(Sa hb).1,HT.mZ (JY hb).1,(JY hb).2.2.2,(Sa hb).2⟩;have Xo:Mk K (fE K) (LC K):=⟨(RY hb).1,HT.mZ (JW hb).1,(JW hb).2.2.2,(RY hb).2⟩;have Xp:Mk K (fG K) (LD K):=⟨(RZ hb).1,HT.mZ (JX hb).1,(JX hb).2.2.2,(RZ hb).2⟩;have ajN:Mk K (jA K) (zS K):=⟨(Ry hb).1,(a 141 xz),(Mq hb).2.2.2,(Ry hb).2⟩;have al2:Mk K (fD K) (Xi K):=⟨(RX hb).1,HT.mZ (Lz hb).1,(Lz hb).2.2.2,(RX hb).2⟩;have af1:Mk K (cb K) (Mw K):=⟨(Q8 hb).1,HT.mZ (KG hb).1,(KG hb).2.2.2,(Q8 hb).2⟩;have adf:=MTA;have abZ:=MTL;have Rb:=MTF;have acw:=MTT;have abD:=MTE;have abY:=MTD;have abq:=MAE;have abo:=MMY;have abb:=MCR;have abF:=MMV;have acf:=MDO;have aa':=MDS;have abp:=MDT;have aba:=MDL;have aa9:=MDW;have abH:=MCY;have abQ:=MCM;have aa2:=MOB;have abn:=MSE;have aa8:=MWT;have abG:=MDE;have abP:=MOV;have aaN:=MDN;have abE:=MWH;have ab1:Meth K (fL K) N_ (oC K):=⟨(a 130 xz),(p0 hb).2.2.2,(p0 hb).2.2.1⟩;have ab3:Meth K (fQ K) N_ (oC K):=⟨(a 131 xz),(p0 hb).2.2.2,(p0 hb).2.2.1⟩;have ab0:Meth K (fK K) N_ (oC K):=⟨(a 132 xz),(p0 hb).2.2.2,(p0 hb).2.2.1⟩;have abR:Meth K (fH K) N_ (oC K):=⟨(a 133 xz),(p0 hb).2.2.2,(p0 hb).2.2.1⟩;have abN:=al3;have abI:=al5;have abO:Meth K (fG K) N_ (oC K):=⟨(a 134 xz),(p0 hb).2.2.2,(p0 hb).2.2.1⟩;have acy:Meth K (fL K) V_ (lR K):=⟨(a 135 xz),(mU hb).2.2.2,(mU hb).2.2.1⟩;have acz:Meth K (fQ K) V_ (lR K):=⟨(a 136 xz),(mU hb).2.2.2,(mU hb).2.2.1⟩;have acx:Meth K (fK K) V_ (lR K):=⟨(a 137 xz),(mU hb).2.2.2,(mU hb).2.2.1⟩;have acg:Meth K (fH K) V_ (lR K):=⟨(a 138 xz),(mU hb).2.2.2,(mU hb).2.2.1⟩;have acd:Meth K (fE K) V_ (lR K):=⟨(a 139 xz),(mU hb).2.2.2,(mU hb).2.2.1⟩;have ab2:Meth K (jA K) V_ (lR K):=⟨(a 140 xz),(mU hb).2.2.2,(mU hb).2.2.1⟩;have ace:=al4;have abJ:Nx K (p9 K) L_ (zS K):=⟨(a 142 xz),(a 143 xz),HT.aiU (a 144 xz),(Mq hb).2.2.1⟩;have Ra:=z_ X G (a 145 xz);have Wx:=z_ X G (a 146 xz);have VA:=z_ X G (a 147 xz);have Ww:=z_ X G (a 148 xz);have y0:=z_ X G (a 149 xz);have jC:=z_ X G (a 150 xz);have Wy:=z_ X G (a 151 xz);have My:=z_ X G (a 152 xz);have wA:=z_ X G (a 153 xz);have oj:=z_ X G (a 154 xz);have LG:=z_ X G (a 155 xz);have Fy:=z_ X G (a 156 xz);have aoF:=z_ X G (a 157 xz);have J3:=z_ X G (a 158 xz);have ahP:=z_ X G (a 159 xz);have acv:=z_ X G (a 160 xz);have ajD:=z_ X G (a 161 xz);have ajE:∃u,mg "TOP" = a_ u/\RelV (.int k7) u:=by obtain⟨t,e⟩:=HT.BN (a 162 xz);exact⟨_,C_ X G e,_,xz⟩
 have EO:∃u,mg "NAMES" = a_ u/\RelV (.int 12) u:=by obtain⟨t,e⟩:=HT.BN (a 163 xz);exact⟨_,C_ X G e,_,xz⟩
 have acb:∃u,mg "REGISTERS" = a_ u/\RelV (.int 4) u:=by obtain⟨t,e⟩:=HT.BN (a 164 xz);exact⟨_,C_ X G e,_,xz⟩
 have ade:∃u,mg "LONGEST" = a_ u/\RelV (.int 120) u:=by obtain⟨t,e⟩:=HT.BN (a 165 xz);exact⟨_,C_ X G e,_,xz⟩
 have aeq:∃u,mg "CLERKS" = a_ u/\RelV (.int 4) u:=by obtain⟨t,e⟩:=HT.BN (a 166 xz);exact⟨_,C_ X G e,_,xz⟩
 have afZ:=C_ X G (HT.mZ (a 167 xz));have af0:∀H:Hp,aD K H (Uw K) [.str P_,.str J_,.str "none"]:=λH=>HT.af9 (a 168 xz) (by show 3<=bw;decide) H;have bl:Bl mg:=⟨Ra,Wx,VA,Ww,y0,jC,Wy,My⟩;have bt:BT mg:=⟨Ra,Wx,VA,Ww,jC,Wy,oj,wA,Fy,J3⟩;have cn:Cn mg:=⟨ajE,EO,acb,ade⟩
 have T1:rO K mg ⟨(X2 K),(X5 K),(X3 K),(X4 K),(zS K),(Mu K),(Mx K),(Ms K),(LF K),(LC K),(LD K),(p9 K),(fL K),(fQ K),(fK K),(fH K),(fE K),(jA K),(fG K),_,_,_,_,_,_,_,_,_,_,_⟩:=
  ⟨bl,cn,FW,bW,gW,FB,bB,gB,FS,bS,gS,FO,bO,gO,⟨FI,bI,abJ,ajJ,y0⟩,ze,(a 33 xz),ajN,ahQ,vg,(a 3 xz),(a 4 xz),(a 5 xz),Yu,alZ,aom,Ow,tF,(a 8 xz),(a 9 xz),(a 10 xz),Yv,al0,aow,Ox,qm,(a 13 xz),(a 14 xz),(a 15 xz),Yt,alY,aol,Ov,rG,(a 18 xz),(a 19 xz),(a 20 xz),Xq,ajL,amc,NF,qe,(a 23 xz),(a 24 xz),(a 25 xz),Xo,ajI,al9,NC,rF,(a 28 xz),(a 29 xz),(a 30 xz),Xp,ajK,ama,ND⟩
 obtain⟨t,u5,PA⟩:∃t u5,vx K mg t u5:=⟨_,⟨⟨(oC K),(Vx K),(Vz K),_,_,_⟩,(lR K),(Vy K),_,_⟩,⟨⟨T1,FEm,xK,al',Nr,amd,Nu,(a 169 xz),(a 170 xz),ab1,ab3,ab0,abR,abN,abI,abO,⟨(a 171 xz),(a 172 xz),(a 173 xz),(a 174 xz),(a 175 xz),(a 176 xz),(a 177 xz),(a 178 xz)⟩,⟨(a 179 xz),(a 180 xz),(a 181 xz),(a 182 xz),(a 183 xz),(a 184 xz),(a 185 xz),(a 186 xz)⟩,⟨(a 187 xz),(a 188 xz),(a 189 xz),(a 190 xz),(a 191 xz),(a 192 xz),(a 193 xz),(a 194 xz)⟩,⟨(a 195 xz),(a 196 xz),(a 197 xz),(a 198 xz),(a 199 xz),(a 200 xz),(a 201 xz),(a 202 xz)⟩,⟨(a 203 xz),(a 204 xz),(a 205 xz),(a 206 xz),(a 207 xz),(a 208 xz),(a 209 xz),(a 210 xz)⟩,⟨(a 211 xz),(a 212 xz),(a 213 xz),(a 214 xz),(a 215 xz),(a 216 xz),(a 217 xz),(a 218 xz)⟩,⟨(a 219 xz),(a 220 xz),(a 221 xz),(a 222 xz),(a 223 xz),(a 224 xz),(a 225 xz),(a 226 xz)⟩⟩,J3,ajD,FNx,OG,amb,Nt,acy,acz,acx,acg,acd,ab2,ace⟩⟩;have O:=PA.ob;have T:=O.st;have cM:fh K (cb K):=⟨aes,(a 41 xz),(a 42 xz),(a 43 xz),(a 44 xz),(a 45 xz),(a 46 xz),(a 47 xz),(a 48 xz),(a 49 xz),(a 50 xz)⟩;have cT:kT K (fD K):=⟨ajM,(a 36 xz),(a 37 xz),(a 38 xz)⟩;obtain⟨tk,b2⟩:=ahm Yw;unfold Wv;refine⟨al1,λs v=>?_,⟨_,Vk hb⟩,λbase h1 h2 h3=>?_⟩
 .obtain⟨_,_,_,_,_,_,_,_,_,e,_⟩:=Yx.ex;rw[e];exact .of_eq xz
 .exact(by
  have c:=@Mt.mk l.prog w K mg base;have d:=@Dp.mk l.prog w K mg base;have hC:=W.codeHd_of_K h1 (Vk hb);have DTD:=c (acP FTD bt cT) bTD abY;have DTE:=c (adN FTE bt cT) bTE abD;have DTF:=c (RS FTF bt cT hC h3) bTF Rb;have DTT:=c (ae6 FTT bt cT hC h3 FW bW gW FTF bTF Rb) bTT acw;have DTA:=c (agV FTA cT) bTA adf;have DTL:=c (acQ FTL bt cT) bTL abZ;have DTO:=d (adM FTO bt cT al2 FTI bTI ajH EO afZ af0) kTO bTO gTO;have DAE:=c (afg (t:=t) (CT:=(fD K)) FAE jC cM) bAE abq;have Dn:=c (afe (t:=t) (CT:=(fD K)) FDE LG cM) bDE abG;have DOV:=c (ag0 (t:=t) (CT:=(fD K)) FOV LG cM) bOV abP;have DWT:=Mt.mk (acO (t:=t) FWT cM cT DTD) bWT aa8;have DMY:=Mt.mk (ae' FMY cM cT O DAE DTE) bMY abo;have DCR:=Mt.mk (acT (t:=t) FCR cM cT wA DTF) bCR abb;have DMV:=Mt.mk (adQ FMV cM jC oj DMY DCR) bMV abF;have DCM:=c (ag7 (t:=t) (CT:=(fD K)) FCM cM) bCM abQ;have DOB:=c (acS (t:=t) (CT:=(fD K)) FOB cM jC) bOB aa2;have DCY:=Mt.mk (aff FCY cM cT DTT DCM) bCY abH;have DDT:=Mt.mk (afd FDT cM cT jC T DTA DCY) bDT abp;have DDL:=Mt.mk (adT FDL cM cT T DTL DOB) bDL aba;have DDW:=Mt.mk (adR FDW cM T jC DOB DCM) bDW aa9;have DPB:=d (abL FPB O) kPB bPB gPB;have DDS:=Mt.mk (adS FDS cM O DPB DDT DDL DDW) bDS aa';have DHF:=d (ag4 FHF T) kHF bHF gHF;have DDO:=Mt.mk (ait FDO cM DHF DMV DDS DCY) bDO acf;have DSO:=d (acR FSO T y0) kSO bSO gSO;have DLO:=d ((ag2 FLO bl wA ⟨aiu FHC bl aeq,kHC,bHC,gHC⟩ ⟨ag5 FFI O,kFI,bFI,gFI⟩)) kLO bLO gLO;have GMI:=afa Yw cM T y0 oj DLO DTO DSO;have DSE:=Mt.mk (adP FSE cM jC DCR DDO) bSE abn;have GNB:=akc (P:=l.prog) (w:=w) (mg:=mg) (base:=base) Qd My;have DBW:=Dp.mk (aio FBW cM jC oj wA Dn GNB Qd bNB gNB) kBW bBW gBW;have DBV:=Dp.mk (agS FBV cM oj EO DOV GNB Qd bNB gNB) kBV bBV gBV;have DBS:=Dp.mk (agQ FBS cM wA Dn) kBS bBS gBS;have GBB:=adJ FBB cM oj My EO DOV;have DBA:=Dp.mk (ae4 FBA cM wA GBB FBB bBB gBB Dn) kBA bBA gBA;have DRF:=Dp.mk (agX FRF cM jC oj DWT) kRF bRF gRF;have DBF:=Dp.mk (adK FBF J3 DRF DBW DBS DBV DBA) kBF bBF gBF;have DPA:=d (adL FPA ahP) kPA bPA gPA;have DRO:=Dp.mk (agR FRO Fy LG jC y0 acv DPA) kRO bRO gRO;have DCO:=d (ae3 FCO oj Fy jC) kCO bCO gCO;have DDN:=c (ag6 (t:=t) (CT:=(fD K)) FDN jC cM) bDN aaN;have DOD:=Dp.mk (ae2 FOD cM jC DBF DDN DCO DRO) kOD bOD gOD;have DWH:=c (ae5 (t:=t) (CT:=(fD K)) FWH cM) bWH abE;have DWN:=d (agU FWN) kWN bWN gWN;have DWA:=d (acN FWA) kWA bWA gWA;have Yy:=Dp.mk (ag1 PA aon DWN) am1 an' anV;have DPL:=Dp.mk (ag3 PA FPL Yy DWA) kPL bPL gPL;have DMP:=Dp.mk (akg PA FMP wA Yy DPL) kMP bMP gMP;have DMA:=Dp.mk (akf FMA bl DMP) kMA bMA gMA;have Yz:=d (agT aov jC) am9 aoh an6;have Oy:=d (aip aou) am8 aog an5;have aox:=Dp.mk (adO aoo oj Oy) am2 aoa anY;have aoB:=Dp.mk (agZ aos Oy) am6 aoe an2;have aoC:=d (ais aot) am7 aof an4;have aoA:=Dp.mk (afc aor jC oj y0 aox aoC) am5 aod an1;have aoy:=d (ake aop bl oj) am3 aob anZ;have aoz:=Dp.mk (air aoq cM jC oj Fy Yz Oy DMV aoB Dn DWH DDO DSE) am4 aoc an0;exact aiq Yx cM Yz aoA af1 GMI aer tk b2 aoz DOD DMA Dn aoy)
def walk{l:W.OpenLaw}{q:k_}{loose:List Str}{XP:(Str->Option f_)->i_->Prop}{d:DefRec}(hn:l.most=a_ 63)(PF:d.params.defaults=[])(hdn:d.name = "law") :
  W.WalkO q loose XP (HT.tm TL.qF 461 (λK=>(seen K,qi K)) (c_,oB)).says l.row.toRowW d [] (λf vs=>PySem.call f vs):=by
 refine Att.acu hn PF λw s₀ s₁ mg mb fa o pm cd doc a vs ns G Y ho hd iU vX xx hints hlen hg=>?_;obtain⟨K,KX,KN,hT,E⟩:=Y;rw[hdn]at vX;obtain⟨fd,hb,⟨c,hc⟩,hF⟩:=facts (l:=l) (w:=w) E KX G.T.g vX
 have bm:tN mg s₁.heap:=by
  obtain⟨bm,ob,b1,b2,b3,b4,b5,b6⟩:=G.T.bmain;refine⟨bm,ob,b1,b2,λz=>?_,b3,b4,b5,b6⟩;obtain⟨o',es,ep,e,mw,_⟩:=G.T.g;rw[z,e]at b3;cases b3;rw[mw]at b6;cases b6
 exact ad0 (ts:=[461]) KX G.T.g G.T.b G.T.builtins G.T.nolimit hg bm (λb hb=>by rw[cD.mp hb];exact hT) (λb hb=>by rw[cD.mp hb];exact((W.codeHd_of_K KX hc).tab hT).isCodeTable) (λb hb=>by rw[cD.mp hb];exact KN) xx hints (cu hlen qc) ⟨xz,qc,qc⟩ hF hb (λH hO hS=>⟨a,ns,xz,hS,hlen,⟨#[],hO.2 461 (by simp),.inl xz⟩,λ_=>rfl⟩) λH e s' z=>z
end TL
open PySem.W
theorem TL.left:W.LeftO PySem.Challenge.rw_traylate_k92_whole_rings_at_fault.row.prog TL.qv [] (λs=>W.xlAt TL.qv [] s&&W.recOk PySem.Challenge.rw_traylate_k92_whole_rings_at_fault.row.records s) (HT.tm TL.qF 461 (λK=>(TL.seen K,TL.qi K)) (c_,TL.oB)).obs (HT.tm TL.qF 461 (λK=>(TL.seen K,TL.qi K)) (c_,TL.oB)).val 13228:=by
 refine HT.ahp ?a ?b ?c ?d
 case a=>kernel_rfl
 case b=>kernel_rfl
 case c=>intro s;kernel_rfl
 case d=>intro w os;exact HT.both (HT.rZ (HT.nh (TL.l2 w os))) (HT.both (TL.r2 w os) (TL.r3 w os))
theorem PySem.Challenge.cw_traylate_k92_whole_rings_at_fault_holds : PySem.Challenge.rw_traylate_k92_whole_rings_at_fault.Holds := by
 refine W.holds_law TL.lwS λaoY=>?_;refine W.holds_open (q:=TL.qv) (loose:=[]) (XP:=W.XL TL.qv []) (YP:=(HT.tm TL.qF 461 (λK=>(TL.seen K,TL.qi K)) (c_,TL.oB)).says) (d:=TL.dl) (kwd:=[]) TL.left (HT.tm TL.qF 461 (λK=>(TL.seen K,TL.qi K)) (c_,TL.oB)).of (HT.tm TL.qF 461 (λK=>(TL.seen K,TL.qi K)) (c_,TL.oB)).keeps (λs e=>W.xl_of s (QA.mp e).1) W.XL.keeps ?h1 ?h2 ?h3 (λs e=>W.recFacts_of (QA.mp e).2) ?h4 (by assumption) ?h5 ⟨xz,xz,xz,xz,xz,dk⟩ ?hw (TL.walk (l:=PySem.Challenge.rw_traylate_k92_whole_rings_at_fault) ?w1 ?w2 ?w3)
 case h1=>kernel_rfl
 case h2=>kernel_rfl
 case h3=>kernel_rfl
 case h4=>kernel_rfl
 case h5=>kernel_rfl
 case hw=>w_witness2
 case w1=>kernel_rfl
 case w2=>kernel_rfl
 case w3=>kernel_rfl
#print axioms PySem.Challenge.cw_traylate_k92_whole_rings_at_fault_holds
