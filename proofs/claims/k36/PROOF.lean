import PyProof.Rows.All
import Wide.All
import OpenK.AllK
import Wide.FinOn
import KE.KNestM
import KE.KSortedM
import PySem.Challenge.RW_traylate_k36_what_must_come_before
set_option Elab.async false
set_option linter.all false
set_option maxRecDepth 100000
set_option maxHeartbeats 0
set_option synthInstance.maxSize 100000
set_option synthInstance.maxHeartbeats 0
set_option genSizeOf false
open Option renaming some→a_,none→b_
open Bool renaming true→c_,false→d_
open PySem renaming Addr→e_,Value→f_,Shared→g_,Around→h_,Scope→i_,Heap→j_,World→k_,Program→l_
open PySem renaming wpAny_bind→aq,wpAny_pure→aV,sizeLine→cq,starEach→cJ,mainGlobals→eY,wpAny_mono→gf,NameKind→gg,sizeLine_eq→gG,PassesOwn→gX,wpAny_field→ju,compareOp→jx,FuncData→jz,wpAny_holding→lE,wpAny_truthy_bool→qw,builtinsNs→sj,wpAny_seqItems→tS,wpAny_call→tW,binaryOp→tZ,wpAny_loadPart_at→vq,bootBuiltins→vw,bindArgs→vD,wpAny_Call_Name_kw→xw,wpAny_newObj_type→xx,attributeBase→xD,wpAny_call_entry→y6,wpAny_passesOwn→y9,wpAny_standAt→zf,codeAny_mono→zo,wpAny_letGo→zt,call_meets→zy,wpAny_callSpecial?_slot→A3,wpAny_setField_rec→A8,wpAny_execs_nil→Bb,wpAny_attempt→Bh,keywordEach→Bo,wpAny_rule→Bs,sysModules→Bt,isInstance→Bu,assignEach→Bv,treeTable→Bx,swapsWith→By,getMethod→Bz,backToKw→BC,importedModules→DH,wpAny_setField→DO,recursionLimit→DP,typeLookup→D4,tupleKind→Ee,wpAny_pyIter_list→Ig,wpAny_eqBool_int→Im,letOwnedTupleGo→Iy,wpAny_tryCatch→ID,wpAny_onRaise→IH,wpAny_newList→II,plainId_quiet→IJ,behindInMarks→IL,refuseLoop→Jm,seqItems?→JG,seqIndex?→JH,wpAny_updateSeq_pair→Qa,codeAny_call_builtin→Qb,wpAny_isSubtype_exc→Qd,foldedSetIterable→Qn,wpAny_updateSeq→QA,wpAny_loadPart'→QB,wpAny_newTuple→QD,wpAny_loadPart→QE,seqIndex_neg→QV,plainObj_wpAny_Assign_Attribute→aab,wpAny_check_type_call_sub→aak,codeAny_call_builtin_code→aal,wpAny_comprehension_free→aas,codeAny_call_builtin_at→aau,codeAny_handlers_test→aaA
open Nat renaming le_refl→aI,zero_le→bg,le_trans→c7,ne_of_lt→eM,le_of_lt→eO,lt_of_lt_of_le→gx,le_succ→jv,lt_irrefl→jS,le_of_eq→r6,ne_of_gt→vx,le_succ_of_le→xy,sub_self→xG,lt_trichotomy→y3,min_eq_left→y',zero_add→zr,mod_lt→zz,not_lt_zero→Bc,mul_le_mul→Bf,succ_mul→Bk,beq→BL,lt_of_le_of_lt→DA,succ_le_succ→DD,lt_succ_self→DE,min_le_left→DL,succ_pos→DU,lt_trans→DV,succ_ne_self→Ip,le_add_right→Iq,add_le_add→IE,succ→Ki,lt_of_lt_of_eq→Qj,lt_succ_of_lt→Qp,add_assoc→QM,add_mul_mod_self_left→aam,eq_zero_of_not_pos→aaz,lt_or_gt_of_ne→aaP
open List renaming getElem?_eq_getElem→aO,length_map→aP,mem_cons→bw,mem_of_getElem?→b9,length_append→cj,append_assoc→cX,getElem?_map→dq,getElem?_eq_some_iff→dy,mem_append→dD,size_toArray→dH,Perm→dM,length_take→dS,mem_cons_of_mem→eE,replicate→fg,map_cons→fh,mem_append_right→f6,mem_singleton→f7,mem_cons_self→f9,map_append→gy,take_append_drop→gU,append_nil→il,length_cons→iT,pairwise_iff_getElem→jd,take_of_length_le→je,mem_map→jT,getD_eq_getElem?_getD→kC,getElem?_set_self→lu,range_succ→lD,pairwise_append→lX,lookup_cons→lY,mem_range→lZ,mem_append_left→nj,Pairwise→oq,getElem?_drop→pB,mem_filter→pC,length_set→pD,drop_drop→pE,getElem?_take→qu,take_add_one→qy,mem_flatMap→qA,perm_append_comm→rQ,getElem_of_mem→rS,pairwise_cons→rV,length_range→rW,mem_nil_iff→rX,length_drop→rY,getElem?_append_right→tL,length_eq_zero_iff→tO,mem_filterMap→tP,getElem_mem→tQ,map_map→tT,getElem?_append_left→vj,mem_of_mem_drop→vn,getElem?_of_mem→vo,flatMap_append→vp,nodup_append→vt,mem_of_mem_take→xu,reverse_perm→xA,getElem_map→xC,any_cons→xE,lookup→xI,lookup_cons_self→yW,length_filter_le→yX,length_reverse→yY,filter_append→yZ,drop_sublist→y4,filter_cons→y8,nodup_cons→za,nil_append→zc,forIn_cons→zd,drop_zero→ze,all_cons→zk,getElem?_set_ne→A6,replicate_succ→A7,ext_getElem?→A9,getElem_zip→Ba,of_mem_zip→Bd,all_map→Bm,foldl→Bw,drop_eq_nil_of_le→Dx,nodup_range→DF,length_zip→DM,set_set→DW,map_set→DX,mem_or_eq_of_mem_set→HS,drop_eq_getElem_cons→HU,length_replicate→HZ,getElem?_eq_none→Ia,filterMap_cons→Ib,take_sublist→Ih,pairwise_map→Ii,flatten_cons→Ij,mem_reverse→Ir,length_tail→Iu,ext_getElem→Iv,all_eq_true→Iw,take_take→IF,take_add→IM,map_tail→IP,map_nil→IY,cons→JJ,mem_zipIdx_iff_getElem?→PQ,length_filterMap_le→PY,pairwise_singleton→P0,flatMap_eq_nil_iff→P5,length_eq_one_iff→P7,filterMap_append→P',map_eq_nil_iff→Qe,map_congr_left→Qf,length_pos_iff→Qg,flatMap_cons→Qq,zipIdx_cons→Qr,take_append→Qs,perm_middle→Qt,drop_append→Qu,cons_append→Qv,take_zero→QF,nodup_nil→QG,drop_take→QH,dropLast_concat_getLast→aad,mem_take_iff_getElem→aan,mem_drop_iff_getElem→aao,getElem?_zip_eq_some→aap,getElem?_eq_none_iff→aaq,find?_range'_eq_some→aar,idxOf_lt_length_iff→aat,getElem?_replicate→aav,getElem?_cons_succ→aaw,filter_cons_of_pos→aax,pairwise_reverse→aaB,mem_of_mem_head?→aaC,getElem?_reverse→aaD,mem_of_getLast?→aaF,getElem_toArray→aaG,toList_toArray→aaN,zip_cons_cons→aaQ,length_zipIdx→aaR,mem_range'_1→aa0,flatMap_nil→aa9,countP_cons→aa'
open PyProof.Rows renaming wpS_bind→aS,wpS_pure→a8,pendingOf→bf,boot_isinstance→iU,wpS_forRange→ma,SortKind→mi,failedOf→nz,wpS_modify→si,wpS_mono→sv,boot_tuple→tX,callWith_type1→Dw,get?_update_seq→DI,listUpdate_at→IK,seqEpoch_at→Jc,slot_tuple_getitem→PM,subscriptTail_builtinR→aay
open Or renaming inl→aX,inr→qQ
open PySem.Heap renaming get?_push_of_some→bo,lt_size→cx,get?_push_size→gw,size_push→pF,SameBut→tU,get?_update_other→vk,get?_update_self→A4,get?_update_ne→Dy,ExtBut→Je
open PySem.Value renaming ref→cI,int→ip,none→iE,type→pH,str→sq,bool→vA,builtin→zg,float→Rg
open Option renaming some→da,map_eq_some_iff→xr,map_some→DK,bind_some→Io,isSome_iff_exists→PX,bind_eq_some_iff→PZ
open Option.some renaming inj→dr,injEq→Qo
open Ne renaming symm→dW
open Array renaming length_toList→eG,toList_push→qz,toList_append→xv,getElem?_toList→A5,getD→D6,mk→Ey,perm_iff_toList_perm→HR,getElem?_setIfInBounds_ne→PN,getElem?_eq_some_iff→PR,toList_inj→Qx,eq_empty_of_size_eq_zero→aac,toList_zip→abb,toList_map→abc
open Bool renaming false_ne_true→eI,and_eq_true→jR,false_eq_true→DB,false_and→DQ,true_and→DS,eq_iff_iff→IB,and_eq_true_iff→Qc,not_eq_true'→aa3
open PySem.Str renaming ofString→gc
open False renaming elim→iF
open LawfulBEq renaming eq_of_beq→jf
open PySem.SeqAt renaming EqAt→jw
open PySem.PassesOwn renaming never→kE,looking→aaY
open Int renaming toNat_natCast→lC,zero_add→ou,le_trans→se,emod_nonneg→DN,le_of_lt→IZ,le_refl→Jd,toNat_of_nonneg→Qh,natCast_nonneg→Qk,natCast_emod→Qw,fdiv_eq_ediv_of_nonneg→aah,emod_lt_of_pos→aaS,lt_trichotomy→aa1
open True renaming intro→nu
open PySem.Obj renaming mapSeq→ow,mapFields→zh,data_mapFields→Dz,isFreed_of_fields→P9,cls_mapFields→aaZ
open PySem.W renaming boot_heap→pK,kat_cons→Ex,boot_drawn→Jn,boot_toks→JI
open PySem.NameKind renaming free→rZ
open PySem.Builtin.SmallTypes renaming nextOf→tM,ownedTupleIsFree→HP,ownedTupleHandOut→aaa
open PySem.PyData renaming eqv→tY,canLayAll0→y0,canLay0→Be,eqvAll→Bi,strOk→Bj,depthAll→DJ,int→D5,depth→IW
open Prod renaming ext→t6,mk→uc
open List.Perm renaming append_left→vm,refl→vv,append_right→xt,append→aba
open Prod.mk renaming inj→xH,injEq→aby
open PySem.Fin renaming done→BD
open List.Pairwise renaming map→DC,nil→Ik,filter→aaH
open PySem.F renaming slot_tuple_iterator_next→HQ,slot_zip_next→IA,args_tuple_iterator_next_1→aae,entry_tuple_iterator_next→aaf,slot_enumerate_next→aaE
open PySem.Builtin.Slice renaming slicePlaces→HV,sliceAdjust→PU,sliceApplied→aaj
open PySem.Builtin.Tuple renaming tupleExact→HW
open PySem.Builtin.ObjectAttr renaming Found→HX,bindTo→PV,storeInOwnDict→amD
open PySem.Builtin.List renaming listTooLong→HY
open PySem.Heap.SameBut renaming update→Ic
open PySem.Code renaming quiet_builtin→Ie
open ForInStep renaming yield→Iz
open Nat.succ renaming inj→IX
open Except renaming error→Ja,ok→SR
open PyProof.Rows.SortSt renaming mk'→Jo
open Classical renaming propDecidable→P6
open PySem.Calls renaming callWith_builtin→P8,Name_function_global→aai,evalArgs_plain→aaI,spliced_cons→aaT,spliced_nil→aa2
open Exists renaming intro→QW
open PySem.Around renaming under→QX,under_plainId→aaJ,frames_deeper→aaK
open PySem.Walks renaming list→RJ
open PySem.Builtin.Builtins renaming bindParams→aag
open PySem.SeqAt.EqAt renaming none_int→aaL,int_none→aaM
open PySem.EntryCells renaming newEntry→aaO
open List.cons renaming injEq→abh,inj→abz
open PySem.Builtin.ObjectAttr.Found renaming missing→amE,value→amF,bind→amG
open PySem.F renaming plainAttrs_list→m_,slot_list_append→n_,type_list_append→o_
open PySem renaming boot_len→q_,mem_of_lookup→t_
open PySem.Paired renaming length→r_
open PySem.W renaming Frag→u_,kitOne→v_,findIn→w_,keepIn→x_,kitCls→y_,mg_none_of→z_,Looks→s_,mroIn→A_,fnOf→B_,mg_of→C_,InstAt→D_,kia_one→E_,hasDictIn→F_,callWith_K→G_
open PySem PySem.Spec PyProof.Rows
noncomputable section
theorem dk{p:Prop}(h:p:=by decide +kernel):p:=h
theorem qc{p:Prop}(h:p:=by decide):p:=h
theorem om{p:Prop}(h:p:=by omega):p:=h
theorem li{p:Prop}(h:p:=by lia):p:=h
abbrev zLa:List PySem.Str:=["self","told"]
abbrev zLb:List PySem.Str:=["self","clerk"]
abbrev zLc:List PySem.Str:=["self","name"]
abbrev zLd:List PySem.Str:=["self"]
abbrev zLe:List PySem.Str:=["self","clerk","step"]
abbrev zLf:List PySem.Str:=["machine"]
abbrev zLg:List PySem.Str:=["_law_draw_here","_law_other","_law_names","_law_size"]
abbrev zLh:List PySem.Str:=["_law_machine","_law_many"]
abbrev zLi:List PySem.Str:=["self","name","number","deed"]
abbrev zLj:List PySem.Str:=["self","clerk","name"]
abbrev zLk:List PySem.Str:=["_law_script","_law_k"]
abbrev zLl:List PySem.Str:=["self","program","kind"]
abbrev zLm:List PySem.Str:=["_law_machine"]
abbrev zLn:List PySem.Str:=["step","place","regs"]
abbrev zLo:List PySem.Str:=["numbers","why"]
abbrev zLp:List PySem.Str:=["told","place","length"]
abbrev zLq:List PySem.Str:=["_law_script"]
abbrev zLr:List PySem.Str:=["self","setting"]
abbrev zLs:List PySem.Str:=["self","move"]
abbrev zLt:List PySem.Str:=["program"]
namespace L2
end L2
namespace L3
end L3
namespace L4
end L4
namespace L5
end L5
namespace HT
open PySem.W
def Ez(tb:String->Option Builtin)(p:l_)(w:k_)(n₀:Nat)(ann:Option f_):Nat->SharedT->Thread->Option SharedT
 | 0,_,_=>b_
 | n+1,s,t=>match through t with
  | true=>a_ s
  | false=>match stepOk n₀ ann t with
   | false=>b_
   | true=>match stepT (denote tb) p w s t with
    | some (s',t')=>Ez tb p w n₀ ann n s' t'
    | none=>b_
theorem Ri{tb:String->Option Builtin}{w:k_}{n₀:Nat}{ann:Option f_}:∀{n:Nat} {s s':SharedT} {t:Thread},Ez tb p w n₀ ann n s t=a_ s'->topRun tb p w n₀ ann n s.abs t=a_ s'.abs
 | 0,_,_,_,h=>by cases h
 | n+1,s,s',t,h=>by
  unfold Ez at h;unfold topRun;cases he:through t with
  | true=>rw[he]at h;cases h;rfl
  | false=>
   rw[he]at h;cases hk:stepOk n₀ ann t with
   | false=>rw[hk]at h;cases h
   | true=>
    rw[hk]at h;cases hs:stepT (denote tb) p w s t with
    | none=>rw[hs]at h;cases h
    | some r=>obtain⟨s₂,t₂⟩:=r;rw[hs]at h;rw[stepT_spec hs];exact Ri h
def TZ:List Obj->Nat->BT->BT
 | [],_,t=>t
 | o::r,i,t=>TZ r (i+1) (t.ins i o)
def MG(P:Params):BT:=TZ (pK P).objs.toList 0 .nil
def B'(P:Params):Nat:=(pK P).objs.size
def MJ(P:Params):Life:=(pK P).life
def ajo(P:Params):Option Value:=(pK P).nsMap eY "__annotations__"
theorem boot_abs(P:Params):absHeap (MG P) (B' P) (MJ P)=pK P:=by kernel_rfl
theorem agy(P:Params):((pK P).isNs eY,(pK P).objs.size)=(c_,B' P):=by kernel_rfl
def Vf(P:Params)(os:OsState):SharedT:=⟨MG P,B' P,MJ P,#[],Jn,JI,os⟩
def nS(p:l_)(w:k_)(N:Nat)(os:OsState):Option SharedT:=Ez Bx p w (B' w.params) (ajo w.params) N (Vf w.params os) (topStub p)
def held(p:l_)(P:Params)(s:g_):Bool:=staticsOk (DH p.main.body) (pK P) s.heap&&namesBound p s.heap&&gensDone s&&laidKept (pK P) s.heap
theorem both{α β γ:Type}{o:Option α}{f:α->β}{g:α->γ}{b:β}{c:γ}(h1:o.map f=a_ b)(h2:o.map g=a_ c):o.map (λs=>(f s,g s))=a_ (b,c):=by
 cases o with
 | none=>cases h1
 | some s=>cases h1;cases h2;rfl
theorem abW{w:k_}{N:Nat}(a:(s₀.heap.isNs eY&&s₀.gens.size == 0)=c_)(r:topRun Bx p w s₀.heap.objs.size (s₀.heap.nsMap eY "__annotations__") N s₀ (topStub p)=a_ s₁)
  (b:(staticsOk (DH p.main.body) s₀.heap s₁.heap&&namesBound p s₁.heap&&gensDone s₁&&laidKept s₀.heap s₁.heap)=c_):topFrom Bx p w N s₀=a_ s₁:=by
 unfold topFrom;rw[a];dsimp only;rw[r];dsimp only[Option.bind];rw[b]
theorem agg{Xt:g_->Bool}{α:Type}{Yf:g_->α}{Ya:k_->α}{N:Nat}(e:opening p=plainProg p.main.scope.names)(hN:Nat.ble 600 N=c_)(f:∀s,fenceModules? p s=a_ s)
  (run:∀(w:k_) (os:OsState),(nS p w N os).map (λs=>(held p w.params s.abs,(openSeen q loose (DH p.main.body) Xt c_ s.abs,Yf s.abs)))=a_ (c_,(openGood q loose,Ya w))):LeftO p q loose Xt Yf Ya N:=λw=>by
 obtain⟨⟨h,gs,d,k,os⟩,e1,e'⟩:=xr.mp (boot_open e hN f w);obtain⟨rfl,rfl,rfl,rfl⟩:h=pK w.params/\gs=Ey []/\d=Jn/\k=JI:=by simpa using e'
 obtain⟨s₁,r,l⟩:=xr.mp (run w os);obtain⟨l1,l2⟩:=xH l;obtain⟨z1,z2⟩:=xH (agy w.params);have r':=Ri r
 have ea:(Vf w.params os).abs=⟨pK w.params,Ey [],Jn,JI,os⟩:=by
  show (⟨absHeap (MG w.params) (B' w.params) (MJ w.params),_,_,_,_⟩:g_)=_;rw[boot_abs];rfl
 rw[ea]at r';have t:topFrom Bx p w N ⟨pK w.params,Ey [],Jn,JI,os⟩=a_ s₁.abs:=abW (by rw[z1];rfl) (by show topRun Bx p w (pK w.params).objs.size _ N _ _=_;rw[z2];exact r') l1;unfold openEnds;rw[e1];show (topFrom Bx p w N _).map _=_;rw[t];exact congrArg a_ l2
end HT
namespace TL
open PySem.SeqAt L2 L3
def qv:Program:=W.view PySem.Challenge.rw_traylate_k36_what_must_come_before.prog [0,2,3,4,5,6,7,8,10,11,12,13,14,15,16,17,18,19,20,21,22,23,24,25,27,28,29,30,31,32,33,34,36,37,38,39,41,42,43,45,46,47,48,50,51,52,53,54,55,56,57]
end TL
section
open PySem.W
abbrev TL.rn(w:k_)(os:OsState):=HT.nS PySem.Challenge.rw_traylate_k36_what_must_come_before.row.prog w 12502 os
abbrev TL.lo:List Str:=["Machine","KINDS"]
theorem TL.lw:looseW TL.qv []=TL.lo:=by kernel_rfl
theorem TL.lwS:W.OpenLaw.wellSaid PySem.Challenge.rw_traylate_k36_what_must_come_before=true:=by kernel_rfl
theorem TL.l0(w:k_)(os:OsState):(TL.rn w os).map (λs=>((s.abs.heap.keysOk TL.lo ((recsOf TL.qv).map (·.name)) ((litsOf TL.qv).map (·.1)) ((clssOf TL.qv TL.lo).map (·.name))),((plainSeenE TL.qv TL.lo s.abs))))=a_ (c_,(plainGoodE TL.qv TL.lo)):=by kernel_rfl
theorem TL.l1(w:k_)(os:OsState):(TL.rn w os).map (λs=>(wideSeen TL.qv s.abs,clsSeenW TL.qv [] s.abs))=a_ (wideGood TL.qv,clsGoodW TL.qv []):=by kernel_rfl
theorem TL.l2(w:k_)(os:OsState):(TL.rn w os).map (λs=>((plainSeenD TL.qv [] s.abs),((HT.held PySem.Challenge.rw_traylate_k36_what_must_come_before.row.prog w.params s.abs),((s.abs.heap.bmainOk&&(valsOk TL.qv s.abs.heap&&(!importsNone TL.qv||s.abs.heap.noSeerOk)))))))=a_ (plainGoodD TL.qv [],(c_,(c_))):=by kernel_rfl
theorem TL.l3(w:k_)(os:OsState):(TL.rn w os).map (λs=>((((recsOf TL.qv).map λd=>s.abs.heap.tab0Ok d.name).take 22 |>.all id),((s.abs.heap.bltView))))=a_ (c_,(bltViewBooted)):=by kernel_rfl
theorem TL.l4(w:k_)(os:OsState):(TL.rn w os).map (λs=>((recsOf TL.qv).map λd=>s.abs.heap.tab0Ok d.name).drop 22 |>.all id)=a_ true:=by kernel_rfl
theorem TL.l5(w:k_)(os:OsState):(TL.rn w os).map (λs=>(((((recsOf TL.qv).map (·.name)).map (s.abs.heap.shapeAt eY)).take 18),(((ownsOf TL.qv).all (λo=>s.abs.heap.ownExcOk o.name o.chain o.bm o.newId&&s.abs.heap.quietOk o.name)&&(s.abs.heap.noLimitOk&&s.abs.heap.noDigitsOk)),((pinSeenD TL.qv (drecsOf TL.qv) s.abs),((s.abs.heap.accountedOkI (DH PySem.Challenge.rw_traylate_k36_what_must_come_before.row.prog.main.body)&&(s.abs.heap.isNs eY&&(s.abs.heap.isNs sj&&(tablesOk TL.qv s.abs.heap&&((W.xlAt TL.qv [] s.abs&&W.recOk PySem.Challenge.rw_traylate_k36_what_must_come_before.row.records s.abs)&&(s.abs.gens.size == 0)))))))))))=a_ ((((recsOf TL.qv).take 18).map λd=>a_ d.shape),(c_,(pinGoodD (drecsOf TL.qv),(c_)))):=by kernel_rfl
theorem TL.l6(w:k_)(os:OsState):(TL.rn w os).map (λs=>(((recsOf TL.qv).map (·.name)).map (s.abs.heap.shapeAt eY)).drop 18)=a_ ((((recsOf TL.qv).drop 18).map λd=>a_ d.shape)):=by kernel_rfl
end
namespace L2
def inClass(s:Stmt)(j:Nat):Stmt:=match s with
 | .ClassDef _ _ _ body _ _ _ _ _ _ _=>body.getD j (.Pass ⟨0,0,0,0⟩)
 | _=>.Pass ⟨0,0,0,0⟩
def mm(s:Stmt):Arguments:=match s with
 | .FunctionDef _ a _ _ _ _ _ _ _ _=>a
 | _=>{ posonlyargs:=[],args:=[],vararg:=b_,kwonlyargs:=[],kw_defaults:=[],kwarg:=b_,defaults:=[] }
def jB(s:Stmt):List Stmt:=match s with
 | .FunctionDef _ _ b _ _ _ _ _ _ _=>b
 | _=>[]
def aW(s:Stmt):Scope:=match s with
 | .FunctionDef _ _ _ _ _ _ sc _ _ _=>sc
 | _=>{ kind:=.function,names:=[],isGenerator:=d_,isCoroutine:=d_ }
end L2
namespace TL
open L2 L3
abbrev mZ:Int:=1000000000000000000000000000000000000000000000000000000000000
def top(i:Nat):Stmt:=PySem.Challenge.pw_traylate_k36_what_must_come_before.main.body.getD i (.Pass ⟨0,0,0,0⟩)
abbrev Ff:Stmt:=inClass (top 14) 0
abbrev BO:Stmt:=top 22
abbrev BG:Stmt:=top 23
abbrev ED:Stmt:=top 24
abbrev Ku:Stmt:=top 25
abbrev Fe:Stmt:=inClass (top 15) 0
abbrev Fg:Stmt:=inClass (top 16) 0
abbrev Fd:Stmt:=inClass (top 17) 0
abbrev EW:Stmt:=inClass (top 18) 0
abbrev ET:Stmt:=inClass (top 19) 0
abbrev EU:Stmt:=inClass (top 21) 0
end TL
namespace L2
abbrev Xg:Addr:=87
end L2
namespace L2
open L3
open Sem (wp)
abbrev wy:List Value:=[.type "ValueError",.type "Exception",.type "BaseException",.type "object"]
end L2
namespace TL
open L2 L3
abbrev Kr:Stmt:=top 22
abbrev Gr:Stmt:=inClass (top 42) 0
abbrev Mg:Stmt:=inClass (top 42) 1
abbrev JW:Stmt:=inClass (top 42) 2
abbrev Ek:Stmt:=inClass (top 42) 3
abbrev Lh:Stmt:=inClass (top 42) 4
abbrev Kt:Stmt:=inClass (top 42) 5
abbrev JV:Stmt:=inClass (top 42) 6
abbrev Ks:Stmt:=top 43
end TL
namespace L2
abbrev jm:String:="BaseException.__getattribute__"
end L2
namespace L2
open L3
def t8:List f_->Bool
 | .ref _::r=>t8 r
 | .type a::r=>a == "ValueError" && (r == [.type "Exception",.type "BaseException",.type "object"])
 | _=>d_
def LX(K:u_)(C:e_)(bmB:List f_)(newId:String):Bool:=
 match xI C K with
 | some { cls:=pH "type",dict:=_,data:=Data.cls cd,slots:=sl }=>
  match cd.mro,sl.toList with
  | cI C'::bm,[_,_,_,_,a_ (zg n),_]=>C' == C&&n == newId && !cd.hasDel&&W.tailIn K bmB bm&&W.nsOkIn K cd.ns
  | _,_=>d_
 | _=>d_
end L2
namespace TL
open PySem.SeqAt L2 L3 L4
abbrev EX:Stmt:=inClass (top 14) 5
abbrev D9:Stmt:=inClass (top 19) 3
abbrev D3:Stmt:=inClass (top 20) 0
abbrev EV:Stmt:=inClass (top 48) 0
abbrev Lq:Stmt:=inClass (top 48) 1
abbrev Lj:Stmt:=inClass (top 48) 2
abbrev JZ:Stmt:=inClass (top 48) 3
abbrev Kw:Stmt:=inClass (top 48) 4
abbrev Nf:Stmt:=inClass (top 48) 5
abbrev Ky:Stmt:=inClass (top 48) 6
abbrev Lm:Stmt:=inClass (top 48) 7
abbrev Kz:Stmt:=inClass (top 48) 8
abbrev Kx:Stmt:=inClass (top 48) 9
abbrev Lo:Stmt:=inClass (top 48) 10
abbrev Mo:Stmt:=inClass (top 48) 11
abbrev JY:Stmt:=inClass (top 48) 12
abbrev JU:Stmt:=inClass (top 48) 18
abbrev Ln:Stmt:=inClass (top 48) 20
abbrev Mj:Stmt:=inClass (top 48) 23
abbrev IQ:Stmt:=top 47
abbrev Ml:Stmt:=top 46
abbrev Nh:Stmt:=top 37
abbrev Mm:Stmt:=top 38
abbrev Jt:Stmt:=top 39
abbrev JX:Stmt:=top 45
abbrev Cr:Stmt:=top 28
abbrev Lp:Stmt:=top 29
abbrev KC:Stmt:=top 31
abbrev KA:Stmt:=top 30
abbrev EF:Stmt:=top 32
abbrev J0:Stmt:=top 33
abbrev Nd:Stmt:=inClass (top 8) 0
abbrev Mi:Stmt:=top 27
abbrev KD:Stmt:=top 34
abbrev Mn:Stmt:=top 50
abbrev Lk:Stmt:=top 51
abbrev Ll:Stmt:=top 52
abbrev Ni:Stmt:=top 53
abbrev Mh:Stmt:=top 54
abbrev Lg:Stmt:=top 55
abbrev Kv:Stmt:=inClass (top 48) 13
abbrev Li:Stmt:=top 56
abbrev yb:Stmt:=top 57
end TL
namespace HT
open PySem.W
theorem sR{α β γ:Type}{o:Option α}{f:α->β}{g:α->γ}{b:β}{c:γ}(h:o.map (λs=>(f s,g s))=a_ (b,c)):o.map f=a_ b:=by
 cases o with
 | none=>cases h
 | some s=>
  have h':(f s,g s)=(b,c):=dr h;exact congrArg a_ (xH h').1
theorem oM{α β γ:Type}{o:Option α}{f:α->β}{g:α->γ}{b:β}{c:γ}(h:o.map (λs=>(f s,g s))=a_ (b,c)):o.map g=a_ c:=by
 cases o with
 | none=>cases h
 | some s=>
  have h':(f s,g s)=(b,c):=dr h;exact congrArg a_ (xH h').2
theorem ux{α:Type}{o:Option α}{f g:α->Bool}(h1:o.map f=a_ c_)(h2:o.map g=a_ c_):o.map (λs=>f s&&g s)=a_ true:=by
 cases o with
 | none=>cases h1
 | some s=>
  have p:f s=true:=dr h1;show a_ (f s&&g s)=a_ c_;rw[p];exact h2
theorem v9{α:Type}{o:Option α}{f g:α->Bool}(h:o.map (λs=>f s&&g s)=a_ c_):o.map f=a_ c_/\o.map g=a_ true:=by
 cases o with
 | none=>cases h
 | some s=>
  have p:=Qc.mp (dr h);exact⟨congrArg a_ p.1,congrArg a_ p.2⟩
theorem td{α β γ:Type}{o:Option α}{F:α->List β}{l:List γ}{g:γ->β}(k:Nat)(h1:o.map (λs=>(F s).take k)=a_ ((l.take k).map g))(h2:o.map (λs=>(F s).drop k)=a_ ((l.drop k).map g)):o.map F=a_ (l.map g):=by
 cases o with
 | none=>cases h1
 | some s=>
  refine congrArg a_ ?_;rw[<-gU k (F s),show (F s).take k=(l.take k).map g from dr h1,show (F s).drop k=(l.drop k).map g from dr h2,<-gy,gU]
theorem Lb{α:Type}{o:Option α}{F:α->List Bool}(k:Nat)(h1:o.map (λs=>((F s).take k).all id)=a_ c_)(h2:o.map (λs=>((F s).drop k).all id)=a_ c_):o.map (λs=>(F s).all id)=a_ true:=by
 cases o with
 | none=>cases h1
 | some s=>
  refine congrArg a_ ?_;show (F s).all id=c_;rw[<-gU k (F s),List.all_append,show ((F s).take k).all id=c_ from dr h1,show ((F s).drop k).all id=c_ from dr h2];rfl
theorem mkS{d D:List (Option FnShape)}{o g b n:Bool}(h1:d=D)(h2:o=c_)(h3:g=c_)(h4:b=c_)(h5:n=c_):(⟨d,o,[],g,b,n,0⟩:Seen)=⟨D,c_,[],c_,c_,c_,0⟩:=by
 subst h1 h2 h3 h4 h5;rfl
theorem tb_{α β:Type}{o:Option α}{l:List β}{f:α->β->Bool}(h:o.map (λs=>(l.map λd=>f s d).all id)=a_ c_):o.map (λs=>l.all λd=>f s d)=a_ true:=by
 cases o with
 | none=>cases h
 | some s=>
  refine congrArg a_ ?_;have e:(l.map λd=>f s d).all id=true:=dr h;rw[Bm]at e;exact e
theorem afq{w:k_}{N:Nat}{os:OsState}{Xt:g_->Bool}(hL:looseW q loose=L)
  (h3:(nS p w N os).map (λs=>s.abs.heap.keysOk L ((recsOf q).map (·.name)) ((litsOf q).map (·.1)) ((clssOf q L).map (·.name)))=a_ c_)
  (h5:(nS p w N os).map (λs=>s.abs.heap.accountedOkI mods&&(s.abs.heap.isNs eY&&(s.abs.heap.isNs sj&&(tablesOk q s.abs.heap&&(Xt s.abs&&(s.abs.gens.size == 0))))))=a_ c_)
  (h1:(nS p w N os).map (λs=>((recsOf q).map (·.name)).map (s.abs.heap.shapeAt eY))=a_ ((recsOf q).map λd=>a_ d.shape))
  (h6:(nS p w N os).map (λs=>(ownsOf q).all (λo=>s.abs.heap.ownExcOk o.name o.chain o.bm o.newId&&s.abs.heap.quietOk o.name)&&(s.abs.heap.noLimitOk&&s.abs.heap.noDigitsOk))=a_ c_)
  (h2:(nS p w N os).map (λs=>s.abs.heap.bltView)=a_ bltViewBooted)
  (h7:(nS p w N os).map (λs=>(recsOf q).all λd=>s.abs.heap.tab0Ok d.name)=a_ c_)
  (h8:(nS p w N os).map (λs=>s.abs.heap.bmainOk&&(valsOk q s.abs.heap&&(!importsNone q||s.abs.heap.noSeerOk)))=a_ c_)
  (h4:(nS p w N os).map (λs=>(pinSeenD q (drecsOf q) s.abs,(plainSeenE q L s.abs,(plainSeenD q loose s.abs,(wideSeen q s.abs,clsSeenW q loose s.abs)))))=a_ ((pinGoodD (drecsOf q),(plainGoodE q L,(plainGoodD q loose,(wideGood q,clsGoodW q loose)))))) :
  (nS p w N os).map (λs=>openSeen q loose mods Xt c_ s.abs)=a_ (openGood q loose):=by
 subst hL;obtain⟨a1,h5⟩:=v9 h5;obtain⟨a2,h5⟩:=v9 h5;obtain⟨a3,h5⟩:=v9 h5;obtain⟨a4,h5⟩:=v9 h5;obtain⟨a5,a6⟩:=v9 h5;obtain⟨b1,b2⟩:=v9 h6;obtain⟨c1,h8⟩:=v9 h8;obtain⟨c2,c3⟩:=v9 h8
 have sn:(nS p w N os).map (λs=>seen ((recsOf q).map (·.name)) (ownsOf q) [] { heap:=s.abs.heap,drawn:=s.abs.drawn,toks:=s.abs.toks,os:=s.abs.os })=a_ (expectedOf q):=by
  generalize nS p w N os=o at h1 a2 a3 b1 b2 ⊢;cases o with
  | none=>cases h1
  | some s=>
   refine congrArg a_ ?_;exact mkS (dr h1) (dr b1) (dr a2) (dr a3) (dr b2)
 have tb:(nS p w N os).map (λs=>tabsOk q s.abs)=a_ true:=ux (ux (ux h7 c1) c2) c3;have a:=both sn (both h2 (both (ux (ux (ux (ux (ux (ux h3 a1) a2) a3) a4) a5) a6) (both tb h4)));exact a
end HT
namespace HT
open PySem.W
theorem KP{g:e_->Option Obj}:∀l:List e_,(l.filterMap λa=>(g a).map λo=>(a,o)).lookup a=a_ o->g a=a_ o
 | [],h=>by cases h
 | b::r,h=>by
  rw[Ib]at h;cases e:g b with
  | none=>rw[e]at h;exact KP r h
  | some x=>
   rw[e]at h;dsimp only[Option.map]at h;rw[lY]at h;cases q:a == b with
   | true=>rw[q]at h;cases h;rw[beq_iff_eq.mp q];exact e
   | false=>rw[q]at h;exact KP r h
def rf:Option (Option f_)->e_
 | some (a_ (.ref a))=>a
 | _=>0
def Gv:Option (Option f_)->Bool
 | some (a_ (.ref _))=>c_
 | _=>d_
theorem kc{o:Option (Option f_)}(h:Gv o=c_):o=a_ (a_ (.ref (rf o))):=by
 unfold Gv at h
 split at h
 ·rfl
 ·cases h
def ym(o:Option (Option f_))(n:Int):Bool:=match o with
 | some (a_ (.int m _))=>decide (m=n)
 | _=>d_
theorem BU{o:Option (Option f_)}{n:Int}(h:ym o n=c_):∃t,o=a_ (a_ (.int n t)):=by
 unfold ym at h
 split at h
 ·rename_i m t;exact⟨t,by rw[of_decide_eq_true h]⟩
 ·cases h
def N5(o:Option CFound)(f:e_):Bool:=match o with
 | some (.val (.ref a))=>BL a f
 | _=>d_
theorem ahC{o:Option CFound}(h:N5 o f=c_):o=a_ (.val (.ref f)):=by
 unfold N5 at h
 split at h
 ·rw[Nat.eq_of_beq_eq_true h]
 ·cases h
abbrev rB:=Str×Str×Arguments×FuncBody×i_×e_×List (Str×e_)×f_×e_
def br(K:Frag)(f:e_):Option rB:=match K.lookup f with
 | some ⟨_,_,.func d,_⟩=>a_ (d.name,d.qualname,d.params,d.body,d.scope,d.globals,d.closure,d.defaults,d.builtins)
 | _=>b_
def codeOk(K:Frag)(f:e_)(q:Str):Bool:=match K.lookup f with
 | some ⟨_,_,.func d,_⟩=>codeIn K d.code q
 | _=>d_
theorem v7{K:Frag}{A:Arguments}{B:List Stmt}{S:i_}(h:br K f=a_ (n,q,A,.stmts B,S,eY,[],.none,sj))(hc:codeOk K f q'=c_) :
  ∃(oc:f_) (od:Option e_) (kV dc pm:f_) (an:Option e_) (cd ct:f_) (sl:Array (Option f_)),K.lookup f=a_ ⟨oc,od,.func (fnOf n q A B S .none kV dc pm an cd ct),sl⟩/\codeIn K cd q'=true:=by
 unfold br at h;unfold codeOk at hc
 split at h
 ·rename_i oc od d sl e
  rw[e]at hc;obtain⟨d1,d2,d3,d4,d5,d6,d7,d8,d9,d10,d11,d12,d13,d14,d15⟩:=d;simp only[Qo,aby]at h;obtain⟨rfl,rfl,rfl,rfl,rfl,rfl,rfl,rfl,rfl⟩:=h;exact⟨oc,od,_,_,_,_,_,_,sl,e,hc⟩
 ·cases h
def FQ(K:Frag)(f:e_):Option rB:=match K.lookup f with
 | some ⟨_,_,.func d,_⟩=>a_ (d.name,d.qualname,d.params,d.body,d.scope,d.globals,d.closure,.none,d.builtins)
 | _=>b_
def FV(K:Frag)(f:e_)(x:Str):Bool:=match K.lookup f with
 | some ⟨_,_,.func d,_⟩=>(match d.defaults with
  | .ref T=>(match K.lookup T with
   | some ⟨_,_,.seq ar _,_⟩=>(match ar.toList with
    | [.str y _]=>decide (y=x)
    | _=>d_)
   | _=>d_)
  | _=>d_)
 | _=>d_
theorem ahL{K:Frag}{A:Arguments}{B:List Stmt}{S:i_}(h:FQ K f=a_ (n,q,A,.stmts B,S,eY,[],.none,sj))(hc:codeOk K f q'=c_)(hd:FV K f x=c_) :
  ∃(oc:f_) (od:Option e_) (T:e_) (kV dc pm:f_) (an:Option e_) (cd ct:f_) (sl:Array (Option f_)) (c1:f_) (d1:Option e_) (n1:Nat) (uP:Array (Option f_)) (tk:Nat),K.lookup f=a_ ⟨oc,od,.func (fnOf n q A B S (.ref T) kV dc pm an cd ct),sl⟩/\codeIn K cd q'=c_/\K.lookup T=a_ ⟨c1,d1,.seq #[.str x tk] n1,uP⟩:=by
 unfold FQ at h;unfold codeOk at hc;unfold FV at hd
 split at h
 ·rename_i oc od d sl e
  rw[e]at hc hd;obtain⟨d1,d2,d3,d4,d5,d6,d7,d8,d9,d10,d11,d12,d13,d14,d15⟩:=d;simp only[Qo,aby]at h;obtain⟨rfl,rfl,rfl,rfl,rfl,rfl,rfl,_,rfl⟩:=h;cases d8 with
  | ref T=>
   have hd:(match K.lookup T with
    | some ⟨_,_,.seq ar _,_⟩=>(match ar.toList with
     | [.str y _]=>decide (y=x)
     | _=>d_)
    | _=>d_)=true:=hd
   split at hd
   ·rename_i c1 dd1 ar n1 uP e1
    split at hd
    ·rename_i y tk ei
     rw[of_decide_eq_true hd]at ei
     have al8:ar=#[.str x tk]:=by
      have:=congrArg List.toArray ei;simpa using this
     rw[al8]at e1;exact⟨oc,od,T,_,_,_,_,_,_,sl,c1,dd1,n1,uP,tk,e,hc,e1⟩
    ·cases hd
   ·cases hd
  | _=>cases hd
 ·cases h
def v5(h:j_)(as:List e_)(T:e_):Frag:=as.filterMap λa=>(if BL a T=c_ then b_ else h.get? a).map λo=>(a,o)
theorem Rz(e:(v5 h as T).lookup a=a_ o):a≠T/\h.get? a=a_ o:=by
 have z:=KP (g:=λa=>if BL a T=c_ then b_ else h.get? a) _ e
 by_cases y:BL a T=c_
 ·rw[if_pos y]at z;cases z
 ·rw[if_neg y]at z;exact⟨λq=>y (by rw[q];exact Nat.beq_refl T),z⟩
theorem aeT(h:j_)(as:List e_)(T:e_):(v5 h as T).In h:=λ_ _ e=>(Rz e).2
theorem aeS(h:j_)(as:List e_)(T:e_):(v5 h as T).lookup T=none:=by
 cases e:(v5 h as T).lookup T with
 | none=>rfl
 | some o=>exact absurd rfl (Rz e).1
def gT(s:SharedT)(a:e_):Option Obj:=match Nat.ble (a+1) s.n with
 | true=>alive ((s.tree.get a).getD default)
 | false=>b_
theorem WC(s:SharedT)(a:e_):s.abs.heap.get? a=gT s a:=by
 show (absHeap s.tree s.n s.life).get? a=gT s a;unfold gT;cases h:Nat.ble (a+1) s.n with
 | true=>
  have h1:a<s.n:=Nat.le_of_ble_eq_true h;unfold Heap.get?;rw[absHeap_at,if_pos h1];generalize (s.tree.get a).getD default=o;show (match a_ o with | some ⟨_,_,.freed,_⟩=>b_ | o=>o)=alive o;obtain⟨c,d,dt,sl⟩:=o;cases dt <;> rfl
 | false=>exact abs_get_none λz=>by rw[Nat.ble_eq_true_of_le (show a+1<=s.n from z)]at h;cases h
def v3(s:SharedT)(as:List e_)(T:e_):Frag:=as.filterMap λa=>match BL a T with
 | true=>b_
 | false=>(gT s a).map λo=>(a,o)
theorem aeR(s:SharedT)(as:List e_)(T:e_):v5 s.abs.heap as T=v3 s as T:=by
 unfold v5 v3
 congr 1
 funext a
 rw[WC];cases BL a T <;> rfl
def xZ:Option Obj->Bool
 | some ⟨.none,b_,.fields vs,sl⟩=>vs.size == 0&&sl.size == 0
 | _=>d_
theorem aeI{o:Option Obj}(h:xZ o=c_):o=a_ (tabObj #[]):=by
 unfold xZ at h
 split at h
 ·rename_i vs sl
  rw[jR]at h;have e1:=aac (beq_iff_eq.mp h.1);have e2:=aac (beq_iff_eq.mp h.2);subst e1;subst e2;rfl
 ·cases h
def ue(as:List e_)(T:e_)(obs:Frag->Bool×List (Option rB))(val:Bool×List (Option rB)):Hook:=
 ⟨Bool×(Bool×List (Option rB)),λs=>(xZ (s.heap.get? T),obs (v5 s.heap as T)),λ_=>(c_,val),λ_ h=>∃K:Frag,K.In h/\K.lookup T=b_/\h.get? T=a_ (tabObj #[])/\obs K=val,λ_ s e=>⟨_,aeT s.heap as T,aeS _ _ _,aeI (xH e).1,(xH e).2⟩,λ_ _ _ ⟨K,a,n,t,b⟩ k=>⟨K,a.keeps k,n,k _ _ t,b⟩⟩
theorem ahv{obs:Frag->Bool×List (Option rB)}{val:Bool×List (Option rB)}{o:Option SharedT}(h1:o.map (λs=>xZ (gT s T))=a_ c_)(h2:o.map (λs=>obs (v3 s as T))=a_ val):o.map (λs=>(ue as T obs val).obs s.abs)=a_ (c_,val):=by
 have e:(λs:SharedT=>(ue as T obs val).obs s.abs)=λs=>(xZ (gT s T),obs (v3 s as T)):=by
  funext s
  show (xZ (s.abs.heap.get? T),obs (v5 s.abs.heap as T))=_;rw[WC,aeR]
 rw[e];exact both h1 h2
def vR:f_->e_
 | .ref q=>q
 | _=>0
def vB:f_->Bool
 | .ref _=>c_
 | _=>d_
theorem aiw(h:vB v=c_):v=.ref (vR v):=by cases v <;> first | rfl | cases h
def Aj(K:Frag)(f:e_):Addr:=match K.lookup f with
 | some ⟨_,_,.func d,_⟩=>vR d.code
 | _=>0
def FX(K:Frag)(f:e_):Bool:=match K.lookup f with
 | some ⟨_,_,.func d,_⟩=>vB d.code
 | _=>d_
theorem ahN{K:Frag}{A:Arguments}{B:List Stmt}{S:i_}(h:br K f=a_ (n,q,A,.stmts B,S,eY,[],.none,sj))(hc:codeOk K f q'=c_)(hr:FX K f=c_) :
  ∃(oc:f_) (od:Option e_) (kV dc pm:f_) (an:Option e_) (ct:f_) (sl:Array (Option f_)),K.lookup f=a_ ⟨oc,od,.func (fnOf n q A B S .none kV dc pm an (.ref (Aj K f)) ct),sl⟩/\codeIn K (.ref (Aj K f)) q'=true:=by
 obtain⟨oc,od,kV,dc,pm,an,cd,ct,sl,e,c⟩:=v7 h hc
 have e2:cd=.ref (Aj K f):=by
  unfold FX at hr;unfold Aj;rw[e]at hr ⊢;exact aiw hr
 rw[e2]at e c;exact⟨oc,od,kV,dc,pm,an,ct,sl,e,c⟩
def sA:List f_->List Str->Bool
 | [],[]=>c_
 | .str y _::us,x::xs=>decide (y=x)&&sA us xs
 | _,_=>d_
def tupS(K:Frag)(a:e_)(xs:List Str):Bool:=match K.lookup a with
 | some ⟨.type "tuple",_,.seq ar _,_⟩=>sA ar.toList xs
 | _=>d_
end HT
namespace TL
open PySem.SeqAt L2 L3
def gN(K:u_)(x:Str):Addr:=HT.rf (W.nsIn K eY x)
def gM(K:u_)(c:e_)(x:Str):Addr:=HT.rf (w_ K (.ref c) x)
abbrev rN(K:u_)(x:Str):Prop:=HT.Gv (W.nsIn K eY x)=c_
abbrev zN(K:u_)(x:Str):Prop:=W.nsIn K eY x=a_ b_
abbrev no(K:u_)(c:e_)(x:Str):Prop:=w_ K (.ref c) x=a_ b_
abbrev fN(K:u_)(x:Str):Prop:=rN K x/\HT.codeOk K (gN K x) x=c_/\x_ K (.ref (gN K x))=c_
abbrev fM(K:u_)(c:e_)(m q:Str):Prop:=HT.Gv (w_ K (.ref c) m)=c_/\HT.codeOk K (gM K c m) q=c_/\x_ K (.ref (gM K c m))=c_/\W.isFn K (.ref (gM K c m))=c_
abbrev cK(K:u_)(x:Str):Prop:=rN K x/\W.plainGet K (gN K x) Str.empty=c_/\F_ K (gN K x)=c_/\W.plainOver K (gN K x)=c_/\w_ K (.ref (gN K x)) "__setattr__" = a_ (a_ (.builtin "object.__setattr__"))
abbrev mK(K:u_)(c:e_):Prop:=W.makesIn K c=c_/\x_ K (.ref c)=c_
abbrev xF(K:u_)(x e:e_):Prop:=W.excIn K x wy "ValueError.__new__" = c_/\x_ K (.ref x)=c_/\y_ K (.ref x) (.ref x)=a_ c_/\y_ K (.ref x) (.type "BaseException")=a_ c_/\v_ K (.ref x) (.ref e)=a_ c_/\v_ K (.ref x) (.type "ValueError")=a_ c_
def fp(n q:Str)(st:Stmt):Option HT.rB:=a_ (n,q,mm st,.stmts (jB st),aW st,eY,[],.none,sj)
abbrev Ad(K:u_):Addr:=gN K "TrayError"
abbrev ajw(K:u_):Addr:=gN K "NoStep"
abbrev MQ(K:u_):Addr:=gN K "NoMove"
abbrev ajx(K:u_):Addr:=gN K "NoKind"
abbrev i7(K:u_):Addr:=gN K "Waiting"
abbrev ub(K:u_):Addr:=gN K "Step"
abbrev hZ(K:u_):Addr:=gN K "Put"
abbrev ic(K:u_):Addr:=gN K "Add"
abbrev hY(K:u_):Addr:=gN K "Set"
abbrev hG(K:u_):Addr:=gN K "Look"
abbrev gZ(K:u_):Addr:=gN K "Swap"
abbrev g9(K:u_):Addr:=gN K "Skip"
abbrev mf(K:u_):Addr:=gN K "Clear"
abbrev gY(K:u_):Addr:=gN K "Tray"
abbrev c8(K:u_):Addr:=gN K "Machine"
abbrev TY(K:u_):Addr:=gN K "KINDS"
abbrev Xp(K:u_):Addr:=gN K "is_whole"
abbrev Xs(K:u_):Addr:=gN K "bounds_of"
abbrev Xq(K:u_):Addr:=gN K "is_step"
abbrev Xr(K:u_):Addr:=gN K "step_of"
abbrev Ak(K:u_):Addr:=gM K (ub K) "__init__"
abbrev L7(K:u_):Addr:=gM K (hZ K) "__init__"
abbrev L9(K:u_):Addr:=gM K (ic K) "__init__"
abbrev L6(K:u_):Addr:=gM K (hY K) "__init__"
abbrev K7(K:u_):Addr:=gM K (hG K) "__init__"
abbrev K1(K:u_):Addr:=gM K (gZ K) "__init__"
abbrev K2(K:u_):Addr:=gM K (g9 K) "__init__"
abbrev pW(K:u_):Addr:=gM K (ub K) "empties"
abbrev U7(K:u_):Addr:=gM K (gZ K) "empties"
abbrev U8(K:u_):Addr:=gM K (mf K) "empties"
abbrev ajQ(K:u_):Addr:=gN K "has_clerks"
abbrev ajR(K:u_):Addr:=gN K "fits"
abbrev ajO(K:u_):Addr:=gN K "look_over"
abbrev WH(K:u_):Addr:=gM K (gY K) "__init__"
abbrev ajE(K:u_):Addr:=gM K (gY K) "add"
abbrev ajB(K:u_):Addr:=gM K (gY K) "latest"
abbrev MS(K:u_):Addr:=gM K (gY K) "fronts"
abbrev ajz(K:u_):Addr:=gM K (gY K) "take"
abbrev ajC(K:u_):Addr:=gM K (gY K) "is_empty"
abbrev ajD(K:u_):Addr:=gM K (gY K) "listed"
abbrev ajA(K:u_):Addr:=gN K "tray_of"
abbrev L8(K:u_):Addr:=gM K (c8 K) "__init__"
abbrev aj7(K:u_):Addr:=gM K (c8 K) "at_end"
abbrev ajM(K:u_):Addr:=gM K (c8 K) "may_do"
abbrev ajZ(K:u_):Addr:=gM K (c8 K) "carries"
abbrev ajN(K:u_):Addr:=gM K (c8 K) "moves"
abbrev ajV(K:u_):Addr:=gM K (c8 K) "do"
abbrev ajU(K:u_):Addr:=gM K (c8 K) "do_step"
abbrev ajT(K:u_):Addr:=gM K (c8 K) "do_set"
abbrev ajW(K:u_):Addr:=gM K (c8 K) "do_look"
abbrev ajS(K:u_):Addr:=gM K (c8 K) "do_swap"
abbrev ajY(K:u_):Addr:=gM K (c8 K) "carry"
abbrev aj0(K:u_):Addr:=gM K (c8 K) "come"
abbrev ajK(K:u_):Addr:=gM K (c8 K) "on_board"
abbrev ajG(K:u_):Addr:=gM K (c8 K) "settle"
abbrev ajy(K:u_):Addr:=gM K (c8 K) "waiting"
abbrev ajX(K:u_):Addr:=gM K (c8 K) "deeds"
abbrev ajJ(K:u_):Addr:=gM K (c8 K) "over"
abbrev ajI(K:u_):Addr:=gN K "place_behind"
abbrev ajP(K:u_):Addr:=gN K "has_form_of_move"
abbrev ajF(K:u_):Addr:=gN K "steps_of"
abbrev VZ(K:u_):Addr:=gM K (i7 K) "__init__"
abbrev ajL(K:u_):Addr:=gN K "neighbours"
abbrev aj1(K:u_):Addr:=gN K "by_own"
abbrev aj3(K:u_):Addr:=gN K "by_seen"
abbrev aj2(K:u_):Addr:=gN K "by_over"
abbrev aj5(K:u_):Addr:=gN K "comers_behind"
abbrev aj6(K:u_):Addr:=gN K "by_ahead"
abbrev ajH(K:u_):Addr:=gN K "refuse_waiting"
abbrev aj4(K:u_):Addr:=gN K "before"
abbrev aik(K:u_):Addr:=gN K "_law_draw"
abbrev aie(K:u_):Addr:=gN K "_law_step"
abbrev aii(K:u_):Addr:=gN K "_law_program"
abbrev aij(K:u_):Addr:=gN K "_law_due"
abbrev aih(K:u_):Addr:=gN K "_law_refused"
abbrev aid(K:u_):Addr:=gN K "_law_waits"
abbrev aif(K:u_):Addr:=gN K "_law_right"
abbrev aic(K:u_):Addr:=gN K "law"
set_option synthInstance.maxSize 100000
set_option synthInstance.maxHeartbeats 0
abbrev d9(p:Prop)[Decidable p]:Bool:=decide p
def Ar(K:u_)(_:Unit):List Bool:=[d9 (rN K "TrayError"),d9 (rN K "NoStep"),d9 (xF K (ajw K) (Ad K)),d9 (rN K "NoMove"),d9 (xF K (MQ K) (Ad K)),d9 (rN K "NoKind"),d9 (xF K (ajx K) (Ad K)),d9 (rN K "Waiting"),d9 (cK K "Step"),d9 (cK K "Put"),d9 (mK K (hZ K)),d9 (no K (hZ K) "parts"),d9 (no K (hZ K) "reg"),d9 (no K (hZ K) "number"),d9 (cK K "Add"),d9 (mK K (ic K)),d9 (no K (ic K) "parts"),d9 (no K (ic K) "reg"),d9 (no K (ic K) "other"),d9 (cK K "Set"),d9 (mK K (hY K)),d9 (no K (hY K) "parts"),d9 (no K (hY K) "name"),d9 (no K (hY K) "reg"),d9 (cK K "Look"),d9 (mK K (hG K)),d9 (no K (hG K) "parts"),d9 (no K (hG K) "reg"),d9 (no K (hG K) "name"),d9 (cK K "Swap"),d9 (mK K (gZ K)),d9 (no K (gZ K) "parts"),d9 (no K (gZ K) "reg"),d9 (no K (gZ K) "name"),d9 (cK K "Skip"),d9 (mK K (g9 K)),d9 (no K (g9 K) "parts"),d9 (no K (g9 K) "reg"),d9 (no K (g9 K) "place"),d9 (cK K "Clear"),d9 (mK K (mf K)),d9 (no K (mf K) "parts"),d9 (cK K "Tray"),d9 (mK K (gY K)),d9 (no K (gY K) "kind"),d9 (no K (gY K) "turn"),d9 (no K (gY K) "queues"),d9 (cK K "Machine"),d9 (mK K (c8 K)),d9 (no K (c8 K) "trays"),d9 (no K (c8 K) "program"),d9 (no K (c8 K) "kind"),d9 (no K (c8 K) "steps"),d9 (no K (c8 K) "places"),d9 (no K (c8 K) "counts"),d9 (no K (c8 K) "regs"),d9 (no K (c8 K) "cells"),d9 (no K (c8 K) "acts"),d9 (no K (c8 K) "comers"),d9 (fN K "is_whole"),d9 (fN K "bounds_of"),d9 (fN K "is_step"),d9 (fN K "step_of"),d9 (fM K (ub K) "__init__" "Step.__init__"),d9 (fM K (hZ K) "__init__" "Put.__init__"),d9 (fM K (ic K) "__init__" "Add.__init__"),d9 (fM K (hY K) "__init__" "Set.__init__"),d9 (fM K (hG K) "__init__" "Look.__init__"),d9 (fM K (gZ K) "__init__" "Swap.__init__"),d9 (fM K (g9 K) "__init__" "Skip.__init__"),d9 (fM K (ub K) "empties" "Step.empties"),d9 (fM K (gZ K) "empties" "Swap.empties"),d9 (fM K (mf K) "empties" "Clear.empties"),d9 (fN K "has_clerks"),d9 (fN K "fits"),d9 (fN K "look_over"),d9 (fM K (gY K) "__init__" "Tray.__init__"),d9 (fM K (gY K) "add" "Tray.add"),d9 (fM K (gY K) "latest" "Tray.latest"),d9 (fM K (gY K) "fronts" "Tray.fronts"),d9 (HT.FX K (MS K)=c_),d9 (W.codeHdIn K (HT.Aj K (MS K)) 475=c_),d9 (fM K (gY K) "take" "Tray.take"),d9 (fM K (gY K) "is_empty" "Tray.is_empty"),d9 (fM K (gY K) "listed" "Tray.listed"),d9 (fN K "tray_of"),d9 (fM K (c8 K) "__init__" "Machine.__init__"),d9 (HT.FV K (L8 K) "row" = c_),d9 (fM K (c8 K) "at_end" "Machine.at_end"),d9 (fM K (c8 K) "may_do" "Machine.may_do"),d9 (fM K (c8 K) "carries" "Machine.carries"),d9 (fM K (c8 K) "moves" "Machine.moves"),d9 (fM K (c8 K) "do" "Machine.do"),d9 (fM K (c8 K) "do_step" "Machine.do_step"),d9 (fM K (c8 K) "do_set" "Machine.do_set"),d9 (fM K (c8 K) "do_look" "Machine.do_look"),d9 (fM K (c8 K) "do_swap" "Machine.do_swap"),d9 (fM K (c8 K) "carry" "Machine.carry"),d9 (fM K (c8 K) "come" "Machine.come"),d9 (fM K (c8 K) "on_board" "Machine.on_board"),d9 (fM K (c8 K) "settle" "Machine.settle"),d9 (fM K (c8 K) "waiting" "Machine.waiting"),d9 (fM K (c8 K) "deeds" "Machine.deeds"),d9 (fM K (c8 K) "over" "Machine.over"),d9 (fN K "place_behind"),d9 (fN K "has_form_of_move"),d9 (fN K "steps_of"),d9 (fM K (i7 K) "__init__" "Waiting.__init__"),d9 (fN K "neighbours"),d9 (fN K "by_own"),d9 (fN K "by_seen"),d9 (fN K "by_over"),d9 (fN K "comers_behind"),d9 (fN K "by_ahead"),d9 (fN K "refuse_waiting"),d9 (fN K "before"),d9 (fN K "_law_draw"),d9 (fN K "_law_step"),d9 (fN K "_law_program"),d9 (fN K "_law_due"),d9 (fN K "_law_refused"),d9 (fN K "_law_waits"),d9 (fN K "_law_right"),d9 (fN K "law"),d9 (w_ K (.ref (hZ K)) "empties" = a_ (a_ (.ref (pW K)))),d9 (w_ K (.ref (ic K)) "empties" = a_ (a_ (.ref (pW K)))),d9 (w_ K (.ref (hY K)) "empties" = a_ (a_ (.ref (pW K)))),d9 (w_ K (.ref (hG K)) "empties" = a_ (a_ (.ref (pW K)))),d9 (w_ K (.ref (g9 K)) "empties" = a_ (a_ (.ref (pW K)))),d9 (w_ K (.ref (mf K)) "__init__" = a_ (a_ (.ref (Ak K)))),d9 (W.specialIn K (.ref (ub K)) "__getattribute__" = a_ (a_ (.builtin "type.__getattribute__"))),d9 (W.readsIn K (ub K) (.type "type")=c_),d9 (HT.N5 (W.findCls K (.ref (ub K)) (.type "type") "__init__") (Ak K)=c_),d9 (zN K "isinstance"),d9 (zN K "int"),d9 (zN K "bool"),d9 (zN K "str"),d9 (zN K "tuple"),d9 (zN K "len"),d9 (zN K "all"),d9 (zN K "zip"),d9 (zN K "enumerate"),d9 (zN K "range"),d9 (zN K "list"),d9 (zN K "min"),d9 (zN K "max"),d9 (zN K "sorted"),d9 (zN K "sum"),d9 (zN K "ValueError"),d9 (HT.ym (W.nsIn K eY "TOP") mZ=c_),d9 (HT.ym (W.nsIn K eY "NAMES") 12=c_),d9 (HT.ym (W.nsIn K eY "REGISTERS") 4=c_),d9 (HT.ym (W.nsIn K eY "LONGEST") 120=c_),d9 (HT.ym (W.nsIn K eY "CLERKS") 4=c_),d9 (rN K "KINDS"),d9 (HT.tupS K (TY K) ["row","name","none"]=c_),d9 (W.specialIn K (.builtin "object.__class__") "__get__" = a_ (a_ (.builtin "getset_descriptor.__get__"))),d9 (W.takesIn K (.builtin "object.__class__")=a_ c_),d9 (w_ K (.ref (hZ K)) "__class__" = a_ (a_ (.builtin "object.__class__"))),d9 (A_ K (hZ K) (.type "object")=a_ c_),d9 (v_ K (.ref (hZ K)) (.ref (hZ K))=a_ c_),d9 (v_ K (.ref (hZ K)) (.ref (ic K))=a_ d_),d9 (v_ K (.ref (hZ K)) (.ref (hY K))=a_ d_),d9 (v_ K (.ref (hZ K)) (.ref (hG K))=a_ d_),d9 (v_ K (.ref (hZ K)) (.ref (gZ K))=a_ d_),d9 (v_ K (.ref (hZ K)) (.ref (g9 K))=a_ d_),d9 (w_ K (.ref (ic K)) "__class__" = a_ (a_ (.builtin "object.__class__"))),d9 (A_ K (ic K) (.type "object")=a_ c_),d9 (v_ K (.ref (ic K)) (.ref (hZ K))=a_ d_),d9 (v_ K (.ref (ic K)) (.ref (ic K))=a_ c_),d9 (v_ K (.ref (ic K)) (.ref (hY K))=a_ d_),d9 (v_ K (.ref (ic K)) (.ref (hG K))=a_ d_),d9 (v_ K (.ref (ic K)) (.ref (gZ K))=a_ d_),d9 (v_ K (.ref (ic K)) (.ref (g9 K))=a_ d_),d9 (w_ K (.ref (hY K)) "__class__" = a_ (a_ (.builtin "object.__class__"))),d9 (A_ K (hY K) (.type "object")=a_ c_),d9 (v_ K (.ref (hY K)) (.ref (hZ K))=a_ d_),d9 (v_ K (.ref (hY K)) (.ref (ic K))=a_ d_),d9 (v_ K (.ref (hY K)) (.ref (hY K))=a_ c_),d9 (v_ K (.ref (hY K)) (.ref (hG K))=a_ d_),d9 (v_ K (.ref (hY K)) (.ref (gZ K))=a_ d_),d9 (v_ K (.ref (hY K)) (.ref (g9 K))=a_ d_),d9 (w_ K (.ref (hG K)) "__class__" = a_ (a_ (.builtin "object.__class__"))),d9 (A_ K (hG K) (.type "object")=a_ c_),d9 (v_ K (.ref (hG K)) (.ref (hZ K))=a_ d_),d9 (v_ K (.ref (hG K)) (.ref (ic K))=a_ d_),d9 (v_ K (.ref (hG K)) (.ref (hY K))=a_ d_),d9 (v_ K (.ref (hG K)) (.ref (hG K))=a_ c_),d9 (v_ K (.ref (hG K)) (.ref (gZ K))=a_ d_),d9 (v_ K (.ref (hG K)) (.ref (g9 K))=a_ d_),d9 (w_ K (.ref (gZ K)) "__class__" = a_ (a_ (.builtin "object.__class__"))),d9 (A_ K (gZ K) (.type "object")=a_ c_),d9 (v_ K (.ref (gZ K)) (.ref (hZ K))=a_ d_),d9 (v_ K (.ref (gZ K)) (.ref (ic K))=a_ d_),d9 (v_ K (.ref (gZ K)) (.ref (hY K))=a_ d_),d9 (v_ K (.ref (gZ K)) (.ref (hG K))=a_ d_),d9 (v_ K (.ref (gZ K)) (.ref (gZ K))=a_ c_),d9 (v_ K (.ref (gZ K)) (.ref (g9 K))=a_ d_),d9 (w_ K (.ref (mf K)) "__class__" = a_ (a_ (.builtin "object.__class__"))),d9 (A_ K (mf K) (.type "object")=a_ c_),d9 (v_ K (.ref (mf K)) (.ref (hZ K))=a_ d_),d9 (v_ K (.ref (mf K)) (.ref (ic K))=a_ d_),d9 (v_ K (.ref (mf K)) (.ref (hY K))=a_ d_),d9 (v_ K (.ref (mf K)) (.ref (hG K))=a_ d_),d9 (v_ K (.ref (mf K)) (.ref (gZ K))=a_ d_),d9 (v_ K (.ref (mf K)) (.ref (g9 K))=a_ d_),d9 (w_ K (.ref (g9 K)) "__class__" = a_ (a_ (.builtin "object.__class__"))),d9 (A_ K (g9 K) (.type "object")=a_ c_),d9 (v_ K (.ref (g9 K)) (.ref (hZ K))=a_ d_),d9 (v_ K (.ref (g9 K)) (.ref (ic K))=a_ d_),d9 (v_ K (.ref (g9 K)) (.ref (hY K))=a_ d_),d9 (v_ K (.ref (g9 K)) (.ref (hG K))=a_ d_),d9 (v_ K (.ref (g9 K)) (.ref (gZ K))=a_ d_),d9 (v_ K (.ref (g9 K)) (.ref (g9 K))=a_ c_),d9 (LX K (i7 K) wy "ValueError.__new__" = c_),d9 (x_ K (.ref (i7 K))=c_),d9 (w_ K (.ref (i7 K)) "__setattr__" = a_ (a_ (.builtin "object.__setattr__"))),d9 ((W.clsIn K (i7 K)).any (λcd=>t8 cd.mro&&cd.hasDict)=c_),d9 (w_ K (.ref (i7 K)) "clerk" = a_ b_),d9 (y_ K (.ref (Ad K)) (.type "BaseException")=a_ c_),d9 (y_ K (.ref (i7 K)) (.ref (Ad K))=a_ c_),d9 (v_ K (.ref (i7 K)) (.ref (i7 K))=a_ c_),d9 (v_ K (.ref (i7 K)) (.ref (MQ K))=a_ d_),d9 (v_ K (.ref (i7 K)) (.type "ValueError")=a_ c_),d9 (w_ K (.ref (i7 K)) (gc "__getattribute__")=a_ (a_ (.builtin jm))),d9 (w_ K (.ref (i7 K)) (gc "__getattr__")=a_ b_),d9 (A_ K (i7 K) (.type "BaseException")=a_ c_),d9 (F_ K (i7 K)=c_),d9 (w_ K (.ref (i7 K)) (gc "__class__")=a_ (a_ (.builtin "object.__class__"))),d9 (A_ K (i7 K) (.type "object")=a_ c_)]
def seen(K:u_):Bool:=(Ar K ()).all id
def rA:List Nat:=[3,2,0,1,6,31,44,56,75,87,99,118,172,193,212,238,264,304,323,349,505,713,24,30,37,43,49,55,61,74,80,86,92,98,104,117,123,171,179,192,198,211,217,237,243,263,269,303,309,322,328,348,450,504,536,712,19,21,70,72,113,115,132,134,139,141,146,148,153,155,160,162,167,169,188,190,207,209,226,228,233,235,252,254,259,261,278,280,285,287,292,294,299,301,318,320,337,339,344,346,356,358,363,365,368,370,375,377,382,384,387,389,392,394,397,399,404,406,411,413,418,420,425,427,430,432,437,439,444,446,457,459,464,466,471,473,476,478,483,485,488,490,493,495,500,502,514,516,519,521,524,526,531,533,544,546,551,553,558,560,563,565,568,570,575,577,582,584,589,591,596,598,603,605,610,612,617,619,624,626,631,633,638,640,645,647,652,654,659,661,666,668,673,675,680,682,687,689,694,696,701,703,708,710,722,724,729,731,734,736,739,741,746,748,753,755,758,760,765,767,4,5,7,8,9,10,11,12,13,14,15,16,17,18,20,22,23,25,26,27,28,29,32,33,34,35,36,38,39,40,41,42,45,46,47,48,50,51,52,53,54,57,58,59,60,62,63,64,65,66,67,68,69,71,73,76,77,78,79,81,82,83,84,85,88,89,90,91,93,94,95,96,97,100,101,102,103,105,106,107,108,109,110,111,112,114,116,119,120,121,122,124,125,126,127,128,129,130,131,133,135,136,137,138,140,142,143,144,145,147,149,150,151,152,154,156,157,158,159,161,163,164,165,166,168,170,173,174,175,176,177,178,180,181,182,183,184,185,186,187,189,191,194,195,196,197,199,200,201,202,203,204,205,206,208,210,213,214,215,216,218,219,220,221,222,223,224,225,227,229,230,231,232,234,236,239,240,241,242,244,245,246,247,248,249,250,251,253,255,256,257,258,260,262,265,266,267,268,270,271,272,273,274,275,276,277,279,281,282,283,284,286,288,289,290,291,293,295,296,297,298,300,302,305,306,307,308,310,311,312,313,314,315,316,317,319,321,324,325,326,327,329,330,331,332,333,334,335,336,338,340,341,342,343,345,347,350,351,352,353,354,355,357,359,360,361,362,364,366,367,369,371,372,373,374,376,378,379,380,381,383,385,386,388,390,391,393,395,396,398,400,401,402,403,405,407,408,409,410,412,414,415,416,417,419,421,422,423,424,426,428,429,431,433,434,435,436,438,440,441,442,443,445,447,448,449,451,452,453,454,455,456,458,460,461,462,463,465,467,468,469,470,472,474,475,477,479,480,481,482,484,486,487,489,491,492,494,496,497,498,499,501,503,506,507,508,509,510,511,512,513,515,517,518,520,522,523,525,527,528,529,530,532,534,535,537,538,539,540,541,542,543,545,547,548,549,550,552,554,555,556,557,559,561,562,564,566,567,569,571,572,573,574,576,578,579,580,581,583,585,586,587,588,590,592,593,594,595,597,599,600,601,602,604,606,607,608,609,611,613,614,615,616,618,620,621,622,623,625,627,628,629,630,632,634,635,636,637,639,641,642,643,644,646,648,649,650,651,653,655,656,657,658,660,662,663,664,665,667,669,670,671,672,674,676,677,678,679,681,683,684,685,686,688,690,691,692,693,695,697,698,699,700,702,704,705,706,707,709,711,714,715,716,717,718,719,720,721,723,725,726,727,728,730,732,733,735,737,738,740,742,743,744,745,747,749,750,751,752,754,756,757,759,761,762,763,764,766]
def qS(K:u_):List (Option HT.rB):=[HT.br K (Xp K),HT.br K (Xs K),HT.br K (Xq K),HT.br K (Xr K),HT.br K (Ak K),HT.br K (L7 K),HT.br K (L9 K),HT.br K (L6 K),HT.br K (K7 K),HT.br K (K1 K),HT.br K (K2 K),HT.br K (pW K),HT.br K (U7 K),HT.br K (U8 K),HT.br K (ajQ K),HT.br K (ajR K),HT.br K (ajO K),HT.br K (WH K),HT.br K (ajE K),HT.br K (ajB K),HT.br K (MS K),HT.br K (ajz K),HT.br K (ajC K),HT.br K (ajD K),HT.br K (ajA K),HT.FQ K (L8 K),HT.br K (aj7 K),HT.br K (ajM K),HT.br K (ajZ K),HT.br K (ajN K),HT.br K (ajV K),HT.br K (ajU K),HT.br K (ajT K),HT.br K (ajW K),HT.br K (ajS K),HT.br K (ajY K),HT.br K (aj0 K),HT.br K (ajK K),HT.br K (ajG K),HT.br K (ajy K),HT.br K (ajX K),HT.br K (ajJ K),HT.br K (ajI K),HT.br K (ajP K),HT.br K (ajF K),HT.br K (VZ K),HT.br K (ajL K),HT.br K (aj1 K),HT.br K (aj3 K),HT.br K (aj2 K),HT.br K (aj5 K),HT.br K (aj6 K),HT.br K (ajH K),HT.br K (aj4 K),HT.br K (aik K),HT.br K (aie K),HT.br K (aii K),HT.br K (aij K),HT.br K (aih K),HT.br K (aid K),HT.br K (aif K),HT.br K (aic K)]
def pU:List (Option HT.rB):=[fp "is_whole" "is_whole" BO,fp "bounds_of" "bounds_of" BG,fp "is_step" "is_step" ED,fp "step_of" "step_of" Ku,fp "__init__" "Step.__init__" Ff,fp "__init__" "Put.__init__" Fe,fp "__init__" "Add.__init__" Fg,fp "__init__" "Set.__init__" Fd,fp "__init__" "Look.__init__" EW,fp "__init__" "Swap.__init__" ET,fp "__init__" "Skip.__init__" EU,fp "empties" "Step.empties" EX,fp "empties" "Swap.empties" D9,fp "empties" "Clear.empties" D3,fp "has_clerks" "has_clerks" Nh,fp "fits" "fits" Mm,fp "look_over" "look_over" Jt,fp "__init__" "Tray.__init__" Gr,fp "add" "Tray.add" Mg,fp "latest" "Tray.latest" JW,fp "fronts" "Tray.fronts" Ek,fp "take" "Tray.take" Lh,fp "is_empty" "Tray.is_empty" Kt,fp "listed" "Tray.listed" JV,fp "tray_of" "tray_of" Ks,fp "__init__" "Machine.__init__" EV,fp "at_end" "Machine.at_end" Lq,fp "may_do" "Machine.may_do" Lj,fp "carries" "Machine.carries" JZ,fp "moves" "Machine.moves" Kw,fp "do" "Machine.do" Nf,fp "do_step" "Machine.do_step" Ky,fp "do_set" "Machine.do_set" Lm,fp "do_look" "Machine.do_look" Kz,fp "do_swap" "Machine.do_swap" Kx,fp "carry" "Machine.carry" Lo,fp "come" "Machine.come" Mo,fp "on_board" "Machine.on_board" JY,fp "settle" "Machine.settle" Kv,fp "waiting" "Machine.waiting" JU,fp "deeds" "Machine.deeds" Ln,fp "over" "Machine.over" Mj,fp "place_behind" "place_behind" IQ,fp "has_form_of_move" "has_form_of_move" Ml,fp "steps_of" "steps_of" JX,fp "__init__" "Waiting.__init__" Nd,fp "neighbours" "neighbours" Cr,fp "by_own" "by_own" Lp,fp "by_seen" "by_seen" KA,fp "by_over" "by_over" KC,fp "comers_behind" "comers_behind" EF,fp "by_ahead" "by_ahead" J0,fp "refuse_waiting" "refuse_waiting" Mi,fp "before" "before" KD,fp "_law_draw" "_law_draw" Mn,fp "_law_step" "_law_step" Lk,fp "_law_program" "_law_program" Ll,fp "_law_due" "_law_due" Ni,fp "_law_refused" "_law_refused" Mh,fp "_law_waits" "_law_waits" Lg,fp "_law_right" "_law_right" Li,fp "law" "law" yb]
def ahx:Pos:=match yb with
 | .FunctionDef _ _ _ _ _ _ _ _ _ p=>p
 | _=>default
def dl:DefRec:=⟨"law",mm yb,jB yb,aW yb,ahx⟩
end TL
open PySem PySem.W PyProof.Rows in
theorem TL.mark_:True:=trivial
section
open PySem.W
theorem TL.l7(w:k_)(os:OsState):(TL.rn w os).map (λs=>(((HT.xZ (HT.gT s 475),TL.qS (HT.v3 s TL.rA 475))),(((((TL.Ar (HT.v3 s TL.rA 475) ()).drop 90).drop 50).all id))))=a_ ((c_,TL.pU),(c_)):=by kernel_rfl
theorem TL.l8(w:k_)(os:OsState):(TL.rn w os).map (λs=>((TL.Ar (HT.v3 s TL.rA 475) ()).take 90).all id)=a_ true:=by kernel_rfl
theorem TL.l9(w:k_)(os:OsState):(TL.rn w os).map (λs=>(((TL.Ar (HT.v3 s TL.rA 475) ()).drop 90).take 50).all id)=a_ true:=by kernel_rfl
theorem TL.r2(w:k_)(os:OsState):(TL.rn w os).map (λs=>W.openSeen TL.qv [] (DH PySem.Challenge.rw_traylate_k36_what_must_come_before.row.prog.main.body) (λs=>W.xlAt TL.qv [] s&&W.recOk PySem.Challenge.rw_traylate_k36_what_must_come_before.row.records s) c_ s.abs)=a_ (W.openGood TL.qv []):=HT.afq TL.lw (HT.sR (TL.l0 w os)) (HT.oM (HT.oM (HT.oM (TL.l5 w os)))) (HT.td 18 (HT.sR (TL.l5 w os)) (TL.l6 w os)) (HT.sR (HT.oM (TL.l5 w os))) (HT.oM (TL.l3 w os)) (HT.tb_ (HT.Lb 22 (HT.sR (TL.l3 w os)) (TL.l4 w os))) (HT.oM (HT.oM (TL.l2 w os))) (HT.both (HT.sR (HT.oM (HT.oM (TL.l5 w os)))) (HT.both (HT.oM (TL.l0 w os)) (HT.both (HT.sR (TL.l2 w os)) (TL.l1 w os))))
theorem TL.r3(w:k_)(os:OsState):(TL.rn w os).map (λs=>(HT.ue TL.rA 475 (λK=>(TL.seen K,TL.qS K)) (c_,TL.pU)).obs s.abs)=a_ (c_,(c_,TL.pU)):=HT.ahv (HT.sR (HT.sR (TL.l7 w os))) (HT.both (HT.Lb 90 (TL.l8 w os) (HT.Lb 50 (TL.l9 w os) (HT.oM (TL.l7 w os)))) (HT.oM (HT.sR (TL.l7 w os))))
end
namespace L2
universe u0 u1 u2 u3 u4 u5 u6 u7 u8 u9
section
variable{A:Sort u0}{B:Sort u1}{C:Sort u2}{D:Sort u3}{E:Sort u4}{F:Sort u5}{I:Sort u6}{J:Sort u7}{L:Sort u8}{M:Sort u9}{G:Prop}
theorem oA{p q:Prop}(H:p/\q)(K:p->q->G):G:=by
 obtain⟨k,m⟩:=H;exact K k m
theorem oE{p:A->Prop}(H:∃a,p a)(K:∀a,p a->G):G:=by
 obtain⟨a,k⟩:=H;exact K a k
theorem dj{p q r:Prop}(k:p)(m:q)(n:r):p/\q/\r:=⟨k,m,n⟩
theorem au{p q:A->Prop}(a:A)(k:p a)(m:q a):∃a,p a/\q a:=⟨a,k,m⟩
theorem lR{p:A->B->Prop}(a:A)(b:B)(k:p a b):∃a b,p a b:=⟨a,b,k⟩
theorem cH{p q r:Prop}(H:p/\q/\r)(K:p->q->r->G):G:=by
 obtain⟨k,m,n⟩:=H;exact K k m n
theorem aw{p q:A->Prop}(H:∃a,p a/\q a)(K:∀a,p a->q a->G):G:=by
 obtain⟨a,k,m⟩:=H;exact K a k m
theorem As{p:A->B->Prop}(H:∃a b,p a b)(K:∀a b,p a b->G):G:=by
 obtain⟨a,b,k⟩:=H;exact K a b k
theorem qX{p q r s:Prop}(k:p)(m:q)(n:r)(o:s):p/\q/\r/\s:=⟨k,m,n,o⟩
theorem cD{p q r:A->Prop}(a:A)(k:p a)(m:q a)(n:r a):∃a,p a/\q a/\r a:=⟨a,k,m,n⟩
theorem fq{p q:A->B->Prop}(a:A)(b:B)(k:p a b)(m:q a b):∃a b,p a b/\q a b:=⟨a,b,k,m⟩
theorem nL{p q r s:Prop}(H:p/\q/\r/\s)(K:p->q->r->s->G):G:=by
 obtain⟨k,m,n,o⟩:=H;exact K k m n o
theorem aR{p q r:A->Prop}(H:∃a,p a/\q a/\r a)(K:∀a,p a->q a->r a->G):G:=by
 obtain⟨a,k,m,n⟩:=H;exact K a k m n
theorem bX{p q:A->B->Prop}(H:∃a b,p a b/\q a b)(K:∀a b,p a b->q a b->G):G:=by
 obtain⟨a,b,k,m⟩:=H;exact K a b k m
theorem Nl{p:A->B->C->Prop}(H:∃a b c,p a b c)(K:∀a b c,p a b c->G):G:=by
 obtain⟨a,b,c,k⟩:=H;exact K a b c k
theorem kL{p q r s:A->Prop}(a:A)(k:p a)(m:q a)(n:r a)(o:s a):∃a,p a/\q a/\r a/\s a:=⟨a,k,m,n,o⟩
theorem dw{p q r:A->B->Prop}(a:A)(b:B)(k:p a b)(m:q a b)(n:r a b):∃a b,p a b/\q a b/\r a b:=⟨a,b,k,m,n⟩
theorem dZ{p:A->B->C->D->Prop}(a:A)(b:B)(c:C)(d:D)(k:p a b c d):∃a b c d,p a b c d:=⟨a,b,c,d,k⟩
theorem xX{p q r s t:Prop}(H:p/\q/\r/\s/\t)(K:p->q->r->s->t->G):G:=by
 obtain⟨k,m,n,o,h⟩:=H;exact K k m n o h
theorem dY{p q r s:A->Prop}(H:∃a,p a/\q a/\r a/\s a)(K:∀a,p a->q a->r a->s a->G):G:=by
 obtain⟨a,k,m,n,o⟩:=H;exact K a k m n o
theorem dv{p q r:A->B->Prop}(H:∃a b,p a b/\q a b/\r a b)(K:∀a b,p a b->q a b->r a b->G):G:=by
 obtain⟨a,b,k,m,n⟩:=H;exact K a b k m n
theorem pQ{p q:A->B->C->Prop}(H:∃a b c,p a b c/\q a b c)(K:∀a b c,p a b c->q a b c->G):G:=by
 obtain⟨a,b,c,k,m⟩:=H;exact K a b c k m
theorem aiW{p:A->B->C->D->Prop}(H:∃a b c d,p a b c d)(K:∀a b c d,p a b c d->G):G:=by
 obtain⟨a,b,c,d,k⟩:=H;exact K a b c d k
theorem dX{p q r s t:A->Prop}(a:A)(k:p a)(m:q a)(n:r a)(o:s a)(h:t a):∃a,p a/\q a/\r a/\s a/\t a:=⟨a,k,m,n,o,h⟩
theorem oC{p q r s:A->B->Prop}(a:A)(b:B)(k:p a b)(m:q a b)(n:r a b)(o:s a b):∃a b,p a b/\q a b/\r a b/\s a b:=⟨a,b,k,m,n,o⟩
theorem qP{p q r:A->B->C->Prop}(a:A)(b:B)(c:C)(k:p a b c)(m:q a b c)(n:r a b c):∃a b c,p a b c/\q a b c/\r a b c:=⟨a,b,c,k,m,n⟩
theorem qM{p q r s t u:Prop}(H:p/\q/\r/\s/\t/\u)(K:p->q->r->s->t->u->G):G:=by
 obtain⟨k,m,n,o,h,h1⟩:=H;exact K k m n o h h1
theorem Lz{p q r s t:A->Prop}(H:∃a,p a/\q a/\r a/\s a/\t a)(K:∀a,p a->q a->r a->s a->t a->G):G:=by
 obtain⟨a,k,m,n,o,h⟩:=H;exact K a k m n o h
theorem jD{p q r s:A->B->Prop}(H:∃a b,p a b/\q a b/\r a b/\s a b)(K:∀a b,p a b->q a b->r a b->s a b->G):G:=by
 obtain⟨a,b,k,m,n,o⟩:=H;exact K a b k m n o
theorem iY{p q r:A->B->C->Prop}(H:∃a b c,p a b c/\q a b c/\r a b c)(K:∀a b c,p a b c->q a b c->r a b c->G):G:=by
 obtain⟨a,b,c,k,m,n⟩:=H;exact K a b c k m n
theorem nC{p q:A->B->C->D->Prop}(H:∃a b c d,p a b c d/\q a b c d)(K:∀a b c d,p a b c d->q a b c d->G):G:=by
 obtain⟨a,b,c,d,k,m⟩:=H;exact K a b c d k m
theorem jh{p:A->B->C->D->E->Prop}(H:∃a b c d e,p a b c d e)(K:∀a b c d e,p a b c d e->G):G:=by
 obtain⟨a,b,c,d,e,k⟩:=H;exact K a b c d e k
theorem kJ{p q r s t u:A->Prop}(a:A)(k:p a)(m:q a)(n:r a)(o:s a)(h:t a)(h1:u a):∃a,p a/\q a/\r a/\s a/\t a/\u a:=⟨a,k,m,n,o,h,h1⟩
theorem kI{p q r s t:A->B->C->Prop}(a:A)(b:B)(c:C)(k:p a b c)(m:q a b c)(n:r a b c)(o:s a b c)(h:t a b c):∃a b c,p a b c/\q a b c/\r a b c/\s a b c/\t a b c:=⟨a,b,c,k,m,n,o,h⟩
theorem eP{p q r s t u:A->B->Prop}(H:∃a b,p a b/\q a b/\r a b/\s a b/\t a b/\u a b)(K:∀a b,p a b->q a b->r a b->s a b->t a b->u a b->G):G:=by
 obtain⟨a,b,k,m,n,o,h,h1⟩:=H;exact K a b k m n o h h1
theorem qE{p q r s t u:A->B->C->Prop}(a:A)(b:B)(c:C)(k:p a b c)(m:q a b c)(n:r a b c)(o:s a b c)(h:t a b c)(h1:u a b c):∃a b c,p a b c/\q a b c/\r a b c/\s a b c/\t a b c/\u a b c:=⟨a,b,c,k,m,n,o,h,h1⟩
theorem Sf{p q r s t u:A->B->C->Prop}(H:∃a b c,p a b c/\q a b c/\r a b c/\s a b c/\t a b c/\u a b c)(K:∀a b c,p a b c->q a b c->r a b c->s a b c->t a b c->u a b c->G):G:=by
 obtain⟨a,b,c,k,m,n,o,h,h1⟩:=H;exact K a b c k m n o h h1
theorem md{p q r s t u:A->B->C->D->Prop}(a:A)(b:B)(c:C)(d:D)(k:p a b c d)(m:q a b c d)(n:r a b c d)(o:s a b c d)(h:t a b c d)(h1:u a b c d):∃a b c d,p a b c d/\q a b c d/\r a b c d/\s a b c d/\t a b c d/\u a b c d:=⟨a,b,c,d,k,m,n,o,h,h1⟩
theorem Jb{p q r s t u:A->B->C->D->E->Prop}(H:∃a b c d e,p a b c d e/\q a b c d e/\r a b c d e/\s a b c d e/\t a b c d e/\u a b c d e)(K:∀a b c d e,p a b c d e->q a b c d e->r a b c d e->s a b c d e->t a b c d e->u a b c d e->G):G:=by
 obtain⟨a,b,c,d,e,k,m,n,o,h,h1⟩:=H;exact K a b c d e k m n o h h1
theorem qD{p q r s t:A->B->C->D->E->F->Prop}(H:∃a b c d e f,p a b c d e f/\q a b c d e f/\r a b c d e f/\s a b c d e f/\t a b c d e f)(K:∀a b c d e f,p a b c d e f->q a b c d e f->r a b c d e f->s a b c d e f->t a b c d e f->G):G:=by
 obtain⟨a,b,c,d,e,f,k,m,n,o,h⟩:=H;exact K a b c d e f k m n o h
theorem DZ{p q r s:A->B->C->D->E->F->I->Prop}(H:∃a b c d e f g,p a b c d e f g/\q a b c d e f g/\r a b c d e f g/\s a b c d e f g)(K:∀a b c d e f g,p a b c d e f g->q a b c d e f g->r a b c d e f g->s a b c d e f g->G):G:=by
 obtain⟨a,b,c,d,e,f,g,k,m,n,o⟩:=H;exact K a b c d e f g k m n o
theorem qC{p:A->B->C->D->E->F->I->J->L->M->Prop}(H:∃a b c d e f g i j l,p a b c d e f g i j l)(K:∀a b c d e f g i j l,p a b c d e f g i j l->G):G:=by
 obtain⟨a,b,c,d,e,f,g,i,j,l,k⟩:=H;exact K a b c d e f g i j l k
end
theorem w0{p:Prop}(h:p:=by with_reducible assumption):p:=h
theorem w1{a:Nat}  : a<=a:=aI a
theorem w2{a:Nat}  : 0<=a:=bg a
theorem w3{a b:Nat}(h:a<b:=by with_reducible assumption):a<=b:=eO h
theorem w4{a b c:Nat}(h:a<=b:=by with_reducible assumption)(g:b<=c:=by decide):a<=c:=c7 h g
theorem w5{a b c:Nat}(h:a<b:=by with_reducible assumption)(g:b<=c:=by decide):a<=c:=c7 (eO h) g
theorem w6{a b c:Nat}(h:a=b:=by with_reducible assumption)(g:b<=c:=by decide):a<=c:=c7 (r6 h) g
theorem w7{a b c:Nat}(h:a=b:=by with_reducible assumption)(g:b<=c:=by with_reducible assumption):a<=c:=c7 (r6 h) g
theorem w8{a b c d:Nat}(h:a=b:=by with_reducible assumption)(g:b<=c:=by with_reducible assumption)(k:c<=d:=by decide):a<=d:=c7 (r6 h) (c7 g k)
theorem w9{a b c d:Nat}(h:b=a:=by with_reducible assumption)(g:b<=c:=by with_reducible assumption)(k:c<=d:=by decide):a<=d:=c7 (r6 h.symm) (c7 g k)
theorem wa{a b c:Nat}(h:a<b:=by with_reducible assumption)(g:b<=c:=by decide):a<c:=gx h g
theorem wb{a b c:Nat}(h:a<=b:=by with_reducible assumption)(g:b<c:=by decide):a<c:=DA h g
theorem wf{a b c:Nat}(h:a<b:=by with_reducible assumption)(g:b=c:=by with_reducible assumption):a<c:=Qj h g
theorem wg{a b c:Nat}(h:a<b:=by with_reducible assumption)(g:c=b:=by with_reducible assumption):a<c:=Qj h g.symm
theorem wh{a b c:Nat}(h:a<b:=by with_reducible assumption)(g:b<=c:=by with_reducible assumption):a<c:=gx h g
theorem wi{a b c:Nat}(h:a<=b:=by with_reducible assumption)(g:b<c:=by with_reducible assumption):a<c:=DA h g
theorem wk{a b c m:Nat}(h:a=b+m*c:=by with_reducible assumption)(g:a<b:=by decide):False:=by omega
theorem wl{a b c m:Nat}(h:b+m*c=a:=by with_reducible assumption)(g:a<b:=by decide):False:=by omega
theorem wo{a b c:Nat}(h:a=b:=by with_reducible assumption)(g:b=c:=by with_reducible assumption):a=c:=h.trans g
theorem wp{a b c:Nat}(h:a=b:=by with_reducible assumption)(g:c=b:=by with_reducible assumption):a=c:=h.trans g.symm
theorem wr{a b c:Nat}(h:a=b:=by with_reducible assumption)(g:c<b:=by with_reducible assumption):c<a:=Qj g h.symm
theorem ws{a b c:Nat}(h:a=b:=by with_reducible assumption)(g:b<=c:=by with_reducible assumption):a<=c:=c7 (r6 h) g
theorem wu{a b c d e:Nat}(h:a=b:=by with_reducible assumption)(g:b=c:=by with_reducible assumption)(k:c<=d:=by with_reducible assumption)(m:d<=e:=by decide):a<=e:=c7 (r6 (h.trans g)) (c7 k m)
theorem xa{a b c d e:Nat}(h:a<b:=by with_reducible assumption)(g:b=c:=by with_reducible assumption)(k:c<=d:=by with_reducible assumption)(m:d<=e:=by decide):a<e:=gx h (c7 (r6 g) (c7 k m))
theorem xc{a b c d e:Nat}(h:a<b:=by with_reducible assumption)(g:b=c:=by with_reducible assumption)(k:c<=d:=by with_reducible assumption)(m:d<=e:=by decide):a<=e:=c7 (eO h) (c7 (r6 g) (c7 k m))
theorem xd{a:Nat}  : a<=a+1:=jv a
theorem xe{a b:Nat}(h:a<b:=by with_reducible assumption):a<=b+1:=xy (eO h)
theorem xf{a b:Nat}(h:a<b:=by with_reducible assumption):a+1<=b:=h
theorem xi{a b c e:Nat}(h:a<=b+1:=by with_reducible assumption)(g:b<=c:=by with_reducible assumption)(k:c+1<e:=by decide):a<e:=DA h (DA (DD g) k)
theorem xl{a n:Nat}  : min a n<=a:=DL a n
theorem xm{a:Int}(h:0<=a:=by with_reducible assumption):a=(a.toNat:Int):=(Qh h).symm
end L2
namespace L2
abbrev Key:=Option Int
def ajb:f_->Bool
 | .none=>c_
 | _=>d_
def Fm:Key->f_->Bool
 | some k,v=>Value.isInt k v
 | none,v=>ajb v
def akX:Key->Int
 | some k=>hashInt k
 | none=>4238894112
theorem tV:∀{k:Key} {v:f_},Fm k v=c_->(∃i t,k=a_ i/\v=ip i t)\/(k=b_/\v=iE)
 | some i,v,h=>by
  obtain⟨t,e⟩:=Value.isInt_shape (k:=i) (v:=v) h;exact .inl ⟨i,t,rfl,e⟩
 | none,v,h=>by
  cases v <;> first | exact .inr ⟨rfl,rfl⟩ | cases h
theorem ade(i:Int)(t:Tok):Fm (a_ i) (.int i t)=true:=by simp[Fm,Value.isInt]
theorem ahA(a b:Int):decide ((a_ a:Key)=a_ b)=(a == b):=by
 by_cases e:a=b
 ·subst e;simp
 ·simp[e]
theorem adl{w:k_}{Q:Int->g_->Prop}(h:Q 4238894112 { s with toks:=s.toks+1 }):wpAny (model prog w) A (pyHash .none) Q E s:=by
 show wpAny (model prog w) A (pyHashByItsType .none) Q E s;refine W.pyHash_slot (T:="NoneType") rfl F.slot_NoneType_hash F.entry_NoneType_hash (F.args_NoneType_hash_1 _) rfl (.inl rfl) ?_;refine aq (show wpAny (model prog w) A.in1 (pure (iE,[])) _ E s from aV ?_)
 exact gf (wpAny_ret_mkInt (Q:=λv s'=>∃n t,v=ip n t/\Q (reduceHash n) s') ⟨_,_,rfl,h⟩) (λfin s' z=>by
  obtain⟨v,e,n,t,e2,q⟩:=z;exact⟨n,t,by rw[e,e2],q⟩) λ_ _ x=>x
def t9(prog:l_)(w:k_):PySem.KeyKind prog w Key where
 is:=Fm
 hash:=akX
 inj:=λv a b ha hb=>by
  rcases tV ha with ⟨i,t,rfl,rfl⟩ | ⟨rfl,rfl⟩
  ·rcases tV hb with ⟨j,u,rfl,e⟩ | ⟨rfl,e⟩
   ·injection e with e1 _;rw[e1]
   ·exact nomatch e
  ·rcases tV hb with ⟨j,u,rfl,e⟩ | ⟨rfl,e⟩
   ·exact nomatch e
   ·rfl
 byValue:=λk v h=>by
  rcases tV h with ⟨i,t,rfl,rfl⟩ | ⟨rfl,rfl⟩ <;> rfl
 pyHash:=λhv h=>by
  rcases tV hv with ⟨i,t,rfl,rfl⟩ | ⟨rfl,rfl⟩
  ·exact wpAny_pyHash_int h
  ·exact adl h
 eqBool:=λhu hv h=>by
  rcases tV hu with ⟨i,t,rfl,rfl⟩ | ⟨rfl,rfl⟩
  ·rcases tV hv with ⟨j,u,rfl,rfl⟩ | ⟨rfl,rfl⟩
   ·rw[ahA]at h;exact Im h
   ·exact aaM i t _ _ _ _ h
  ·rcases tV hv with ⟨j,u,rfl,rfl⟩ | ⟨rfl,rfl⟩
   ·exact aaL j u _ _ _ _ h
   ·exact lE (wpAny_ite_split (λ_=>aq (Bs (aV h))) λz=>absurd rfl z)
 «strs»:=λk x t v h=>by
  rcases tV h with ⟨i,u,rfl,e⟩ | ⟨rfl,e⟩ <;> exact nomatch e
theorem abL(prog:l_)(w:k_)(i:Int)(t:Tok):(t9 prog w).is (a_ i) (.int i t)=true:=ade i t
inductive V where
 | aG | bl (b:Bool) | int (i:Int) | str (x:Str) | qg (b:Array UInt8) | uE (b:UInt64) | ref (a:e_) | ty (n:String)
 deriving DecidableEq
def RelV:V->f_->Prop
 | .aG,u=>u=iE
 | .bl b,u=>u=vA b
 | .int i,u=>∃t,u=ip i t
 | .str x,u=>∃t,u=sq x t
 | .qg b,u=>∃t,u=Value.bytes b t
 | .uE b,u=>∃t,u=Rg b t
 | .ref a,u=>u=cI a
 | .ty n,u=>u=pH n
abbrev Vals:List V->List f_->Prop:=Paired RelV
theorem Vals.length(r:Vals xs us):xs.length=us.length:=r_ r
theorem Vals.get:∀{xs:List V} {us:List f_} {i:Nat} {x:V},Vals xs us->xs[i]?=a_ x->∃u,us[i]?=a_ u/\RelV x u
 | _,_,_,_,.nil,e=>by simp at e
 | _,_,0,_,.cons r _,e=>by simp at e;subst e;exact⟨_,rfl,r⟩
 | _,_,i+1,x,.cons _ t,e=>by
  obtain⟨u,h1,h2⟩:=Vals.get (i:=i) (x:=x) t (by simpa using e);exact⟨u,by simpa using h1,h2⟩
theorem Vals.set(r:RelV x u):∀{xs:List V} {us:List f_} (i:Nat),Vals xs us->Vals (xs.set i x) (us.set i u)
 | _,_,_,.nil=>.nil
 | _,_,0,.cons _ t=>.cons r t
 | _,_,i+1,.cons q t=>.cons q (Vals.set r i t)
theorem Vals.append:∀{xs ys:List V} {us ws:List f_},Vals xs us->Vals ys ws->Vals (xs++ys) (us++ws)
 | _,_,_,_,.nil,s=>s
 | _,_,_,_,.cons r t,s=>.cons r (Vals.append t s)
theorem Vals.take:∀{xs:List V} {us:List f_} (n:Nat),Vals xs us->Vals (xs.take n) (us.take n)
 | _,_,0,_=>.nil
 | _,_,_+1,.nil=>.nil
 | _,_,n+1,.cons r t=>.cons r (Vals.take n t)
theorem Vals.drop:∀{xs:List V} {us:List f_} (n:Nat),Vals xs us->Vals (xs.drop n) (us.drop n)
 | _,_,0,r=>r
 | _,_,_+1,.nil=>.nil
 | _,_,n+1,.cons _ t=>Vals.drop n t
theorem Vals.none_of:∀{xs:List V} {us:List f_} {i:Nat},Vals xs us->xs[i]?=b_->us[i]?=none:=λ{xs us i} r e=>by
 have h1:=r.length;have h2:xs.length<=i:=aaq.mp e;exact aaq.mpr om
def jn:Option V->Option f_->Prop
 | some v,a_ u=>RelV v u
 | none,b_=>True
 | _,_=>False
def KV{κ:Type}:List (κ×V)->List (κ×f_)->Prop:=Paired λ(p:κ×V) (q:κ×f_)=>p.1=q.1/\RelV p.2 q.2
def kV:Key->V
 | some i=>.int i
 | none=>.aG
inductive HO where
  | lst (xs:List V)
  | tup (xs:List V)
  | dK (aL:List (Key×V)) | dT (aL:List (List Key×V))
  | set (S:Int->Bool) (n:Nat)
  | ins (C dx:e_) (fs:List (Str×V))
  | own (x:e_)
  | xd (fs:List (Str×V))
  | met (f x:e_)
  | N1 (lo hi:Int)
  | nV (o:Obj) (u:HO)
  | fu (ps:Array f_)
  | ext (φ:j_->Prop)
abbrev Hp:=e_->Option HO
def upd(H:Hp)(a:e_)(o:HO):Hp:=λb=>if b=a then a_ o else H b
theorem ax{o:HO}:upd H a o a=a_ o:=by unfold upd;rw[if_pos rfl]
theorem ao{o:HO}(h:b≠a):upd H a o b=H b:=by unfold upd;rw[if_neg h]
theorem oz{o u:HO}:upd (upd H a o) a u=upd H a u:=by
 funext b;unfold upd;split <;> rfl
theorem gj{H:Hp}{a b:e_}{o u:HO}(h:H a=a_ o)(h':H b=a_ u)(d:o≠u):a≠b:=by
 intro e;subst e;rw[h]at h';exact d (dr h')
theorem cg{H:Hp}{a b:e_}{o:HO}(h:H a=a_ o)(h':H b=b_):a≠b:=by
 intro e;subst e;rw[h]at h';cases h'
section
variable(P:l_)(w:k_)
def fo(H:Hp)(h:j_)(a:e_):HO->Prop
 | .lst xs=>xs.length<=cq/\∃(ar:List f_) (n:Nat),Vals xs ar/\h.get? a=a_ { cls:=.type "list",data:=.seq ar.toArray n }
 | .tup xs=>xs.length<=cq/\∃ar:List f_,Vals xs ar/\IsTup h a ar.toArray
 | .dK aL=>aL.length<=cq/\(a == Bt)=d_/\∃vs,KV aL vs/\h.DictOf (t9 P w) a vs
 | .dT aL=>aL.length<=cq/\(a == Bt)=d_/\∃xs:List (List Key×e_×f_),Paired (λ(p:List Key×V) (q:List Key×e_×f_)=>p.1=q.1/\H q.2.1=a_ (.tup (p.1.map kV))/\RelV p.2 q.2.2) aL xs/\
   ∃o es ep,h.get? a=a_ o/\o.ExactDict/\o.data=.dict es ep/\es.toList=xs.map (entryOfKey (Ee (t9 P w)))/\(xs.map (·.1)).Nodup
 | .set S n=>h.SetOf (intKind P w) a S n
 | .ins C dx fs=>H dx=a_ (.own a)/\fs.length<=1000/\dx≠a/\h.get? a=a_ (W.instObj C dx)/\
   ∃mA,h.Ns1 dx mA/\(∀f,jn (fs.lookup f) (mA f))/\PySem.Within mA (fs.map (·.1))
 | .own _=>∃o,h.get? a=a_ o
 | .xd fs=>∃mA,h.Ns1 a mA/\∀f,jn (fs.lookup f) (mA f)
 | .N1 lo hi=>∃t u v,h.get? a=a_ { cls:=.type "range",data:=.fields #[.int lo t,.int hi u,.int 1 v] }
 | .nV o u=>h.get? a=a_ o/\fo H h a u
 | .fu ps=>h.get? a=a_ { cls:=.none,data:=.fields ps }
 | .met f x=>h.get? a=a_ (W.methodObj (.ref f) (.ref x))
 | .ext φ=>φ h/\(∃o,h.get? a=a_ o)/\∀h1 h2:j_,φ h1->(∀o,h1.get? a=a_ o->h2.get? a=a_ o)->φ h2
def eW(H:Hp)(h:j_):Prop:=∀a o,H a=a_ o->fo P w H h a o
end
section
variable{P:l_}{w:k_}{H H':Hp}{h h':j_}{a:e_}{o:HO}
theorem fo.lt(x:fo P w H h a o):a<h.objs.size:=by
 cases o with
 | lst xs=>obtain⟨_,_,_,_,e⟩:=x;exact cx e
 | tup xs=>obtain⟨_,_,_,p⟩:=x;exact p.lt
 | dK aL=>obtain⟨_,_,_,_,o,_,_,e,_⟩:=x;exact cx e
 | dT aL=>obtain⟨_,_,_,_,o,_,_,e,_⟩:=x;exact cx e
 | set S n=>obtain⟨o,_,_,_,e,_⟩:=x;exact cx e
 | ins C dx fs=>obtain⟨_,_,_,e,_⟩:=x;exact cx e
 | own y=>obtain⟨_,e⟩:=x;exact cx e
 | xd fs=>obtain⟨_,⟨_,_,_,e,_⟩,_⟩:=x;exact cx e
 | N1 lo hi=>obtain⟨_,_,_,e⟩:=x;exact cx e
 | nV ob u=>obtain⟨e,_⟩:=x;exact cx e
 | fu ps=>exact cx (show h.get? a=a_ _ from x)
 | met f y=>exact cx (show h.get? a=a_ _ from x)
 | ext φ=>obtain⟨_,⟨_,e⟩,_⟩:=x;exact cx e
theorem Paired.cZ{α β:Type}{F G:α->β->Prop}:∀{l₁:List α} {l₂:List β},Paired F l₁ l₂->(∀a b,F a b->G a b)->Paired G l₁ l₂
 | _,_,.nil,_=>.nil
 | _,_,.cons r t,f=>.cons (f _ _ r) (Paired.cZ t f)
theorem fo.pY(x:fo P w H h a o)(k:∀b u,(b=a\/H b=a_ (.own a))->h.get? b=a_ u->h'.get? b=a_ u)
  (ho:∀b,H b=a_ (.own a)->H' b=a_ (.own a)) (ht:∀b xs,H b=a_ (.tup xs)->H' b=a_ (.tup xs)):fo P w H' h' a o:=by
 induction o with
 | lst xs=>obtain⟨z,ar,n,r,e⟩:=x;exact⟨z,ar,n,r,k _ _ (.inl rfl) e⟩
 | tup xs=>obtain⟨z,ar,r,ob,e,c⟩:=x;exact⟨z,ar,r,ob,k _ _ (.inl rfl) e,c⟩
 | dK aL=>obtain⟨z,y,vs,r,ob,es,ep,e,c⟩:=x;exact⟨z,y,vs,r,ob,es,ep,k _ _ (.inl rfl) e,c⟩
 | dT aL=>
  obtain⟨z,y,xs,r,ob,es,ep,e,c⟩:=x;exact⟨z,y,xs,Paired.cZ r λp q z=>⟨z.1,ht _ _ z.2.1,z.2.2⟩,ob,es,ep,k _ _ (.inl rfl) e,c⟩
 | set S n=>obtain⟨ob,es,ep,t,e,c⟩:=x;exact⟨ob,es,ep,t,k _ _ (.inl rfl) e,c⟩
 | ins C dx fs=>
  obtain⟨d,z,ne,e,mA,⟨od,es,ep,e2,c⟩,r⟩:=x;exact⟨ho _ d,z,ne,k _ _ (.inl rfl) e,mA,⟨od,es,ep,k _ _ (.inr d) e2,c⟩,r⟩
 | own y=>obtain⟨ob,e⟩:=x;exact⟨ob,k _ _ (.inl rfl) e⟩
 | xd fs=>obtain⟨mA,⟨od,es,ep,e,c⟩,r⟩:=x;exact⟨mA,⟨od,es,ep,k _ _ (.inl rfl) e,c⟩,r⟩
 | N1 lo hi=>obtain⟨t,u,v,e⟩:=x;exact⟨t,u,v,k _ _ (.inl rfl) e⟩
 | nV ob u ih=>obtain⟨e,q⟩:=x;exact⟨k _ _ (.inl rfl) e,ih q⟩
 | fu ps=>
  have e:h.get? a=a_ { cls:=.none,data:=.fields ps }:=x;show h'.get? a=a_ { cls:=.none,data:=.fields ps };exact k a _ (.inl rfl) e
 | met f y=>
  have e:h.get? a=a_ (W.methodObj (.ref f) (.ref y)):=x;show h'.get? a=a_ (W.methodObj (.ref f) (.ref y));exact k a _ (.inl rfl) e
 | ext φ=>obtain⟨p,⟨o,e⟩,st⟩:=x;exact⟨st _ _ p λo q=>k _ _ (.inl rfl) q,⟨o,k _ _ (.inl rfl) e⟩,st⟩
theorem eW.lt(x:eW P w H h)(e:H a=a_ o):a<h.objs.size:=(x a o e).lt
theorem eW.fresh(x:eW P w H h)(e:h.objs.size<=a):H a=none:=by
 cases q:H a with
 | none=>rfl
 | some u=>exact absurd (gx (x.lt q) e) (jS _)
theorem eW.kept(x:eW P w H h)(k:∀b u,h.get? b=a_ u->h'.get? b=a_ u):eW P w H h':=λa o e=>
 (x a o e).pY (λb u _ q=>k b u q) (λ_ q=>q) λ_ _ q=>q
theorem eW.laid(x:eW P w H h)(k:∀b u,h.get? b=a_ u->h'.get? b=a_ u)(hp:h.objs.size<=a)(new:fo P w (upd H a o) h' a o):eW P w (upd H a o) h':=λb u e=>by
 have hn:=x.fresh hp
 by_cases hb:b=a
 ·subst hb;rw[ax]at e;cases e;exact new
 ·rw[ao hb]at e;exact(x b u e).pY (λc v _ q=>k c v q) (λc q=>by rw[ao (cg q hn)];exact q) λc xs q=>by rw[ao (cg q hn)];exact q
end
def Rd(H:Hp)(a:e_)(u:HO):Prop:=H a=a_ u\/∃o,H a=a_ (.nV o u)
theorem Rd.ok{P:l_}{w:k_}{u:HO}(r:Rd H a u)(x:eW P w H h):fo P w H h a u:=by
 rcases r with r | ⟨o,r⟩
 ·exact x a u r
 ·obtain⟨_,q⟩:=x a _ r;exact q
def Cy:Option HO->Prop
 | some (.lst _)=>True
 | some (.dK _)=>True
 | some (.dT _)=>True
 | some (.set _ _)=>True
 | some (.ins _ _ _)=>True
 | some (.ext _)=>True
 | _=>False
section
variable{P:l_}{w:k_}{H:Hp}{h h':j_}{x e:e_}{o':HO}
theorem eW.write(ok:eW P w H h)(mu:Cy (H x))(he:e=x\/H e=a_ (.own x))(k:∀b u,b≠e->h.get? b=a_ u->h'.get? b=a_ u)(AV:∃u,h'.get? e=a_ u)
  (new:fo P w (upd H x o') h' x o'):eW P w (upd H x o') h':=λb u q=>by
 have Xu:∀c y,H c=a_ (.own y)->c≠x:=λc y r z=>by subst z;rw[r]at mu;exact mu
 have alb:∀c xs,H c=a_ (.tup xs)->c≠x:=λc xs r z=>by subst z;rw[r]at mu;exact mu
 by_cases hb:b=x
 ·subst hb;rw[ax]at q;cases q;exact new
 ·rw[ao hb]at q
  by_cases rJ:b=e
  ·have q':H b=a_ (.own x):=by
    rcases he with z | z
    ·exact absurd (rJ.trans z) hb
    ·rw[rJ];exact z
   rw[q]at q';cases q';obtain⟨v,hv⟩:=AV;exact⟨v,by rw[rJ];exact hv⟩
  ·refine(ok b u q).pY (λc v hc r=>k c v ?_ r) (λc r=>by rw[ao (Xu c b r)];exact r) λc xs r=>by rw[ao (alb c xs r)];exact r
   rcases hc with rfl | hc
   ·exact rJ
   ·rintro rfl;rcases he with z | z
    ·exact Xu c b hc z
    ·rw[hc]at z;cases z;exact hb rfl
end
structure Un(fs ex:List e_)(H H':Hp)(h h':j_):Prop where
 keep:∀b o,h.get? b=a_ o->H b=b_->b∉fs->b∉ex->h'.get? b=a_ o
 slot:∀b o,h.get? b=a_ o->H b=b_->b∈fs->b∉ex->∃sl,h'.get? b=a_ { o with slots:=sl }
 free:∀b o,h.get? b=a_ o->H b=b_->b∉ex->H' b=b_
 there:∀b o,h.get? b=a_ o->b∉ex->∃o',h'.get? b=a_ o'
 pX:∀b xs,H b=a_ (.tup xs)->H' b=a_ (.tup xs)
 oO:∀b o u,H b=a_ (.nV o u)->H' b=a_ (.nV o u)
 oJ:∀b ps,H b=a_ (.fu ps)->∃more,H' b=a_ (.fu (ps++more))
section
variable{fs oo ex ex':List e_}{H H1 H2:Hp}{h h1 h2 h':j_}{a x e:e_}{o:HO}
theorem Un.any(u:Un fs ex H H1 h h1)(q:h.get? b=a_ ob)(n:H b=b_)(hx:b∉ex):∃sl,h1.get? b=a_ { ob with slots:=sl }:=by
 by_cases hb:b∈fs
 ·exact u.slot b ob q n hb hx
 ·exact⟨ob.slots,u.keep b ob q n hb hx⟩
theorem Un.kept(k:∀b u,h.get? b=a_ u->h'.get? b=a_ u):Un fs ex H H h h':=
 ⟨λb ob q _ _ _=>k b ob q,λb ob q _ _ _=>⟨ob.slots,k b ob q⟩,λ_ _ _ n _=>n,λb ob q _=>⟨ob,k b ob q⟩,λ_ _ q=>q,λ_ _ _ q=>q,λ_ ps q=>⟨#[],by rw[q];simp⟩⟩
theorem Un.refl:Un fs ex H H h h:=Un.kept λ_ _ q=>q
theorem Un.laid(k:∀b u,h.get? b=a_ u->h'.get? b=a_ u)(hp:h.objs.size<=a)(hn:H a=b_):Un fs ex H (upd H a o) h h' where
 keep:=λb u q _ _ _=>k b u q
 slot:=λb u q _ _ _=>⟨u.slots,k b u q⟩
 free:=λb u q n _=>by rw[ao (eM (gx (cx q) hp))];exact n
 there:=λb u q _=>⟨u,k b u q⟩
 pX:=λb xs q=>by rw[ao (cg q hn)];exact q
 oO:=λb u xs q=>by rw[ao (cg q hn)];exact q
 oJ:=λb ps q=>⟨#[],by rw[ao (cg q hn),q];simp⟩
theorem Un.write(mu:Cy (H x))(he:e=x\/H e=a_ (.own x))(k:∀b u,b≠e->h.get? b=a_ u->h'.get? b=a_ u)(AV:∃u,h'.get? e=a_ u):Un fs ex H (upd H x o) h h':=by
 have hx:∀b,H b=b_->b≠x:=λb n z=>by subst z;rw[n]at mu;exact mu
 have hb:∀b,H b=b_->b≠e:=λb n z=>by
  subst z;rcases he with r | r
  ·exact hx b n r
  ·rw[n]at r;cases r
 have hm:∀b u,H b=a_ u->¬Cy (a_ u)->b≠x:=λb u q nm z=>by subst z;rw[q]at mu;exact nm mu
 refine⟨λb u q n _ _=>k b u (hb b n) q,λb u q n _ _=>⟨u.slots,k b u (hb b n) q⟩,λb u q n _=>by rw[ao (hx b n)];exact n,λb u q _=>?_,λb xs q=>by rw[ao (hm b _ q λz=>z)];exact q,λb u xs q=>by rw[ao (hm b _ q λz=>z)];exact q,λb ps q=>⟨#[],by rw[ao (hm b _ q λz=>z),q];simp⟩⟩
 by_cases rJ:b=e
 ·subst rJ;exact AV
 ·exact⟨u,k b u rJ q⟩
end
def Gp(h:j_)(H:Hp):List Addr:=(List.range h.objs.size).filter λa=>(H a).isSome
def sP(h:j_)(H:Hp):Heap:=W.hideAll h (Gp h H)
theorem adk(h:j_)(H:Hp):(sP h H).objs.size=h.objs.size:=W.hideAll_size _ _
theorem aeK(e:h.get? b=a_ o)(n:H b=b_):(sP h H).get? b=a_ o:=
 W.hideAll_get _ e λhm=>by
  have q:(H b).isSome=true:=(pC.mp hm).2;rw[n]at q;simp at q
theorem af3(e:(sP h H).get? b=a_ o):h.get? b=a_ o/\H b=none:=by
 have e':h.get? b=a_ o:=W.of_hideAll (Gp h H) e;refine⟨e',?_⟩;cases q:H b with
 | none=>rfl
 | some x=>
  have hm:b∈Gp h H:=pC.mpr ⟨lZ.mpr (cx e'),by simp[q]⟩;have z:(sP h H).get? b=none:=W.hideAll_none (Gp h H) hm;rw[z]at e;cases e
structure Mod(K:u_)(mg:Str->Option f_)(base:j_):Prop where
 qf:K.In base
 glob:base.Ns eY mg
 blt:∃mb,base.Ns sj mb/\∀x:Str,x ≠ "__name__"->mb x=vw x
 nolimit:base.NoLimit
structure Cx where
 prog:l_
 w:k_
 K:u_
 mg:Str->Option f_
 base:j_
 A:h_
 N:List Str
 s₀:g_
 H₀:Hp
 env:Env
 outer:List Env
 stack:List Env
 ex:List e_
 fn:Str->Bool
 calm:Bool
 pn:List (e_×Obj)
 xe:f_->g_->Prop
def ko(l:List Env):List Addr:=l.filterMap (·.frame)
abbrev Cx.fs(X:Cx):List Addr:=ko X.outer
def N'(sc:i_)(x:Str):Prop:=sc.names.lookup x=a_ .local\/sc.names.lookup x=a_ .cell\/sc.names.lookup x=a_ .free
def Loc(sc:i_)(x:Str):Prop:=sc.names.lookup x=a_ .local\/sc.names.lookup x=a_ .cell
def Look(env:Env)(h:j_)(m:Str->Option f_)(x:Str)(u:f_):Prop:=
 (env.kindOf x=a_ .local/\m x=a_ u)\/((env.kindOf x=a_ .cell\/env.kindOf x=a_ .free)/\∃c,env.cells.lookup x=a_ c/\h.IsCell c (a_ u))
structure Cx.Ok(X:Cx):Prop where
 mod:Mod X.K X.mg X.base
 kind:X.env.scope.kind=.function
 glob:X.env.globals=eY
 blt:X.env.builtins=sj
 above:X.s₀.heap.objs.size<=X.env.locals
 inj:∀x y c,X.env.cells.lookup x=a_ c->X.env.cells.lookup y=a_ c->x=y
 has:∀x,(X.env.kindOf x=a_ .cell\/X.env.kindOf x=a_ .free)->∃c,X.env.cells.lookup x=a_ c
 wN:∀x c,X.fn x=c_->X.env.cells.lookup x=a_ c->X.s₀.heap.objs.size<=c
 hd:X.calm=c_->X.A.handled=b_
 frames:X.A.frames=a_ X.stack
 yk:X.stack=X.outer\/(X.stack=X.env::X.outer/\X.env.frame=a_ X.env.locals)
 uF:∀b∈X.ex,b≠X.env.locals/\∀x c,X.env.cells.lookup x=a_ c->c≠b
 bs:∀b o,X.base.get? b=a_ o->X.s₀.heap.get? b=a_ o/\X.H₀ b=b_
 nX:X.base.objs.size<=X.s₀.heap.objs.size
 wm:∀b o,X.base.get? b=a_ o->b∉X.ex
 uw:∀b∈X.ex,b∉X.fs
 mI:X.s₀.heap.FunFrames X.base X.outer
 sW:∀b∈X.fs,X.H₀ b=b_
structure Inv(X:Cx)(p_:List (e_×Obj))(σ:List (Option V))(H:Hp)(s:g_):Prop where
 ok:X.Ok
 os:s.os=X.s₀.os
 bare:AllBare s.gens
 base:Un X.fs X.ex X.H₀ H X.s₀.heap s.heap
 loc:∃m,s.heap.Ns X.env.locals m/\∀(i:Nat) (x:Str) (v:V),X.N[i]?=a_ x->σ[i]?=a_ (a_ v)->N' X.env.scope x->∃u,RelV v u/\Look X.env s.heap m x u
 cell:∀x c,X.env.cells.lookup x=a_ c->∃v,s.heap.IsCell c v
 free:H X.env.locals=b_
 jF:∀x c,X.env.cells.lookup x=a_ c->H c=b_
 pin:∀p∈X.pn++p_,s.heap.get? p.1=a_ p.2/\H p.1=b_/\p.1≠X.env.locals/\p.1∉X.fs/\∀v,p.2.data≠.cell v
 aH:eW X.prog X.w H s.heap
 len:σ.length=X.N.length
section
variable{X:Cx}{p_:List (e_×Obj)}{σ:List (Option V)}{H H':Hp}{s:g_}{h':j_}
theorem Cx.Ok.akU(ok:X.Ok)(e:X.base.get? b=a_ o):b∉X.fs:=λhb=>by
 have:=(ok.mI.mem hb).1;rw[e]at this;cases this
theorem Inv.bs(I:Inv X p_ σ H s):∀b o,X.base.get? b=a_ o->s.heap.get? b=a_ o/\H b=none:=λb o e=>
 ⟨I.base.keep b o (I.ok.bs b o e).1 (I.ok.bs b o e).2 (I.ok.akU e) (I.ok.wm b o e),I.base.free b o (I.ok.bs b o e).1 (I.ok.bs b o e).2 (I.ok.wm b o e)⟩
theorem Inv.bk(I:Inv X p_ σ H s):∀b o,X.base.get? b=a_ o->s.heap.get? b=a_ o:=λb o e=>(I.bs b o e).1
theorem Inv.mod(I:Inv X p_ σ H s):Mod X.K X.mg X.base:=I.ok.mod
theorem Inv.dm(I:Inv X p_ σ H s):X.K.In s.heap:=I.ok.mod.qf.keeps I.bk
theorem Inv.nolimit(I:Inv X p_ σ H s):s.heap.NoLimit:=I.ok.mod.nolimit.keeps I.bk
theorem Inv.fr(I:Inv X p_ σ H s):∃m,Fr X.base X.env.locals s.heap m:=
 let ⟨m,hn,_⟩:=I.loc
 ⟨m,hn,I.bk,c7 I.ok.nX I.ok.above⟩
theorem Inv.lt(I:Inv X p_ σ H s):X.env.locals<s.heap.objs.size:=let ⟨_,hn,_⟩:=I.loc;hn.lt
theorem Inv.sz(I:Inv X p_ σ H s):X.s₀.heap.objs.size<=s.heap.objs.size:=c7 I.ok.above (eO I.lt)
theorem Inv.W7(I:Inv X p_ σ H s)(h:s.heap.objs.size<=a):a∉X.fs:=λhb=>by
 obtain⟨_,o,ho,_⟩:=I.ok.mI.mem hb;exact absurd (gx (cx ho) (c7 I.sz h)) (jS _)
theorem Inv.uH(I:Inv X p_ σ H s):∀x c,X.env.cells.lookup x=a_ c->c≠X.env.locals:=λx c e z=>by
 obtain⟨v,o,ho,hd⟩:=I.cell x c e;obtain⟨m,⟨o',es,ep,oj,C8,_⟩,_⟩:=I.loc;rw[z,oj]at ho;cases ho;rw[C8]at hd;cases hd
theorem Inv.mI(I:Inv X p_ σ H s):s.heap.FunFrames X.base X.outer:=by
 have all:∀(l:List Env),(∀b∈ko l,b∈X.fs)->X.s₀.heap.FunFrames X.base l->s.heap.FunFrames X.base l:=by
  intro l
  induction l with
  | nil=>intro _ _;trivial
  | cons env r ih=>
   intro hs hl;obtain⟨hk,⟨L,o,hf,hn,ho,hd⟩,hr⟩:=hl;have hL:L∈X.fs:=hs L (by unfold ko;rw[Ib,hf];exact f9);obtain⟨sl,e⟩:=I.base.slot L o ho (I.ok.sW L hL) hL λz=>I.ok.uw L z hL;exact⟨hk,⟨L,_,hf,hn,e,hd⟩,ih (λb hb=>hs b (by unfold ko;rw[Ib,hf];exact eE _ hb)) hr⟩
 exact all X.outer (λ_ hb=>hb) I.ok.mI
theorem Inv.stack(I:Inv X p_ σ H s):s.heap.FunFrames X.base X.stack:=by
 rcases I.ok.yk with e | ⟨e,hf⟩
 ·rw[e];exact I.mI
 ·rw[e];obtain⟨m,hn,_⟩:=I.loc;refine .cons (by rw[I.ok.kind];decide) hf hn ?_ I.mI;exact Heap.get?_none_of_le (c7 I.ok.nX I.ok.above)
theorem Inv.ER(I:Inv X p_ σ H s):∀b∈ko X.stack,b∈X.env.locals::X.fs:=λb hb=>by
 rcases I.ok.yk with e | ⟨e,hf⟩
 ·rw[e]at hb;exact eE _ hb
 ·rw[e]at hb;unfold ko at hb;rw[Ib,hf]at hb;exact hb
theorem Inv.EA(I:Inv X p_ σ H s):∀b∈ko X.stack,H b=none:=λb hb=>by
 rcases bw.mp (I.ER b hb)with e | hb
 ·rw[e];exact I.free
 ·obtain⟨_,o,ho,_⟩:=I.ok.mI.mem hb;exact I.base.free b o ho (I.ok.sW b hb) λz=>I.ok.uw b z hb
theorem Inv.step{g':Array GenState}{t':Nat}{d':Drawn}{ch:List e_}(I:Inv X p_ σ H s)
  (lW:∀b∈ch,(b∈X.ex\/X.s₀.heap.objs.size<=b)/\b≠X.env.locals/\(∀x c,X.env.cells.lookup x=a_ c->c≠b)/\∀p∈X.pn++p_,p.1≠b)
  (keep:∀b o,b≠X.env.locals->b∉X.fs->b∉ch->s.heap.get? b=a_ o->H b=b_->h'.get? b=a_ o)
  (slot:∀b o,b≠X.env.locals->b∈X.fs->b∉ch->s.heap.get? b=a_ o->H b=b_->∃sl,h'.get? b=a_ { o with slots:=sl }) (free:∀b o,b∉ch->s.heap.get? b=a_ o->H b=b_->H' b=b_)
  (there:∀b o,b∉ch->s.heap.get? b=a_ o->∃o',h'.get? b=a_ o')
  (pX:∀b xs,H b=a_ (.tup xs)->H' b=a_ (.tup xs)) (oO:∀b o u,H b=a_ (.nV o u)->H' b=a_ (.nV o u)) (oJ:∀b ps,H b=a_ (.fu ps)->∃more,H' b=a_ (.fu (ps++more)))
  (ns:∀m,s.heap.Ns X.env.locals m->h'.Ns X.env.locals m) (aH:eW X.prog X.w H' h') (hg:AllBare g') :
  Inv X p_ σ H' { s with heap:=h',gens:=g',drawn:=d',toks:=t' }:=by
 have Y2:∀b o,X.s₀.heap.get? b=a_ o->b≠X.env.locals:=λb o e=>eM (gx (cx e) I.ok.above)
 have Hk:∀b o,X.s₀.heap.get? b=a_ o->b∉X.ex->b∉ch:=λb o e hx hb=>by
  rcases(lW b hb).1 with z | z
  ·exact hx z
  ·exact absurd (gx (cx e) z) (jS _)
 have cellK:∀x c,X.env.cells.lookup x=a_ c->∀v,s.heap.IsCell c v->h'.IsCell c v:=λx c e v ⟨o,ho,hd⟩=>by
  have wR:c∉ch:=λz=>(lW c z).2.2.1 x c e rfl
  by_cases hc:c∈X.fs
  ·obtain⟨sl,q⟩:=slot c o (I.uH x c e) hc wR ho (I.jF x c e);exact⟨_,q,hd⟩
  ·exact⟨o,keep c o (I.uH x c e) hc wR ho (I.jF x c e),hd⟩
 refine⟨I.ok,I.os,hg,⟨λb o e n hb hx=>?_,λb o e n hb hx=>?_,λb o e n hx=>?_,λb o e hx=>?_,λb xs e=>pX b xs (I.base.pX b xs e),λb o xs e=>oO b o xs (I.base.oO b o xs e),λb ps e=>?_⟩,?_,λx c e=>?_,?_,λx c e=>?_,λp hp=>?_,aH,I.len⟩
 ·exact keep b o (Y2 b o e) hb (Hk b o e hx) (I.base.keep b o e n hb hx) (I.base.free b o e n hx)
 ·obtain⟨sl,e1⟩:=I.base.slot b o e n hb hx;obtain⟨CI,e2⟩:=slot b _ (Y2 b o e) hb (Hk b o e hx) e1 (I.base.free b o e n hx);exact⟨CI,e2⟩
 ·obtain⟨o',e1⟩:=I.base.there b o e hx;exact free b o' (Hk b o e hx) e1 (I.base.free b o e n hx)
 ·obtain⟨o',e1⟩:=I.base.there b o e hx;exact there b o' (Hk b o e hx) e1
 ·obtain⟨m1,e1⟩:=I.base.oJ b ps e;obtain⟨m2,e2⟩:=oJ b _ e1;exact⟨m1++m2,by rw[e2,Array.append_assoc]⟩
 ·obtain⟨m,hn,hl⟩:=I.loc;refine⟨m,ns m hn,λi x v e1 e2 e3=>?_⟩;obtain⟨u,r,l⟩:=hl i x v e1 e2 e3;refine⟨u,r,?_⟩;rcases l with l | ⟨k,c,e,z⟩
  ·exact .inl l
  ·exact .inr ⟨k,c,e,cellK x c e _ z⟩
 ·obtain⟨v,z⟩:=I.cell x c e;exact⟨v,cellK x c e v z⟩
 ·obtain⟨m,⟨o,_,_,ho,_⟩,_⟩:=I.loc;exact free _ o (λz=>(lW _ z).2.1 rfl) ho I.free
 ·obtain⟨v,o,ho,hd⟩:=I.cell x c e;exact free c o (λz=>(lW c z).2.2.1 x c e rfl) ho (I.jF x c e)
 ·obtain⟨e,n,ne,nf,d⟩:=I.pin p hp;have wR:p.1∉ch:=λz=>(lW p.1 z).2.2.2 p hp rfl;exact⟨keep p.1 p.2 ne nf wR e n,free p.1 p.2 wR e n,ne,nf,d⟩
theorem Inv.un{t':Nat}(I:Inv X p_ σ H s)(u:Un X.fs [] H H' s.heap h')(aH:eW X.prog X.w H' h'):Inv X p_ σ H' { s with heap:=h',toks:=t' }:=by
 obtain⟨m,⟨o,es,ep,ho,r⟩,_⟩:=id I.loc;obtain⟨sl,hL⟩:=u.any ho I.free (by simp)
 exact I.step (g':=s.gens) (d':=s.drawn) (ch:=[]) (λ_ z=>nomatch z) (λb o _ hb _ e n=>u.keep b o e n hb (by simp)) (λb o _ hb _ e n=>u.slot b o e n hb (by simp)) (λb o _ e n=>u.free b o e n (by simp)) (λb o _ e=>u.there b o e (by simp)) u.pX u.oO u.oJ (λm' hm=>by
  obtain⟨o',HH,HI,oj,r'⟩:=hm;rw[ho]at oj;cases oj;exact⟨_,HH,HI,hL,r'⟩) aH I.bare
theorem Inv.call{g':Array GenState}{t':Nat}{d':Drawn}{ch:List e_}(I:Inv X p_ σ H s)(u:Un (ko X.stack) ch H H' s.heap h')(aH:eW X.prog X.w H' h')(hg:AllBare g')
  (lW:∀b∈ch,(b∈X.ex\/X.s₀.heap.objs.size<=b)/\b≠X.env.locals/\(∀x c,X.env.cells.lookup x=a_ c->c≠b)/\∀p∈X.pn++p_,p.1≠b) :
  Inv X p_ σ H' { s with heap:=h',gens:=g',drawn:=d',toks:=t' }:=by
 obtain⟨m,⟨o,es,ep,ho,r⟩,_⟩:=id I.loc;obtain⟨sl,hL⟩:=u.any ho I.free λz=>(lW _ z).2.1 rfl
 exact I.step (ch:=ch) lW (λb o hL hb hc e n=>u.keep b o e n (λz=>(bw.mp (I.ER b z)).elim hL hb) hc) (λb o _ _ hc e n=>u.any e n hc) (λb o hc e n=>u.free b o e n hc) (λb o hc e=>u.there b o e hc) u.pX u.oO u.oJ (λm' hm=>by
  obtain⟨o',HH,HI,oj,r'⟩:=hm;rw[ho]at oj;cases oj;exact⟨_,HH,HI,hL,r'⟩) aH hg
theorem Inv.turned{t':Nat}{it:e_}(I:Inv X p_ σ H s)(k:∀b o,b≠it->s.heap.get? b=a_ o->h'.get? b=a_ o)(hn:H it=b_)(hL:it≠X.env.locals)
  (h1:it∈X.ex\/X.s₀.heap.objs.size<=it) (h2:∀x c,X.env.cells.lookup x=a_ c->c≠it) (h3:∀p∈X.pn++p_,p.1≠it):Inv X p_ σ H { s with heap:=h',toks:=t' }:=by
 have Y1:∀b u,H b=a_ u->b≠it:=λb u e z=>by rw[z,hn]at e;cases e
 refine I.step (g':=s.gens) (d':=s.drawn) (ch:=[it]) (λb hb=>?_) (λb o _ _ hc e _=>k b o (λz=>hc (by simp[z])) e) (λb o _ _ hc e _=>⟨o.slots,k b o (λz=>hc (by simp[z])) e⟩) (λ_ _ _ _ n=>n)
  (λb o hc e=>⟨o,k b o (λz=>hc (by simp[z])) e⟩) (λ_ _ e=>e) (λ_ _ _ e=>e) (λb ps e=>⟨#[],by rw[e];simp⟩) (λm hm=>?_) (λb u e=>?_) I.bare
 ·have e:b=it:=by simpa using hb
  subst e;exact⟨h1,hL,h2,h3⟩
 ·obtain⟨o,es,ep,ho,r⟩:=hm;exact⟨o,es,ep,k _ o (dW hL) ho,r⟩
 ·refine(I.aH b u e).pY (λc v hc q=>k c v ?_ q) (λ_ q=>q) λ_ _ q=>q;rcases hc with z | z
  ·rw[z];exact Y1 b u e
  ·exact Y1 c _ z
theorem Inv.tok(I:Inv X p_ σ H s)(t:Nat):Inv X p_ σ H { s with toks:=t }:=I.un (h':=s.heap) (t':=t) Un.refl I.aH
theorem Inv.kept{t':Nat}(I:Inv X p_ σ H s)(k:∀b u,s.heap.get? b=a_ u->h'.get? b=a_ u):Inv X p_ σ H { s with heap:=h',toks:=t' }:=I.un (Un.kept k) (I.aH.kept k)
theorem Inv.laid{o:HO}{t':Nat}(I:Inv X p_ σ H s)(k:∀b u,s.heap.get? b=a_ u->h'.get? b=a_ u)(hp:s.heap.objs.size<=a)(new:fo X.prog X.w (upd H a o) h' a o) :
  Inv X p_ σ (upd H a o) { s with heap:=h',toks:=t' }:=I.un (Un.laid k hp (I.aH.fresh hp)) (I.aH.laid k hp new)
theorem Inv.write{o:HO}{t':Nat}(I:Inv X p_ σ H s)(mu:Cy (H x))(he:e=x\/H e=a_ (.own x))(k:∀b u,b≠e->s.heap.get? b=a_ u->h'.get? b=a_ u)(AV:∃u,h'.get? e=a_ u)
  (new:fo X.prog X.w (upd H x o) h' x o):Inv X p_ σ (upd H x o) { s with heap:=h',toks:=t' }:=I.un (Un.write mu he k AV) (I.aH.write mu he k AV new)
theorem Inv.weak{σ':List (Option V)}(I:Inv X p_ σ H s)(hl:σ'.length=σ.length)(w:∀(i:Nat) v,σ'[i]?=a_ (a_ v)->σ[i]?=a_ (a_ v)):Inv X p_ σ' H s:=
 ⟨I.ok,I.os,I.bare,I.base,let ⟨m,hn,C4⟩:=I.loc;⟨m,hn,λi x v e1 e2 e3=>C4 i x v e1 (w i v e2) e3⟩,I.cell,I.free,I.jF,I.pin,I.aH,hl.trans I.len⟩
theorem Inv.vH(I:Inv X p_ σ H s)(h:∀p∈akb,s.heap.get? p.1=a_ p.2/\H p.1=b_/\p.1≠X.env.locals/\p.1∉X.fs/\∀v,p.2.data≠.cell v):Inv X akb σ H s:=
 ⟨I.ok,I.os,I.bare,I.base,I.loc,I.cell,I.free,I.jF,λp hp=>(dD.mp hp).elim (λz=>I.pin p (nj _ z)) (h p),I.aH,I.len⟩
theorem J4{N:List Str}(hN:N.Nodup){i j:Nat}{x:Str}(a:N[i]?=a_ x)(b:N[j]?=a_ x):i=j:=by
 obtain⟨h1,e1⟩:=dy.mp a;obtain⟨h2,e2⟩:=dy.mp b;exact(List.getElem_inj hN).mp (e1.trans e2.symm)
theorem RT{M:Model}{A:h_}{E:f_->g_->Prop}{i:Nat}{x:Str}{v:V}{u:f_}{Q:Unit->g_->Prop}(I:Inv X p_ σ H s)(hN:X.N.Nodup)(hi:X.N[i]?=a_ x)(hx:Loc X.env.scope x)(r:RelV v u)
  (h:∀s',Inv X p_ (σ.set i (a_ v)) H s'->(∃a,tU a s.heap s'.heap/\(a=X.env.locals\/X.env.cells.lookup x=a_ a))->Q () s') (hf:X.fn x=c_\/X.env.scope.names.lookup x=a_ .local:=by first | exact .inl rfl | exact .inr rfl | assumption):wpAny M A (storeName X.env x u) Q E s:=by
 obtain⟨m,hn,hl⟩:=id I.loc;have NT:(X.env.scope.kind == .class||(X.env.scope.kind == .module&&X.env.locals != X.env.globals))=false:=by rw[I.ok.kind];rfl
 have ZG:i < σ.length:=by rw[I.len];exact(dy.mp hi).1
 have uH:=I.uH
 have tracked:∀{a:e_} {h':j_},(∃o,s.heap.get? a=a_ o/\H a=b_)->tU a s.heap h'->eW X.prog X.w H h':=λ{a h'} ha hs b ob e=>by
  obtain⟨_,_,WL⟩:=ha;refine(I.aH b ob e).pY (λc w' hc q=>(hs.2 c ?_).trans q) (λ_ q=>q) λ_ _ q=>q;rintro rfl;rcases hc with rfl | hc
  ·rw[WL]at e;cases e
  ·rw[WL]at hc;cases hc
 rcases hx with hk | hk
 ·refine wpAny_storeName_local hk hn (λh' wZ hs=>?_) NT;obtain⟨oL,_,_,hoL,_⟩:=id hn;refine h _ ⟨I.ok,I.os,I.bare,⟨λb o e n hb hx=>?_,λb o e n hb hx=>?_,I.base.free,λb o e hx=>?_,I.base.pX,I.base.oO,I.base.oJ⟩,⟨_,wZ,λj y v' e1 e2 e3=>?_⟩,λy c e=>?_,I.free,I.jF,λp hp=>?_,tracked ⟨oL,hoL,I.free⟩ hs,by simpa using I.len⟩ ⟨_,hs,.inl rfl⟩
  ·exact(hs.2 b (eM (gx (cx e) I.ok.above))).trans (I.base.keep b o e n hb hx)
  ·obtain⟨sl,e1⟩:=I.base.slot b o e n hb hx;exact⟨sl,(hs.2 b (eM (gx (cx e) I.ok.above))).trans e1⟩
  ·obtain⟨o',e1⟩:=I.base.there b o e hx;exact⟨o',(hs.2 b (eM (gx (cx e) I.ok.above))).trans e1⟩
  ·by_cases hj:j=i
   ·subst hj;rw[hi]at e1;cases e1;rw[lu ZG]at e2;cases e2;exact⟨u,r,.inl ⟨hk,by simp⟩⟩
   ·rw[A6 (dW hj)]at e2;obtain⟨u',r',q⟩:=hl j y v' e1 e2 e3;refine⟨u',r',?_⟩;rcases q with ⟨k,e⟩ | ⟨k,c,e,z⟩
    ·refine .inl ⟨k,?_⟩;have:y≠x:=λe=>hj (J4 hN e1 (e ▸ hi));simp[this,e]
    ·exact .inr ⟨k,c,e,z.sameBut hs (uH y c e)⟩
  ·obtain⟨w',z⟩:=I.cell y c e;exact⟨w',z.sameBut hs (uH y c e)⟩
  ·obtain⟨e,n,ne,nf,d⟩:=I.pin p hp;exact⟨(hs.2 p.1 ne).trans e,n,ne,nf,d⟩
 ·have O3:X.fn x=true:=by
   rcases hf with z | z
   ·exact z
   ·rw[z]at hk;cases hk
  obtain⟨c,hc⟩:=I.ok.has x (.inl hk);obtain⟨w',z⟩:=I.cell x c hc;refine wpAny_storeName_cell I.ok.kind hk hc z λh' rG hs=>?_;obtain⟨oc,yJ,alD⟩:=id z;refine h { s with heap:=h' } ⟨I.ok,I.os,I.bare,⟨λb o e n hb hx=>?_,λb o e n hb hx=>?_,I.base.free,λb o e hx=>?_,I.base.pX,I.base.oO,I.base.oJ⟩,⟨m,hn.sameBut hs (dW (uH x c hc)),λj y v' e1 e2 e3=>?_⟩,λy c' e=>?_,I.free,I.jF,λp hp=>?_,tracked ⟨oc,yJ,I.jF x c hc⟩ hs,by simpa using I.len⟩ ⟨c,hs,.inr hc⟩
  ·exact(hs.2 b (eM (gx (cx e) (I.ok.wN x c O3 hc)))).trans (I.base.keep b o e n hb hx)
  ·obtain⟨sl,e1⟩:=I.base.slot b o e n hb hx;exact⟨sl,(hs.2 b (eM (gx (cx e) (I.ok.wN x c O3 hc)))).trans e1⟩
  ·obtain⟨o',e1⟩:=I.base.there b o e hx;exact⟨o',(hs.2 b (eM (gx (cx e) (I.ok.wN x c O3 hc)))).trans e1⟩
  ·by_cases hj:j=i
   ·subst hj;rw[hi]at e1;cases e1;rw[lu ZG]at e2;cases e2;exact⟨u,r,.inr ⟨.inl hk,c,hc,rG⟩⟩
   ·rw[A6 (dW hj)]at e2;obtain⟨u',r',q⟩:=hl j y v' e1 e2 e3;refine⟨u',r',?_⟩;rcases q with q | ⟨k,c',e,z'⟩
    ·exact .inl q
    ·refine .inr ⟨k,c',e,z'.sameBut hs ?_⟩;rintro rfl;exact hj (J4 hN e1 (I.ok.inj _ _ _ e hc ▸ hi))
  ·by_cases ZN:c'=c
   ·subst ZN;exact⟨_,rG⟩
   ·obtain⟨w2,z2⟩:=I.cell y c' e;exact⟨w2,z2.sameBut hs ZN⟩
  ·obtain⟨e,n,ne,nf,d⟩:=I.pin p hp;refine⟨(hs.2 p.1 ?_).trans e,n,ne,nf,d⟩;intro q;rw[q,yJ]at e;have q':oc=p.2:=dr e;exact d w' (by rw[<-q'];exact alD)
theorem JL{M:Model}{i:Nat}{Q:Unit->g_->Prop}(I:Inv X p_ σ H s)(hN:X.N.Nodup)(hi:X.N[i]?=a_ x)(hx:Loc X.env.scope x)(r:RelV v u)
  (h:∀s',Inv X p_ (σ.set i (a_ v)) H s'->Q () s') (hf:X.fn x=c_\/X.env.scope.names.lookup x=a_ .local:=by first | exact .inl rfl | exact .inr rfl | assumption):wpAny M A (storeName X.env x u) Q E s:=
 RT I hN hi hx r (λs' I' _=>h s' I') hf
theorem Inv.MF(I:Inv X p_ σ H s)(ho:s'.os=s.os)(u:Un (ko X.stack) ch H H' s.heap s'.heap)(aH:eW X.prog X.w H' s'.heap)(hg:AllBare s'.gens)
  (lW:∀b∈ch,(b∈X.ex\/X.s₀.heap.objs.size<=b)/\b≠X.env.locals/\(∀x c,X.env.cells.lookup x=a_ c->c≠b)/\∀p∈X.pn++p_,p.1≠b):Inv X p_ σ H' s':=by
 obtain⟨h',g',d',t',o'⟩:=s';have e:o'=s.os:=ho;subst e;exact I.call (g':=g') (t':=t') (d':=d') u aH hg lW
end
abbrev XK:=f_->Option e_->Hp->Prop
abbrev St:=List (Option V)
abbrev VK:=V->Hp->Prop
abbrev TE:=St->Hp->VK->Prop
abbrev TT:=St->Hp->(Bool->Hp->Prop)->Prop
abbrev TA:=St->Hp->(List V->Hp->Prop)->Prop
structure Ends where
 nx:St->Hp->Prop
 rt:VK
 bk:St->Hp->Prop:=λ_ _=>False
 ct:St->Hp->Prop:=λ_ _=>False
abbrev TS:=Ends->St->Hp->Prop
def EP(X:Cx)(p_:List (e_×Obj))(σ:St)(Q:VK)(u:f_)(s':g_):Prop:=∃v H',Inv X p_ σ H' s'/\RelV v u/\Q v H'
def TP(X:Cx)(p_:List (e_×Obj))(σ:St)(Q:Bool->Hp->Prop)(b:Bool)(s':g_):Prop:=∃H',Inv X p_ σ H' s'/\Q b H'
def AP(X:Cx)(p_:List (e_×Obj))(σ:St)(Q:List V->Hp->Prop)(us:List f_)(s':g_):Prop:=∃vs H',Inv X p_ σ H' s'/\Vals vs us/\Q vs H'
def SP(X:Cx)(p_:List (e_×Obj))(D:Ends)(f:Flow)(s':g_):Prop:=
 match f with
 | .next=>∃σ' H',Inv X p_ σ' H' s'/\D.nx σ' H'
 | .brk=>∃σ' H',Inv X p_ σ' H' s'/\D.bk σ' H'
 | .cont=>∃σ' H',Inv X p_ σ' H' s'/\D.ct σ' H'
 | .ret u=>∃v σ' H',Inv X p_ σ' H' s'/\RelV v u/\D.rt v H'
def PE(X:Cx)(e:Expr)(t:TE):Prop:=
 ∀(p_:List (e_×Obj)) (s:g_) (σ:St) (H:Hp) (Q:VK),Inv X p_ σ H s->t σ H Q->wpAny (model X.prog X.w) X.A (eval e X.env) (EP X p_ σ Q) X.xe s
def PT(X:Cx)(e:Expr)(t:TT):Prop:=
 ∀(p_:List (e_×Obj)) (s:g_) (σ:St) (H:Hp) (Q:Bool->Hp->Prop),Inv X p_ σ H s->t σ H Q->wpAny (model X.prog X.w) X.A (isTrue e X.env (eval e X.env)) (TP X p_ σ Q) X.xe s
def PW(X:Cx)(e:Expr)(t:TT):Prop:=
 ∀(whole:Sem f_) (p_:List (e_×Obj)) (s:g_) (σ:St) (H:Hp) (Q:Bool->Hp->Prop),Inv X p_ σ H s->t σ H Q->wpAny (model X.prog X.w) X.A (isTrue e X.env whole) (TP X p_ σ Q) X.xe s
theorem PW.pt{X:Cx}{t:TT}(h:PW X e t):PT X e t:=h _
def PA(X:Cx)(es:List Expr)(t:TA):Prop:=
 ∀(pos:Pos) (p_:List (e_×Obj)) (s:g_) (σ:St) (H:Hp) (Q:List V->Hp->Prop),Inv X p_ σ H s->t σ H Q->wpAny (model X.prog X.w) X.A (spliced (backTo pos (cJ es X.env))) (AP X p_ σ Q) X.xe s
def PS(X:Cx)(st:Stmt)(t:TS):Prop:=
 ∀(p_:List (e_×Obj)) (s:g_) (σ:St) (H:Hp) (D:Ends),Inv X p_ σ H s->t D σ H->wpAny (model X.prog X.w) X.A (exec st X.env) (SP X p_ D) X.xe s
def fJ(X:Cx)(st:List Stmt)(t:TS):Prop:=
 ∀(p_:List (e_×Obj)) (s:g_) (σ:St) (H:Hp) (D:Ends),Inv X p_ σ H s->t D σ H->wpAny (model X.prog X.w) X.A (execs st X.env) (SP X p_ D) X.xe s
theorem aU{α:Type}{t:Sem α}{Q Q':α->g_->Prop}{M:Model}(h:wpAny M A t Q E s)(hQ:∀a s,Q a s->Q' a s):wpAny M A t Q' E s:=gf h hQ λ_ _ x=>x
theorem NZ{X:Cx}{K:VK}{t:Sem f_}{M:Model}(h:wpAny M A t (EP X p_ σ K) E s)(k:∀v s x H,Inv X p_ σ H s->RelV x v->K x H->Q' v s):wpAny M A t Q' E s:=aU h λv s z=>dv z (k v s)
theorem thT{X:Cx}{K:Bool->Hp->Prop}{t:Sem Bool}{Q':Bool->g_->Prop}{M:Model}(h:wpAny M A t (TP X p_ σ K) E s)(k:∀v s H,Inv X p_ σ H s->K v H->Q' v s):wpAny M A t Q' E s:=aU h λv s z=>aw z (k v s)
theorem Aq{X:Cx}{K:List V->Hp->Prop}{t:Sem (List f_)}{Q':List f_->g_->Prop}{M:Model}(h:wpAny M A t (AP X p_ σ K) E s)(k:∀v s x H,Inv X p_ σ H s->Vals x v->K x H->Q' v s):wpAny M A t Q' E s:=aU h λv s z=>dv z (k v s)
section
variable{X:Cx}
def qV(i:Nat):TE:=λσ H Q=>∃v,σ[i]?=a_ (a_ v)/\Q v H
abbrev tC(v:V):TE:=λ_ H Q=>Q v H
theorem ag6{i:Nat}(hN:X.N[i]?=a_ x)(hv:N' X.env.scope x)(hd:(x == ("__debug__" : Str))=false:=by decide)(gv:(x == ("__classdict__" : Str))=false:=by decide):PE X (.Name x pos) (qV i):=by
 intro p_ s σ H Q I h;obtain⟨v,e,h⟩:=h;obtain⟨m,hn,hl⟩:=I.loc;obtain⟨u,r,l⟩:=hl i x v hN e hv;have fin:EP X p_ σ Q u s:=⟨v,H,I,r,h⟩;rcases l with ⟨hk,hm⟩ | ⟨hk,c,hc,uu⟩
 ·exact wpAny_Name (wpAny_loadName_local I.ok.kind hk hn hm fin) hd
 ·rcases hk with hk | hk
  ·exact wpAny_Name (wpAny_loadName_cell I.ok.kind hk hc uu fin) hd
  ·exact wpAny_Name (wpAny_loadName_free I.ok.kind hk hc uu fin gv) hd
theorem aA{i j pos}:PE X (.Constant (.int i) j pos) (tC (.int i)):=λ_ _ _ H _ I h=>wpAny_Constant_int ⟨.int i,H,I.tok _,⟨_,rfl⟩,h⟩
theorem sE{b j pos}:PE X (.Constant (.bool b) j pos) (tC (.bl b)):=λ_ _ _ H _ I h=>Constant_bool ⟨.bl b,H,I,rfl,h⟩
theorem nB{j pos}:PE X (.Constant .none j pos) (tC .aG):=λ_ _ _ H _ I h=>Constant_none ⟨.aG,H,I,rfl,h⟩
theorem di{x j pos}:PE X (.Constant (.str x) j pos) (tC (.str x)):=λ_ _ _ H _ I h=>Calls.Constant_str ⟨.str x,H,I.tok _,⟨_,rfl⟩,h⟩
def Gl(X:Cx)(x:Str):Prop:=X.env.kindOf x=a_ .globalImplicit
theorem ua(I:Inv X p_ σ H s)(hg:Gl X x)(hm:X.mg x=a_ u)(h:Q u s)
  (hd:(x == ("__debug__" : Str))=false:=by decide):wpAny (model X.prog X.w) X.A (eval (.Name x pos) X.env) Q E s:=
 aai I.ok.kind hg (Calls.loadGlobal_global (by rw[I.ok.glob];exact I.mod.glob.keeps I.bk) hm h) hd
theorem vU(I:Inv X p_ σ H s)(hg:Gl X x)(hm:X.mg x=b_)(hv:vw x=a_ u)(h:Q u s)
  (hn:x ≠ "__name__":=by decide) (hd:(x == ("__debug__" : Str))=false:=by decide):wpAny (model X.prog X.w) X.A (eval (.Name x pos) X.env) Q E s:=by
 obtain⟨mb,h1,h2⟩:=I.mod.blt;exact aai I.ok.kind hg (Calls.loadGlobal_builtin (by rw[I.ok.glob];exact I.mod.glob.keeps I.bk) hm (by rw[I.ok.blt];exact h1.keeps I.bk) ((h2 x hn).trans hv) h) hd
theorem fQ(hg:Gl X x)(hm:X.mg x=a_ u)(r:RelV v u)(hd:(x == ("__debug__" : Str))=false:=by decide):PE X (.Name x pos) (tC v):=
 λ_ _ _ H _ I h=>ua I hg hm ⟨v,H,I,r,h⟩ hd
theorem nA(hg:Gl X x)(hm:X.mg x=b_)(hv:vw x=a_ u)(r:RelV v u)(hn:x ≠ "__name__":=by decide)(hd:(x == ("__debug__" : Str))=false:=by decide):PE X (.Name x pos) (tC v):=
 λ_ _ _ H _ I h=>vU I hg hm hv ⟨v,H,I,r,h⟩ hn hd
variable{a b:Expr}{ta tb:TE}{pos:Pos}
def tB(t:TE):TT:=λσ H Q=>t σ H λx H1=>∃c,x=.bl c/\Q c H1
theorem gH{t:TE}(h:PE X e t)(he:∀whole,isTrue e X.env whole=(do let v <-whole;standAt e.pos;holding [v] (truthy v)):=by intro _;rfl):PT X e (tB t):=by
 intro p_ s σ H Q I hw;refine isTrue_plain (aU (h p_ s σ H _ I hw) λv s1 ⟨x,H1,I1,r1,q1⟩=>?_) (he _);obtain⟨d,rfl,q⟩:=q1;cases r1;exact qw ⟨H1,I1,q⟩
variable{tA G':TT}{rest:List Expr}
def akH(t u:TT):TT:=λσ H Q=>t σ H λc H1=>if c=c_ then u σ H1 Q else Q d_ H1
def tOr(t u:TT):TT:=λσ H Q=>t σ H λc H1=>if c=c_ then Q c_ H1 else u σ H1 Q
def akC(t:TT):TT:=λσ H Q=>t σ H λc H1=>Q (!c) H1
theorem pw_and1(ha:PT X a tA):PW X (.BoolOp .And [a] pos) tA:=by
 intro wh p_ s σ H Q I h;refine isTrue_and (aU (ha p_ s σ H Q I h) λc s1 e=>?_);cases c with
 | true=>exact isTrue_and_nil e
 | false=>exact e
theorem pw_or1(ha:PT X a tA):PW X (.BoolOp .Or [a] pos) tA:=by
 intro wh p_ s σ H Q I h;refine isTrue_or (aU (ha p_ s σ H Q I h) λc s1 e=>?_);cases c with
 | false=>exact isTrue_or_nil e
 | true=>exact e
theorem pw_and(ha:PT X a tA)(hb:PW X (.BoolOp .And (b::rest) pos) G'):PW X (.BoolOp .And (a::b::rest) pos) (akH tA G'):=by
 intro wh p_ s σ H Q I h;refine isTrue_and (aU (ha p_ s σ H _ I h) λc s1 ⟨H1,I1,q1⟩=>?_);cases c with
 | true=>exact hb wh p_ s1 σ H1 Q I1 q1
 | false=>exact⟨H1,I1,q1⟩
theorem pw_or(ha:PT X a tA)(hb:PW X (.BoolOp .Or (b::rest) pos) G'):PW X (.BoolOp .Or (a::b::rest) pos) (tOr tA G'):=by
 intro wh p_ s σ H Q I h;refine isTrue_or (aU (ha p_ s σ H _ I h) λc s1 ⟨H1,I1,q1⟩=>?_);cases c with
 | true=>exact⟨H1,I1,q1⟩
 | false=>exact hb wh p_ s1 σ H1 Q I1 q1
theorem lG(ha:PT X a tA):PT X (.UnaryOp .Not a pos) (akC tA):=by
 intro p_ s σ H Q I h;exact isTrue_not (ha p_ s σ H (λc H1=>Q (!c) H1) I h)
def aiI(ta tb:TE):TE:=λσ H Q=>ta σ H λx H1=>∃c,x=.bl c/\if c=c_ then tb σ H1 Q else Q (.bl d_) H1
def akB(ta tb:TE):TE:=λσ H Q=>ta σ H λx H1=>∃c,x=.bl c/\if c=c_ then Q (.bl c_) H1 else tb σ H1 Q
def aiE(ta:TE):TE:=λσ H Q=>ta σ H λx H1=>∃c,x=.bl c/\Q (.bl (!c)) H1
theorem EY{op}{t:TE}(h:PE X a t):PE X (.BoolOp op [a] pos) t:=λp_ s σ H Q I hw=>BoolOp_one (h p_ s σ H Q I hw)
theorem Lx(ha:PE X a ta)(hb:PE X (.BoolOp .And (b::rest) pos) tb):PE X (.BoolOp .And (a::b::rest) pos) (aiI ta tb):=by
 intro p_ s σ H Q I h;refine BoolOp_and (aU (ha p_ s σ H _ I h) λv s1 ⟨x,H1,I1,r1,q1⟩=>?_);obtain⟨c,rfl,q1⟩:=q1;cases r1;refine qw ?_;cases c with
 | true=>exact hb p_ s1 σ H1 Q I1 q1
 | false=>exact⟨.bl d_,H1,I1,rfl,q1⟩
theorem aiP(ha:PE X a ta)(hb:PE X (.BoolOp .Or (b::rest) pos) tb):PE X (.BoolOp .Or (a::b::rest) pos) (akB ta tb):=by
 intro p_ s σ H Q I h;refine BoolOp_or (aU (ha p_ s σ H _ I h) λv s1 ⟨x,H1,I1,r1,q1⟩=>?_);obtain⟨c,rfl,q1⟩:=q1;cases r1;refine qw ?_;cases c with
 | false=>exact hb p_ s1 σ H1 Q I1 q1
 | true=>exact⟨.bl c_,H1,I1,rfl,q1⟩
theorem Lw(ha:PE X a ta):PE X (.UnaryOp .Not a pos) (aiE ta):=by
 intro p_ s σ H Q I h;refine UnaryOp_ (aU (ha p_ s σ H _ I h) λv s1 ⟨x,H1,I1,r1,q1⟩=>?_);obtain⟨c,rfl,q1⟩:=q1;cases r1;exact not_of (qw ⟨.bl (!c),H1,I1,rfl,q1⟩)
def tIf(t:TT)(ta tb:TE):TE:=λσ H Q=>t σ H λc H1=>if c=c_ then ta σ H1 Q else tb σ H1 Q
theorem J3(hc:PT X c tA)(ha:PE X a ta)(hb:PE X b tb):PE X (.IfExp c a b pos) (tIf tA ta tb):=by
 intro p_ s σ H Q I h;refine wpAny_IfExp (aU (hc p_ s σ H _ I h) λd s1 ⟨H1,I1,q1⟩=>?_);cases d with
 | true=>exact ha p_ s1 σ H1 Q I1 q1
 | false=>exact hb p_ s1 σ H1 Q I1 q1
end
def av(K:u_)(H:Hp)(a:e_)(xs:List V):Prop:=
 Rd H a (.lst xs)\/
  ∃(o:Obj) (ar:Array f_) (n:Nat),K.lookup a=a_ o/\o.cls=.type "list"/\o.dict=b_/\o.data=.seq ar n/\ar.size<=cq/\Vals xs ar.toList
def aJ(K:u_)(H:Hp)(a:e_)(xs:List V):Prop:=
 Rd H a (.tup xs)\/
  ∃(o:Obj) (ar:Array f_) (n:Nat),K.lookup a=a_ o/\o.cls=.type "tuple"/\o.data=.seq ar n/\ar.size<=cq/\Vals xs ar.toList
def ak4:f_->Option V
 | .none=>a_ .aG
 | .bool b=>a_ (.bl b)
 | .int i _=>a_ (.int i)
 | .str x _=>a_ (.str x)
 | .bytes b _=>a_ (.qg b)
 | .float b _=>a_ (.uE b)
 | .ref a=>a_ (.ref a)
 | .type n=>a_ (.ty n)
 | _=>b_
theorem RelV.abs(r:RelV x u):ak4 u=a_ x:=by
 cases x with
 | aG=>cases r;rfl
 | bl _=>cases r;rfl
 | int _=>obtain⟨t,rfl⟩:=r;rfl
 | str _=>obtain⟨t,rfl⟩:=r;rfl
 | qg _=>obtain⟨t,rfl⟩:=r;rfl
 | uE _=>obtain⟨t,rfl⟩:=r;rfl
 | ref _=>cases r;rfl
 | ty _=>cases r;rfl
theorem RelV.inj(r:RelV x u)(q:RelV y u):x=y:=dr (r.abs.symm.trans q.abs)
theorem Vals.inj:∀{xs ys:List V} {us:List f_},Vals xs us->Vals ys us->xs=ys
 | _,_,_,.nil,.nil=>rfl
 | _,_,_,.cons r t,.cons r' t'=>by rw[r.inj r',Vals.inj t t']
section
variable{X:Cx}{p_:List (e_×Obj)}{σ:St}{H:Hp}{s:g_}{a:e_}{xs ys:List V}
theorem av.of{K:u_}(h:H a=a_ (.lst xs)):av K H a xs:=.inl (.inl h)
theorem aJ.of{K:u_}(h:H a=a_ (.tup xs)):aJ K H a xs:=.inl (.inl h)
theorem Inv.list(I:Inv X p_ σ H s)(h:av X.K H a xs):∃ar:List f_,Vals xs ar/\PlainL s.heap a ar.toArray/\xs.length<=cq:=by
 rcases h with h | ⟨o,ar,n,hk,hc,hd,hs,hz,r⟩
 ·obtain⟨z,ar,n,r,e⟩:=h.ok I.aH;exact⟨ar,r,⟨_,n,e,rfl,rfl,rfl⟩,z⟩
 ·refine⟨ar.toList,r,⟨o,n,I.dm a o hk,hc,hd,by simpa using hs⟩,?_⟩;have e:=r.length;simp only[eG]at e;omega
theorem Inv.tuple(I:Inv X p_ σ H s)(h:aJ X.K H a xs):∃ar:List f_,Vals xs ar/\IsTup s.heap a ar.toArray/\xs.length<=cq:=by
 rcases h with h | ⟨o,ar,n,hk,hc,hs,hz,r⟩
 ·obtain⟨z,ar,r,p⟩:=h.ok I.aH;exact⟨ar,r,p,z⟩
 ·refine⟨ar.toList,r,⟨o,I.dm a o hk,hc,n,by simpa using hs⟩,?_⟩;have e:=r.length;simp only[eG]at e;omega
theorem Inv.Tr(I:Inv X p_ σ H s)(h:av X.K H a xs)(h':av X.K H a ys):xs=ys:=by
 obtain⟨ar,r,⟨o,n,e,_,_,d⟩,_⟩:=I.list h;obtain⟨lQ,r',⟨o',n',e',_,_,d'⟩,_⟩:=I.list h';rw[e]at e';cases e';rw[d]at d';injection d' with d1 _
 have:ar=lQ:=by simpa using congrArg Array.toList d1
 subst this;exact r.inj r'
theorem Inv.RQ(I:Inv X p_ σ H s)(h:aJ X.K H a xs)(h':aJ X.K H a ys):xs=ys:=by
 obtain⟨ar,r,⟨o,e,_,n,d⟩,_⟩:=I.tuple h;obtain⟨lQ,r',⟨o',e',_,n',d'⟩,_⟩:=I.tuple h';rw[e]at e';cases e';rw[d]at d';injection d' with d1 _
 have:ar=lQ:=by simpa using congrArg Array.toList d1
 subst this;exact r.inj r'
end
abbrev Cx.sL(X:Cx)(E:f_->g_->Prop):Cx:={ X with xe:=E }
abbrev Cx.wK(X:Cx):Cx:=X.sL λ_ _=>False
theorem Cx.Ok.sL{X:Cx}(ok:X.Ok)(E:f_->g_->Prop):(X.sL E).Ok:=
 ⟨ok.mod,ok.kind,ok.glob,ok.blt,ok.above,ok.inj,ok.has,ok.wN,ok.hd,ok.frames,ok.yk,ok.uF,ok.bs,ok.nX,ok.wm,ok.uw,ok.mI,ok.sW⟩
theorem Cx.Ok.vK{X:Cx}(ok:(X.sL E).Ok):X.Ok:=
 ⟨ok.mod,ok.kind,ok.glob,ok.blt,ok.above,ok.inj,ok.has,ok.wN,ok.hd,ok.frames,ok.yk,ok.uF,ok.bs,ok.nX,ok.wm,ok.uw,ok.mI,ok.sW⟩
section
variable{X:Cx}{p_:List (e_×Obj)}{σ:St}{H:Hp}{s:g_}{E:f_->g_->Prop}
theorem Inv.sL(I:Inv X p_ σ H s)(E:f_->g_->Prop):Inv (X.sL E) p_ σ H s:=⟨I.ok.sL E,I.os,I.bare,I.base,I.loc,I.cell,I.free,I.jF,I.pin,I.aH,I.len⟩
theorem Inv.vK(I:Inv (X.sL E) p_ σ H s):Inv X p_ σ H s:=⟨I.ok.vK,I.os,I.bare,I.base,I.loc,I.cell,I.free,I.jF,I.pin,I.aH,I.len⟩
theorem SP.vK{f:Flow}(h:SP (X.sL E) p_ D f s'):SP X p_ D f s':=by
 cases f with
 | next=>obtain⟨σ',H',I,q⟩:=h;exact⟨σ',H',I.vK,q⟩
 | brk=>obtain⟨σ',H',I,q⟩:=h;exact⟨σ',H',I.vK,q⟩
 | cont=>obtain⟨σ',H',I,q⟩:=h;exact⟨σ',H',I.vK,q⟩
 | ret u=>obtain⟨v,σ',H',I,r,q⟩:=h;exact⟨v,σ',H',I.vK,r,q⟩
theorem fJ.wK{st:List Stmt}{t:TS}(h:fJ X.wK st t):fJ X st t:=λp_ s σ H D I hw=>
 gf (h p_ s σ H D (I.sL _) hw) (λ_ _ q=>q.vK) λ_ _ z=>iF z
end
section
variable{X:Cx}{st:Stmt}{rest:List Stmt}{t u:TS}{e:Expr}{te:TE}{pos:Pos}
abbrev aiF:TS:=λD σ H=>D.nx σ H
abbrev akz(t u:TS):TS:=λD σ H=>t { D with nx:=u D } σ H
theorem cO:fJ X [] aiF:=λ_ _ σ H _ I h=>Bb ⟨σ,H,I,h⟩
theorem aE(h1:PS X st t)(h2:fJ X rest u):fJ X (st::rest) (akz t u):=by
 intro p_ s σ H D I h;refine wpAny_execs_cons (aU (h1 p_ s σ H { D with nx:=u D } I h) λf s1 q=>?_);cases f with
 | next=>
  obtain⟨σ',H',I',q⟩:=q;exact h2 p_ s1 σ' H' D I' q
 | ret v=>exact q
 | brk=>exact q
 | cont=>exact q
theorem aF(h1:PS X st t):fJ X [st] t:=by
 intro p_ s σ H D I h;refine wpAny_execs_cons (aU (h1 p_ s σ H D I h) λf s1 q=>?_);cases f with
 | next=>exact Bb q
 | ret v=>exact q
 | brk=>exact q
 | cont=>exact q
theorem Inv.quiet(I:Inv X p_ σ H s):interactive X.env=false:=by simp[interactive,I.ok.kind]
abbrev V8(te:TE):TS:=λD σ H=>te σ H λ_ H1=>D.nx σ H1
theorem dE(he:PE X e te)(hs:By e b_ pos.line X.env=pure false:=by rfl):PS X (.Expr e pos) (V8 te):=by
 intro p_ s σ H D I h;exact wpAny_Expr_any (aU (he p_ s σ H _ I h) λv s1 ⟨x,H1,I1,r1,q1⟩=>⟨σ,H1,I1,q1⟩) I.quiet hs
abbrev akA(te:TE):TS:=λD σ H=>te σ H D.rt
theorem bj(he:PE X e te):PS X (.Return (a_ e) pos) (akA te):=by
 intro p_ s σ H D I h;exact wpAny_Return_some (aU (he p_ s σ H _ I h) λv s1 ⟨x,H1,I1,r1,q1⟩=>⟨x,σ,H1,I1,r1,q1⟩)
abbrev akE(c:TT)(t u:TS):TS:=λD σ H=>c σ H λb H1=>if b=c_ then t D σ H1 else u D σ H1
theorem cC{a b:List Stmt}(hc:PT X c tc)(ha:fJ X a t)(hb:fJ X b u):PS X (.If c a b pos) (akE tc t u):=by
 intro p_ s σ H D I h;refine wpAny_If (aU (hc p_ s σ H _ I h) λd s1 ⟨H1,I1,q1⟩=>?_);cases d with
 | true=>exact ha p_ s1 σ H1 D I1 q1
 | false=>exact hb p_ s1 σ H1 D I1 q1
def agK:TS:=λ_ _ _=>False
theorem zC{sts:List Stmt}:fJ X sts agK:=λ_ _ _ _ _ _ h=>h.elim
end
abbrev TG:=V->St->Hp->(St->Hp->Prop)->Prop
abbrev yr:=List V->St->Hp->(St->Hp->Prop)->Prop
def PG(X:Cx)(target:Expr)(t:TG):Prop:=
 ∀(p_:List (e_×Obj)) (s:g_) (σ:St) (H:Hp) (v:V) (u:f_) (Q:St->Hp->Prop),Inv X p_ σ H s->RelV v u->t v σ H Q->
  wpAny (model X.prog X.w) X.A (assign target X.env u) (λ_ s'=>∃σ' H',Inv X p_ σ' H' s'/\Q σ' H') X.xe s
def GZ(X:Cx)(ts:List Expr)(t:yr):Prop:=
 ∀(p_:List (e_×Obj)) (s:g_) (σ:St) (H:Hp) (vs:List V) (us:List f_) (Q:St->Hp->Prop),Inv X p_ σ H s->Vals vs us->t vs σ H Q->
  wpAny (model X.prog X.w) X.A (assignInOrder ((Bv ts X.env).map (·.2)) us) (λ_ s'=>∃σ' H',Inv X p_ σ' H' s'/\Q σ' H') X.xe s
abbrev Ci:=V->V->V->Hp->(Hp->Prop)->Prop
def Nz(X:Cx)(t:Ci):Prop:=
 ∀(p_:List (e_×Obj)) (s:g_) (σ:St) (H:Hp) (o i v:V) (ov iv u:f_) (Q:Hp->Prop),Inv X p_ σ H s->RelV o ov->RelV i iv->RelV v u->t o i v H Q->
  wpAny (model X.prog X.w) X.A (setItem ov iv u) (λ_ s'=>∃H',Inv X p_ σ H' s'/\Q H') X.xe s
abbrev GJ:=V->V->Hp->VK->Prop
def Ym(X:Cx)(op:Operator)(t:GJ):Prop:=
 ∀(p_:List (e_×Obj)) (s:g_) (σ:St) (H:Hp) (x y:V) (v u:f_) (Q:VK),Inv X p_ σ H s->RelV x v->RelV y u->t x y H Q->
  wpAny (model X.prog X.w) X.A (inplaceOp op v u) (EP X p_ σ Q) X.xe s
section
variable{X:Cx}{pos:Pos}
abbrev kg(i:Nat):TG:=λv σ H Q=>Q (σ.set i (a_ v)) H
theorem cG{i:Nat}(hN:X.N.Nodup)(hi:X.N[i]?=a_ x)(hx:Loc X.env.scope x)(hf:X.fn x=c_\/X.env.scope.names.lookup x=a_ .local:=by first | exact .inl rfl | exact .inr rfl | assumption):PG X (.Name x pos) (kg i):=by
 intro p_ s σ H v u Q I r h;exact wpAny_assign_Name (JL I hN hi hx r (λs' I'=>⟨_,H,I',h⟩) hf)
def Xc:yr:=λvs σ H Q=>vs=[]/\Q σ H
def My(t:TG)(u:yr):yr:=λvs σ H Q=>∃v r,vs=v::r/\t v σ H λσ' H'=>u r σ' H' Q
theorem qH:GZ X [] Xc:=by
 intro p_ s σ H vs us Q I r h;obtain⟨e,h⟩:=h;subst e;cases r;exact assignInOrder_nil ⟨σ,H,I,h⟩
theorem iV{es:List Expr}{t:TG}{u:yr}(h1:PG X e t)(h2:GZ X es u)
  (hs:(Bv (e::es) X.env).map (·.2)=assign e X.env::(Bv es X.env).map (·.2):=by rfl):GZ X (e::es) (My t u):=by
 intro p_ s σ H vs us Q I r h;obtain⟨v,vr,e1,h⟩:=h;subst e1;cases r with
 | cons r rr=>
  rw[hs];refine assignInOrder_cons (aU (h1 p_ s σ H _ _ _ I r h) λ_ s1 ⟨σ1,H1,I1,q1⟩=>?_);exact h2 p_ s1 σ1 H1 _ _ Q I1 rr q1
def Xb(K:u_)(n:Nat)(t:yr):TG:=λv σ H Q=>∃a xs,v=.ref a/\aJ K H a xs/\xs.length=n/\t xs σ H Q
theorem qL{es:List Expr}{k:Nat}{t:yr}{n:Nat}(hc:X.calm=c_)(h:GZ X es t)
  (hn:(Bv es X.env).length=n:=by rfl) (dh:(Bv es X.env).findIdx? (·.1)=none:=by rfl):PG X (.Tuple es k pos) (Xb X.K n t):=by
 intro p_ s σ H v u Q I r hw;obtain⟨a,xs,e1,hq,hl,hw⟩:=hw;subst e1;cases r;obtain⟨ar,rv,ht,hz⟩:=I.tuple hq;refine assign_Tuple_tuple (I.ok.hd hc) ht (by simp[hn,<-hl,rv.length]) dh λh' hx=>?_;have I1:Inv X p_ σ H { s with heap:=h' }:=I.kept (t':=s.toks) λb o e=>hx b o (eM (cx e)) e;exact h p_ _ σ H xs _ Q I1 (by simpa using rv) hw
def akZ(to ti:TE)(t:Ci):TG:=λv σ H Q=>to σ H λo H1=>ti σ H1 λi H2=>t o i v H2 λH3=>Q σ H3
theorem zY{t:Ci}(ho:PE X o to)(hi:PE X i ti)(hs:Nz X t)
  (ha:∀v,assign (.Subscript o i pos) X.env v=(do
   let ov <-holding [v] (eval o X.env)
   let iv <-holding [v,ov] (eval i X.env)
   standAt pos
   holding [v,ov,iv] (setItem ov iv v)
   release [v,ov,iv] []):=by intro _;rfl):PG X (.Subscript o i pos) (akZ to ti t):=by
 intro p_ s σ H v u Q I r h;rw[ha];refine aq (lE (aU (ho p_ s σ H _ I h) λov s1 ⟨x,H1,I1,r1,q1⟩=>?_));refine aq (lE (aU (hi p_ s1 σ H1 _ I1 q1) λiv s2 ⟨y,H2,I2,r2,q2⟩=>?_));refine aq (zf (aq (lE (aU (hs p_ s2 σ H2 x y v ov iv u _ I2 r1 r2 r q2) λ_ s3 ⟨H3,I3,q3⟩=>?_))));exact wpAny_release ⟨σ,H3,I3,q3⟩
abbrev M7(te:TE)(g:TG):TS:=λD σ H=>te σ H λx H1=>g x σ H1 D.nx
theorem zX(he:PE X e te)(hg:PG X tg g)(hs:swapsWithSole [tg] e pos.line X.env=pure false:=by rfl)(hw:swappedStores [tg] e X.env=pure none:=by rfl)
  (h1:(Bv [tg] X.env).map (·.2)=[assign tg X.env]:=by rfl):PS X (.Assign [tg] e pos) (M7 te g):=by
 intro p_ s σ H D I h;refine wpAny_Assign_stores (aU (he p_ s σ H _ I h) λv s1 ⟨x,H1,I1,r1,q1⟩=>?_) hs hw;rw[h1];exact aU (hg p_ s1 σ H1 x v _ I1 r1 q1) λ_ s2 q=>q
theorem cU{i:Nat}(hN:X.N.Nodup)(hi:X.N[i]?=a_ x)(hx:Loc X.env.scope x)(he:PE X e te)(hs:By e (a_ (.Name x pos')) pos.line X.env=pure false:=by rfl)(hf:X.fn x=c_\/X.env.scope.names.lookup x=a_ .local:=by first | exact .inl rfl | exact .inr rfl | assumption) :
  PS X (.Assign [.Name x pos'] e pos) (M7 te (kg i)):=by
 intro p_ s σ H D I h;refine wpAny_Assign_Name (aU (he p_ s σ H _ I h) λv s1 ⟨y,H1,I1,r1,q1⟩=>?_) hs;exact JL I1 hN hi hx r1 (λs2 I2=>⟨_,H1,I2,q1⟩) hf
def aiH(to ti te:TE)(F4:V->V->Hp->VK->Prop)(G9:GJ)(F3:Ci):TS:=λD σ H=>to σ H λo H1=>ti σ H1 λi H2=>F4 o i H2 λx H3=>te σ H3 λy H4=>G9 x y H4 λz H5=>F3 o i z H5 λH6=>D.nx σ H6
def Xj(X:Cx)(t:V->V->Hp->VK->Prop):Prop:=
 ∀(p_:List (e_×Obj)) (s:g_) (σ:St) (H:Hp) (o i:V) (ov iv:f_) (Q:VK),Inv X p_ σ H s->RelV o ov->RelV i iv->t o i H Q->
  wpAny (model X.prog X.w) X.A (getItem ov iv) (EP X p_ σ Q) X.xe s
theorem afK{F4:V->V->Hp->VK->Prop}{G9:GJ}{F3:Ci}{op:Operator}(ho:PE X o to)(hi:PE X i ti)(hg:Xj X F4)(he:PE X e te)(hp:Ym X op G9)(hs:Nz X F3)
  (ha:∀ov iv new,augStore i ov iv new=(do holding [new,ov,iv] (setItem ov iv new);release [new,ov,iv] [];pure .next):=by intros;rfl):PS X (.AugAssign (.Subscript o i Cp) op e pos) (aiH to ti te F4 G9 F3):=by
 intro p_ s σ H D I h;refine wpAny_AugAssign_SubscriptAny (aU (ho p_ s σ H _ I h) λov s1 ⟨x1,H1,I1,r1,q1⟩=>?_) ha;refine aU (hi p_ s1 σ H1 _ I1 q1) λiv s2 ⟨x2,H2,I2,r2,q2⟩=>?_;refine aU (hg p_ s2 σ H2 x1 x2 ov iv _ I2 r1 r2 q2) λold s3 ⟨x3,H3,I3,r3,q3⟩=>?_;refine aU (he p_ s3 σ H3 _ I3 q3) λv s4 ⟨x4,H4,I4,r4,q4⟩=>?_;refine aU (hp p_ s4 σ H4 x3 x4 old v _ I4 r3 r4 q4) λnew s5 ⟨x5,H5,I5,r5,q5⟩=>?_;exact aU (hs p_ s5 σ H5 x1 x2 x5 ov iv new _ I5 r1 r2 r5 q5) λ_ s6 ⟨H6,I6,q6⟩=>⟨σ,H6,I6,q6⟩
def ipI(f:Int->Int->Int):GJ:=λx y H Q=>∃i j,x=.int i/\y=.int j/\Q (.int (f i j)) H
theorem ahE:Ym X .Add (ipI λi j=>i+j):=by
 intro p_ s σ H x y v u Q I r1 r2 h;obtain⟨i,j,e1,e2,q⟩:=h;subst e1;subst e2;obtain⟨t,rfl⟩:=r1;obtain⟨t',rfl⟩:=r2;exact iadd_int ⟨.int _,H,I.tok _,⟨_,rfl⟩,q⟩
end
section
variable{X:Cx}{pos:Pos}
def agH(c:TT)(tb:TS):TS:=λD σ H=>∃W:Nat->St->Hp->Prop,(∃m,W m σ H)/\∀m σ H,W m σ H->
 c σ H λb H1=>if b=c_ then ∃N:St->Hp->Prop,(∀σ' H',N σ' H'->∃m',m'<m/\W m' σ' H')/\tb { D with nx:=N,ct:=N,bk:=D.nx } σ H1 else D.nx σ H1
theorem ad3{body:List Stmt}(hp:gX (model X.prog X.w) X.A X.env X.xe)(hc:PT X c tc)(hb:fJ X body tb):PS X (.While c body [] pos) (agH tc tb):=by
 intro p_ s σ H D I h;obtain⟨W,⟨m0,w0⟩,turn⟩:=h;refine wpAny_While (codeAny_whileLoop (λn s'=>∃σ' H',Inv X p_ σ' H' s'/\W n σ' H') ?_ m0 ⟨σ,H,I,w0⟩);rintro n s1 ⟨σ1,H1,I1,w1⟩;refine y9 hp (aU (hc p_ s1 σ1 H1 _ I1 (turn n σ1 H1 w1)) λb s2 ⟨H2,I2,q2⟩=>?_);cases b with
 | true=>
  obtain⟨N,hN,q2⟩:=q2;rw[if_pos rfl];refine y9 hp (aU (hb p_ s2 σ1 H2 _ I2 q2) λf s3 q3=>?_);cases f with
  | next=>
   obtain⟨σ3,H3,I3,n3⟩:=q3;obtain⟨m',hm,w3⟩:=hN σ3 H3 n3;exact⟨m',hm,σ3,H3,I3,w3⟩
  | cont=>
   obtain⟨σ3,H3,I3,n3⟩:=q3;obtain⟨m',hm,w3⟩:=hN σ3 H3 n3;exact⟨m',hm,σ3,H3,I3,w3⟩
  | brk=>exact q3
  | ret v=>exact q3
 | false=>
  rw[if_neg eI];exact Bb ⟨σ1,H2,I2,q2⟩
end
structure It where
 go:Nat->Hp->Prop
 wI:Nat->Hp->V->Hp->Prop
 stop:Nat->Hp->Prop
def gq(X:Cx)(p_:List (e_×Obj))(H:Hp)(b:e_):Prop:=
 H b=b_/\b≠X.env.locals/\b∉X.fs/\(b∈X.ex\/X.s₀.heap.objs.size<=b)/\(∀x c,X.env.cells.lookup x=a_ c->c≠b)/\∀p∈X.pn++p_,p.1≠b
theorem Inv.iz{X:Cx}(I:Inv X p_ σ H s)(hb:s.heap.objs.size<=b)(hn:H' b=b_):gq X p_ H' b:=by
 refine⟨hn,vx (gx I.lt hb),I.W7 hb,.inr (c7 I.sz hb),λx c e z=>?_,λp hp z=>?_⟩
 ·obtain⟨v,q⟩:=I.cell x c e;exact absurd (gx q.lt (by rw[z];exact hb)) (jS _)
 ·exact absurd (gx (cx (I.pin p hp).1) (by rw[z];exact hb)) (jS _)
structure Turn(P:l_)(w:k_)(K:u_)(tg:Expr)(J:It)(fp:List e_)(it:e_)(tn:Nat->j_->Prop):Prop where
 mem:it∈fp
 obj:∀i h,tn i h->∀b∈fp,∃o,h.get? b=a_ o/\∀v,o.data≠.cell v
 keep:∀i h h',tn i h->(∀b∈fp,∀o,h.get? b=a_ o->h'.get? b=a_ o)->tn i h'
 item:∀(X:Cx),X.prog=P->X.w=w->X.K=K->X.calm=c_->∀(i:Nat) (p_:List (e_×Obj)) (s:g_) (σ:St) (H:Hp) (E:f_->g_->Prop),Inv X p_ σ H s->(∀b∈fp,gq X p_ H b)->tn i s.heap->J.go i H->
  wpAny (model P w) X.A (pyNext (.ref it)) (λr s1=>∃u,r=a_ u/\
   wpAny (model P w) X.A (Iy tg (.ref it) u) (λ_ s2=>∃x H',Inv X p_ σ H' s2/\RelV x u/\J.wI i H x H'/\tn (i+1) s2.heap/\∀b∈fp,H' b=b_) E s1) E s
 done:∀(X:Cx),X.prog=P->X.w=w->X.K=K->X.calm=c_->∀(i:Nat) (p_:List (e_×Obj)) (s:g_) (σ:St) (H:Hp) (E:f_->g_->Prop),Inv X p_ σ H s->(∀b∈fp,gq X p_ H b)->tn i s.heap->J.stop i H->
  wpAny (model P w) X.A (pyNext (.ref it)) (λr s1=>r=b_/\Inv X p_ σ H s1) E s
 self:∀(A:h_) (i:Nat) (s:g_) (Q:f_->g_->Prop) (E:f_->g_->Prop),tn i s.heap->Q (.ref it) s->wpAny (model P w) A (pyIter (.ref it)) Q E s
abbrev TI:=St->Hp->(It->Hp->Prop)->Prop
def Yn(X:Cx)(p_:List (e_×Obj))(σ:St)(tg:Expr)(R:It->Hp->Prop)(Hq:f_)(s2:g_):Prop:=
 ∃(it:e_) (fp:List e_) (tn:Nat->j_->Prop) (J:It) (H':Hp),Hq=.ref it/\Inv X p_ σ H' s2/\Turn X.prog X.w X.K tg J fp it tn/\tn 0 s2.heap/\(∀b∈fp,gq X p_ H' b)/\R J H'
def PI(X:Cx)(tg iter:Expr)(wi:TI):Prop:=
 ∀(p_:List (e_×Obj)) (s:g_) (σ:St) (H:Hp) (R:It->Hp->Prop),Inv X p_ σ H s->wi σ H R->
  wpAny (model X.prog X.w) X.A (eval iter X.env) (λv s1=>wpAny (model X.prog X.w) X.A (pyIter v) (Yn X p_ σ tg R) X.xe s1) X.xe s
theorem Mx{M:Model}{n:String}{vs:Array f_}{Q:Unit->g_->Prop}(ho:s.heap.get? it=a_ o)(hc:o.cls=.type n)(hd:o.data=.fields vs)
  (hn:["enumerate","zip","dict_itemiterator","dict_reverseitemiterator","odict_iterator","itertools.zip_longest","itertools.pairwise"].contains n=d_) (hQ:Q () s):wpAny M A (Iy tg (.ref it) u) Q E s:=by
 unfold Iy
 cases tg <;> first
  | exact aV hQ
  | (cases u <;> first
    | exact aV hQ
    | (refine aq (wpAny_load ho ?_);rw[hc,hd];show wpAny M A (if (["enumerate","zip","dict_itemiterator","dict_reverseitemiterator","odict_iterator","itertools.zip_longest","itertools.pairwise"].contains n&&vs[0]? == a_ (rawInt _))=c_ then _ else _) Q E s;rw[if_neg (by intro h;rw[hn,DQ]at h;cases h)];exact aV hQ))
def CB(K:u_)(a:e_):It:=
 ⟨λi H=>∃xs x,av K H a xs/\xs[i]?=a_ x,λi H x H'=>H'=H/\∀xs,av K H a xs->xs[i]?=a_ x,λi H=>∃xs,av K H a xs/\xs.length<=i⟩
def Yr(K:u_)(a:e_):It:=
 ⟨λi H=>∃xs x,aJ K H a xs/\xs[i]?=a_ x,λi H x H'=>H'=H/\∀xs,aJ K H a xs->xs[i]?=a_ x,λi H=>∃xs,aJ K H a xs/\xs.length<=i⟩
def yt(lo:Int)(n:Nat):It:=⟨λi _=>i<n,λi H x H'=>H'=H/\x=.int (lo+i),λi _=>n<=i⟩
theorem acz{P:l_}{w:k_}{K:u_}(a it:e_):Turn P w K tg (CB K a) [it] it (λi h=>h.IsListIter it a i) where
 mem:=by simp
 obj:=λi h st b hb=>by
  have e:b=it:=by simpa using hb
  subst e;obtain⟨o,e,c,d⟩:=st;exact⟨o,e,λv z=>by rw[d]at z;cases z⟩
 keep:=λi h h' st k=>st.at λo e=>k it (by simp) o e
 item:=by
  intro X hP hw hK hc i p_ s σ H E I hf st hg;subst hP hw hK;obtain⟨xs,x,hq,hx⟩:=hg;obtain⟨ar,rv,p,hz⟩:=I.list hq;obtain⟨u,hu,ru⟩:=rv.get hx;obtain⟨f0,f1,f2,f3,f4,f5⟩:=hf it (by simp);refine wpAny_pyNext_list_item st p.isList (x:=u) (by simpa using hu) λh' aD sb=>?_;have I1:Inv X p_ σ H { s with heap:=h' }:=I.turned (t':=s.toks) (λb o hb e=>(sb.2 b hb).trans e) f0 f1 f3 f4 f5;obtain⟨o,e,c,d⟩:=id aD;exact⟨u,rfl,Mx (s:={ s with heap:=h' }) e c d qc ⟨x,H,I1,ru,⟨rfl,λys hy=>by rw[I.Tr hy hq];exact hx⟩,aD,λb hb=>(hf b hb).1⟩⟩
 done:=by
  intro X hP hw hK hc i p_ s σ H E I hf st hg;subst hP hw hK;obtain⟨xs,hq,hx⟩:=hg;obtain⟨ar,rv,p,hz⟩:=I.list hq;obtain⟨f0,f1,f2,f3,f4,f5⟩:=hf it (by simp);have hl:=rv.length;exact wpAny_pyNext_list_end (I.ok.hd hc) st p.isList (by simp;omega) λh' eb=>⟨rfl,I.turned (t':=s.toks) (λb o hb e=>eb b o hb e) f0 f1 f3 f4 f5⟩
 self:=λ_ _ _ _ _ st h=>wpAny_pyIter_listiter st h
theorem abU{P:l_}{w:k_}{K:u_}(a it:e_):Turn P w K tg (Yr K a) [it] it (λi h=>h.IsTupleIter it a i) where
 mem:=by simp
 obj:=λi h st b hb=>by
  have e:b=it:=by simpa using hb
  subst e;obtain⟨o,e,c,d⟩:=st;exact⟨o,e,λv z=>by rw[d]at z;cases z⟩
 keep:=λi h h' st k=>st.at λo e=>k it (by simp) o e
 item:=by
  intro X hP hw hK hc i p_ s σ H E I hf st hg;subst hP hw hK;obtain⟨xs,x,hq,hx⟩:=hg;obtain⟨ar,rv,p,hz⟩:=I.tuple hq;obtain⟨u,hu,ru⟩:=rv.get hx;obtain⟨f0,f1,f2,f3,f4,f5⟩:=hf it (by simp);refine wpAny_pyNext_tuple_item st (show s.heap.IsTuple a ar.toArray from p) (x:=u) (by simpa using hu) λh' aD sb=>?_;have I1:Inv X p_ σ H { s with heap:=h' }:=I.turned (t':=s.toks) (λb o hb e=>(sb.2 b hb).trans e) f0 f1 f3 f4 f5;obtain⟨o,e,c,d⟩:=id aD;exact⟨u,rfl,Mx (s:={ s with heap:=h' }) e c d qc ⟨x,H,I1,ru,⟨rfl,λys hy=>by rw[I.RQ hy hq];exact hx⟩,aD,λb hb=>(hf b hb).1⟩⟩
 done:=by
  intro X hP hw hK hc i p_ s σ H E I hf st hg;subst hP hw hK;obtain⟨xs,hq,hx⟩:=hg;obtain⟨ar,rv,p,hz⟩:=I.tuple hq;obtain⟨f0,f1,f2,f3,f4,f5⟩:=hf it (by simp);have hl:=rv.length;exact wpAny_pyNext_tuple_end (I.ok.hd hc) st (show s.heap.IsTuple a ar.toArray from p) (by simp;omega) λh' eb=>⟨rfl,I.turned (t':=s.toks) (λb o hb e=>eb b o hb e) f0 f1 f3 f4 f5⟩
 self:=λ_ _ _ _ _ st h=>wpAny_pyIter_tupleiter st h
theorem abV{P:l_}{w:k_}{K:u_}(it:e_)(lo:Int)(n:Nat):Turn P w K tg (yt lo n) [it] it (λi h=>IsRangeIter h it (lo+(i:Nat)*1) ((n:Int)-(i:Nat)) 1) where
 mem:=by simp
 obj:=λi h st b hb=>by
  have e:b=it:=by simpa using hb
  subst e
  exact⟨_,st,λv z=>by
   have z':Data.fields _=Data.cell v:=z;cases z'⟩
 keep:=λi h h' st k=>k it (by simp) _ st
 item:=by
  intro X hP hw hK hc i p_ s σ H E I hf st hg;subst hP hw hK;obtain⟨f0,f1,f2,f3,f4,f5⟩:=hf it (by simp);have W:=Walks.range (prog:=X.prog) (w:=X.w) (I.ok.hd hc) it lo 1 n;refine W.item i s _ _ hg st λv h' tk hv aD kk=>?_;obtain⟨t,rfl⟩:=hv;have I1:Inv X p_ σ H { s with heap:=h',toks:=tk }:=I.turned (λb o hb e=>kk b o (by simpa using hb) e) f0 f1 f3 f4 f5;refine⟨_,rfl,Mx (s:={ s with heap:=h',toks:=tk }) (n:="range_iterator") aD rfl rfl qc ⟨.int (lo+i),H,I1,⟨t,?_⟩,⟨rfl,rfl⟩,aD,λb hb=>(hf b hb).1⟩⟩;rw[Int.mul_one]
 done:=by
  intro X hP hw hK hc i p_ s σ H E I hf st hg;subst hP hw hK;obtain⟨f0,f1,f2,f3,f4,f5⟩:=hf it (by simp);exact wpAny_pyNext_range_end (I.ok.hd hc) st (by have:n<=i:=hg;omega) λh' eb=>⟨rfl,I.turned (t':=s.toks) (λb o hb e=>eb b o hb e) f0 f1 f3 f4 f5⟩
 self:=λ_ _ _ _ _ st h=>wpAny_pyIter_rangeiter st h
section
variable{X:Cx}{tg:Expr}
def aje(K:u_)(tl:TE):TI:=λσ H R=>tl σ H λx H1=>∃a,x=.ref a/\(∃xs,av K H1 a xs)/\R (CB K a) H1
def Xa(K:u_)(tl:TE):TI:=λσ H R=>tl σ H λx H1=>∃a,x=.ref a/\(∃xs,aJ K H1 a xs)/\R (Yr K a) H1
theorem zO(hl:PE X l tl):PI X tg l (aje X.K tl):=by
 intro p_ s σ H R I h;refine aU (hl p_ s σ H _ I h) λv s1 ⟨x,H1,I1,r1,q1⟩=>?_;obtain⟨a,e,⟨xs,hq⟩,q⟩:=q1;subst e;cases r1;obtain⟨ar,rv,p,hz⟩:=I1.list hq;refine Ig p.isList ?_;refine⟨s1.heap.objs.size,[s1.heap.objs.size],_,_,H1,rfl,I1.kept (t':=s1.toks) λb o e=>bo _ e,acz a _,⟨_,gw _ rfl,rfl,rfl⟩,λb hb=>?_,q⟩;have e:b=s1.heap.objs.size:=by simpa using hb
 subst e;exact I1.iz (aI _) (I1.aH.fresh (aI _))
theorem vQ(hl:PE X l tl):PI X tg l (Xa X.K tl):=by
 intro p_ s σ H R I h;refine aU (hl p_ s σ H _ I h) λv s1 ⟨x,H1,I1,r1,q1⟩=>?_;obtain⟨a,e,⟨xs,hq⟩,q⟩:=q1;subst e;cases r1;obtain⟨ar,rv,p,hz⟩:=I1.tuple hq;refine wpAny_pyIter_tuple (show s1.heap.IsTuple a ar.toArray from p) ?_;refine⟨s1.heap.objs.size,[s1.heap.objs.size],_,_,H1,rfl,I1.kept (t':=s1.toks) λb o e=>bo _ e,abU a _,⟨_,gw _ rfl,rfl,rfl⟩,λb hb=>?_,q⟩;have e:b=s1.heap.objs.size:=by simpa using hb
 subst e;exact I1.iz (aI _) (I1.aH.fresh (aI _))
theorem Tg{R:It->Hp->Prop}{lo hi:Int}{t u v:Tok}{tk:Nat}(I:Inv X p_ σ H s)(h1:-(2^62)<=lo)(h2:lo<2^62)(h3:-(2^62)<=hi)(h4:hi<2^62)
  (q:R (yt lo (hi-lo).toNat) H):wpAny (model X.prog X.w) X.A (pyIter (.ref s.heap.objs.size)) (Yn X p_ σ tg R) E { s with heap:=s.heap.push { cls:=.type "range",data:=.fields #[.int lo t,.int hi u,.int 1 v] },toks:=tk }:=by
 refine wpAny_pyIter_range (IsRange.new ..) (small_one h1 h2 h3 h4) ?_;have I1:Inv X p_ σ H { s with heap:=s.heap.push { cls:=.type "range",data:=.fields #[.int lo t,.int hi u,.int 1 v] },toks:=tk }:=I.kept λb o e=>bo _ e;refine⟨(s.heap.push { cls:=.type "range",data:=.fields #[.int lo t,.int hi u,.int 1 v] }).objs.size,[(s.heap.push { cls:=.type "range",data:=.fields #[.int lo t,.int hi u,.int 1 v] }).objs.size],_,_,H,rfl,I1.kept (t':=tk) λb o e=>bo _ e,abV _ lo (hi-lo).toNat,?_,λb hb=>?_,q⟩
 ·have e1:lo+((0:Nat):Int)*1=lo:=by simp
  have e2:(((hi-lo).toNat:Nat):Int)-((0:Nat):Int)=Builtin.Range.rangeSize lo hi 1:=by rw[rangeSize_one];split <;> omega
  show IsRangeIter _ _ (lo+((0:Nat):Int)*1) ((((hi-lo).toNat:Nat):Int)-((0:Nat):Int)) 1;rw[e1,e2];exact gw _ rfl
 ·have e:b=(s.heap.push { cls:=.type "range",data:=.fields #[.int lo t,.int hi u,.int 1 v] }).objs.size:=by simpa using hb
  subst e;exact I1.iz (aI _) (I1.aH.fresh (aI _))
def ajd(ta:TA):TI:=λσ H R=>ta σ H λvs H1=>∃j:Int,vs=[.int j]/\-(2^62)<=j/\j<2^62/\R (yt 0 j.toNat) H1
def ajc(ta:TA):TI:=λσ H R=>ta σ H λvs H1=>∃i j:Int,vs=[.int i,.int j]/\(-(2^62)<=i/\i<2^62/\-(2^62)<=j/\j<2^62)/\R (yt i (j-i).toNat) H1
theorem kG(hg:Gl X "range")(hm:X.mg "range" = b_)(ha:PA X [a] ta)(hs:cJ [a] X.env=[(d_,eval a X.env)]:=by rfl):PI X tg (.Call (.Name "range" p) [a] [] pos) (ajd ta):=by
 intro p_ s σ H R I h;refine Call_ (vU I hg hm boot_range (Dw (aU (ha pos p_ s σ H _ I h) λus s1 ⟨vs,H1,I1,r1,q1⟩=>?_) hs rfl));obtain⟨j,e,q1,q2,q⟩:=q1;subst e;cases r1 with
 | cons r rr=>
  cases rr;obtain⟨t,rfl⟩:=r;exact call_range_1 (Tg I1 om om q1 q2 (by simpa using q))
theorem acL(hg:Gl X "range")(hm:X.mg "range" = b_)(ha:PA X [a,b] ta)(hs:cJ [a,b] X.env=[(d_,eval a X.env),(d_,eval b X.env)]:=by rfl)(rE:cJ [b] X.env=[(d_,eval b X.env)]:=by rfl) :
  PI X tg (.Call (.Name "range" p) [a,b] [] pos) (ajc ta):=by
 intro p_ s σ H R I h;refine Call_ (vU I hg hm boot_range (Dw (aU (ha pos p_ s σ H _ I h) λus s1 ⟨vs,H1,I1,r1,q1⟩=>?_) (by rw[hs,rE]) (by rw[rE];rfl)));obtain⟨i,j,e,⟨q1,q2,q3,q4⟩,q⟩:=q1;subst e;cases r1 with
 | cons r rr=>
  cases rr with
  | cons r' rr=>
   cases rr;obtain⟨t,rfl⟩:=r;obtain⟨t',rfl⟩:=r';exact call_range_2 (Tg I1 q1 q2 q3 q4 q)
def akF(wi:TI)(g:TG)(tb:TS):TS:=λD σ H=>wi σ H λJ H1=>∃W:Nat->Nat->St->Hp->Prop,(∃m,W 0 m σ H1)/\∀i m σ H,W i m σ H->
 (J.stop i H/\D.nx σ H)\/(J.go i H/\∃N:St->Hp->Prop,(∀σ' H',N σ' H'->∃m',m'<m/\W (i+1) m' σ' H')/\∀x H',J.wI i H x H'->g x σ H' λσ2 H2=>tb { D with nx:=N,ct:=N,bk:=D.nx } σ2 H2)
def BQ(fp:List e_)(h:j_):List (e_×Obj):=fp.filterMap λb=>(h.get? b).map λo=>(b,o)
theorem zw{fp:List e_}(hb:b∈fp)(e:h.get? b=a_ o):(b,o)∈BQ fp h:=tP.mpr ⟨b,hb,by rw[e];rfl⟩
theorem Se{fp:List e_}{p:e_×Obj}(hp:p∈BQ fp h):p.1∈fp/\h.get? p.1=a_ p.2:=by
 obtain⟨b,hb,e⟩:=tP.mp hp;cases q:h.get? b with
 | none=>rw[q]at e;cases e
 | some o=>
  rw[q]at e;have e':(b,o)=p:=dr e;subst e';exact⟨hb,q⟩
theorem Inv.pinned{fp:List e_}(I:Inv X p_ σ H s)(hf:∀b∈fp,gq X p_ H b)(ho:∀b∈fp,∃o,s.heap.get? b=a_ o/\∀v,o.data≠.cell v):Inv X (p_++BQ fp s.heap) σ H s:=
 I.vH λp hp=>(dD.mp hp).elim (λz=>I.pin p (f6 _ z)) λz=>by
  obtain⟨hb,e⟩:=Se z;obtain⟨f0,f1,f2,_⟩:=hf p.1 hb;obtain⟨o,e',d⟩:=ho p.1 hb;rw[e]at e';cases e';exact⟨e,f0,f1,f2,d⟩
theorem Inv.Ei(I:Inv X (p_++pl) σ H s):Inv X p_ σ H s:=I.vH λp hp=>I.pin p (f6 _ (nj _ hp))
theorem jY{body:List Stmt}{wi:TI}(hp:gX (model X.prog X.w) X.A X.env X.xe)(hc:X.calm=c_)(hi:PI X tg iter wi)(hg:PG X tg g)(hb:fJ X body tb)
  (hs:∀x,Qn iter X.env x=pure x:=by intro _;rfl):PS X (.For tg iter body [] pos) (akF wi g tb):=by
 intro p_ s σ H D I h;refine wpAny_For (aU (hi p_ s σ H _ I h) λv s1 h1=>aU h1 λHq s2 h2=>?_) hs;obtain⟨it,fp,tn,J,H2,e,I2,T,eD,f2,W,⟨m0,w0⟩,turn⟩:=h2;subst e;have NC:∀{H':Hp},(∀b∈fp,H' b=b_)->∀b∈fp,gq X p_ H' b:=λhn b hb=>⟨hn b hb,(f2 b hb).2⟩;refine codeAny_forLoop_any (λn s'=>∃i σ' H',Inv X p_ σ' H' s'/\tn i s'.heap/\(∀b∈fp,H' b=b_)/\W i n σ' H') ?_ m0 ⟨0,σ,H2,I2,eD,λb hb=>(f2 b hb).1,w0⟩;rintro n s3 ⟨i,σ3,H3,I3,ja,Dl,w3⟩;rcases turn i n σ3 H3 w3 with ⟨stop,qn⟩ | ⟨go,N,hN,step⟩
 ·refine y9 hp (aU (T.done X rfl rfl rfl hc i p_ s3 σ3 H3 X.xe I3 (NC Dl) ja stop) λr s4 ⟨hr,I4⟩=>?_);subst hr;exact Bb ⟨σ3,H3,I4,qn⟩
 ·refine y9 hp (aU (T.item X rfl rfl rfl hc i p_ s3 σ3 H3 X.xe I3 (NC Dl) ja go) λr s4 ⟨u,hr,h4⟩=>?_);subst hr;refine y9 hp (aU h4 λ_ s5 ⟨x,H5,I5,r5,y5,cQ,Pp⟩=>?_);have PF:=I5.pinned (NC Pp) (T.obj _ _ cQ);refine y9 hp (aU (hg _ s5 σ3 H5 x u _ PF r5 (step x H5 y5)) λ_ s6 ⟨σ6,H6,I6,q6⟩=>?_);refine y9 hp (aU (hb _ s6 σ6 H6 _ I6 q6) λf s7 q7=>?_)
  have again:∀{σ7:St} {H7:Hp},Inv X (p_++BQ fp s5.heap) σ7 H7 s7->N σ7 H7->∃m,m<n/\∃i σ' H',Inv X p_ σ' H' s7/\tn i s7.heap/\(∀b∈fp,H' b=b_)/\W i m σ' H':=λ{σ7 H7} I7 n7=>by
   obtain⟨m',hm,w7⟩:=hN σ7 H7 n7;refine⟨m',hm,i+1,σ7,H7,I7.Ei,T.keep _ _ _ cQ λb hb o e=>(I7.pin (b,o) (f6 _ (f6 _ (zw hb e)))).1,λb hb=>?_,w7⟩;obtain⟨o,e,d⟩:=T.obj _ _ cQ b hb;exact(I7.pin (b,o) (f6 _ (f6 _ (zw hb e)))).2.1
  cases f with
  | next=>obtain⟨σ7,H7,I7,n7⟩:=q7;exact again I7 n7
  | cont=>obtain⟨σ7,H7,I7,n7⟩:=q7;exact again I7 n7
  | brk=>obtain⟨σ7,H7,I7,q7⟩:=q7;exact⟨σ7,H7,I7.Ei,q7⟩
  | ret v=>obtain⟨x7,σ7,H7,I7,r7,q7⟩:=q7;exact⟨x7,σ7,H7,I7.Ei,r7,q7⟩
end
theorem aeU{K:u_}{a:e_}{xs:List V}{g:TG}{tb:TS}{D:Ends}{σ:St}{H:Hp}(Pv:Nat->St->Hp->Prop)(h0:Pv 0 σ H)(hl:∀i σ H,i<=xs.length->Pv i σ H->av K H a xs)
  (hs:∀i x σ H,xs[i]?=a_ x->Pv i σ H->g x σ H λσ2 H2=>tb { D with nx:=Pv (i+1),ct:=Pv (i+1),bk:=D.nx } σ2 H2) (hd:∀σ H,Pv xs.length σ H->D.nx σ H) :
  ∃W:Nat->Nat->St->Hp->Prop,(∃m,W 0 m σ H)/\∀i m σ H,W i m σ H->
   ((CB K a).stop i H/\D.nx σ H)\/((CB K a).go i H/\∃N:St->Hp->Prop,(∀σ' H',N σ' H'->∃m',m'<m/\W (i+1) m' σ' H')/\∀x H',(CB K a).wI i H x H'->g x σ H' λσ2 H2=>tb { D with nx:=N,ct:=N,bk:=D.nx } σ2 H2):=by
 refine⟨λi m σ H=>m=xs.length-i/\i<=xs.length/\Pv i σ H,⟨xs.length,by simp,bg _,h0⟩,?_⟩;rintro i m σ H ⟨rfl,hi,p⟩;have q:=hl i σ H hi p
 by_cases dJ:i<xs.length
 ·refine .inr ⟨⟨xs,xs[i],q,by simp[dJ]⟩,Pv (i+1),λσ' H' p'=>⟨xs.length-(i+1),om,rfl,dJ,p'⟩,λx H' y=>?_⟩;obtain⟨e,y⟩:=y;subst e;exact hs i x σ _ (y xs q) p
 ·have e:i=xs.length:=om;subst e;exact .inl ⟨⟨xs,q,aI _⟩,hd σ H p⟩
theorem pJ{lo:Int}{n:Nat}{g:TG}{tb:TS}{D:Ends}{σ:St}{H:Hp}(Pv:Nat->St->Hp->Prop)(h0:Pv 0 σ H)
  (hs:∀i σ H,i<n->Pv i σ H->g (.int (lo+i)) σ H λσ2 H2=>tb { D with nx:=Pv (i+1),ct:=Pv (i+1),bk:=D.nx } σ2 H2) (hd:∀σ H,Pv n σ H->D.nx σ H) :
  ∃W:Nat->Nat->St->Hp->Prop,(∃m,W 0 m σ H)/\∀i m σ H,W i m σ H->
   ((yt lo n).stop i H/\D.nx σ H)\/((yt lo n).go i H/\∃N:St->Hp->Prop,(∀σ' H',N σ' H'->∃m',m'<m/\W (i+1) m' σ' H')/\∀x H',(yt lo n).wI i H x H'->g x σ H' λσ2 H2=>tb { D with nx:=N,ct:=N,bk:=D.nx } σ2 H2):=by
 refine⟨λi m σ H=>m=n-i/\i<=n/\Pv i σ H,⟨n,by simp,bg _,h0⟩,?_⟩;rintro i m σ H ⟨rfl,hi,p⟩
 by_cases dJ:i<n
 ·refine .inr ⟨dJ,Pv (i+1),λσ' H' p'=>⟨n-(i+1),om,rfl,dJ,p'⟩,λx H' y=>?_⟩;obtain⟨e,y⟩:=y;subst e y;exact hs i σ _ dJ p
 ·have e:i=n:=om;subst e;exact .inl ⟨aI _,hd σ H p⟩
abbrev R2:=V->V->Hp->VK->Prop
def eZ(X:Cx)(f:f_->f_->Sem f_)(r:R2):Prop:=
 ∀(p_:List (e_×Obj)) (s:g_) (σ:St) (H:Hp) (x y:V) (v u:f_) (Q:VK),Inv X p_ σ H s->RelV x v->RelV y u->r x y H Q->
  wpAny (model X.prog X.w) X.A (f v u) (EP X p_ σ Q) X.xe s
def Oa(X:Cx)(f:f_->Sem f_)(r:V->Hp->VK->Prop):Prop:=
 ∀(p_:List (e_×Obj)) (s:g_) (σ:St) (H:Hp) (x:V) (v:f_) (Q:VK),Inv X p_ σ H s->RelV x v->r x H Q->
  wpAny (model X.prog X.w) X.A (f v) (EP X p_ σ Q) X.xe s
def lK(X:Cx)(f:f_)(r:List V->Hp->VK->Prop):Prop:=
 ∀(p_:List (e_×Obj)) (s:g_) (σ:St) (H:Hp) (xs:List V) (us:List f_) (Q:VK),Inv X p_ σ H s->Vals xs us->r xs H Q->
  wpAny (model X.prog X.w) X.A (call f us) (EP X p_ σ Q) X.xe s
abbrev yj(r:R2)(ta tb:TE):TE:=λσ H Q=>ta σ H λx H1=>tb σ H1 λy H2=>r x y H2 Q
abbrev tUn(r:V->Hp->VK->Prop)(ta:TE):TE:=λσ H Q=>ta σ H λx H1=>r x H1 Q
def rI(C:Int->Int->Prop)(g:Int->Int->V):R2:=λx y H Q=>∃i j,x=.int i/\y=.int j/\C i j/\Q (g i j) H
def yl(g:Int->Int->V):R2:=λx y H Q=>∃i j,x=.int i/\y=.int j/\Q (g i j) H
def rU(g:Int->V):V->Hp->VK->Prop:=λx H Q=>∃i,x=.int i/\Q (g i) H
section
variable{X:Cx}{a b c:Expr}{ta tb tc:TE}{pos:Pos}
theorem Ny(ha:PE X a ta)(hb:PE X b tb){R:V->V->Hp->Prop}(I:Inv X p_ σ H s)
  (h:ta σ H λx H1=>tb σ H1 λy H2=>R x y H2) {f:f_->f_->Sem f_}
  (hf:∀v u s2 x y H2,Inv X p_ σ H2 s2->RelV x v->RelV y u->R x y H2->wpAny (model X.prog X.w) X.A (f v u) Q X.xe s2) :
  wpAny (model X.prog X.w) X.A (eval a X.env) (λv s₁=>wpAny (model X.prog X.w) X.A (eval b X.env) (λu s₂=>wpAny (model X.prog X.w) X.A (f v u) Q X.xe s₂) X.xe s₁) X.xe s:=by
 refine aU (ha p_ s σ H _ I h) λv s1 ⟨x,H1,I1,r1,q1⟩=>?_;refine aU (hb p_ s1 σ H1 _ I1 q1) λu s2 ⟨y,H2,I2,r2,q2⟩=>?_;exact hf v u s2 x y H2 I2 r1 r2 q2
theorem bh{op:Operator}{r:R2}(ho:eZ X (tZ op) r)(ha:PE X a ta)(hb:PE X b tb):PE X (.BinOp a op b pos) (yj r ta tb):=by
 intro p_ s σ H Q I h;exact wpAny_BinOp (Ny ha hb I h λv u s2 x y H2 I2 rx ry q=>ho p_ s2 σ H2 x y v u Q I2 rx ry q)
theorem B2{op:UnaryOp}{r:V->Hp->VK->Prop}(ho:Oa X (unaryOp op) r)(ha:PE X a ta):PE X (.UnaryOp op a pos) (tUn r ta):=by
 intro p_ s σ H Q I h;exact UnaryOp_ (aU (ha p_ s σ H _ I h) λv s1 ⟨x,H1,I1,r1,q1⟩=>ho p_ s1 σ H1 x v Q I1 r1 q1)
theorem Cs{f:f_->f_->Sem f_}{C:Int->Int->Prop}{g:Int->Int->Int}
  (rule:∀(i j:Int) (t u:Tok) (s:g_) (Q:f_->g_->Prop) (E:f_->g_->Prop),C i j->Q (.int (g i j) s.toks) { s with toks:=s.toks+1 }->wpAny (model X.prog X.w) X.A (f (.int i t) (.int j u)) Q E s) :
  eZ X f (rI C λi j=>.int (g i j)):=by
 intro p_ s σ H x y v u Q I rx ry h;obtain⟨i,j,rfl,rfl,hc,q⟩:=h;obtain⟨t,rfl⟩:=rx;obtain⟨t',rfl⟩:=ry;exact rule i j t t' s _ _ hc ⟨.int (g i j),H,I.tok _,⟨_,rfl⟩,q⟩
theorem WZ{f:f_->f_->Sem f_}{g:Int->Int->Int}
  (rule:∀(i j:Int) (t u:Tok) (s:g_) (Q:f_->g_->Prop) (E:f_->g_->Prop),Q (.int (g i j) s.toks) { s with toks:=s.toks+1 }->wpAny (model X.prog X.w) X.A (f (.int i t) (.int j u)) Q E s) :
  eZ X f (yl λi j=>.int (g i j)):=by
 intro p_ s σ H x y v u Q I rx ry h;obtain⟨i,j,rfl,rfl,q⟩:=h;obtain⟨t,rfl⟩:=rx;obtain⟨t',rfl⟩:=ry;exact rule i j t t' s _ _ ⟨.int (g i j),H,I.tok _,⟨_,rfl⟩,q⟩
theorem Nk{f:f_->f_->Sem f_}{g:Int->Int->Bool}
  (rule:∀(i j:Int) (t u:Tok) (s:g_) (Q:f_->g_->Prop) (E:f_->g_->Prop),Q (.bool (g i j)) s->wpAny (model X.prog X.w) X.A (f (.int i t) (.int j u)) Q E s) :
  eZ X f (yl λi j=>.bl (g i j)):=by
 intro p_ s σ H x y v u Q I rx ry h;obtain⟨i,j,rfl,rfl,q⟩:=h;obtain⟨t,rfl⟩:=rx;obtain⟨t',rfl⟩:=ry;exact rule i j t t' s _ _ ⟨.bl (g i j),H,I,rfl,q⟩
def ak8(i j:Int):Prop:=0<j/\j<1073741824
def ak7(i j:Int):Prop:=0<=j/\j<=1000000/\i.natAbs<2^64
def NB(i j:Int):Prop:=(-(2^64)<i/\i<2^64)\/(-(2^64)<j/\j<2^64)
theorem NB.ok{i j:Int}(h:NB i j):IntMulOk i j:=by
 rcases h with ⟨h1,h2⟩ | ⟨h1,h2⟩
 ·exact .of_left (intBits_le_64 h1 h2)
 ·exact .of_right (intBits_le_64 h1 h2)
theorem abT(k:Nat):(0:Int)<=2^k:=by
 rw[two_pow_cast];exact Qk _
theorem iX:eZ X (tZ .Add) (yl λi j=>.int (i+j)):=WZ λ_ _ _ _ _ _ _ q=>add_int q
theorem aha:eZ X (tZ .Sub) (yl λi j=>.int (i-j)):=WZ λ_ _ _ _ _ _ _ q=>sub_int q
theorem vS:eZ X (tZ .Mult) (rI NB λi j=>.int (i*j)):=Cs λ_ _ _ _ _ _ _ hc q=>mul_int q hc.ok
theorem qI:eZ X (tZ .FloorDiv) (rI ak8 λi j=>.int (i/j)):=Cs λi j _ _ _ _ _ hc q=>by
 have h1:(0:Int)<j:=hc.1;have h2:j<1073741824:=hc.2;exact floordiv_int om (by rw[aah i om];exact q) (.inl (PyProof.noPylong_small om))
theorem iI:eZ X (tZ .Mod) (rI (λ_ j=>0<j) λi j=>.int (i%j)):=Cs λi j _ _ _ _ _ hc q=>by
 have h1:(0:Int)<j:=hc;exact mod_int' om (by rw[Int.fmod_eq_emod_of_nonneg i om];exact q)
theorem Vu:eZ X (tZ .Pow) (rI ak7 λi j=>.int (i^j.toNat)):=Cs λ_ _ _ _ _ _ _ hc q=>pow_int_small hc.1 hc.2.1 hc.2.2 q
theorem ahb:eZ X (tZ .RShift) (rI (λ_ j=>0<=j) λi j=>.int (i/2^j.toNat)):=Cs λi j _ _ _ _ _ hc q=>
 rshift_int hc (by rw[aah i (abT _)];exact q)
theorem unI{f:f_->Sem f_}{g:Int->Int}
  (rule:∀(i:Int) (t:Tok) (s:g_) (Q:f_->g_->Prop) (E:f_->g_->Prop),Q (.int (g i) s.toks) { s with toks:=s.toks+1 }->wpAny (model X.prog X.w) X.A (f (.int i t)) Q E s) :
  Oa X f (rU λi=>.int (g i)):=by
 intro p_ s σ H x v Q I rx h;obtain⟨i,rfl,q⟩:=h;obtain⟨t,rfl⟩:=rx;exact rule i t s _ _ ⟨.int (g i),H,I.tok _,⟨_,rfl⟩,q⟩
theorem BM:Oa X (unaryOp .USub) (rU λi=>.int (-i)):=unI λ_ _ _ _ _ q=>neg_int q
end
def Nc:V->V->Bool
 | .aG,.aG=>c_ | .aG,.int _=>c_ | .int _,.aG=>c_ | .aG,.bl _=>c_ | .bl _,.aG=>c_ | .aG,.str _=>c_ | .str _,.aG=>c_
 | .int _,.int _=>c_ | .bl _,.bl _=>c_ | .str _,.str _=>c_ | .qg _,.qg _=>c_
 | .int _,.str _=>c_ | .str _,.int _=>c_ | .bl _,.str _=>c_ | .str _,.bl _=>c_
 | _,_=>d_
def X8:R2:=λx y H Q=>Nc x y=c_/\Q (.bl (decide (x=y))) H
def rNe:R2:=λx y H Q=>Nc x y=c_/\Q (.bl (!decide (x=y))) H
theorem xT{i j:Int}:decide (V.int i=V.int j)=(i == j):=by
 rw[IB];simp
theorem VV{i j:Bool}:decide (V.bl i=V.bl j)=(i == j):=by
 rw[IB];simp
theorem UW:decide (V.str i=V.str j)=(i == j):=by
 rw[IB];simp
theorem UX{i j:Array UInt8}:decide (V.qg i=V.qg j)=(i.toList == j.toList):=by
 rw[IB];cases i;cases j;simp
section
variable{X:Cx}{a b c:Expr}{ta tb tc:TE}{pos:Pos}
theorem eR{k k':Bool}(I:Inv X p_ σ H s)(q:Q (.bl k) H)(e:k=k'):EP X p_ σ Q (.bool k') s:=by
 subst e;exact⟨.bl k,H,I,rfl,q⟩
theorem eJ:eZ X (jx .Eq) X8:=by
 intro p_ s σ H x y v u Q I rx ry h;obtain⟨hs,q⟩:=h;cases x with
 | aG=>
  cases rx;cases y with
  | aG=>cases ry;exact PySem.EqNone.eq_none_none (eR I q (by simp))
  | bl j=>cases ry;exact PySem.EqNone.eq_none_bool (eR I q (by simp))
  | int j=>obtain⟨t',rfl⟩:=ry;exact PySem.EqNone.eq_none_int (eR I q (by simp))
  | str j=>obtain⟨t',rfl⟩:=ry;exact PySem.EqNone.eq_none_str (eR I q (by simp))
  | _=>exact absurd (show d_=c_ from hs) eI
 | bl i=>
  cases rx;cases y with
  | aG=>cases ry;exact PySem.EqNone.eq_bool_none (eR I q (by simp))
  | bl j=>cases ry;exact eq_bool (eR I q VV)
  | str j=>obtain⟨t',rfl⟩:=ry;exact PySem.EqMixed.eq_bool_str (eR I q (by simp))
  | _=>exact absurd (show d_=c_ from hs) eI
 | int i=>
  obtain⟨t,rfl⟩:=rx;cases y with
  | aG=>cases ry;exact PySem.EqNone.eq_int_none (eR I q (by simp))
  | int j=>obtain⟨t',rfl⟩:=ry;exact eq_int (eR I q xT)
  | str j=>obtain⟨t',rfl⟩:=ry;exact PySem.EqMixed.eq_int_str (eR I q (by simp))
  | _=>exact absurd (show d_=c_ from hs) eI
 | str i=>
  obtain⟨t,rfl⟩:=rx;cases y with
  | aG=>cases ry;exact PySem.EqNone.eq_str_none (eR I q (by simp))
  | bl j=>cases ry;exact PySem.EqMixed.eq_str_bool (eR I q (by simp))
  | int j=>obtain⟨t',rfl⟩:=ry;exact PySem.EqMixed.eq_str_int (eR I q (by simp))
  | str j=>obtain⟨t',rfl⟩:=ry;exact eq_str (eR I q UW)
  | _=>exact absurd (show d_=c_ from hs) eI
 | qg i=>
  obtain⟨t,rfl⟩:=rx;cases y with
  | qg j=>obtain⟨t',rfl⟩:=ry;exact W.eq_bytes (eR I q UX)
  | _=>exact absurd (show d_=c_ from hs) eI
 | _=>cases y <;> exact absurd (show d_=c_ from hs) eI
theorem B3:eZ X (jx .NotEq) rNe:=by
 intro p_ s σ H x y v u Q I rx ry h;obtain⟨hs,q⟩:=h;cases x with
 | aG=>
  cases rx;cases y with
  | aG=>cases ry;exact PySem.EqNone.ne_none_none (eR I q (by simp))
  | bl j=>cases ry;exact PySem.EqNone.ne_none_bool (eR I q (by simp))
  | int j=>obtain⟨t',rfl⟩:=ry;exact PySem.EqNone.ne_none_int (eR I q (by simp))
  | str j=>obtain⟨t',rfl⟩:=ry;exact PySem.EqNone.ne_none_str (eR I q (by simp))
  | _=>exact absurd (show d_=c_ from hs) eI
 | bl i=>
  cases rx;cases y with
  | aG=>cases ry;exact PySem.EqNone.ne_bool_none (eR I q (by simp))
  | bl j=>cases ry;exact ne_bool (eR I q (congrArg not VV))
  | str j=>obtain⟨t',rfl⟩:=ry;exact PySem.EqMixed.ne_bool_str (eR I q (by simp))
  | _=>exact absurd (show d_=c_ from hs) eI
 | int i=>
  obtain⟨t,rfl⟩:=rx;cases y with
  | aG=>cases ry;exact PySem.EqNone.ne_int_none (eR I q (by simp))
  | int j=>obtain⟨t',rfl⟩:=ry;exact ne_int (eR I q (congrArg not xT))
  | str j=>obtain⟨t',rfl⟩:=ry;exact PySem.EqMixed.ne_int_str (eR I q (by simp))
  | _=>exact absurd (show d_=c_ from hs) eI
 | str i=>
  obtain⟨t,rfl⟩:=rx;cases y with
  | aG=>cases ry;exact PySem.EqNone.ne_str_none (eR I q (by simp))
  | bl j=>cases ry;exact PySem.EqMixed.ne_str_bool (eR I q (by simp))
  | int j=>obtain⟨t',rfl⟩:=ry;exact PySem.EqMixed.ne_str_int (eR I q (by simp))
  | str j=>obtain⟨t',rfl⟩:=ry;exact ne_str (eR I q (congrArg not UW))
  | _=>exact absurd (show d_=c_ from hs) eI
 | qg i=>
  obtain⟨t,rfl⟩:=rx;cases y with
  | qg j=>obtain⟨t',rfl⟩:=ry;exact W.ne_bytes (eR I q (congrArg not UX))
  | _=>exact absurd (show d_=c_ from hs) eI
 | _=>cases y <;> exact absurd (show d_=c_ from hs) eI
theorem B4:eZ X (jx .Lt) (yl λi j=>.bl (decide (i<j))):=Nk λ_ _ _ _ _ _ _ q=>lt_int q
theorem Mq:eZ X (jx .LtE) (yl λi j=>.bl (decide (i<=j))):=Nk λ_ _ _ _ _ _ _ q=>le_int q
theorem B5:eZ X (jx .Gt) (yl λi j=>.bl (decide (j<i))):=Nk λ_ _ _ _ _ _ _ q=>gt_int q
theorem Ly:eZ X (jx .Is) (λx y H Q=>y=.aG/\Q (.bl (decide (x=.aG))) H):=by
 intro p_ s σ H x y v u Q I rx ry h;obtain⟨rfl,q⟩:=h;cases ry;refine is_none_gen (eR I q ?_)
 cases x <;> first
  | (cases rx;rfl)
  | (obtain⟨t,rfl⟩:=rx;rfl)
theorem KJ:eZ X (jx .IsNot) (λx y H Q=>y=.aG/\Q (.bl (!decide (x=.aG))) H):=by
 intro p_ s σ H x y v u Q I rx ry h;obtain⟨rfl,q⟩:=h;cases ry;refine isnot_none_gen (eR I q ?_)
 cases x <;> first
  | (cases rx;rfl)
  | (obtain⟨t,rfl⟩:=rx;rfl)
theorem bQ(b:Expr){op:CmpOp}(h:op≠.In:=by decide)(h2:op≠.NotIn:=by decide):IL op b=false:=by
 have e1:(op == CmpOp.In)=false:=by cases op <;> first | rfl | exact absurd rfl h
 have e2:(op == CmpOp.NotIn)=false:=by cases op <;> first | rfl | exact absurd rfl h2
 cases b <;> simp[IL,e1,e2]
theorem EH{op:CmpOp}{r:R2}(ho:eZ X (jx op) r)(ha:PE X a ta)(hb:PE X b tb)(hm:IL op b=d_):PE X (.Compare a [op] [b] pos) (yj r ta tb):=by
 intro p_ s σ H Q I h;exact wpAny_Compare1 (Ny ha hb I h λv u s2 x y H2 I2 rx ry q=>ho p_ s2 σ H2 x y v u Q I2 rx ry q) hm
abbrev V6(t:TE):TT:=λσ H Q=>t σ H λx H'=>∃k,x=.bl k/\Q k H'
theorem cb{op:CmpOp}{r:R2}(ho:eZ X (jx op) r)(ha:PE X a ta)(hb:PE X b tb)(hm:IL op b=d_):PT X (.Compare a [op] [b] pos) (V6 (yj r ta tb)):=by
 intro p_ s σ H Q I h
 refine wpAny_isTrue_Compare1 (aU (ha p_ s σ H _ I h) λv s1 ⟨x,H1,I1,r1,q1⟩=>aU (hb p_ s1 σ H1 _ I1 q1) λu s2 ⟨y,H2,I2,r2,q2⟩=>
  aU (ho p_ s2 σ H2 x y v u _ I2 r1 r2 q2) λc s3 ⟨z,H3,I3,r3,k,e,q3⟩=>?_) hm
 subst e;cases r3;exact qw ⟨H3,I3,q3⟩
def Ve(r r':R2)(ta tb tc:TE):TE:=λσ H Q=>ta σ H λx H1=>tb σ H1 λy H2=>r x y H2 λz H3=>∃k,z=.bl k/\
 (if k=c_ then tc σ H3 λw' H4=>r' y w' H4 Q else Q (.bl d_) H3)
theorem ad'{op yz:CmpOp}{r r':R2}(ho:eZ X (jx op) r)(oj:eZ X (jx yz) r')(ha:PE X a ta)(hb:PE X b tb)(hc:PE X c tc)
  (hm:lastMarks [op,yz] [b,c]=false:=by with_unfolding_all rfl):PE X (.Compare a [op,yz] [b,c] pos) (Ve r r' ta tb tc):=by
 intro p_ s σ H Q I h
 refine Compare_chain (aU (ha p_ s σ H _ I h) λv s1 ⟨x,H1,I1,r1,q1⟩=>chain_link (aU (hb p_ s1 σ H1 _ I1 q1) λu s2 ⟨y,H2,I2,r2,q2⟩=>
  aU (ho p_ s2 σ H2 x y v u _ I2 r1 r2 q2) λd s3 ⟨z,H3,I3,r3,k,e,q3⟩=>?_)) hm
 subst e;cases r3;refine qw ?_;cases k with
 | false=>exact ite_ff ⟨.bl d_,H3,I3,rfl,q3⟩
 | true=>exact ite_tt (chain_last (aU (hc p_ s3 σ H3 _ I3 q3) λw' s4 ⟨z',H4,I4,r4,q4⟩=>oj p_ s4 σ H4 y z' u w' Q I4 r2 r4 q4))
theorem ad2{op yz:CmpOp}{r r':R2}(ho:eZ X (jx op) r)(oj:eZ X (jx yz) r')(ha:PE X a ta)(hb:PE X b tb)(hc:PE X c tc)
  (hm:lastMarks [op,yz] [b,c]=false:=by with_unfolding_all rfl):PT X (.Compare a [op,yz] [b,c] pos) (V6 (Ve r r' ta tb tc)):=by
 intro p_ s σ H Q I h
 refine isTrue_chain (aU (ha p_ s σ H _ I h) λv s1 ⟨x,H1,I1,r1,q1⟩=>test_link (aU (hb p_ s1 σ H1 _ I1 q1) λu s2 ⟨y,H2,I2,r2,q2⟩=>
  aU (ho p_ s2 σ H2 x y v u _ I2 r1 r2 q2) λd s3 ⟨z,H3,I3,r3,k,e,q3⟩=>?_)) hm
 subst e;cases r3;refine qw ?_;cases k with
 | false=>
  obtain⟨k',e',q'⟩:=q3;cases e';exact ite_ff ⟨H3,I3,q'⟩
 | true=>
  refine ite_tt (test_last (aU (hc p_ s3 σ H3 _ I3 q3) λw' s4 ⟨z',H4,I4,r4,q4⟩=>aU (oj p_ s4 σ H4 y z' u w' _ I4 r2 r4 q4) λd' s5 ⟨z2,H5,I5,r5,k2,e2,q5⟩=>?_));subst e2;cases r5;exact qw ⟨H5,I5,q5⟩
theorem BS:(cq:Nat)<2^63:=by rw[gG];decide
theorem vals1(r:Vals [x] us):∃u,us=[u]/\RelV x u:=by
 cases r with
 | cons r1 r2=>cases r2;exact⟨_,rfl,r1⟩
theorem vals2(r:Vals [x,y] us):∃u w',us=[u,w']/\RelV x u/\RelV y w':=by
 cases r with
 | cons r1 r2=>
  cases r2 with
  | cons r3 r4=>cases r4;exact⟨_,_,rfl,r1,r3⟩
theorem adC(hc:X.calm=c_):lK X (.builtin "min") (λxs H Q=>∃i j,xs=[.int i,.int j]/\Q (.int (if j<i then j else i)) H):=by
 intro p_ s σ H xs us Q I r h;obtain⟨i,j,rfl,q⟩:=h;obtain⟨u,w',rfl,⟨t,rfl⟩,⟨t',rfl⟩⟩:=vals2 r;refine min_two_ints (I.ok.hd hc) λh' tk k=>⟨_,H,I.kept k,?_,q⟩
 by_cases hj:j<i
 ·rw[if_pos hj,if_pos hj];exact⟨_,rfl⟩
 ·rw[if_neg hj,if_neg hj];exact⟨_,rfl⟩
end
structure yg(h:j_)(x dx C:e_)(mA:Str->Option f_):Prop where
 obj:h.get? x=a_ (W.instObj C dx)
 ns:h.Ns1 dx mA
 ne:dx≠x
theorem Sj{h:j_}{dx:e_}{mA:Str->Option f_}(n:h.Ns1 dx mA):∃od,h.get? dx=a_ od/\∀name,W.lookIn name od=a_ (mA name):=by
 obtain⟨o,es,ep,ho,hd,hk,_,hm⟩:=n;refine⟨o,ho,λname=>?_⟩;have e:=hm name;unfold nsFind findBy at e;rw[<-Array.find?_toList]at e;unfold W.lookIn;rw[hd];dsimp only
 split
 ·rename_i y q
  rw[q]at e;exact congrArg a_ e
 ·rename_i q
  rw[q]at e
  have a:es.toList.any (·.refKey)=false:=by
   rw[List.any_eq_false];intro y hy;obtain⟨z,t,alP⟩:=hk y (Array.mem_toList_iff.mp hy);simp[DictEntry.refKey,alP]
  have a':¬es.toList.any (·.refKey)=true:=by rw[a];exact eI
  rw[if_neg a'];exact congrArg a_ e
theorem yg.look{mA:Str->Option f_}(I:yg h x dx C mA):∃od,D_ h x (W.instObj C dx) C (a_ od)/\∀name,W.lookIn name od=a_ (mA name):=
 let ⟨od,ho,hl⟩:=Sj I.ns
 ⟨od,⟨I.obj,rfl,rfl,ho⟩,hl⟩
section
variable{prog:l_}{w:k_}{A:h_}{E:f_->g_->Prop}{s:g_}{K:u_}{x dx C f:e_}{mA:Str->Option f_}{name:Str}{v:f_}
theorem get_map{expr:Bool}(X:K.In s.heap)(I:yg s.heap x dx C mA)(hg:W.plainGet K C name=c_)(hh:F_ K C=c_)
  (ha:w_ K (.ref C) name=a_ b_) (hv:mA name=a_ v) (OL:W.handedIn v=c_) (h:Q v { s with toks:=s.toks+1 }) :
  wpAny (model prog w) A (getAttr (.ref x) name expr) Q E s:=by
 obtain⟨od,J,hl⟩:=I.look;exact W.get_value X J (W.plainGet_of hg).1 (W.findObj_own hh ha rfl (by rw[hl,hv])) OL h
theorem aeM{pl:Sem Bool}{Q:f_×List f_->g_->Prop}(X:K.In s.heap)(I:yg s.heap x dx C mA)(hg:W.plainGet K C name=c_)
  (hf:w_ K (.ref C) name=a_ (a_ (.ref f))) (ht:W.isFn K (.ref f)=c_) (hv:mA name=b_) (h:Q (.ref f,[.ref x]) s) :
  wpAny (model prog w) A (Bz (.ref x) name pl) Q E s:=by
 obtain⟨od,J,hl⟩:=I.look;exact W.method_fn X J (W.plainGet_of hg).1 (W.plainGet_of hg).2 hf (beq_iff_eq.mp ht) (by show (W.lookIn name od).map (·.isSome)=a_ d_;rw[hl,hv];rfl) h
theorem afp{Q:Unit->g_->Prop}(X:K.In s.heap)(I:yg s.heap x dx C mA)
  (hs:w_ K (.ref C) "__setattr__" = a_ (a_ (.builtin "object.__setattr__"))) (hp:W.plainOver K C=c_) (ht:W.takerIn K C name=a_ b_) (hh:F_ K C=c_)
  (hw:PySem.Within mA ns) (hsz:ns.length<=cq)
  (h:∀h',yg h' x dx C (λy=>if y=name then a_ v else mA y)->tU dx s.heap h'->Q () { s with heap:=h',toks:=s.toks+2 }) :
  wpAny (model prog w) A (setAttr (.ref x) name v) Q E s:=by
 obtain⟨od,J,hl⟩:=I.look;refine W.set_plain X J hs (W.osa_open (s:={ s with toks:=s.toks+1 }) (r:=b_) X J hp ht λb=>?_);obtain⟨cd,hc,C8⟩:=W.any_some hh;have hx:s.heap.get? x=a_ ⟨.ref C,a_ dx,.plain,#[]⟩:=I.obj;refine aq (aV (aq (aq (QE hx (aq (W.Looks.here (s:={ s with toks:=s.toks+1 }) (W.looks_clsIn X hc) ?_))))));rw[C8];refine aV (a:=a_ dx) (aq (aV (aq ?_)));refine wpAny_nsSet1 (s:={ s with toks:=s.toks+1 }) I.ns λh' uY rE=>?_;obtain⟨oD,esD,epD,OS,O8,Pd⟩:=uY.count (PySem.Within.cons name v hw);refine aq (wpAny_lookBehind OS (by rw[O8];exact pastItsLine_dict (c7 Pd (by rw[iT];omega))) ?_);exact aV (h _ ⟨(rE.2 _ (dW I.ne)).trans I.obj,uY,I.ne⟩ rE)
theorem aez{R:Result->g_->Prop}{kw:List (Str×f_)}(X:K.In s.heap)(hm:W.makesIn K C=c_)
  (hi:w_ K (.ref C) "__init__" = a_ (a_ (.ref f))) (hf:W.typeIn K (.ref f)=a_ (.type "function"))
  (h:codeAny (model prog w) (A.under (.builtin "type.__call__" ⟨.ref C::vs,kw⟩)) (.call (.ref f) ⟨.ref (s.heap.objs.size+1)::vs,kw⟩) (W.InitBack (s.heap.objs.size+1) R)
   {s with heap:=(s.heap.push W.emptyDict).push (W.instObj C s.heap.objs.size) }) :
  codeAny (model prog w) A (.call (.ref C) ⟨vs,kw⟩) R s:=by
 obtain⟨hh,g,d,t,os⟩:=s;exact W.make_core (W.makes_of X hm) (W.looks_findIn X hi) (λself=>W.bind_fn X self hf) (.inl rfl) h
end
def aQ(f:Str)(v:V):List (Str×V)->List (Str×V)
 | []=>[(f,v)]
 | (g,x)::r=>if g=f then (g,v)::r else (g,x)::aQ f v r
theorem gd(f g:Str)(v:V):∀fs:List (Str×V),(aQ f v fs).lookup g=if g=f then a_ v else fs.lookup g
 | []=>by
  show xI g [(f,v)]=_
  by_cases h:g=f
  ·have hb:(g == f)=true:=beq_iff_eq.mpr h;simp only[xI,hb,if_pos h]
  ·have hb:(g == f)=false:=beq_eq_false_iff_ne.mpr h;simp only[xI,hb,if_neg h]
 | (k,x)::r=>by
  have ih:=gd f g v r;rw[show aQ f v ((k,x)::r)=(if k=f then (k,v)::r else (k,x)::aQ f v r) from rfl]
  by_cases hk:k=f
  ·rw[if_pos hk]
   by_cases h:g=k
   ·have hb:(g == k)=true:=beq_iff_eq.mpr h;simp only[xI,hb,if_pos (h.trans hk)]
   ·have hb:(g == k)=false:=beq_eq_false_iff_ne.mpr h;simp only[xI,hb,if_neg λe:g=f=>h (e.trans hk.symm)]
  ·rw[if_neg hk]
   by_cases h:g=k
   ·have hb:(g == k)=true:=beq_iff_eq.mpr h;simp only[xI,hb,if_neg λe:g=f=>hk (h.symm.trans e)]
   ·have hb:(g == k)=false:=beq_eq_false_iff_ne.mpr h;simp only[xI,hb];exact ih
theorem Jx(f:Str)(v:V):∀fs:List (Str×V),f∈(aQ f v fs).map (·.1)/\∀g,g∈fs.map (·.1)->g∈(aQ f v fs).map (·.1)
 | []=>⟨by simp[aQ],λg h=>by simp at h⟩
 | (k,x)::r=>by
  obtain⟨i1,i2⟩:=Jx f v r;rw[show aQ f v ((k,x)::r)=(if k=f then (k,v)::r else (k,x)::aQ f v r) from rfl]
  by_cases hk:k=f
  ·rw[if_pos hk];subst hk;exact⟨by simp,λg h=>by simpa using h⟩
  ·rw[if_neg hk];refine⟨?_,λg h=>?_⟩
   ·rw[fh];exact eE _ i1
   ·rw[fh]at h ⊢;rcases bw.mp h with e | e
    ·exact bw.mpr (.inl e)
    ·exact eE _ (i2 g e)
theorem sh(f:Str)(v:V):∀fs:List (Str×V),(aQ f v fs).length<=fs.length+1
 | []=>by simp[aQ]
 | (k,x)::r=>by
  have ih:=sh f v r;rw[show aQ f v ((k,x)::r)=(if k=f then (k,v)::r else (k,x)::aQ f v r) from rfl]
  by_cases hk:k=f
  ·rw[if_pos hk,iT,iT];omega
  ·rw[if_neg hk,iT,iT];omega
theorem jn.some_of{o:Option f_}(r:jn (a_ v) o):∃u,o=a_ u/\RelV v u:=by
 cases o with
 | none=>exact(show False from r).elim
 | some u=>exact⟨u,rfl,r⟩
theorem jn.none_of{o:Option f_}(r:jn b_ o):o=none:=by
 cases o with
 | none=>rfl
 | some u=>exact(show False from r).elim
theorem Sr(r:RelV v u):W.handedIn u=true:=by
 cases v with
 | aG=>cases (show u=iE from r);rfl
 | bl b=>cases (show u=vA b from r);rfl
 | int i=>obtain⟨t,e⟩:=(show ∃t,u=ip i t from r);cases e;rfl
 | str x=>obtain⟨t,e⟩:=(show ∃t,u=sq x t from r);cases e;rfl
 | qg b=>obtain⟨t,e⟩:=(show ∃t,u=Value.bytes b t from r);cases e;rfl
 | uE b=>obtain⟨t,e⟩:=(show ∃t,u=Rg b t from r);cases e;rfl
 | ref a=>cases (show u=cI a from r);rfl
 | ty n=>cases (show u=pH n from r);rfl
section
variable{P:l_}{w:k_}{H H':Hp}{h h':j_}{a C dx:e_}{fs oo:List (Str×V)}
theorem EK(aH:eW P w H h)(e:H a=a_ (.ins C dx fs)):∃mA,yg h a dx C mA/\(∀f,jn (fs.lookup f) (mA f))/\PySem.Within mA (fs.map (·.1))/\fs.length<=1000/\H dx=a_ (.own a):=by
 obtain⟨d,z,ne,ob,mA,n,r,q⟩:=(show fo P w H h a (.ins C dx fs) from aH a _ e);exact⟨mA,⟨ob,n,ne⟩,r,q,z,d⟩
end
structure eX(K:u_)(C:e_):Prop where
 pg:W.plainGet K C Str.empty=c_
 hd:F_ K C=c_
 po:W.plainOver K C=c_
 sa:w_ K (.ref C) "__setattr__" = a_ (a_ (.builtin "object.__setattr__"))
theorem eX.get{K:u_}(c:eX K C)(f:Str):W.plainGet K C f=true:=c.pg
def bu(K:u_)(C:e_)(f:Str):Prop:=w_ K (.ref C) f=a_ b_
theorem bu.aiB{K:u_}(n:bu K C f):W.takerIn K C f=a_ none:=by
 unfold W.takerIn;rw[show w_ K (.ref C) f=a_ b_ from n];rfl
structure Con(K:u_)(C:e_)(f:Str)(v:V)(u:f_):Prop where
 at_:w_ K (.ref C) f=a_ (a_ u)
 rel:RelV v u
 get:W.specialIn K u "__get__" = a_ b_
 cp:W.copiedNames.contains f=d_
structure Meth(K:u_)(C:e_)(m:Str)(f:e_):Prop where
 at_:w_ K (.ref C) m=a_ (a_ (.ref f))
 fn:W.isFn K (.ref f)=c_
 kp:x_ K (.ref f)=c_
section
variable{X:Cx}{p_:List (e_×Obj)}{σ:St}{H:Hp}{s:g_}{a C dx:e_}{fs:List (Str×V)}{f:Str}{v:V}{A:h_}{E:f_->g_->Prop}
theorem Rx{b:Bool}(I:Inv X p_ σ H s)(e:H a=a_ (.ins C dx fs))(c:eX X.K C)(n:bu X.K C f)(l:fs.lookup f=a_ v)
  (h:∀u s',Inv X p_ σ H s'->RelV v u->Q u s'):wpAny (model X.prog X.w) A (getAttr (.ref a) f b) Q E s:=by
 obtain⟨mA,O,r,_,_,_⟩:=EK I.aH e;obtain⟨u,hu,ru⟩:=jn.some_of (v:=v) (o:=mA f) (by rw[<-l];exact r f);exact get_map I.dm O (c.get f) c.hd n hu (Sr ru) (h u _ (I.tok _) ru)
theorem Jh{pl:Sem Bool}{Q:f_×List f_->g_->Prop}(I:Inv X p_ σ H s)(e:H a=a_ (.ins C dx fs))(c:eX X.K C)(k:Meth X.K C m g)(l:fs.lookup m=b_)
  (h:Q (.ref g,[.ref a]) s):wpAny (model X.prog X.w) A (Bz (.ref a) m pl) Q E s:=by
 obtain⟨mA,O,r,_,_,_⟩:=EK I.aH e;have hn:mA m=none:=jn.none_of (by rw[<-l];exact r m);exact aeM I.dm O (c.get m) k.at_ k.fn hn h
theorem Rl{Q:Unit->g_->Prop}(I:Inv X p_ σ H s)(e:H a=a_ (.ins C dx fs))(c:eX X.K C)(n:bu X.K C f)(hl:fs.length<1000)(ry:RelV y u)
  (h:∀s',Inv X p_ σ (upd H a (.ins C dx (aQ f y fs))) s'->Q () s'):wpAny (model X.prog X.w) A (setAttr (.ref a) f u) Q E s:=by
 obtain⟨mA,O,r,wi,_,ho⟩:=EK I.aH e;have hz:(fs.map (·.1)).length<=cq:=by rw[aP,gG];omega
 refine afp I.dm O c.sa c.po n.aiB c.hd wi hz λh' O' sb=>h _ ?_;have hd:∃o,h'.get? dx=a_ o:=let ⟨o,_,_,e',_⟩:=O'.ns;⟨o,e'⟩
 refine I.write (x:=a) (e:=dx) (by rw[e];exact nu) (.inr ho) (λb q hb z=>(sb.2 b hb).trans z) hd ?_;refine⟨by rw[ao O.ne];exact ho,?_,O.ne,O'.obj,_,O'.ns,λg=>?_,λg hg=>?_⟩
 ·have:=sh f y fs;omega
 ·show jn ((aQ f y fs).lookup g) (if g=f then a_ u else mA g);rw[gd]
  by_cases q:g=f
  ·rw[if_pos q,if_pos q];exact ry
  ·rw[if_neg q,if_neg q];exact r g
 ·by_cases q:g=f
  ·rw[q];exact(Jx f y fs).1
  ·refine(Jx f y fs).2 g (wi g λz=>hg ?_);show (if g=f then a_ u else mA g)=b_;rw[if_neg q];exact z
theorem Inv.made(I:Inv X p_ σ H s):Inv X p_ σ (upd (upd H s.heap.objs.size (.own (s.heap.objs.size+1))) (s.heap.objs.size+1) (.ins C s.heap.objs.size []))
  {s with heap:=(s.heap.push W.emptyDict).push (W.instObj C s.heap.objs.size) }:=by
 have e1:(s.heap.push W.emptyDict).get? s.heap.objs.size=a_ W.emptyDict:=gw s.heap rfl
 have e2:((s.heap.push W.emptyDict).push (W.instObj C s.heap.objs.size)).get? (s.heap.objs.size+1)=a_ (W.instObj C s.heap.objs.size):=by
  have:=gw (s.heap.push W.emptyDict) (o:=W.instObj C s.heap.objs.size) rfl;rwa[pF]at this
 have e3:(s.heap.push W.emptyDict).Ns s.heap.objs.size (λ_=>b_):=⟨W.emptyDict,#[],_,e1,rfl,(λe he=>absurd he (by simp)),λ_=>rfl⟩;have I1:=I.laid (a:=s.heap.objs.size) (o:=.own (s.heap.objs.size+1)) (h':=s.heap.push W.emptyDict) (t':=s.toks) (λb u q=>bo _ q) (aI _) ⟨_,e1⟩;refine I1.laid (a:=s.heap.objs.size+1) (o:=.ins C s.heap.objs.size []) (t':=s.toks) (λb u q=>bo _ q) (r6 (pF _ _)) ?_;have ne:s.heap.objs.size≠s.heap.objs.size+1:=eM (DE _);refine⟨by rw[ao ne,ax],bg _,ne,e2,λ_=>b_,(Heap.Ns1.of_empty e3).at λo q=>bo _ q,λ_=>nu,λy hy=>absurd rfl hy⟩
theorem U3{w:k_}{env:Env}(hb:xD e f env (eval e env)=eval e env)
  (h:wpAny (model prog w) A (eval e env) (λo s₁=>wpAny (model prog w) A (getAttr o f c_) Q E s₁) E s):wpAny (model prog w) A (eval (.Attribute e f pos) env) Q E s:=
 Attribute_any_ h (by rw[arm_eval_Attribute,hb])
end
def M5(K:u_)(ta:TE)(f:Str):TE:=λσ H Q=>ta σ H λx H1=>∃a C dx fs v,x=.ref a/\H1 a=a_ (.ins C dx fs)/\eX K C/\bu K C f/\fs.lookup f=a_ v/\Q v H1
def WU(K:u_)(ta tv:TE)(f:Str):TS:=λD σ H=>tv σ H λy H1=>ta σ H1 λx H2=>∃a C dx fs,x=.ref a/\H2 a=a_ (.ins C dx fs)/\eX K C/\bu K C f/\fs.length<1000/\
 D.nx σ (upd H2 a (.ins C dx (aQ f y fs)))
def Xl(X:Cx)(op:Operator)(rd:V->V->Hp->VK->Prop):Prop:=
 ∀(p_:List (e_×Obj)) (s:g_) (σ:St) (H:Hp) (x y:V) (u v:f_) (Q:VK),Inv X p_ σ H s->RelV x u->RelV y v->rd x y H Q->wpAny (model X.prog X.w) X.A (inplaceOp op u v) (EP X p_ σ Q) X.xe s
def afC(K:u_)(ta tv:TE)(rd:V->V->Hp->VK->Prop)(f:Str):TS:=λD σ H=>ta σ H λx H1=>∃a C dx fs v,x=.ref a/\H1 a=a_ (.ins C dx fs)/\eX K C/\bu K C f/\fs.lookup f=a_ v/\
 tv σ H1 λy H2=>rd v y H2 λz H3=>∃Du oo,H3 a=a_ (.ins C Du oo)/\oo.length<1000/\D.nx σ (upd H3 a (.ins C Du (aQ f z oo)))
section
variable{X:Cx}{o e value:Expr}{f:Str}{pos pos' Cp:Pos}{ta tv:TE}
theorem bz(he:PE X e ta)(hb:xD e f X.env (eval e X.env)=eval e X.env):PE X (.Attribute e f pos) (M5 X.K ta f):=by
 intro p_ s σ H Q I h;refine U3 hb (aU (he p_ s σ H _ I h) λu s1 ⟨x,H1,I1,rx,a,C,dx,fs,v,ex,ea,c,n,l,q⟩=>?_);subst ex;obtain rfl:u=cI a:=rx;exact Rx I1 ea c n l λu' s2 I2 ru=>⟨v,H1,I2,ru,q⟩
theorem gI(ha:PE X o ta)(hv:PE X value tv)(hs:By value (a_ (.Attribute o f pos')) pos.line X.env=pure d_):PS X (.Assign [.Attribute o f pos'] value pos) (WU X.K ta tv f):=by
 intro p_ s σ H D I h;refine aab (aU (hv p_ s σ H _ I h) λu s1 ⟨y,H1,I1,ry,q⟩=>aU (ha p_ s1 σ H1 _ I1 q) λov s2 ⟨x,H2,I2,rx,a,C,dx,fs,ex,ea,c,n,l,q2⟩=>?_) hs;subst ex;obtain rfl:ov=cI a:=rx;exact Rl I2 ea c n l ry λs3 I3=>⟨σ,_,I3,q2⟩
theorem acJ{op:Operator}{rd:V->V->Hp->VK->Prop}(ha:PE X o ta)(hv:PE X value tv)(hop:Xl X op rd):PS X (.AugAssign (.Attribute o f Cp) op value pos) (afC X.K ta tv rd f):=by
 intro p_ s σ H D I h;refine wpAny_AugAssign_AttributeAny (aU (ha p_ s σ H _ I h) λov s1 ⟨x,H1,I1,rx,a,C,dx,fs,v,ex,ea,c,n,l,q⟩=>?_);subst ex;obtain rfl:ov=cI a:=rx;refine Rx I1 ea c n l λu s2 I2 ru=>aU (hv p_ s2 σ H1 _ I2 q) λw3 s3 ⟨y,H2,I3,ry,q3⟩=>aU (hop p_ s3 σ H2 v y u w3 _ I3 ru ry q3) λw4 s4 ⟨z,H3,I4,rz,Du,oo,ea',l',q4⟩=>?_;exact Rl I4 ea' c n l' rz λs5 I5=>⟨σ,_,I5,q4⟩
def akQ:V->V->Hp->VK->Prop:=λx y H Q=>∃i j,x=.int i/\y=.int j/\Q (.int (i+j)) H
theorem ahG:Xl X .Add akQ:=by
 rintro p_ s σ H x y u v Q I rx ry ⟨i,j,rfl,rfl,q⟩;obtain⟨t,rfl⟩:=(show ∃t,u=ip i t from rx);obtain⟨t',rfl⟩:=(show ∃t',v=ip j t' from ry);exact PyProof.Rows.iadd_int ⟨.int (i+j),H,I.tok _,⟨_,rfl⟩,q⟩
end
section
variable{X:Cx}{p_:List (e_×Obj)}{σ:St}{H:Hp}{s:g_}{A:h_}{E:f_->g_->Prop}{Q:f_->g_->Prop}{c:f_}{b:Bool}
inductive iL (K:u_) (H:Hp):V->f_->Prop where
 | aG:iL K H .aG (.type "NoneType")
 | bl (x:Bool):iL K H (.bl x) (.type "bool")
 | int (i:Int):iL K H (.int i) (.type "int")
 | str (x:Str):iL K H (.str x) (.type "str")
 | uE (x:UInt64):iL K H (.uE x) (.type "float")
 | lst {a:e_} {xs:List V} (e:H a=a_ (.lst xs)):iL K H (.ref a) (.type "list")
 | nV {a:e_} {o:Obj} {xs:List V} (e:H a=a_ (.nV o (.lst xs))):iL K H (.ref a) (.type "list")
 | tup {a:e_} {xs:List V} (e:H a=a_ (.tup xs)):iL K H (.ref a) (.type "tuple")
 | dK {a:e_} {aL:List (Key×V)} (e:H a=a_ (.dK aL)):iL K H (.ref a) (.type "dict")
 | dT {a:e_} {aL:List (List Key×V)} (e:H a=a_ (.dT aL)):iL K H (.ref a) (.type "dict")
 | ins {a C dx:e_} {fs:List (Str×V)} (e:H a=a_ (.ins C dx fs)) (cl:eX K C) (ha:w_ K (.ref C) "__class__" = a_ (a_ (.builtin "object.__class__")))
   (hn:W.specialIn K (.builtin "object.__class__") "__get__" = a_ (a_ (.builtin "getset_descriptor.__get__"))) (Hw:W.takesIn K (.builtin "object.__class__")=a_ c_)
   (hm:A_ K C (.type "object")=a_ c_):iL K H (.ref a) (.ref C)
theorem adf{u t:f_}(I:Inv X p_ σ H s)(rx:RelV x u)(ty:iL X.K H x t)(e:v_ X.K t c=a_ b)(h:∀tk,Q (.bool b) { s with toks:=tk }) :
  wpAny (model X.prog X.w) A (call (.builtin "isinstance") [u,c]) Q E s:=by
 cases ty with
 | aG=>cases (show u=iE from rx);exact E_ W.kitx_none I.dm nu e (λz=>nomatch z) h
 | bl y=>cases (show u=vA y from rx);exact E_ W.kitx_bool I.dm nu e (λz=>nomatch z) h
 | int i=>obtain⟨t,q⟩:=(show ∃t,u=ip i t from rx);cases q;exact E_ W.kitx_int I.dm nu e (λz=>nomatch z) h
 | str y=>obtain⟨t,q⟩:=(show ∃t,u=sq y t from rx);cases q;exact E_ W.kitx_str I.dm nu e (λz=>nomatch z) h
 | uE y=>obtain⟨t,q⟩:=(show ∃t,u=Rg y t from rx);cases q;exact E_ W.kitx_float I.dm nu e (λz=>nomatch z) h
 | @lst a xs ea=>
  cases (show u=cI a from rx);obtain⟨_,_,n,_,h1⟩:=(show fo X.prog X.w H s.heap a (.lst xs) from I.aH a _ ea);exact E_ W.kitx_list I.dm ⟨_,h1,rfl⟩ e (λz=>nomatch z) h
 | @nV a ob xs ea=>
  cases (show u=cI a from rx);obtain⟨_,_,_,n,_,h1⟩:=(show fo X.prog X.w H s.heap a (.nV ob (.lst xs)) from I.aH a _ ea);exact E_ W.kitx_list I.dm ⟨_,h1,rfl⟩ e (λz=>nomatch z) h
 | @tup a xs ea=>
  cases (show u=cI a from rx);obtain⟨_,_,_,p⟩:=(show fo X.prog X.w H s.heap a (.tup xs) from I.aH a _ ea);obtain⟨o,h1,h2,_⟩:=p;exact E_ W.kitx_tuple I.dm ⟨o,h1,h2⟩ e (λz=>nomatch z) h
 | @dK a aL ea=>
  cases (show u=cI a from rx);obtain⟨_,_,vs,_,p⟩:=(show fo X.prog X.w H s.heap a (.dK aL) from I.aH a _ ea);obtain⟨o,es,ep,h1,h2,_⟩:=p;exact E_ W.kitx_dict I.dm ⟨o,h1,h2.1⟩ e (λz=>nomatch z) h
 | @dT a aL ea=>
  cases (show u=cI a from rx);obtain⟨_,_,xs,_,o,es,ep,h1,h2,_⟩:=(show fo X.prog X.w H s.heap a (.dT aL) from I.aH a _ ea);exact E_ W.kitx_dict I.dm ⟨o,h1,h2.1⟩ e (λz=>nomatch z) h
 | @ins a C dx fs ea cl ha hn Hw hm=>
  cases (show u=cI a from rx);obtain⟨mA,O,_⟩:=EK I.aH ea;obtain⟨od,J,_⟩:=O.look;exact E_ (W.kitx_own (cl.get _) cl.hd ha hn Hw hm) I.dm J e (λz=>nomatch z) h
end
structure eV(k:Nat)(A:h_):Prop where
 hd:A.handled=b_
 dp:A.depth+3*k+5<DP
 un:A.units+16*k+200<cLine
theorem eV.mono{j k:Nat}(r:eV k A)(h:j<=k):eV j A:=⟨r.hd,by have:=r.dp;omega,by have:=r.un;omega⟩
theorem eV.deeper{k:Nat}(r:eV (k+1) A)(env:Env):eV k (A.deeper env):=
 ⟨r.hd,by have:=r.dp;show A.depth+1+3*k+5<_;omega,by have:=r.un;show A.units+3+16*k+200<_;omega⟩
theorem acj{A:h_}{C:e_}{us:List f_}{kw:List (Str×f_)}:(A.under (.builtin "type.__call__" ⟨.ref C::us,kw⟩)).depth=A.depth+1:=by
 first | rfl | simp[QX,Code.weight,Code.isCreation,Code.isGuard,Code.isCaller,Code.frames,Code.isFrame,guardIds]
theorem aci{A:h_}{C:e_}{us:List f_}{kw:List (Str×f_)}:(A.under (.builtin "type.__call__" ⟨.ref C::us,kw⟩)).units=A.units+1:=by
 first | rfl | simp[QX,Code.cUnits,Code.frames,Code.isFrame]
theorem eV.make{k:Nat}(r:eV (k+1) A)(C:e_)(us:List f_)(kw:List (Str×f_)):eV k (A.under (.builtin "type.__call__" ⟨.ref C::us,kw⟩)):=
 ⟨r.hd,by have:=r.dp;rw[acj];omega,by have:=r.un;rw[aci];omega⟩
theorem eV.depth{k:Nat}(r:eV k A):A.depth<DP:=by have:=r.dp;omega
abbrev FE:TA:=λ_ H Q=>Q [] H
abbrev B1(ta:TE)(tr:TA):TA:=λσ H Q=>ta σ H λx H1=>tr σ H1 λxs H2=>Q (x::xs) H2
section
variable{X:Cx}{e:Expr}{es:List Expr}{te:TE}{t:TA}{pos:Pos}
theorem af:PA X [] FE:=λ_ _ _ _ H Q I h=>aa2 ⟨[],H,I,.nil,h⟩
theorem ae(ha:PE X e te)(hr:PA X es t)(hs:cJ (e::es) X.env=(d_,eval e X.env)::cJ es X.env:=by rfl):PA X (e::es) (B1 te t):=by
 intro pos p_ s σ H Q I h;rw[hs];show wpAny _ _ (spliced ((d_,eval e X.env)::backTo pos (cJ es X.env))) _ _ s;refine aaT (aU (ha p_ s σ H _ I h) λu s1 ⟨x,H1,I1,r1,q1⟩=>?_);exact aU (hr pos p_ s1 σ H1 _ I1 q1) λus s2 ⟨xs,H2,I2,r2,q2⟩=>⟨x::xs,H2,I2,.cons r1 r2,q2⟩
def WQ(t:TA):TE:=λσ H Q=>t σ H λxs H1=>xs.length<=cq/\∀p,H1 p=b_->Q (.ref p) (upd H1 p (.tup xs))
def akD(t:TA):TE:=λσ H Q=>t σ H λxs H1=>xs.length<=cq/\∀p,H1 p=b_->Q (.ref p) (upd H1 p (.lst xs))
theorem hV{x1}(h:PA X es t):PE X (.Tuple es x1 pos) (WQ t):=by
 intro p_ s σ H Q I hq;refine wpAny_Tuple_spliced (aU (h pos p_ s σ H _ I hq) λus s1 ⟨xs,H1,I1,r,z,q⟩=>⟨by rw[<-r.length];exact z,?_⟩);have hf:H1 s1.heap.objs.size=none:=I1.aH.fresh (aI _);refine⟨.ref s1.heap.objs.size,upd H1 s1.heap.objs.size (.tup xs),I1.laid (t':=s1.toks) (λb u e=>bo _ e) (aI _) ?_,rfl,q _ hf⟩;exact⟨z,us,r,⟨_,gw _ rfl,rfl,_,rfl⟩⟩
theorem fk(h:PA X es t):PE X (.List es pos) (akD t):=by
 intro p_ s σ H Q I hq;refine wpAny_List_spliced (aU (h pos p_ s σ H _ I hq) λus s1 ⟨xs,H1,I1,r,z,q⟩=>⟨by rw[<-r.length];exact z,?_⟩);have hf:H1 s1.heap.objs.size=none:=I1.aH.fresh (aI _);refine⟨.ref s1.heap.objs.size,upd H1 s1.heap.objs.size (.lst xs),I1.laid (t':=s1.toks) (λb u e=>bo _ e) (aI _) ?_,rfl,q _ hf⟩;exact⟨z,us,0,r,gw _ rfl⟩
end
abbrev Sp:=List V->Hp->VK->XK->Prop
abbrev nY:=List Env->Hp->g_->XK->f_->g_->Prop
structure yh(P:l_)(w:k_)(K:u_)(mg:Str->Option f_)(base:j_)(A:h_)(outer:List Env)(s:g_)(H:Hp):Prop where
 frames:A.frames=a_ outer
 mod:Mod K mg base
 bs:∀b o,base.get? b=a_ o->s.heap.get? b=a_ o/\H b=b_
 nX:base.objs.size<=s.heap.objs.size
 mI:s.heap.FunFrames base outer
 sW:∀b∈ko outer,H b=b_
 aH:eW P w H s.heap
 bare:AllBare s.gens
def CE(outer:List Env)(P:l_)(w:k_)(H:Hp)(s:g_)(Q:VK)(u:f_)(s':g_):Prop:=
 ∃v H',s'.os=s.os/\AllBare s'.gens/\Un (ko outer) [] H H' s.heap s'.heap/\eW P w H' s'.heap/\RelV v u/\Q v H'
def CR(CX:nY)(outer:List Env)(P:l_)(w:k_)(H:Hp)(s:g_)(Q:VK)(E:XK)(r:Result)(s':g_):Prop:=
 match r with
 | .ok (.ret u)=>CE outer P w H s Q u s'
 | .ok _=>False
 | .error e=>CX outer H s E e s'
structure ay(P:l_)(w:k_)(K:u_)(mg:Str->Option f_)(base:j_)(CX:nY)(k:Nat)(f:e_)(fd:jz)(ps:List Str)(sp:Sp):Prop where
 len:∀vs H Q E,sp vs H Q E->vs.length=ps.length
 run:∀(A:h_) (outer:List Env) (s:g_) (H:Hp) (args:Args) (us:List f_) (vs:List V) (Q:VK) (E:XK),eV k A->yh P w K mg base A outer s H->BindsTo s fd args (ps.zip us)->Vals vs us->sp vs H Q E->
  codeAny (model P w) A (.call (.ref f) args) (CR CX outer P w H s Q E) s
theorem yh.make{P:l_}{w:k_}{K:u_}{mg:Str->Option f_}{base:j_}{outer:List Env}(e:yh P w K mg base A outer s H)(C:e_)(us:List f_)(kw:List (Str×f_)) :
  yh P w K mg base (A.under (.builtin "type.__call__" ⟨.ref C::us,kw⟩)) outer s H:=⟨by first | exact e.frames | (simpa[QX,Code.envs,Code.isFrame,pushEnvs]using e.frames),e.mod,e.bs,e.nX,e.mI,e.sW,e.aH,e.bare⟩
section
variable{X:Cx}{p_:List (e_×Obj)}{σ:St}{H:Hp}{s s':g_}
theorem Inv.FU(I:Inv X p_ σ H s):yh X.prog X.w X.K X.mg X.base X.A X.stack s H:=
 ⟨I.ok.frames,I.ok.mod,I.bs,c7 I.ok.nX I.sz,I.stack,I.EA,I.aH,I.bare⟩
theorem Inv.after(I:Inv X p_ σ H s)(h:CE X.stack X.prog X.w H s Q u s'):EP X p_ σ Q u s':=by
 obtain⟨v,H',os,bare,un,aH,r,q⟩:=h;obtain⟨hh,g,d,t,os'⟩:=s';obtain rfl:os'=s.os:=os;exact⟨v,H',I.call (h':=hh) (g':=g) (d':=d) (t':=t) (ch:=[]) un aH bare λb z=>absurd z (by simp),r,q⟩
end
abbrev V9(sp:Sp)(dvs:List V)(E:XK)(t:TA):TE:=λσ H Q=>t σ H λvs H1=>sp (vs++dvs) H1 Q E
def Md(C:e_)(m:Str)(sp:Sp)(dvs:List V)(E:XK)(ta:TE)(t:TA):TE:=λσ H Q=>ta σ H λx H1=>∃a dx fs,x=.ref a/\H1 a=a_ (.ins C dx fs)/\fs.lookup m=b_/\
 t σ H1 λvs H2=>sp (x::(vs++dvs)) H2 Q E
def aiG(C:e_)(sp:Sp)(dvs:List V)(E:XK)(t:TA):TE:=λσ H Q=>t σ H λvs H1=>∀x dx,H1 x=b_->H1 dx=b_->dx≠x->
 sp (.ref x::(vs++dvs)) (upd (upd H1 dx (.own x)) x (.ins C dx [])) (λv H2=>v=.aG/\Q (.ref x) H2) E
def Binds(K:u_)(fd:jz)(ps:List Str)(ds:List f_):Prop:=
 ∀(s:g_) (us:List f_),K.In s.heap->(us++ds).length=ps.length->BindsTo s fd ⟨us,[]⟩ (ps.zip (us++ds))
theorem Binds.all{K:u_}(h:∀us:List f_,us.length=ps.length->vD fd ⟨us,[]⟩=pure (ps.zip us)):Binds K fd ps []:=λs us _ hl=>by
 rw[il]at hl ⊢;exact .of_eq (h us hl)
def Passes(CX:nY)(X:Cx)(E:XK):Prop:=∀(p_:List (e_×Obj)) (σ:St) (H:Hp) (s:g_) (e:f_) (s':g_),Inv X p_ σ H s->CX X.stack H s E e s'->X.xe e s'
section
variable{X:Cx}{CX:nY}{k:Nat}{f C:e_}{fd:jz}{ps:List Str}{sp:Sp}{dvs:List V}{ds:List f_}{E:XK}{x m:Str}{p pos apos:Pos}{e o:Expr}{es:List Expr}{ta:TE}{t:TA}
theorem BP(F:ay X.prog X.w X.K X.mg X.base CX k f fd ps sp)(hr:eV k X.A)(hb:Binds X.K fd ps ds)(hd:Vals dvs ds)(hx:Passes CX X E)
  (I:Inv X p_ σ H s) (r:Vals vs us) (h:sp (vs++dvs) H Q E):wpAny (model X.prog X.w) X.A (call (.ref f) us) (EP X p_ σ Q) X.xe s:=by
 have r2:Vals (vs++dvs) (us++ds):=r.append hd;have hl:(us++ds).length=ps.length:=by rw[<-r2.length];exact F.len _ _ _ _ h
 refine tW (zo (F.run X.A X.stack s H ⟨us,[]⟩ (us++ds) (vs++dvs) Q E hr I.FU (hb s us I.dm hl) r2 h) λr s' hq=>?_);cases r with
 | error e=>exact hx p_ σ H s e s' I hq
 | ok fl=>
  cases fl with
  | ret u=>exact I.after hq
  | next=>exact iF hq
  | brk=>exact iF hq
  | cont=>exact iF hq
theorem dN(F:ay X.prog X.w X.K X.mg X.base CX k f fd ps sp)(hr:eV k X.A)(hg:Gl X x)(hm:X.mg x=a_ (.ref f))(hk:x_ X.K (.ref f)=c_)(hb:Binds X.K fd ps ds)(hd:Vals dvs ds)(hx:Passes CX X E)
  (ha:PA X (e::es) t) (jQ:(x == ("__debug__" : Str))=false:=by decide) (he:cJ (e::es) X.env=(d_,eval e X.env)::cJ es X.env:=by rfl) (ff:(backTo pos (cJ es X.env)).any (·.1)=false:=by rfl) :
  PE X (.Call (.Name x p) (e::es) [] pos) (V9 sp dvs E t):=by
 intro p_ s σ H Q I h;refine xw (ua I hg hm ?_ jQ);refine G_ (h₀:=X.base) I.ok.mod.qf hk (aU (ha pos p_ s σ H _ I h) λus s1 ⟨vs,H1,I1,r,q⟩=>⟨I1.dm,?_⟩) he ff;exact BP F hr hb hd hx I1 r q
theorem iW{pl:Sem Bool}(he:PE X o ta)(c:eX X.K C)(hm:Meth X.K C m f)(F:ay X.prog X.w X.K X.mg X.base CX k f fd ps sp)(hr:eV k X.A)(hb:Binds X.K fd ps ds)(hd:Vals dvs ds)(hx:Passes CX X E)(ha:PA X (e::es) t)
  (dh:cJ (e::es) X.env=(d_,eval e X.env)::cJ es X.env:=by rfl) (ff:(backTo pos (cJ es X.env)).any (·.1)=false:=by rfl)
  (ht:eval (.Call (.Attribute o m apos) (e::es) [] pos) X.env=(do
   let ov <-eval o X.env
   standAt apos.atName
   let (f,first) <-holding [ov] (Bz ov m pl)
   callWith pos f first (backTo pos (cJ (e::es) X.env)) (BC pos (Bo [] X.env))):=by rfl) :
  PE X (.Call (.Attribute o m apos) (e::es) [] pos) (Md C m sp dvs E ta t):=by
 intro p_ s σ H Q I h;refine W.methodCall_KW (pl:=pl) (aU (he p_ s σ H _ I h) λu s1 ⟨x,H1,I1,rx,a,dx,fs,ex,ea,l,q⟩=>?_) ht;subst ex;obtain rfl:u=cI a:=rx;refine Jh I1 ea c hm l ?_;refine G_ (first:=[.ref a]) (h₀:=X.base) I.ok.mod.qf hm.kp (aU (ha pos p_ s1 σ H1 _ I1 q) λus s2 ⟨vs,H2,I2,r,q2⟩=>⟨I2.dm,?_⟩) dh ff;exact BP (us:=.ref a::us) (vs:=.ref a::vs) F hr hb hd hx I2 (.cons rfl r) q2
theorem nv{pl:Sem Bool}(he:PE X o ta)(c:eX X.K C)(hm:Meth X.K C m f)(F:ay X.prog X.w X.K X.mg X.base CX k f fd ps sp)(hr:eV k X.A)(hb:Binds X.K fd ps ds)(hd:Vals dvs ds)(hx:Passes CX X E)
  (ht:eval (.Call (.Attribute o m apos) [] [] pos) X.env=(do
   let ov <-eval o X.env
   standAt apos.atName
   let (f,first) <-holding [ov] (Bz ov m pl)
   callWith pos f first (backTo pos (cJ [] X.env)) (BC pos (Bo [] X.env))):=by rfl) :
  PE X (.Call (.Attribute o m apos) [] [] pos) (Md C m sp dvs E ta FE):=by
 intro p_ s σ H Q I h;refine W.methodCall_KW (pl:=pl) (aU (he p_ s σ H _ I h) λu s1 ⟨x,H1,I1,rx,a,dx,fs,ex,ea,l,q⟩=>?_) ht;subst ex;obtain rfl:u=cI a:=rx;refine Jh I1 ea c hm l ?_;exact W.callWith_K0 (first:=[.ref a]) I1.dm hm.kp (BP (us:=[.ref a]) (vs:=[.ref a]) F hr hb hd hx I1 (.cons rfl .nil) q)
structure Mk(K:u_)(C f:e_):Prop where
 makes:W.makesIn K C=c_
 init:w_ K (.ref C) "__init__" = a_ (a_ (.ref f))
 fn:W.isFn K (.ref f)=c_
 kp:x_ K (.ref C)=c_
theorem adZ(M:Mk X.K C f)(F:ay X.prog X.w X.K X.mg X.base CX k f fd ps sp)(hr:eV (k+1) X.A)(hb:Binds X.K fd ps ds)(hd:Vals dvs ds)
  (hx:Passes CX X E) (I:Inv X p_ σ H s) (r:Vals vs us)
  (h:∀x dx,H x=b_->H dx=b_->dx≠x->sp (.ref x::(vs++dvs)) (upd (upd H dx (.own x)) x (.ins C dx [])) (λv H2=>v=.aG/\Q (.ref x) H2) E) :
  wpAny (model X.prog X.w) X.A (call (.ref C) us) (EP X p_ σ Q) X.xe s:=by
 have hq:=h (s.heap.objs.size+1) s.heap.objs.size (I.aH.fresh (jv _)) (I.aH.fresh (aI _)) (eM (DE _));have I2:=Inv.made (C:=C) I;have r2:Vals (V.ref (s.heap.objs.size+1)::(vs++dvs)) (cI (s.heap.objs.size+1)::(us++ds)):=.cons rfl (r.append hd)
 have hl:(cI (s.heap.objs.size+1)::us++ds).length=ps.length:=by
  have e:=r2.length;rw[F.len _ _ _ _ hq]at e;exact e.symm
 refine tW (aez (f:=f) I.dm M.makes M.init (beq_iff_eq.mp M.fn) (zo (F.run _ X.stack _ _ ⟨cI (s.heap.objs.size+1)::us,[]⟩ (cI (s.heap.objs.size+1)::(us++ds)) _ _ E (hr.make C us []) (I2.FU.make C us []) (hb _ (cI (s.heap.objs.size+1)::us) I2.dm hl) r2 hq) λr s' pf=>?_));cases r with
 | error e=>exact hx p_ σ _ _ e s' I2 pf
 | ok fl=>
  cases fl with
  | ret u=>
   obtain⟨v,H',I3,rv,ev,q3⟩:=I2.after pf;subst ev;exact⟨rv,⟨V.ref (s.heap.objs.size+1),H',I3,rfl,q3⟩⟩
  | next=>exact iF pf
  | brk=>exact iF pf
  | cont=>exact iF pf
theorem t7(M:Mk X.K C f)(F:ay X.prog X.w X.K X.mg X.base CX k f fd ps sp)(hr:eV (k+1) X.A)(hg:Gl X x)(hm:X.mg x=a_ (.ref C))(hb:Binds X.K fd ps ds)(hd:Vals dvs ds)(hx:Passes CX X E)
  (ha:PA X (e::es) t) (jQ:(x == ("__debug__" : Str))=false:=by decide) (he:cJ (e::es) X.env=(d_,eval e X.env)::cJ es X.env:=by rfl) (ff:(backTo pos (cJ es X.env)).any (·.1)=false:=by rfl) :
  PE X (.Call (.Name x p) (e::es) [] pos) (aiG C sp dvs E t):=by
 intro p_ s σ H Q I h;refine xw (ua I hg hm ?_ jQ);refine G_ (h₀:=X.base) I.ok.mod.qf M.kp (aU (ha pos p_ s σ H _ I h) λus s1 ⟨vs,H1,I1,r,q⟩=>⟨I1.dm,?_⟩) he ff;exact adZ M F hr hb hd hx I1 r q
end
section
variable{X:Cx}{CX:nY}{k:Nat}{f C:e_}{fd:jz}{ps ks:List Str}{sp:Sp}{E:XK}{x m:Str}{p pos apos ale:Pos}{e o:Expr}{es:List Expr}{kws:List Keyword}{te ta:TE}{t tk:TA}{nm:Option Str}
structure amI(K:u_)(fd:jz)(ps ks:List Str)(g:List f_->List f_->List f_)(gV:List V->List V->List V):Prop where
 to:∀(s:g_) (us ws:List f_),K.In s.heap->(g us ws).length=ps.length->BindsTo s fd ⟨us,ks.zip ws⟩ (ps.zip (g us ws))
 rel:∀{vs:List V} {us:List f_} {zs:List V} {ws:List f_},Vals vs us->Vals zs ws->Vals (gV vs zs) (g us ws)
variable{g:List f_->List f_->List f_}{gV:List V->List V->List V}
end
structure bp(N P:List Str)(sc:i_):Prop where
 kind:sc.kind=.function
 co:sc.isCoroutine=d_
 gen:sc.isGenerator=d_
 nd:N.Nodup
 pre:N.take P.length=P
 par:∀x∈P,sc.names.lookup x=a_ .local\/sc.names.lookup x=a_ .cell
 ahj:∀y∈sc.names,y.2≠.free
theorem bJ{N P:List Str}{sc:i_}(a:sc.kind=.function:=by rfl)(b:sc.isCoroutine=false:=by rfl)(c:sc.isGenerator=false:=by rfl)(d:N.Nodup:=by decide +kernel)(e:N.take P.length=P:=by rfl)(f:∀x∈P,sc.names.lookup x=a_ .local\/ sc.names.lookup x=a_ .cell:=by decide +kernel)(g:∀y∈sc.names,y.2≠.free:=by decide +kernel):bp N P sc:=⟨a,b,c,d,e,f,g⟩
theorem SM{kindOf:Str->Option gg}:∀{binds:List (Str×f_)} {m:Str->Option f_},(∀v,(x,v)∉binds)->bindL kindOf binds m x=m x
 | [],_,_=>rfl
 | (n,v)::r,m,h=>by
  unfold bindL;rw[SM λw hw=>h w (eE _ hw)]
  split
  ·have:x≠n:=by rintro rfl;exact h v f9
   simp[this]
  ·rfl
theorem SO{kindOf:Str->Option gg}:∀{binds:List (Str×f_)} {m:Str->Option f_},(∀v,(x,v)∉binds)->bindC kindOf binds m x=m x
 | [],_,_=>rfl
 | (n,v)::r,m,h=>by
  unfold bindC;rw[SO λw hw=>h w (eE _ hw)]
  split
  ·rfl
  ·have:x≠n:=by rintro rfl;exact h v f9
   simp[this]
theorem SN{kindOf:Str->Option gg}:∀{P:List Str} {vs:List f_} {i:Nat} {m:Str->Option f_},P.Nodup->P[i]?=a_ x->vs[i]?=a_ v->kindOf x=a_ .local->
  bindL kindOf (P.zip vs) m x=a_ v
 | [],_,_,_,_,h,_,_=>by simp at h
 | _::_,[],_,_,_,_,h,_=>by simp at h
 | p::P,w::vs,0,m,nd,h1,h2,hk=>by
  simp at h1 h2;subst h1;subst h2;show bindL kindOf ((p,w)::P.zip vs) m p=_;unfold bindL;rw[SM λv hv=>(za.mp nd).1 (Bd hv).1,if_pos hk];simp
 | p::P,w::vs,i+1,m,nd,h1,h2,hk=>by
  show bindL kindOf ((p,w)::P.zip vs) m x=_;unfold bindL;exact SN (i:=i) (za.mp nd).2 (by simpa using h1) (by simpa using h2) hk
theorem SQ{kindOf:Str->Option gg}:∀{P:List Str} {vs:List f_} {i:Nat} {m:Str->Option f_},P.Nodup->P[i]?=a_ x->vs[i]?=a_ v->kindOf x≠a_ .local->
  bindC kindOf (P.zip vs) m x=a_ v
 | [],_,_,_,_,h,_,_=>by simp at h
 | _::_,[],_,_,_,_,h,_=>by simp at h
 | p::P,w::vs,0,m,nd,h1,h2,hk=>by
  simp at h1 h2;subst h1;subst h2;show bindC kindOf ((p,w)::P.zip vs) m p=_;unfold bindC;rw[SO λv hv=>(za.mp nd).1 (Bd hv).1,if_neg hk];simp
 | p::P,w::vs,i+1,m,nd,h1,h2,hk=>by
  show bindC kindOf ((p,w)::P.zip vs) m x=_;unfold bindC;exact SQ (i:=i) (za.mp nd).2 (by simpa using h1) (by simpa using h2) hk
def start(N:List Str)(vs:List V):St:=vs.map a_++fg (N.length-vs.length) b_
def p0(CX:nY)(P:l_)(w:k_)(K:u_)(mg:Str->Option f_)(base:j_)(N:List Str)(qual:Str)(scope:i_)(f:e_)(cd:f_)(A:h_)(outer:List Env)(s:g_)(H:Hp)(E:XK):Cx where
 prog:=P
 w:=w
 K:=K
 mg:=mg
 base:=base
 A:=A.deeper (envOfC qual scope s.heap.objs.size f cd)
 N:=N
 s₀:=s
 H₀:=H
 env:=envOfC qual scope s.heap.objs.size f cd
 outer:=outer
 stack:=envOfC qual scope s.heap.objs.size f cd::outer
 ex:=[]
 calm:=c_
 fn:=λ_=>c_
 pn:=[]
 xe:=λe s'=>wpAny (model P w) (A.deeper (envOfC qual scope s.heap.objs.size f cd)) (leaving (envOfC qual scope s.heap.objs.size f cd) e) (λ_ yx=>CX outer H s E e yx) (λe' yx=>CX outer H s E e' yx) s'
theorem TR{sc:i_}{n:Nat}(h:sc.names.lookup x=a_ .cell):∃c,(cellsFrom n sc.names []).lookup x=a_ c:=by
 have q:=W.cellsFrom_some sc.names n [] (.inl h);exact PX.mp q
theorem adh{CX:nY}{P:l_}{w:k_}{K:u_}{mg:Str->Option f_}{base:j_}{scope:i_}{outer:List Env}
  (S:bp N ps scope) (hd:A.handled=b_) (e0:yh P w K mg base A outer s H) (hl:vs.length=ps.length) (r:Vals vs us)
  (x:InCallC s s.heap.objs.size (bindL (envOfC qual scope s.heap.objs.size f cd).kindOf (ps.zip us) λ_=>b_) (cellsFrom (s.heap.objs.size+1) scope.names []) (bindC (envOfC qual scope s.heap.objs.size f cd).kindOf (ps.zip us) λ_=>b_) s1) :
  Inv (p0 CX P w K mg base N qual scope f cd A outer s H E) [] (start N vs) H s1:=by
 have ff:ps.length<=N.length:=by have:=congrArg List.length S.pre;rw[dS]at this;omega
 obtain⟨h1,tk,rfl,hk⟩:=x.done;have tf:∀b:e_,b∉(p0 CX P w K mg base N qual scope f cd A outer s H E).ex:=λb z=>absurd (show b∈([]:List e_) from z) (by simp);refine⟨⟨e0.mod,S.kind,rfl,rfl,aI _,λy z c h1 h2=>?_,λy hy=>?_,λy c _ h=>?_,λ_=>hd,aaK e0.frames,.inr ⟨rfl,rfl⟩,λb z=>absurd z (tf b),e0.bs,e0.nX,λb _ _=>tf b,λb z=>absurd z (tf b),e0.mI,e0.sW⟩,rfl,e0.bare,Un.kept hk,⟨_,x.toInCall.ns,λi y v h1 h2 h3=>?_⟩,λy c h=>⟨_,x.cell y c h⟩,e0.aH.fresh (aI _),λy c h=>?_,λp hp=>absurd (show p∈([]:List (e_×Obj)) from hp) (by simp),e0.aH.kept hk,?_⟩
 ·exact name_of_addr x.apart (t_ h1) (t_ h2)
 ·have hy:scope.names.lookup y=a_ .cell\/scope.names.lookup y=a_ .free:=hy;rcases hy with hy | hy
  ·exact TR hy
  ·exact absurd rfl (S.ahj _ (t_ hy))
 ·exact eO (x.above y c (t_ h))
 ·have hi:i<vs.length:=by
   unfold start at h2
   by_cases hi:i<vs.length
   ·exact hi
   ·rw[tL (by simpa using hi)]at h2;rw[aav]at h2
    split at h2 <;> cases h2
  have ha:vs[i]?=a_ v:=by
   unfold start at h2;rw[vj (by simpa using hi),dq]at h2;cases e:vs[i]? with
   | none=>rw[e]at h2;cases h2
   | some a=>rw[e]at h2;cases h2;rfl
  obtain⟨u,hu,rv⟩:=r.get ha
  have hp:ps[i]?=a_ y:=by
   rw[<-S.pre,List.getElem?_take_of_lt om];exact h1
  have Y4:ps.Nodup:=by rw[<-S.pre];exact S.nd.sublist (Ih _ _)
  refine⟨u,rv,?_⟩;rcases S.par y (b9 hp)with k | k
  ·exact .inl ⟨k,SN Y4 hp hu k⟩
  ·obtain⟨c,e⟩:=TR (n:=s.heap.objs.size+1) k;refine .inr ⟨.inl k,c,e,?_⟩;have q:=x.cell y c e;rw[SQ Y4 hp hu (by show scope.names.lookup y≠_;rw[k];decide)]at q;exact q
 ·exact e0.aH.fresh (eO (x.above y c (t_ h)))
 ·unfold start;show _=N.length;rw[cj,aP,HZ];omega
theorem v7{CX:nY}{P:l_}{w:k_}{K:u_}{mg:Str->Option f_}{base:j_}{k:Nat}{params:Arguments}{body:List Stmt}{scope:i_}{dV kV doc pm aM ct oc:f_}{an od:Option e_}
  {i5:Array (Option f_)} {sp:Sp} (lk:K.lookup f=a_ ⟨oc,od,.func (B_ name qual params body scope dV kV doc pm an aM ct),i5⟩) (gv:W.codeIn K aM qual=c_) (S:bp N ps scope)
  (len:∀vs H Q E,sp vs H Q E->vs.length=ps.length)
  (uv:∀(A:h_) (outer:List Env) (s:g_) (H:Hp) (vs:List V) (Q:VK) (E:XK),eV k (A.deeper (envOfC qual scope s.heap.objs.size f aM))->sp vs H Q E->
   ∃t,fJ (p0 CX P w K mg base N qual scope f aM A outer s H E) body t/\t { nx:=λ_ H'=>Q .aG H',rt:=Q } (start N vs) H) :
  ay P w K mg base CX (k+1) f (B_ name qual params body scope dV kV doc pm an aM ct) ps sp:=by
 refine⟨len,λA outer s H args us vs Q E hr e0 hb r qi=>?_⟩;have hl:=len _ _ _ _ qi;have KX:K.In s.heap:=e0.mod.qf.keeps λb o e=>(e0.bs b o e).1;have lim:s.heap.NoLimit:=e0.mod.nolimit.keeps λb o e=>(e0.bs b o e).1
 have akh:∀y∈ps.zip us,scope.names.lookup y.1=a_ .local\/(scope.names.lookup y.1=a_ .cell/\((cellsFrom (s.heap.objs.size+1) scope.names []).lookup y.1).isSome=c_):=λ⟨n,v⟩ hy=>by
  rcases S.par n (Bd hy).1 with q | q
  ·exact .inl q
  ·exact .inr ⟨q,W.cellsFrom_some _ _ _ (.inl q)⟩
 refine codeAny_call_function hr.depth (KX _ _ lk) rfl S.co S.gen rfl (W.codeRec_of KX gv) (hb _ _ _ _ ?_);refine wpAny_newFunctionEnv_cells S.kind akh λenv he s1 x=>?_;subst he;refine⟨lim.keeps x.toInCall.keep,codeAny_func ?_⟩;obtain⟨t,ht,hq⟩:=uv A outer s H vs Q E (hr.deeper _) qi;have I:Inv (p0 CX P w K mg base N qual scope f aM A outer s H E) [] (start N vs) H s1:=adh S hr.hd e0 hl r x;refine gf (ht [] s1 (start N vs) H _ I hq) (λfl s' hs=>?_) λe s' hs=>hs
 have fin:∀{σ':St} {H':Hp} {v:V} {u:f_},Inv (p0 CX P w K mg base N qual scope f aM A outer s H E) [] σ' H' s'->RelV v u->Q v H'->CE outer P w H s Q u s':=
  λ{σ' H' v u} J rv q=>⟨v,H',J.os,J.bare,J.base,J.aH,rv,q⟩
 cases fl with
 | ret u=>
  obtain⟨v,σ',H',J,rv,q⟩:=hs;exact fin J rv q
 | next=>
  obtain⟨σ',H',J,q⟩:=hs;exact fin (v:=V.aG) (u:=iE) J rfl q
 | brk=>
  obtain⟨_,_,_,q⟩:=hs;exact iF q
 | cont=>
  obtain⟨_,_,_,q⟩:=hs;exact iF q
section
variable{X:Cx}{x:Str}{p pos:Pos}{e:Expr}{es:List Expr}{t:TA}{id T:String}{r:List V->Hp->VK->Prop}
def X5(r:List V->Hp->VK->Prop)(t:TA):TE:=λσ H Q=>t σ H λvs H1=>r vs H1 Q
theorem bG(hc:lK X (.builtin id) r)(hg:Gl X x)(hm:X.mg x=b_)(hv:vw x=a_ (.builtin id))(ha:PA X (e::es) t)(hn:x ≠ "__name__":=by decide)(jQ:(x == ("__debug__" : Str))=false:=by decide)
  (he:cJ (e::es) X.env=(d_,eval e X.env)::cJ es X.env:=by rfl) (ff:(backTo pos (cJ es X.env)).any (·.1)=false:=by rfl):PE X (.Call (.Name x p) (e::es) [] pos) (X5 r t):=by
 intro p_ s σ H Q I h;refine xw (vU I hg hm hv ?_ hn jQ);exact PyProof.Rows.callWith_builtin1 (aU (ha pos p_ s σ H _ I h) λus s1 ⟨vs,H1,I1,r1,q1⟩=>hc p_ s1 σ H1 vs us Q I1 r1 q1) he ff
theorem xK(hc:lK X (.type T) r)(hg:Gl X x)(hm:X.mg x=b_)(hv:vw x=a_ (.type T))(ha:PA X (e::es) t)(hn:x ≠ "__name__":=by decide)(jQ:(x == ("__debug__" : Str))=false:=by decide)
  (he:cJ (e::es) X.env=(d_,eval e X.env)::cJ es X.env:=by rfl) (ff:(backTo pos (cJ es X.env)).any (·.1)=false:=by rfl):PE X (.Call (.Name x p) (e::es) [] pos) (X5 r t):=by
 intro p_ s σ H Q I h;refine xw (vU I hg hm hv ?_ hn jQ);exact Dw (aU (ha pos p_ s σ H _ I h) λus s1 ⟨vs,H1,I1,r1,q1⟩=>hc p_ s1 σ H1 vs us Q I1 r1 q1) he ff
end
end L2
namespace HT
section
open PySem.SeqAt
open PySem.AutoSeq1 (wpAny_loadPart')
open PySem.MeetsSeq PySem.MeetsSeq2 PySem.MeetsSeq3
end
section
variable{prog:l_}{w:k_}{A:h_}{E:f_->g_->Prop}{s:g_}
def cF(n d:Nat):Option Int->Nat
 | none=>d
 | some v=>if v<0 then (v+(n:Int)).toNat else min v.toNat n
theorem Tf(n d:Nat):cF n d b_=d:=rfl
theorem Uo(n d k:Nat):cF n d (a_ (k:Int))=min k n:=by
 show (if (k:Int)<0 then ((k:Int)+(n:Int)).toNat else min (k:Int).toNat n)=min k n;rw[if_neg om,lC]
theorem agY(n d:Nat)(hd:d<=n)(o:Option Int):cF n d o<=n:=by
 cases o with
 | none=>exact hd
 | some v=>
  show (if v<0 then (v+(n:Int)).toNat else min v.toNat n)<=n
  by_cases hv:v<0
  ·rw[if_pos hv];omega
  ·rw[if_neg hv];exact Nat.min_le_right _ _
theorem UY(v:Int)(n d:Nat):(if v<0 then max (v+(n:Int)) 0 else min v (n:Int))=((cF n d (a_ v):Nat):Int):=by
 show (if v<0 then max (v+(n:Int)) 0 else min v (n:Int))=(((if v<0 then (v+(n:Int)).toNat else min v.toNat n):Nat):Int)
 by_cases hv:v<0
 ·simp only[if_pos hv];omega
 ·simp only[if_neg hv];omega
theorem acq(lo hi:Option Int)(n:Nat):PU lo hi 1 (n:Int)=(((cF n 0 lo:Nat):Int),((cF n n hi:Nat):Int)):=by
 have h1:¬((1:Int)<0):=om;unfold PU;simp only[h1,if_false];refine t6 ?_ ?_
 ·cases lo with
  | none=>rfl
  | some v=>exact UY v n 0
 ·cases hi with
  | none=>rfl
  | some v=>exact UY v n n
theorem ab3(i j:Nat):HV (i:Int) (j:Int) 1=j-i:=by
 unfold HV;have h1:(1:Int) > 0:=om;simp only[h1,if_true,Int.ediv_one]
 split <;> omega
theorem Rk{o:Option Int}{Q:Option Int->g_->Prop}(p:IsPart v o)(h:Q o s):wpAny (model prog w) A (Builtin.Slice.slicePartIndex v) Q E s:=by
 cases p with
 | none=>exact slicePart_none h
 | int i t=>exact slicePart_int h
theorem aa4{sl:e_}{lo hi:Option Int}{n:Nat}{Q:Int×Int×Nat->g_->Prop}(hs:s.heap.IsSliceOf sl vl vu .none)(pl:IsPart vl lo)(pu:IsPart vu hi)
  (h:Q (((cF n 0 lo:Nat):Int),1,cF n n hi-cF n 0 lo) s):wpAny (model prog w) A (aaj (.ref sl) (pure (n:Int))) Q E s:=by
 obtain⟨os,CW,AX,va⟩:=id hs;unfold aaj Builtin.Slice.sliceFields;refine aq (aq (ju CW va (x:=vl) rfl (aq (ju CW va (x:=vu) rfl (aq (ju CW va (x:=.none) rfl (aV ?_)))))));refine aq (slicePart_none ?_);show wpAny _ _ (if ((1:Int) == 0)=c_ then _ else _) _ _ s;rw[if_neg qc];refine aq (Rk pl (aq (Rk pu (aq (aV ?_)))));show wpAny _ _ (match PU lo hi 1 (n:Int)with | (lo,hi)=>pure (lo,(1:Int),HV lo hi 1)) _ _ s;rw[acq lo hi n];show wpAny _ _ (pure (((cF n 0 lo:Nat):Int),(1:Int),HV ((cF n 0 lo:Nat):Int) ((cF n n hi:Nat):Int) 1)) _ _ s;rw[ab3];exact aV h
theorem ad6(xs:Array f_)(i k:Nat):((List.range k).filterMap λ(m:Nat)=>xs[((i:Int)+(m:Int)*1).toNat]?).toArray=((xs.toList.drop i).take k).toArray:=by
 have e:(λ(m:Nat)=>xs[((i:Int)+(m:Int)*1).toNat]?)=λm=>xs[i+m]?:=by
  funext m
  have:((i:Int)+(m:Int)*1).toNat=i+m:=om;rw[this]
 rw[e];have:=pick_run xs i k;rw[List.filterMap_map]at this;have e2:((λx=>xs[x]?) ∘ λx=>i+x)=λm=>xs[i+m]?:=rfl;rw[e2]at this;rw[this]
theorem aaU{t sl:e_}{items:Array f_}{lo hi:Option Int}(ht:IsTup s.heap t items)(hs:s.heap.IsSliceOf sl vl vu .none)(pl:IsPart vl lo)(pu:IsPart vu hi)
  (hw:¬(cF items.size 0 lo=0/\cF items.size items.size hi=items.size))
  (h:Q (.ref s.heap.objs.size) { s with heap:=s.heap.push { cls:=.type "tuple",data:=.seq ((items.toList.drop (cF items.size 0 lo)).take (cF items.size items.size hi-cF items.size 0 lo)).toArray } })
  (hsz:items.size<=cq):wpAny (model prog w) A (getItem (.ref t) (.ref sl)) Q E s:=by
 have Fz:sizeOk (.seq ((items.toList.drop (cF items.size 0 lo)).take (cF items.size items.size hi-cF items.size 0 lo)).toArray):=by
  show ((items.toList.drop (cF items.size 0 lo)).take (cF items.size items.size hi-cF items.size 0 lo)).toArray.size<=cq;rw[dH,dS,rY,eG];omega
 have hj:cF items.size items.size hi<=items.size:=agY _ _ (aI _) hi;obtain⟨os,CW,AX,va⟩:=id hs;have hTs:s.TypeIs (.ref sl) "slice":=⟨os,CW,AX⟩;unfold getItem
 try with_reducible refine lE ?_
 first | refine aq (aV ?_) | skip
 refine aq (wpAny_sequenceKey ht.typeIs qc ?_);refine aq (A3 (name:=gc "__getitem__") ht.typeIs PM (y6 PM ht.typeIs entry_tuple_getitem ?_ (args_tuple_getitem _ _)));show wpAny _ _ (Builtin.Tuple.tupleItemsOf (.ref t) >>= _) _ _ s;refine aq (tupleItemsOf_ ht ?_);refine aq (wpAny_typeOf hTs ?_);rw[if_pos qc];refine aq (aa4 hs pl pu ?_)
 have ky:¬((((cF items.size 0 lo:Nat):Int) == 0&&(1:Int) == 1&&(cF items.size items.size hi-cF items.size 0 lo) == items.size)=c_):=by
  intro q;rw[jR,jR]at q;have q1:((cF items.size 0 lo:Nat):Int)=0:=jf q.1.1;have q2:cF items.size items.size hi-cF items.size 0 lo=items.size:=jf q.2;exact hw ⟨om,om⟩
 show wpAny _ _ (if (((cF items.size 0 lo:Nat):Int) == 0&&(1:Int) == 1&&(cF items.size items.size hi-cF items.size 0 lo) == items.size)=c_ then _ else _) _ _ s;rw[if_neg ky,ad6]
 first
  | exact aq (m:=HW _) (xx (aV ⟨_,rfl,aV h⟩) Fz)
  | exact aq (m:=HW _) (xx (aq (aV (aV ⟨_,rfl,aV h⟩))) Fz)
  | exact aq (aq (m:=HW _) (xx (aV (aV ⟨_,rfl,aV h⟩)) Fz))
  | exact aq (aq (m:=HW _) (xx (aV ⟨_,rfl,aV h⟩) Fz))
end
end HT
namespace L2
abbrev TO:=St->Hp->(Option Int->Hp->Prop)->Prop
def PO(X:Cx)(e:Option Expr)(t:TO):Prop:=
 ∀(p_:List (e_×Obj)) (s:g_) (σ:St) (H:Hp) (Q:Option Int->Hp->Prop),Inv X p_ σ H s->t σ H Q->
  wpAny (model X.prog X.w) X.A (evalPart e X.env) (λu s'=>∃o H',Inv X p_ σ H' s'/\IsPart u o/\Q o H') X.xe s
def afl:TO:=λ_ H Q=>Q b_ H
def aiD(t:TE):TO:=λσ H Q=>t σ H λx H1=>∃i,x=.int i/\Q (a_ i) H1
theorem intsAre_of:∀{us:List f_},Vals (ns.map V.int) us->IntsAre us ns:=by
 induction ns with
 | nil=>intro us r;rw[IY]at r;cases r;exact .nil
 | cons n ns ih=>
  intro us r;rw[fh]at r;cases r with
  | cons r1 r2=>
   obtain⟨t,e⟩:=r1;subst e;exact .cons n t (ih r2)
section
variable{X:Cx}{e:Expr}{te:TE}{lo hi:Option Expr}{tl th:TO}{pos p2:Pos}
theorem zM:PO X b_ afl:=by
 intro p_ s σ H Q I h;rw[evalPart_none];exact aV ⟨b_,H,I,.none,h⟩
theorem zL(h:PE X e te):PO X (a_ e) (aiD te):=by
 intro p_ s σ H Q I hw;rw[evalPart_some];refine aU (h p_ s σ H _ I hw) λu s1 ⟨x,H1,I1,r1,q1⟩=>?_;obtain⟨i,rfl,q⟩:=q1;obtain⟨t,rfl⟩:=r1;exact⟨a_ i,H1,I1,.int i t,q⟩
def GQ(X:Cx)(r:V->Option Int->Option Int->Hp->VK->Prop):Prop:=
 ∀(p_:List (e_×Obj)) (s:g_) (σ:St) (H:Hp) (x:V) (v vl vu:f_) (lo hi:Option Int) (sl:e_) (Q:VK),Inv X p_ σ H s->RelV x v->s.heap.IsSliceOf sl vl vu .none->IsPart vl lo->IsPart vu hi->r x lo hi H Q->
  ∃T id,D4 (.type T) "__getitem__" = pure (a_ (.builtin id))/\s.TypeIs v T/\wpAny (model X.prog X.w) X.A (getItem v (.ref sl)) (EP X p_ σ Q) X.xe s
def tSl(r:V->Option Int->Option Int->Hp->VK->Prop)(te:TE)(tl th:TO):TE:=λσ H Q=>te σ H λx H1=>tl σ H1 λl H2=>th σ H2 λu H3=>r x l u H3 Q
theorem zH{r:V->Option Int->Option Int->Hp->VK->Prop}(hr:GQ X r)(he:PE X e te)(hl:PO X lo tl)(hu:PO X hi th):PE X (.Subscript e (.Slice lo hi b_ p2) pos) (tSl r te tl th):=by
 intro p_ s σ H Q I h;refine Subscript_ (aU (he p_ s σ H _ I h) λv s1 ⟨x,H1,I1,r1,q1⟩=>?_);refine wpAny_Slice (aU (hl p_ s1 σ H1 _ I1 q1) λvl s2 ⟨l,H2,I2,pl,q2⟩=>aU (hu p_ s2 σ H2 _ I2 q2) λvu s3 ⟨u,H3,I3,pu,q3⟩=>?_);rw[evalPart_none];refine aV ?_;have I4:Inv X p_ σ H3 { s3 with heap:=s3.heap.push { cls:=.type "slice",data:=.fields #[vl,vu,.none] } }:=I3.kept (t':=s3.toks) λb ob q=>bo _ q;obtain⟨T,id,hT,ht,hg⟩:=hr p_ { s3 with heap:=s3.heap.push { cls:=.type "slice",data:=.fields #[vl,vu,.none] } } σ H3 x v vl vu l u s3.heap.objs.size Q I4 r1 (Heap.IsSliceOf.new ..) pl pu q3;show wpAny (model X.prog X.w) X.A (subscriptTail e (.Slice lo hi b_ p2) v (.ref s3.heap.objs.size)) (EP X p_ σ Q) X.xe { s3 with heap:=s3.heap.push { cls:=.type "slice",data:=.fields #[vl,vu,.none] } };exact tail_any (ops:=[.ref s3.heap.objs.size,v]) ht hT hg (by with_unfolding_all rfl)
def mJ(xs:List V)(lo hi:Option Int):List V:=(xs.drop (HT.cF xs.length 0 lo)).take (HT.cF xs.length xs.length hi-HT.cF xs.length 0 lo)
theorem Rb(xs:List V)(lo hi:Option Int):(mJ xs lo hi).length<=xs.length:=by
 unfold mJ;rw[dS,rY];omega
def WV(K:u_):V->Option Int->Option Int->Hp->VK->Prop:=λx lo hi H Q=>∃a xs,x=.ref a/\aJ K H a xs/\
 ¬(HT.cF xs.length 0 lo=0/\HT.cF xs.length xs.length hi=xs.length)/\∀p,H p=b_->Q (.ref p) (upd H p (.tup (mJ xs lo hi)))
theorem Lf:GQ X (WV X.K):=by
 intro p_ s σ H x v vl vu lo hi sl Q I rx hs pl pu h;obtain⟨a,xs,rfl,hx,hw,q⟩:=h;cases rx;obtain⟨ar,r,ht,hz⟩:=I.tuple hx;have hlen:ar.toArray.size=xs.length:=by rw[dH];exact r.length.symm
 refine⟨"tuple",_,PM.lookup,ht.typeIs,?_⟩;refine HT.aaU ht hs pl pu (by rw[hlen];exact hw) ?_ (by rw[hlen];exact hz);rw[hlen];refine⟨.ref s.heap.objs.size,_,I.laid (t':=s.toks) (o:=.tup (mJ xs lo hi)) (λb ob q=>bo _ q) (aI _) ?_,rfl,q _ (I.aH.fresh (aI _))⟩;exact⟨c7 (Rb xs lo hi) hz,_,(r.drop (HT.cF xs.length 0 lo)).take (HT.cF xs.length xs.length hi-HT.cF xs.length 0 lo),IsTup.new _ _⟩
end
def q8(n:Nat)(i:Int):Option Nat:=if 0<=i then (if i<n then a_ i.toNat else b_) else if -(n:Int)<=i then a_ (i+n).toNat else b_
def iB{α:Type}(xs:List α)(i:Int):Option α:=(q8 xs.length i).bind λj=>xs[j]?
theorem UG{n:Nat}{i:Int}{j:Nat}(h:q8 n i=a_ j):JH i n=a_ j/\j<n/\-(n:Int)<=i/\i<n:=by
 unfold q8 at h
 by_cases h0:0<=i
 ·rw[if_pos h0]at h
  by_cases h1:i<n
  ·rw[if_pos h1]at h;have e:i.toNat=j:=dr h;exact⟨by rw[seqIndex_of h0 h1,e],om,om,h1⟩
  ·rw[if_neg h1]at h;cases h
 ·rw[if_neg h0]at h
  by_cases h1:-(n:Int)<=i
  ·rw[if_pos h1]at h;have e:(i+n).toNat=j:=dr h;exact⟨by rw[QV om h1,e],om,h1,om⟩
  ·rw[if_neg h1]at h;cases h
theorem U4{α:Type}{xs:List α}{i:Int}{v:α}(h:iB xs i=a_ v):∃j,JH i xs.length=a_ j/\xs[j]?=a_ v/\j<xs.length/\-(xs.length:Int)<=i/\i<xs.length:=by
 unfold iB at h;cases e:q8 xs.length i with
 | none=>rw[e]at h;cases h
 | some j=>
  rw[e]at h;obtain⟨h1,h2,h3,h4⟩:=UG e;exact⟨j,h1,h,h2,h3,h4⟩
theorem cR{α:Type}{xs:List α}{j:Nat}{v:α}(h:xs[j]?=a_ v):iB xs (j:Int)=a_ v:=by
 have hj:j<xs.length:=(dy.mp h).1
 have e:q8 xs.length (j:Int)=a_ j:=by
  unfold q8;rw[if_pos om,if_pos om];simp
 unfold iB;rw[e];exact h
theorem TV{α:Type}(xs:List α)(v:α):iB (xs++[v]) (-1)=a_ v:=by
 have hl:(xs++[v]).length=xs.length+1:=by simp
 have e:q8 (xs++[v]).length (-1)=a_ xs.length:=by
  unfold q8;rw[hl,if_neg qc,if_pos om]
  congr 1
  omega
 unfold iB;rw[e];show (xs++[v])[xs.length]?=a_ v;simp
def agD(b:Expr):Prop:=∀o i,subscripted b d_ o i=operate [o,i] (getItem o i)
def CA(X:Cx)(r:R2):Prop:=
 ∀(value slice:Expr) (p_:List (e_×Obj)) (s:g_) (σ:St) (H:Hp) (x y:V) (v u:f_) (Q:VK),Inv X p_ σ H s->RelV x v->RelV y u->r x y H Q->
  subscripted slice d_ v u=operate [v,u] (getItem v u)->wpAny (model X.prog X.w) X.A (subscriptTail value slice v u) (EP X p_ σ Q) X.xe s
def Yo(X:Cx)(id:String)(r:V->List V->Hp->VK->Prop):Prop:=
 ∀(p_:List (e_×Obj)) (s:g_) (σ:St) (H:Hp) (x:V) (xs:List V) (v:f_) (us:List f_) (Q:VK),Inv X p_ σ H s->RelV x v->Vals xs us->r x xs H Q->
  wpAny (model X.prog X.w) X.A (call (.builtin id) (v::us)) (EP X p_ σ Q) X.xe s
section
variable{X:Cx}{a b:Expr}{ta tb:TE}{pos:Pos}
theorem aT{r:R2}(hr:CA X r)(ha:PE X a ta)(hb:PE X b tb)(hs:agD b:=by intro _ _;rfl):PE X (.Subscript a b pos) (yj r ta tb):=by
 intro p_ s σ H Q I h;exact Subscript_ (Ny ha hb I h λv u s2 x y H2 I2 rx ry q=>hr a b p_ s2 σ H2 x y v u Q I2 rx ry q (hs _ _))
def Af(K:u_):R2:=λx y H Q=>∃p xs i v,x=.ref p/\y=.int i/\av K H p xs/\iB xs i=a_ v/\Q v H
def Ce(K:u_):R2:=λx y H Q=>∃p xs i v,x=.ref p/\y=.int i/\aJ K H p xs/\iB xs i=a_ v/\Q v H
theorem cY:CA X (Af X.K):=by
 intro value slice p_ s σ H x y v u Q I rx ry h hs;obtain⟨p,xs,i,z,rfl,rfl,hq,he,q⟩:=h;cases rx;obtain⟨t,rfl⟩:=ry;obtain⟨ar,r,pl,hz⟩:=I.list hq;obtain⟨j,h1,h2,h3,h4,h5⟩:=U4 he;obtain⟨w,ew,uQ⟩:=r.get h2;have hl:=r.length;have hn:=BS;have fin:EP X p_ σ Q w s:=⟨z,H,I,uQ,q⟩
 by_cases h0:0<=i
 ·have hj:i.toNat=j:=by
   rw[seqIndex_of h0 h5]at h1;exact dr h1
  exact item_listR pl.isList h0 om (by rw[hj];simpa using ew) fin hs
 ·have hj:(i+(ar.toArray.size:Int)).toNat=j:=by
   rw[QV om h4]at h1;rw[dH,<-hl];exact dr h1
  exact aay (x:=w) pl.isList.typeIs slot_list_getitem.lookup
   (wpAny_getItem_list_neg (Q:=λr s'=>r=w/\EP X p_ σ Q r s') pl.isList om (by rw[dH] <;> omega) om (by rw[hj];simpa using ew) ⟨rfl,fin⟩) hs
theorem de:CA X (Ce X.K):=by
 intro value slice p_ s σ H x y v u Q I rx ry h hs;obtain⟨p,xs,i,z,rfl,rfl,hq,he,q⟩:=h;cases rx;obtain⟨t,rfl⟩:=ry;obtain⟨ar,r,pl,hz⟩:=I.tuple hq;obtain⟨j,h1,h2,h3,h4,h5⟩:=U4 he;obtain⟨w,ew,uQ⟩:=r.get h2;have hl:=r.length;have hn:=BS;have fin:EP X p_ σ Q w s:=⟨z,H,I,uQ,q⟩
 exact aay (x:=w) pl.typeIs slot_tuple_getitem.lookup
  (getItem_tuple (j:=j) (Q:=λr s'=>r=w/\EP X p_ σ Q r s') pl om om (by rw[dH,<-hl];exact h1) (by simpa using ew) ⟨rfl,fin⟩) hs
theorem ach(ar:List f_)(n j:Nat)(u:f_):ow (·.setIfInBounds j u) { cls:=.type "list",data:=.seq ar.toArray n }={ cls:=.type "list",data:=.seq (ar.set j u).toArray n }:=by
 simp[ow]
theorem Inv.lst(I:Inv X p_ σ H s)(h:H p=a_ (.lst xs)) :
  ∃(ar:List f_) (n:Nat),Vals xs ar/\s.heap.get? p=a_ { cls:=.type "list",data:=.seq ar.toArray n }/\xs.length<=cq:=by
 obtain⟨z,ar,n,r,e⟩:=I.aH p _ h;exact⟨ar,n,r,e,z⟩
theorem Inv.ahu{p_:List (e_×Obj)}{σ:St}{H:Hp}{s:g_}{p:e_}{xs ys:List V}{ar lQ:List f_}{n n':Nat}{f:Obj->Obj}(I:Inv X p_ σ H s)(h:H p=a_ (.lst xs))
  (ho:s.heap.get? p=a_ { cls:=.type "list",data:=.seq ar.toArray n }) (hf:f { cls:=.type "list",data:=.seq ar.toArray n }={ cls:=.type "list",data:=.seq lQ.toArray n' }) (r:Vals ys lQ) (hz:ys.length<=cq) (t:Nat) :
  Inv X p_ σ (upd H p (.lst ys)) { s with heap:=s.heap.update p f,toks:=t }:=by
 have e:(s.heap.update p f).get? p=a_ { cls:=.type "list",data:=.seq lQ.toArray n' }:=by
  rw[A4 f ho (by rw[hf] <;> rfl),hf]
 refine I.write (x:=p) (e:=p) (by rw[h];trivial) (.inl rfl) (λb u hb q=>(vk _ _ (dW hb)).trans q) ⟨_,e⟩ ?_;exact⟨hz,lQ,n',r,e⟩
def aiO:V->V->V->Hp->(Hp->Prop)->Prop:=λo i v H Q=>∃p xs k j,o=.ref p/\i=.int k/\H p=a_ (.lst xs)/\q8 xs.length k=a_ j/\Q (upd H p (.lst (xs.set j v)))
theorem set_list:Nz X aiO:=by
 intro p_ s σ H o i v ov iv u Q I ro ri rv h;obtain⟨p,xs,k,j,rfl,rfl,hp,hj,q⟩:=h;cases ro;obtain⟨t,rfl⟩:=ri;obtain⟨ar,n,r,ho,hz⟩:=I.lst hp;obtain⟨h1,h2,h3,h4⟩:=UG hj;have hl:=r.length;have hn:=BS
 have I':Inv X p_ σ (upd H p (.lst (xs.set j v))) { s with heap:=s.heap.update p (ow (·.setIfInBounds j u)) }:=
  I.ahu hp ho (ach ar n j u) (r.set rv j) (by rw[pD];exact hz) s.toks
 by_cases h0:0<=k
 ·have hk:k.toNat=j:=by
   rw[seqIndex_of h0 h4]at h1;exact dr h1
  exact W.ki_setAt ho h0 om (by rw[dH,<-hl];exact h4) (by rw[hk];exact⟨_,I',q⟩)
 ·have hk:(k+(ar.toArray.size:Int)).toNat=j:=by
   rw[QV om h3]at h1;rw[dH,<-hl];exact dr h1
  exact W.ki_setBack ho om (by rw[dH,<-hl];exact h3) om (by rw[hk];exact⟨_,I',q⟩)
theorem X7(i:Int)(n d:Nat):max 0 (min (if i<0 then i+(n:Int) else i) (n:Int))=((HT.cF n d (a_ i):Nat):Int):=by
 show _=(((if i<0 then (i+(n:Int)).toNat else min i.toNat n:Nat)):Int)
 by_cases h:i<0
 ·rw[if_pos h,if_pos h];lia
 ·rw[if_neg h,if_neg h];lia
theorem abB(lo hi:Option Int)(n:Nat):(sliceBounds lo hi b_ n).1=((HT.cF n 0 lo:Nat):Int)/\(sliceBounds lo hi b_ n).2.1=((HT.cF n n hi:Nat):Int)/\(sliceBounds lo hi b_ n).2.2=1:=by
 refine⟨?_,?_,rfl⟩
 ·cases lo with
  | none=>rfl
  | some i=>exact(X7 i n 0)
 ·cases hi with
  | none=>rfl
  | some i=>exact(X7 i n n)
theorem abm(ar:List f_)(lo hi:Option Int):slicePick ar.toArray lo hi b_=((ar.drop (HT.cF ar.length 0 lo)).take (HT.cF ar.length ar.length hi-HT.cF ar.length 0 lo)).toArray:=by
 obtain⟨h1,h2,h3⟩:=abB lo hi ar.toArray.size;unfold slicePick;rw[h1,h2,h3];simp only[sliceRange_one,pick_run,dH] <;> rfl
def akL(K:u_):V->Option Int->Option Int->Hp->VK->Prop:=λx lo hi H Q=>∃a xs,x=.ref a/\av K H a xs/\∀p,H p=b_->Q (.ref p) (upd H p (.lst (mJ xs lo hi)))
theorem Kp:GQ X (akL X.K):=by
 intro p_ s σ H x v vl vu lo hi sl Q I rx hs pl pu h;obtain⟨a,xs,rfl,hx,q⟩:=h;cases rx;obtain⟨ar,r,ht,hz⟩:=I.list hx;have hlen:=r.length;refine⟨"list",_,slot_list_getitem.lookup,ht.isList.typeIs,?_⟩;refine wpAny_getItem_list_slice ht.isList hs pl pu .none (by simp) ?_ (by rw[dH] <;> omega);rw[abm,<-hlen];refine⟨.ref s.heap.objs.size,_,I.laid (t':=s.toks) (o:=.lst (mJ xs lo hi)) (λb ob q=>bo _ q) (aI _) ?_,rfl,q _ (I.aH.fresh (aI _))⟩;exact⟨c7 (Rb xs lo hi) hz,_,0,(r.drop (HT.cF xs.length 0 lo)).take (HT.cF xs.length xs.length hi-HT.cF xs.length 0 lo),gw _ rfl⟩
def uo:V->Bool
 | .aG=>c_
 | .bl _=>c_
 | .int _=>c_
 | .str _=>c_
 | _=>d_
def oU:V->V->Bool
 | .aG,.aG=>c_
 | .bl a,.bl b=>a == b
 | .bl a,.int b=>(if a then 1 else 0) == b
 | .int a,.bl b=>a == (if b then 1 else 0)
 | .int a,.int b=>a == b
 | .str a,.str b=>a == b
 | _,_=>d_
theorem ahS(ry:RelV y u)(rx:RelV x v)(fy:uo y=c_)(fx:uo x=c_):jw A s u v (oU y x):=by
 cases y with
 | aG=>
  cases ry;cases x with
  | aG=>cases rx;exact jw.same _
  | bl b=>cases rx;exact jw.none_bool b
  | int b=>obtain⟨t,rfl⟩:=rx;exact aaL b t
  | str b=>obtain⟨t,rfl⟩:=rx;exact jw.none_str b t
  | _=>exact absurd (show d_=c_ from fx) eI
 | bl a=>
  cases ry;cases x with
  | aG=>cases rx;exact jw.bool_none a
  | bl b=>cases rx;exact jw.bool_bool a b
  | int b=>obtain⟨t,rfl⟩:=rx;exact jw.bool_int a b t
  | str b=>obtain⟨t,rfl⟩:=rx;exact jw.bool_str a b t
  | _=>exact absurd (show d_=c_ from fx) eI
 | int a=>
  obtain⟨t',rfl⟩:=ry;cases x with
  | aG=>cases rx;exact aaM a t'
  | bl b=>cases rx;exact jw.int_bool a t' b
  | int b=>obtain⟨t,rfl⟩:=rx;exact jw.int_int a t' b t
  | str b=>obtain⟨t,rfl⟩:=rx;exact jw.int_str a t' b t
  | _=>exact absurd (show d_=c_ from fx) eI
 | str a=>
  obtain⟨t',rfl⟩:=ry;cases x with
  | aG=>cases rx;exact jw.str_none a t'
  | bl b=>cases rx;exact jw.str_bool a t' b
  | int b=>obtain⟨t,rfl⟩:=rx;exact jw.str_int a t' b t
  | str b=>obtain⟨t,rfl⟩:=rx;exact jw.str_str a t' b t
  | _=>exact absurd (show d_=c_ from fx) eI
 | _=>exact absurd (show d_=c_ from fy) eI
def uG(x:V)(u:f_):Bool:=match u with
 | .none=>oU .aG x
 | .bool b=>oU (.bl b) x
 | .int i _=>oU (.int i) x
 | .str z _=>oU (.str z) x
 | _=>d_
theorem VS(r:RelV y u)(f:uo y=c_):uG x u=oU y x:=by
 cases y with
 | aG=>cases r;rfl
 | bl b=>cases r;rfl
 | int i=>obtain⟨t,rfl⟩:=r;rfl
 | str z=>obtain⟨t,rfl⟩:=r;rfl
 | _=>exact absurd (show d_=c_ from f) eI
theorem K0:∀{xs:List V} {us:List f_},Vals xs us->xs.all uo=c_->us.any (uG x)=xs.any λy=>oU y x
 | _,_,.nil,_=>rfl
 | y::xs,u::us,.cons r t,f=>by
  rw[zk,jR]at f;rw[xE,xE,VS r f.1,K0 t f.2]
theorem J5(rx:RelV x v)(fx:uo x=c_):∀{xs:List V} {us:List f_},Vals xs us->xs.all uo=c_->∀u∈us,jw A s u v (uG x u)
 | _,_,.nil,_=>λu hu=>by cases hu
 | y::xs,u::us,.cons r t,f=>λu' hu=>by
  rw[zk,jR]at f;rcases bw.mp hu with rfl | hu
  ·rw[VS r f.1];exact ahS r rx f.1 fx
  ·exact J5 rx fx t f.2 u' hu
def Av(x:V)(xs:List V):Bool:=xs.any λy=>oU y x
def rIn(K:u_)(neg:Bool):R2:=λx y H Q=>∃p xs,y=.ref p/\(av K H p xs\/aJ K H p xs)/\uo x=c_/\xs.all uo=c_/\Q (.bl (if neg then !Av x xs else Av x xs)) H
theorem QQ:eZ X (jx .NotIn) (rIn X.K c_):=by
 intro p_ s σ H x y v u Q I rx ry h;obtain⟨p,xs,rfl,hq,fx,fs,q⟩:=h;cases ry;rcases hq with hq | hq
 ·obtain⟨ar,r,pl,hz⟩:=I.list hq;refine SeqAt.notIn_listAt (uG x) pl.isList (λw hw=>J5 rx fx r fs w (by simpa using hw)) ⟨.bl _,H,I,rfl,?_⟩;rw[show ar.toArray.any (uG x)=ar.any (uG x) by simp,K0 r fs];exact q
 ·obtain⟨ar,r,pl,hz⟩:=I.tuple hq;refine SeqAt.notIn_tupleAt (uG x) pl (λw hw=>J5 rx fx r fs w (by simpa using hw)) ⟨.bl _,H,I,rfl,?_⟩;rw[show ar.toArray.any (uG x)=ar.any (uG x) by simp,K0 r fs];exact q
theorem fj:lK X (.builtin "len") (λxs H Q=>∃p ys,xs=[.ref p]/\(av X.K H p ys\/aJ X.K H p ys)/\Q (.int ys.length) H):=by
 intro p_ s σ H xs us Q I r h;obtain⟨p,ys,rfl,hq,q⟩:=h;obtain⟨u,rfl,rx⟩:=vals1 r;cases rx;have hn:=BS;rcases hq with hq | hq
 ·obtain⟨ar,r',pl,hz⟩:=I.list hq;have hlen:=r'.length;exact Calls.call_len_list pl.isList (by simp only[dH] <;> omega) ⟨.int ys.length,H,I.tok _,⟨s.toks+1,by rw[dH,hlen]⟩,q⟩
 ·obtain⟨ar,r',pl,hz⟩:=I.tuple hq;have hlen:=r'.length;exact len_tuple pl (by simp only[dH] <;> omega) ⟨.int ys.length,H,I.tok _,⟨s.toks+1,by rw[dH,hlen]⟩,q⟩
theorem QT:lK X (.type "list") (λxs H Q=>∃p ys,xs=[.ref p]/\(av X.K H p ys\/aJ X.K H p ys)/\∀l,H l=b_->Q (.ref l) (upd H l (.lst ys))):=by
 intro p_ s σ H xs us Q I r h;obtain⟨p,ys,rfl,hq,q⟩:=h;obtain⟨u,rfl,rx⟩:=vals1 r;cases rx
 have fin:∀(ar:List f_),Vals ys ar->ys.length<=cq->∀(h':j_) (c':Nat),(∀b o',s.heap.get? b=a_ o'->h'.get? b=a_ o')->
   h'.get? s.heap.objs.size=a_ { cls:=.type "list",dict:=b_,data:=.seq ar.toArray c',slots:=#[] }->EP X p_ σ Q (.ref s.heap.objs.size) { s with heap:=h' }:=λar r' hz h' c' kp e=>
  ⟨.ref s.heap.objs.size,_,I.laid (t':=s.toks) kp (aI _) (show fo X.prog X.w _ h' _ (.lst ys) from ⟨hz,ar,c',r',e⟩),rfl,q _ (I.aH.fresh (aI _))⟩
 rcases hq with hq | hq
 ·obtain⟨ar,r',pl,hz⟩:=I.list hq;have hlen:=r'.length;obtain⟨o,ho,hc,n,hd⟩:=pl.isList;exact call_list_seq p (.inl rfl) ho hc hd (λh' c' kp e=>fin ar r' hz h' c' kp e) (by simp only[dH] <;> omega)
 ·obtain⟨ar,r',pl,hz⟩:=I.tuple hq;have hlen:=r'.length;obtain⟨o,ho,hc,n,hd⟩:=pl;exact call_list_seq p (.inr rfl) ho hc hd (λh' c' kp e=>fin ar r' hz h' c' kp e) (by simp only[dH] <;> omega)
theorem Bg:lK X (.type "tuple") (λxs H Q=>∃p ys,xs=[.ref p]/\((av X.K H p ys/\∀l,H l=b_->Q (.ref l) (upd H l (.tup ys)))\/(aJ X.K H p ys/\Q (.ref p) H))):=by
 intro p_ s σ H xs us Q I r h;obtain⟨p,ys,rfl,h⟩:=h;obtain⟨u,rfl,rx⟩:=vals1 r;cases rx;rcases h with ⟨hq,q⟩ | ⟨hq,q⟩
 ·obtain⟨ar,r',pl,hz⟩:=I.list hq;have hlen:=r'.length;refine call_tuple_list pl.isList (λh' kp=>?_) (by simp only[dH] <;> omega);have I1:Inv X p_ σ H { s with heap:=h' }:=I.kept (t':=s.toks) kp
  have I2:Inv X p_ σ (upd H h'.objs.size (.tup ys)) { s with heap:=h'.push { cls:=.type "tuple",data:=.seq ar.toArray } }:=
   I1.laid (t':=s.toks) (λb o e=>bo _ e) (aI _) (show fo X.prog X.w _ _ _ (.tup ys) from ⟨hz,ar,r',IsTup.new _ _⟩)
  exact⟨.ref h'.objs.size,_,I2,rfl,q _ (I1.aH.fresh (aI _))⟩
 ·obtain⟨ar,r',pl,hz⟩:=I.tuple hq;exact call_tuple_same pl ⟨.ref p,H,I,rfl,q⟩
def NY(K:u_)(T:String)(x:V)(H:Hp):Prop:=match x with
 | .str _=>T = "str"
 | .int _=>T = "int"
 | .ref p=>(T = "list"/\∃xs,av K H p xs)\/(T = "tuple"/\∃o,K.lookup p=a_ o/\o.cls=.type "tuple"/\o.dict=b_)\/
   (T = "dict"/\((∃aL,H p=a_ (.dK aL))\/∃aL,H p=a_ (.dT aL)))\/(T = "set"/\∃S n,H p=a_ (.set S n))
 | _=>False
theorem Vc{T:String}(I:Inv X p_ σ H s)(r:RelV x v)(ty:NY X.K T x H) :
  s.TypeIs v T/\∀a,v=.ref a->∃ob,s.heap.get? a=a_ ob/\ob.dict=none:=by
 cases x with
 | str z=>
  obtain⟨t,rfl⟩:=r;cases (show T = "str" from ty);exact⟨typeIs_str s z t,λ_ e=>nomatch e⟩
 | int i=>
  obtain⟨t,rfl⟩:=r;cases (show T = "int" from ty);exact⟨typeIs_int s i t,λ_ e=>nomatch e⟩
 | ref p=>
  cases r;rcases ty with ⟨rfl,xs,hq⟩ | ⟨rfl,o,hk,hc,hd⟩ | ⟨rfl,hk⟩ | ⟨rfl,S,n,hk⟩
  ·obtain⟨ar,_,pl,_⟩:=I.list hq;refine⟨pl.isList.typeIs,λa e=>?_⟩;cases e;obtain⟨o,n,e,c,hd,_⟩:=pl;exact⟨o,e,hd⟩
  ·refine⟨⟨o,I.dm p o hk,hc⟩,λa e=>?_⟩;cases e;exact⟨o,I.dm _ o hk,hd⟩
  ·have z:∃o,s.heap.get? p=a_ o/\o.ExactDict:=by
    rcases hk with ⟨aL,hk⟩ | ⟨aL,hk⟩
    ·obtain⟨_,_,_,_,o,_,_,e,ex,_⟩:=I.aH p _ hk;exact⟨o,e,ex⟩
    ·obtain⟨_,_,_,_,o,_,_,e,ex,_⟩:=I.aH p _ hk;exact⟨o,e,ex⟩
   obtain⟨o,e,ex⟩:=z;refine⟨⟨o,e,ex.1⟩,λa e2=>?_⟩;cases e2;exact⟨o,e,ex.2.1⟩
  ·obtain⟨o,_,_,_,e,ex,_⟩:=I.aH p _ hk;refine⟨⟨o,e,ex.1⟩,λa e2=>?_⟩;cases e2;exact⟨o,e,ex.2.1⟩
 | _=>exact iF ty
abbrev akG(K:u_)(T:String)(r:V->List V->Hp->VK->Prop)(to:TE):TE:=λσ H Q=>to σ H λx H1=>NY K T x H1/\r x [] H1 Q
abbrev X6(K:u_)(T:String)(r:V->List V->Hp->VK->Prop)(to:TE)(t:TA):TE:=λσ H Q=>to σ H λx H1=>NY K T x H1/\t σ H1 λxs H2=>r x xs H2 Q
variable{o e:Expr}{es:List Expr}{to:TE}{t:TA}{name:Str}{apos ie:Pos}{T id:String}{r:V->List V->Hp->VK->Prop}
theorem ag7(pa:PlainAttrs T)(slot:Slot T name id)(pe:typeOf (.builtin id)=pure (.type "method_descriptor"))(hm:Yo X id r)(ho:PE X o to)
  (MX:xD o name X.env (eval o X.env)=eval o X.env:=by rfl) (MW:(apos.endLine == ie.line)=true:=by rfl):PE X (.Call (.Attribute o name apos) [] [] ie) (akG X.K T r to):=by
 intro p_ s σ H Q I h;refine wpAny_Call_method0_late MX MW (aU (ho p_ s σ H _ I h) λv s1 ⟨x,H1,I1,r1,ty,q1⟩=>?_);obtain⟨h1,h2⟩:=Vc I1 r1 ty;exact⟨T,id,pa,slot,pe,h1,h2,P8 rfl (PySem.evalArgs_none (hm p_ s1 σ H1 x [] v [] Q I1 r1 .nil q1))⟩
theorem ke(pa:PlainAttrs T)(slot:Slot T name id)(pe:typeOf (.builtin id)=pure (.type "method_descriptor"))(hm:Yo X id r)(ho:PE X o to)(ha:PA X (e::es) t)
  (MX:xD o name X.env (eval o X.env)=eval o X.env:=by rfl)
  (uB:((backTo ie (cJ (e::es) X.env)).all (λx=>!x.1)&&(BC ie (Bo [] X.env)).all (λx=>x.1.isSome)
   && decide ((e::es).length+([]:List Keyword).length+(if ([]:List Keyword).isEmpty then 0 else 1)<30))=true:=by rfl)
  (MW:(apos.endLine == ie.line)=true:=by rfl) (hs:cJ (e::es) X.env=(d_,eval e X.env)::cJ es X.env:=by rfl) (ain:(backTo ie (cJ es X.env)).any (·.1)=false:=by rfl) :
  PE X (.Call (.Attribute o name apos) (e::es) [] ie) (X6 X.K T r to t):=by
 intro p_ s σ H Q I h;refine wpAny_Call_method_late MX uB MW rfl (aU (ho p_ s σ H _ I h) λv s1 ⟨x,H1,I1,r1,ty,q1⟩=>?_);obtain⟨h1,h2⟩:=Vc I1 r1 ty;refine⟨T,id,pa,slot,pe,h1,h2,?_⟩;have hA:=ha ie p_ s1 σ H1 _ I1 q1;rw[hs]at hA ⊢;refine P8 (by show (d_||(backTo ie (cJ es X.env)).any (·.1))=d_;rw[ain] <;> rfl) (aaI ?_);exact aU hA λus s2 ⟨vs,H2,I2,r2,q2⟩=>hm p_ s2 σ H2 x vs v us Q I2 r1 r2 q2
end
def Cz(X:Cx)(id:String)(r:V->List V->Hp->VK->Prop):Prop:=
 ∀(p_:List (e_×Obj)) (s:g_) (σ:St) (H:Hp) (x:V) (xs:List V) (v:f_) (us:List f_) (Q:VK),Inv X p_ σ H s->RelV x v->Vals xs us->r x xs H Q->
  wpAny (model X.prog X.w) X.A (call (.builtin id) (v::us)) (EP X p_ σ Q) X.xe s
theorem Vals.one:∀{x:V} {us:List f_},Vals [x] us->∃u,us=[u]/\RelV x u
 | _,_,.cons r .nil=>⟨_,rfl,r⟩
theorem Vals.zero:∀{us:List f_},Vals [] us->us=[]
 | _,.nil=>rfl
theorem Vals.eraseIdx:∀{xs:List V} {us:List f_} (i:Nat),Vals xs us->Vals (xs.eraseIdx i) (us.eraseIdx i)
 | _,_,_,.nil=>.nil
 | _,_,0,.cons _ t=>t
 | _,_,i+1,.cons r t=>.cons r (Vals.eraseIdx i t)
theorem Vals.rep(h:Vals xs us):∀k:Nat,Vals (fg k xs).flatten (fg k us).flatten
 | 0=>.nil
 | k+1=>by
  rw[A7,A7,Ij,Ij];exact Vals.append h (Vals.rep h k)
theorem Sl{α:Type}:∀(l:List α) (i:Nat),(l.eraseIdx i).length<=l.length
 | [],_=>aI _
 | _::_,0=>jv _
 | _::r,i+1=>DD (Sl r i)
theorem foldl_rep(ar:List f_):∀(k:Nat) (acc:List f_),Bw (λx1 x2=>x1++x2) acc.toArray (fg k ar.toArray)=(acc++(fg k ar).flatten).toArray
 | 0,acc=>by simp
 | k+1,acc=>by
  have e:acc.toArray++ar.toArray=(acc++ar).toArray:=by simp
  have e2:(acc++ar)++(fg k ar).flatten=acc++(fg (k+1) ar).flatten:=by
   rw[A7,Ij,cX]
  rw[<-e2,<-foldl_rep ar k (acc++ar),<-e,A7,List.foldl_cons]
section
variable{X:Cx}{p_:List (e_×Obj)}{σ:St}{H:Hp}{s:g_}{l b:e_}{xs ys zs:List V}
theorem Inv.FL{ar lQ:List f_}{n:Nat}{f:Array f_->Array f_}{t':Nat}(I:Inv X p_ σ H s)(hH:H l=a_ (.lst xs))
  (e:s.heap.get? l=a_ { cls:=.type "list",data:=.seq ar.toArray n }) (hf:f ar.toArray=lQ.toArray) (hv:Vals ys lQ) (hz:ys.length<=cq) :
  Inv X p_ σ (upd H l (.lst ys)) { s with heap:=s.heap.update l (ow f),toks:=t' }:=by
 have q:=PySem.IsL.update e f;rw[hf]at q;refine I.write (x:=l) (e:=l) (by rw[hH];exact trivial) (.inl rfl) (λb' u hb hu=>(vk s.heap (ow f) (dW hb)).trans hu) ⟨_,q⟩ ?_;exact⟨hz,lQ,_,hv,q⟩
theorem Inv.W8{t':Nat}(I:Inv X p_ σ H s)(hv:Vals ys ar)(hz:ys.length<=cq) :
  Inv X p_ σ (upd H s.heap.objs.size (.lst ys)) { s with heap:=s.heap.push { cls:=.type "list",data:=.seq ar.toArray },toks:=t' }:=
 I.laid (λ_ _ q=>bo _ q) (aI _) ⟨hz,ar,0,hv,gw _ rfl⟩
theorem Inv.fresh(I:Inv X p_ σ H s):H s.heap.objs.size=none:=I.aH.fresh (aI _)
theorem Inv.qW(I:Inv X p_ σ H s)(hH:H l=a_ (.lst xs)):xs.length<=cq/\∃(ar:List f_) (n:Nat),Vals xs ar/\xs.length=ar.length/\s.heap.get? l=a_ { cls:=.type "list",data:=.seq ar.toArray n }:=by
 obtain⟨z,ar,n,r,e⟩:=I.aH l _ hH;exact⟨z,ar,n,r,r.length,e⟩
theorem Tn{n:Nat}(h:n<=cq):HY n=false:=by
 unfold HY;exact decide_eq_false om
end
section
variable{X:Cx}
def Us:V->List V->Hp->VK->Prop:=λx vs H Q=>∃l xs y,x=.ref l/\vs=[y]/\H l=a_ (.lst xs)/\xs.length<cq/\Q .aG (upd H l (.lst (xs++[y])))
theorem pI:Cz X "list.append" Us:=by
 intro p_ s σ H x vs v us Q I rx rv h;obtain⟨l,xs,y,rfl,rfl,hH,hz,q⟩:=h;cases rx;obtain⟨u,rfl,ru⟩:=rv.one;obtain⟨z,ar,n,r,hl,e⟩:=I.qW hH;refine zy F.slot_list_append ⟨_,e,rfl⟩ F.entry_list_append (F.args_list_append_2 _ _) (PySem.list_append l ar.toArray n u (by rw[dH];omega)) ⟨e,?_⟩;refine⟨.aG,_,I.FL (lQ:=ar++[u]) hH e (by simp) (r.append (.cons ru .nil)) ?_,rfl,q⟩;rw[cj,List.length_singleton];omega
def afG:V->List V->Hp->VK->Prop:=λx vs H Q=>∃l b xs zs,x=.ref l/\vs=[.ref b]/\H l=a_ (.lst xs)/\H b=a_ (.lst zs)/\xs.length+zs.length<=cq/\Q .aG (upd H l (.lst (xs++zs)))
theorem Ea:Cz X "list.extend" afG:=by
 intro p_ s σ H x vs v us Q I rx rv h;obtain⟨l,b,xs,zs,rfl,rfl,hH,hB,hz,q⟩:=h;cases rx;obtain⟨u,rfl,ru⟩:=rv.one;cases ru;obtain⟨z,ar,n,r,hl,e⟩:=I.qW hH;obtain⟨z2,wF,n2,r2,xb,e2⟩:=I.qW hB;have hsz:ar.toArray.size+wF.toArray.size<=cq:=by rw[dH,dH];omega
 have MV:¬(!ar.toArray.isEmpty&&HY (ar.toArray.size+wF.toArray.size))=true:=by
  rw[Tn hsz,Bool.and_false];exact eI
 refine zy F.slot_list_extend ⟨_,e,rfl⟩ F.entry_list_extend (F.args_list_extend_2 _ _)
  (AutoSeq1.list_extend_list_list_0 l ar.toArray n b wF.toArray n2 MV (by rw[dH];omega) om) ⟨e,e2,?_⟩
 refine⟨.aG,_,I.FL (lQ:=ar++wF) hH e (by simp) (r.append r2) ?_,rfl,q⟩;rw[cj];omega
def ag3:V->List V->Hp->VK->Prop:=λx vs H Q=>∃l xs i k y,x=.ref l/\vs=[.int i]/\H l=a_ (.lst xs)/\-(2^63)<=i/\i<2^63/\JH i xs.length=a_ k/\xs[k]?=a_ y/\Q y (upd H l (.lst (xs.eraseIdx k)))
theorem aet:Cz X "list.pop" ag3:=by
 intro p_ s σ H x vs v us Q I rx rv h;obtain⟨l,xs,i,k,y,rfl,rfl,hH,h1,h2,hk,hy,q⟩:=h;cases rx;obtain⟨u,rfl,ru⟩:=rv.one;obtain⟨t,rfl⟩:=ru;obtain⟨z,ar,n,r,hl,e⟩:=I.qW hH;obtain⟨w,hw,uQ⟩:=r.get hy
 refine zy F.slot_list_pop ⟨_,e,rfl⟩ F.entry_list_pop (F.args_list_pop_2 _ _)
  (MeetsSeq.list_pop_at l ar.toArray n i t k w (fitsIndex_both h1 h2) (by rw[dH,<-hl];exact hk) (by rw[<-A5];exact hw) (by rw[dH];omega)) ⟨e,?_⟩
 refine⟨y,_,I.FL (lQ:=ar.eraseIdx k) hH e ?_ (r.eraseIdx k) ?_,uQ,q⟩
 ·show ar.toArray.eraseIdxIfInBounds k=(ar.eraseIdx k).toArray;rw[List.eraseIdxIfInBounds_toArray]
 ·have:=Sl xs k;omega
def ag5:V->List V->Hp->VK->Prop:=λx vs H Q=>∃l xs,x=.ref l/\vs=[]/\H l=a_ (.lst xs)/\Q .aG (upd H l (.lst []))
theorem aev:Cz X "list.clear" ag5:=by
 intro p_ s σ H x vs v us Q I rx rv h;obtain⟨l,xs,rfl,rfl,hH,q⟩:=h;cases rx;have dC:=rv.zero;subst dC;obtain⟨z,ar,n,r,hl,e⟩:=I.qW hH;refine zy F.slot_list_clear ⟨_,e,rfl⟩ F.entry_list_clear (F.args_list_clear_1 _) (AutoSeq1.list_clear_list_0 l ar.toArray n (by rw[dH];omega)) ⟨e,?_⟩;exact⟨.aG,_,I.FL (lQ:=[]) (ys:=[]) hH e rfl .nil (bg _),rfl,q⟩
def akO:R2:=λx y H Q=>∃l b xs zs,x=.ref l/\y=.ref b/\H l=a_ (.lst xs)/\H b=a_ (.lst zs)/\xs.length+zs.length<=cq/\∀p,H p=b_->Q (.ref p) (upd H p (.lst (xs++zs)))
theorem BR:eZ X (tZ .Add) akO:=by
 intro p_ s σ H x y v u Q I rx ry h;obtain⟨l,b,xs,zs,rfl,rfl,hH,hB,hz,q⟩:=h;cases rx;cases ry;obtain⟨z,ar,n,r,hl,e⟩:=I.qW hH;obtain⟨z2,wF,n2,r2,xb,e2⟩:=I.qW hB;refine PySem.P.add_list e e2 ?_ (by rw[dH,dH];omega);have ea:ar.toArray++wF.toArray=(ar++wF).toArray:=by simp
 rw[ea];exact⟨.ref _,_,I.W8 (t':=s.toks) (r.append r2) (by rw[cj];omega),rfl,q _ I.fresh⟩
def akM:R2:=λx y H Q=>∃l k xs,x=.ref l/\y=.int k/\H l=a_ (.lst xs)/\-(2^63)<=k/\k<2^63/\xs.length*k.toNat<=cq/\
 ∀p,H p=b_->Q (.ref p) (upd H p (.lst (fg k.toNat xs).flatten))
theorem len_rep{α:Type}(xs:List α)(k:Nat):(fg k xs).flatten.length=k*xs.length:=by
 induction k with
 | zero=>simp
 | succ k ih=>rw[A7,Ij,cj,ih,Bk,Nat.add_comm]
theorem Vt:eZ X (tZ .Mult) akM:=by
 intro p_ s σ H x y v u Q I rx ry h;obtain⟨l,k,xs,rfl,rfl,hH,h1,h2,hz,q⟩:=h;cases rx;obtain⟨t,rfl⟩:=ry;obtain⟨z,ar,n,r,hl,e⟩:=I.qW hH;have hlen:ar.toArray.size*k.toNat<=cq:=by rw[dH,<-hl];exact hz
 have alW:¬ar.toArray.size*k.toNat > (2^63-1)/8:=by
  have:(cq:Nat)<=(2^63-1)/8:=qc;omega
 have alR:¬(!Builtin.List.listFitsIndex k)=true:=by
  rw[fitsIndex_both h1 h2];exact eI
 have MV:¬HY (ar.toArray.size*k.toNat)=true:=by
  rw[Tn hlen];exact eI
 have alE:Bw (λx1 x2=>x1++x2) #[] (fg (if ar.toArray.isEmpty=c_ then 0 else k.toNat) ar.toArray)=(fg k.toNat ar).flatten.toArray:=by
  have f0:∀m:Nat,Bw (λx1 x2=>x1++x2) #[] (fg m ar.toArray)=(fg m ar).flatten.toArray:=λm=>by
   have:=foldl_rep ar m [];rw[zc]at this;exact this
  rw[f0];cases ar with
  | nil=>simp
  | cons a r'=>rw[if_neg (by simp)]
 refine wpAny_binaryOp_repeat_ref (T:="list") (U:="int") qc ⟨_,e,rfl⟩ (λs'=>typeIs_int s' k t) noFill_list_mul F.fills_int_mul F.slot_int_rmul repeat_list F.slot_int_index.lookup
  (zy F.slot_int_rmul (typeIs_int s k t) F.entry_int_rmul (F.args_int_rmul_2 _ _) (int___rmul___int_list k t l ar.toArray n) ⟨e,rfl,⟨_,e,rfl⟩,zy F.slot_list_mul ⟨_,e,rfl⟩ F.entry_list_mul (F.args_list_mul_2 _ _) (AutoListH.list___mul___list_int_3 l ar.toArray n k t alR alW MV) ⟨e,?_⟩⟩)
 rw[alE];exact⟨.ref _,_,I.W8 (t':=s.toks) (r.rep k.toNat) (by rw[len_rep,Nat.mul_comm];exact hz),rfl,q _ I.fresh⟩
end
section
variable{prog:l_}{w:k_}{A:h_}{E:f_->g_->Prop}{s:g_}
end
section
variable{X:Cx}
end
end L2
namespace Att
open PySem.W PySem.Calls
theorem abd{P:Params}:∀(ns:List Int) (vs:List f_),WellAll P h vs (ns.map WData.int)->IntsAre vs ns:=by
 intro ns
 induction ns with
 | nil=>
  intro vs w;rw[IY]at w;cases w;exact .nil
 | cons n ns ih=>
  intro vs w;rw[fh]at w;cases w with
  | cons a b=>
   cases a;exact .cons _ _ (ih _ b)
theorem acE{l:OpenLaw}{n:Nat}(hn:l.most=a_ n){P:Params}{args:List WData}
  (F7:l.row.toRowW.claim.pre args=c_) (og:WellAll P h vals args) :
  ∃a vs ns,vals=[cI a]/\args=[WData.list (ns.map WData.int)]/\h.get? a=a_ { cls:=.type "list",data:=.seq vs.toArray }/\IntsAre vs ns/\ns.length<=n:=by
 have hsh:WShape.hasAll [] args [.list .int]=true:=(pre_splitW F7).1;have hc:l.pre.holds [] { args:=args }=true:=(pre_splitW F7).2;obtain⟨d,r,rfl,h1,h2⟩:=hasAllW_cons hsh;obtain rfl:=hasAllW_nil h2;obtain⟨xs,rfl,h3⟩:=hasW_list h1;obtain⟨ns,rfl⟩:=items_int h3
 have hlen:ns.length<=n:=by
  unfold OpenLaw.pre at hc
  have h4:(WTm.not (.lt (.lit (.int (n:Int))) (.len (.arg 0)))).holds [] { args:=[.list (ns.map .int)] }=true:=by
   have h4:=(holds_andW hc).1;rw[hn]at h4;exact h4
  have h5:=condW_of h4 (w_not (w_lt w_lit (w_len_list (w_arg rfl))));rw[aP]at h5;refine Nat.le_of_not_lt λq=>?_;have q':(n:Int)<((ns.length:Nat):Int):=om
  first
   | (rw[decide_eq_true q']at h5;exact absurd h5 qc)
   | (simp at h5;omega)
 cases og with
 | cons w1 w2=>
  cases w2;cases w1 with
  | list ho alX=>exact⟨_,_,ns,rfl,rfl,ho,abd ns _ alX,hlen⟩
theorem acK(l:OpenLaw)(args:List WData):l.row.toRowW.claim.post args (.bool c_) args=true:=
 postW_of (r:=l.row.toRowW) (X:=(c_ == c_))
  (show WShape.has [] (.bool c_) .bool=c_ by first | rfl | decide | simp[WShape.has,WShape.arms,WShape.armsAll])
  (show (WTm.eq .res (.lit (.bool c_))).value [] { args:=args,res:=a_ (.bool c_),after:=args }=a_ (.bool (c_ == c_)) from w_eq_bool (w_res rfl) w_lit) rfl
theorem abP{l:OpenLaw}{n:Nat}{XP:(Str->Option f_)->j_->Prop}{YP:k_->j_->Prop}{d:DefRec}
  (hn:l.most=a_ n) (O7:d.params.defaults=[])
  (call:∀(w:k_) (s₀ s₁:g_) (mg mb:Str->Option f_) (fa:e_) (o:Obj) (pm cd doc:f_) (a:e_) (vs:List f_) (ns:List Int),Ground q loose [] XP w s₀ mg mb s₁.heap->YP w s₁.heap->
   s₁.heap.get? fa=a_ o->o.data=.func (docDef d.name d.params d.body d.scope pm cd doc)->s₁.heap.CodeRec cd d.name->mg d.name=a_ (.ref fa)->
   s₁.heap.get? a=a_ { cls:=.type "list",data:=.seq vs.toArray }->IntsAre vs ns->ns.length<=n->s₁.gens=#[]->
   codeAny (model l.prog w) callerA (.call (.ref fa) ⟨[.ref a],[]⟩) (λr s'=>r=.ok (.ret (.bool c_))/\OldK s₁.heap s'.heap/\s'.os=s₁.os/\AllBare s'.gens) s₁) :
  WalkO q loose XP YP l.row.toRowW d [] (λf vs=>PySem.call f vs):=by
 intro w s₀ s₁ mg mb G Y fa o pm cd doc dV kV ho hd gv hD AN hg args vals as F7 am6 hrd og lg;obtain rfl:dV=.none:=Dflts.none hD O7;obtain rfl:kV=.none:=Dflts.noKw hD;obtain⟨a,vs,ns,rfl,rfl,NI,hints,hlen⟩:=acE hn F7 og;refine enter_call (zo (call w s₀ s₁ mg mb fa o pm cd doc a vs ns G Y ho (fd_plain hd) gv AN NI hints hlen hg) λr s' hq=>?_);obtain⟨rfl,h2,h3,h4⟩:=hq;exact⟨.inl ⟨.bool c_,.bool c_,[],rfl,λ_=>rfl,.bool c_,acK l _,λ_=>⟨Ik,λ_ hm=>(nomatch hm)⟩⟩,h2,h3,h4⟩
section
variable{prog:l_}{w:k_}{A:h_}{E:f_->g_->Prop}{s:g_}{K:Frag}
end
end Att
namespace L2
theorem RN:∀{vs:List f_} {ns:List Int},IntsAre vs ns->Vals (ns.map V.int) vs
 | _,_,.nil=>.nil
 | _,_,.cons n t h=>.cons ⟨t,rfl⟩ (RN h)
abbrev aB:nY:=λ_ _ _ _ _ _=>False
abbrev E0:XK:=λ_ _ _=>False
theorem a7{X:Cx}:Passes aB X E0:=λ_ _ _ _ _ _ _ h=>h.elim
structure aY(K:u_)(x qual:Str)(st:Stmt)(f:e_)(fd:jz):Prop where
 ex:∃(oc:f_) (od:Option e_) (kV doc pm:f_) (an:Option e_) (aM ct:f_) (i5:Array (Option f_)),fd=B_ x qual (mm st) (jB st) (aW st) .none kV doc pm an aM ct/\K.lookup f=a_ ⟨oc,od,.func fd,i5⟩/\W.codeIn K aM qual=c_
 kp:x_ K (.ref f)=c_
section
variable{P:l_}{w:k_}{K:u_}{mg:Str->Option f_}{base:j_}
theorem aY.ok{st:Stmt}{k:Nat}{sp:Sp}(F:aY K x qual st f fd)(S:bp N ps (aW st))
  (uv:∀(aM:f_) (A:h_) (outer:List Env) (s:g_) (H:Hp) (vs:List V) (Q:VK) (E:XK),eV k (A.deeper (envOfC qual (aW st) s.heap.objs.size f aM))->sp vs H Q E->
   ∃t,fJ (p0 aB P w K mg base N qual (aW st) f aM A outer s H E).wK (jB st) t/\t { nx:=λ_ H'=>Q .aG H',rt:=Q } (start N vs) H) (len:∀vs H Q E,sp vs H Q E->vs.length=ps.length:=by intro _ _ _ _ h;(repeat obtain⟨_,h⟩:=h);subst_vars;rfl):ay P w K mg base aB (k+1) f fd ps sp:=by
 obtain⟨oc,od,kV,doc,pm,an,aM,ct,i5,rfl,lk,gv⟩:=F.ex;refine v7 lk gv S len λA outer s H vs Q E hr qi=>?_;obtain⟨t,h,q⟩:=uv aM A outer s H vs Q E hr qi;exact⟨t,h.wK,q⟩
theorem aY.binds{st:Stmt}(F:aY K x qual st f fd)
  (h:∀(kV doc pm:f_) (an:Option e_) (aM ct:f_) (us:List f_),us.length=ps.length->vD (B_ x qual (mm st) (jB st) (aW st) .none kV doc pm an aM ct) ⟨us,[]⟩=pure (ps.zip us)):Binds K fd ps []:=by
 obtain⟨oc,od,kV,doc,pm,an,aM,ct,i5,rfl,lk,gv⟩:=F.ex;exact .all (h kV doc pm an aM ct)
theorem VN{st:Stmt}{od an:Option e_}{i5:Array (Option f_)}{kV doc pm aM ct:f_}(l:K.lookup f=a_ ⟨oc,od,.func (B_ x qual (mm st) (jB st) (aW st) .none kV doc pm an aM ct),i5⟩)
  (c:W.codeIn K aM qual=c_) (k:x_ K (.ref f)=c_):aY K x qual st f (B_ x qual (mm st) (jB st) (aW st) .none kV doc pm an aM ct):=⟨⟨oc,od,kV,doc,pm,an,aM,ct,i5,rfl,l,c⟩,k⟩
end
theorem gz{n:Nat}(h:n<=1000):n<cq:=DA h qc
section
variable{X:Cx}
theorem pv(i:Nat)(hN:X.N[i]?=a_ x:=by rfl)(hv:N' X.env.scope x:=by first | exact aX rfl | exact qQ (aX rfl) | exact qQ (qQ rfl))(hd:(x == ("__debug__" : Str))=false:=by decide)
  (gv:(x == ("__classdict__" : Str))=false:=by decide):PE X (.Name x pos) (qV i):=ag6 hN hv hd gv
end
theorem gC{A B:Prop}(h:B):if d_=c_ then A else B:=by
 rw[if_neg eI];exact h
theorem jG{A B:Prop}(h:A):if c_=c_ then A else B:=by
 rw[if_pos rfl];exact h
theorem Fp{c A B:Prop}[Decidable c](hc:c)(h:B):if (!decide c)=c_ then A else B:=by
 rw[decide_eq_true hc];exact gC h
def ak(H H':Hp):Prop:=∀b o,H b=a_ o->H' b=a_ o
theorem ak.refl(H:Hp):ak H H:=λ_ _ h=>h
theorem ak.trans(a:ak H H1)(b:ak H1 H2):ak H H2:=λc o h=>b c o (a c o h)
theorem ak.free(e:ak H H')(h:H' l=Option.none):H l=Option.none:=by
 cases q:H l with
 | none=>rfl
 | some o=>
  rw[e l o q]at h;cases h
section
variable{K:u_}{σ:St}{H:Hp}{Q:VK}{p C dx:e_}{xs:List V}{v:V}{i:Nat}{j:Int}{fs:List (Str×V)}{f:Str}
theorem vr(h:σ[i]?=a_ (a_ v))(q:Q v H):qV i σ H Q:=⟨v,h,q⟩
theorem rT(s:aJ K H p xs)(a:iB xs j=a_ v)(q:Q v H):Ce K (.ref p) (.int j) H Q:=⟨_,_,_,_,rfl,rfl,s,a,q⟩
theorem rL(s:av K H p xs)(a:iB xs j=a_ v)(q:Q v H):Af K (.ref p) (.int j) H Q:=⟨_,_,_,_,rfl,rfl,s,a,q⟩
theorem cL(s:av K H p xs)(a:iB xs j=a_ v)(q:Q v H):tC (.int j) σ H λy H2=>Af K (.ref p) y H2 Q:=⟨_,_,_,_,rfl,rfl,s,a,q⟩
theorem vT(h:σ[i]?=a_ (a_ (.ref p)))(s:aJ K H p xs)(a:iB xs j=a_ v)(q:Q v H):yj (Ce K) (qV i) (tC (.int j)) σ H Q:=⟨_,h,_,_,_,_,rfl,rfl,s,a,q⟩
theorem vL(h:σ[i]?=a_ (a_ (.ref p)))(s:av K H p xs)(a:iB xs j=a_ v)(q:Q v H):yj (Af K) (qV i) (tC (.int j)) σ H Q:=⟨_,h,_,_,_,_,rfl,rfl,s,a,q⟩
theorem vF(h:σ[i]?=a_ (a_ (.ref p)))(e:H p=a_ (.ins C dx fs))(c:eX K C)(n:bu K C f)(l:fs.lookup f=a_ v)(q:Q v H):M5 K (qV i) f σ H Q:=⟨_,h,_,_,_,_,_,rfl,e,c,n,l,q⟩
theorem vM{sp:Sp}{t:TA}(h:σ[i]?=a_ (a_ (.ref p)))(e:H p=a_ (.ins C dx fs))(l:fs.lookup m=b_)(q:t σ H λvs H2=>sp (.ref p::(vs++dvs)) H2 Q E):Md C m sp dvs E (qV i) t σ H Q:=⟨_,h,_,_,_,rfl,e,l,q⟩
end
section
variable{K:u_}{σ:St}{H:Hp}{Q:VK}{p C dx:e_}{v:V}{fs:List (Str×V)}{f:Str}
theorem rM{R:Prop}(e:H p=a_ (.ins C dx fs))(l:fs.lookup m=b_)(q:R):∃a dx fs,V.ref p=.ref a/\H a=a_ (.ins C dx fs)/\fs.lookup m=b_/\R:=⟨_,_,_,rfl,e,l,q⟩
theorem tk{R:Bool->Prop}{k:Bool}(q:R k):∃k',V.bl k=.bl k'/\R k':=⟨k,rfl,q⟩
theorem rq{R:Bool->Prop}(s:Nc x y=c_)(q:R (decide (x=y))):X8 x y H λz _=>∃k,z=.bl k/\R k:=⟨s,_,rfl,q⟩
end
theorem sU{X:Cx}{ss:List Stmt}{t:TS}(h:fJ X ss t)(q:t D σ H):∃t,fJ X ss t/\t D σ H:=⟨t,h,q⟩
section
variable{K:u_}{σ:St}{H:Hp}{Q:VK}{p:e_}{xs:List V}{v:V}{i j:Nat}
theorem iA(h:σ[i]?=a_ (a_ (.ref p)))(e:H p=a_ (.tup xs))(a:xs[j]?=a_ v)(q:Q v H):yj (Ce K) (qV i) (tC (.int (j:Int))) σ H Q:=vT h (aJ.of e) (cR a) q
theorem cl1(e:H p=a_ (.lst xs))(a:xs[j]?=a_ v)(q:Q v H):tC (.int (j:Int)) σ H λy H2=>Af K (.ref p) y H2 Q:=cL (σ:=σ) (av.of e) (cR a) q
end
end L2
namespace L3
def tests(ifs:List Expr)(env:Env):Sem Bool:=
 forIn ifs c_ λc r=>if r=c_ then (do let ok <-isTrue c env (eval c env);pure (Iz ok)) else pure (Iz r)
section
variable{prog:l_}{w:k_}{A:h_}{R:Result->g_->Prop}{s:g_}
theorem adA{ifs:List Expr}{sc:i_}{env:Env}(J:Nat->g_->Prop)
  (Pj:∀e s',EE e s'->notedBy (model prog w) A env (λe s'=>R (.error e) s') e s')
  (turn:∀n s,J n s->wpAny (model prog w) A (pyNext it) (λr s₁=>(r=b_->R (.ok .next) s₁)/\∀v,r=a_ v->
   wpAny (model prog w) A (Iy tg it v) (λ_ s₂=>wpAny (model prog w) A (assign tg env v) (λ_ s₃=>wpAny (model prog w) A (tests ifs env) (λok s₄=> (ok=c_->wpAny (model prog w) A (eval elt env) (λx s₅=>wpAny (model prog w) A (call (.builtin "list.append") [acc,x]) (λ_ s₆=>∃m,m<n/\J m s₆) EE s₅) EE s₄)/\ (ok=d_->∃m,m<n/\J m s₄)) EE s₃) EE s₂) EE s₁) EE s)
  (n:Nat) (h:J n s):codeAny (model prog w) A (.compLoop (.ListComp elt [⟨tg,iter,ifs,0⟩] sc pos) 0 it acc env) R s:=by
 refine codeAny_loop rfl J (λn s hJ=>?_) n h;show wpAny _ A ((compTurn (.ListComp elt [⟨tg,iter,ifs,0⟩] sc pos) 0 it acc env).onRaise _) _ _ s;refine wpAny_noted (gf (E:=EE) ?_ (λ_ _ q=>q) λe s' q=>Pj e s' q);rw[compTurn_list];refine aq (zf (aq (gf (turn n s hJ) (λr s₁ h₁=>?_) λ_ _ q=>q)));cases r with
 | none=>exact aV (h₁.1 rfl)
 | some v=>
  refine aq (gf (h₁.2 v rfl) (λ_ s₂ h₂=>?_) λ_ _ q=>q);refine aq (gf h₂ (λ_ s₃ h₃=>?_) λ_ _ q=>q);refine aq (gf h₃ (λok s₄ h₄=>?_) λ_ _ q=>q);cases ok with
  | false=>exact aV ⟨rfl,h₄.2 rfl⟩
  | true=>
   refine aq (aq (gf (h₄.1 rfl) (λx s₅ h₅=>?_) λ_ _ q=>q));exact aq (gf h₅ (λ_ s₆ h₆=>aV (aV ⟨rfl,h₆⟩)) λ_ _ q=>q)
theorem acC{env:Env}{Q:Bool->g_->Prop}(h:Q c_ s):wpAny (model prog w) A (tests [] env) Q E s:=aV h
theorem acB{env:Env}{Q:Bool->g_->Prop}(h:wpAny (model prog w) A (isTrue c env (eval c env)) Q E s):wpAny (model prog w) A (tests [c] env) Q E s:=by
 unfold tests;rw[zd];exact aq (aq (gf h (λok s' q=>aV (aV q)) λ_ _ q=>q))
def gR(cells:List (Str×e_)):List (Str×gg)->List (Str×e_)->List (Str×e_)
 | [],acc=>acc
 | (n,k)::r,acc=>if k == .free then gR cells r (match cells.lookup n with | some c=>(n,c)::acc | none=>acc) else gR cells r acc
theorem RH{env:Env}:∀(names:List (Str×gg)) (acc:List (Str×e_)),(∀p∈names,p.2=.free->∃c,env.cells.lookup p.1=a_ c)->
  (forIn names acc λ(x:Str×gg) (cs:List (Str×e_))=>match x with
   | (name,kind)=>if (kind == rZ)=c_ then (do let c <-cellOf env name;pure (Iz ((name,c)::cs))) else (pure (Iz cs):Sem (ForInStep (List (Str×e_)))))=pure (gR env.cells names acc)
 | [],acc,_=>rfl
 | (n,k)::r,acc,h=>by
  have ih:=λacc=>RH r acc λp hp=>h p (eE _ hp);rw[zd]
  by_cases hk:(k == rZ)=c_
  ·obtain⟨c,hc⟩:=h (n,k) f9 (by simpa using hk);have e:cellOf env n=pure c:=by unfold cellOf;rw[hc]
   dsimp only;rw[if_pos hk,e];unfold gR;rw[if_pos hk,hc];exact ih _
  ·dsimp only;rw[if_neg hk];unfold gR;rw[if_neg hk];exact ih _
theorem Ji{env:Env}{sc:i_}(h:∀p∈sc.names,p.2=.free->∃c,env.cells.lookup p.1=a_ c):closureFor sc env=pure (gR env.cells sc.names []):=by
 unfold closureFor;have e:=RH (env:=env) sc.names [] h;simp only[e];rfl
theorem Es{cells:List (Str×e_)}:∀(names:List (Str×gg)) (acc:List (Str×e_)),(∀x c,acc.lookup x=a_ c->cells.lookup x=a_ c)->∀x c,(gR cells names acc).lookup x=a_ c->cells.lookup x=a_ c
 | [],acc,h,x,c,e=>h x c e
 | (n,k)::r,acc,h,x,c,e=>by
  unfold gR at e
  split at e
  ·refine Es r _ (λy d q=>?_) x c e
   split at q
   ·rename_i c' rG
    by_cases hy:y=n
    ·subst hy;rw[yW]at q;cases q;exact rG
    ·have hb:=beq_eq_false_iff_ne.mpr hy;rw[lY,hb]at q;exact h y d q
   ·exact h y d q
  ·exact Es r acc h x c e
theorem JE{cells:List (Str×e_)}:∀(names:List (Str×gg)) (acc:List (Str×e_)) (x:Str),(∃c,acc.lookup x=a_ c)->∃c,(gR cells names acc).lookup x=a_ c
 | [],acc,x,h=>h
 | (n,k)::r,acc,x,h=>by
  unfold gR
  split
  ·refine JE r _ x ?_
   split
   ·rename_i c' rG
    by_cases hy:x=n
    ·subst hy;exact⟨c',yW⟩
    ·have hb:=beq_eq_false_iff_ne.mpr hy;rw[lY,hb];exact h
   ·exact h
  ·exact JE r acc x h
theorem Et{cells:List (Str×e_)}:∀(names:List (Str×gg)) (acc:List (Str×e_)) (x:Str),(x,rZ)∈names->(∃c,cells.lookup x=a_ c)->∃c,(gR cells names acc).lookup x=a_ c
 | [],acc,x,h,_=>by cases h
 | (n,k)::r,acc,x,h,hc=>by
  unfold gR;rcases bw.mp h with e | e
  ·cases e;obtain⟨c,hc⟩:=hc;rw[if_pos (beq_self_eq_true _),hc];exact JE r _ n ⟨c,yW⟩
  ·split
   ·exact Et r _ x e hc
   ·exact Et r acc x e hc
end
end L3
namespace L2
open L3
def nN(X:Cx)(sc:i_)(N:List Str)(s:g_)(H:Hp)(ex:List e_)(C:e_)(EE:f_->g_->Prop):Cx:=
 {X with N:=N,s₀:=s,H₀:=H,env:=compEnvC sc (gR X.env.cells sc.names []) C X.env,outer:=X.stack,ex:=ex,fn:=λ_=>d_,pn:=[],xe:=EE }
def Ax(X:Cx)(sc:i_)(N:List Str)(s:g_)(H:Hp)(ex:List e_)(C:e_):Cx:=nN X sc N s H ex C λ_ _=>False
structure ee(X:Cx)(sc:i_)(N:List Str)(idx:List Nat):Prop where
 kind:sc.kind=.function
 EZ:∀y∈sc.names,y.2≠.cell
 locs:∀y∈sc.names,y.2=.local->sc.names.lookup y.1=a_ .local
 frees:∀y∈sc.names,y.2=.free->X.env.scope.names.lookup y.1=a_ .cell
 le:idx.length<=N.length
 Yi:∀(k i:Nat) (x:Str),idx[k]?=a_ i->N[k]?=a_ x->X.N[i]?=a_ x/\sc.names.lookup x=a_ .free
def lO(idx:List Nat)(n:Nat)(σ:St):St:=idx.map (λi=>(σ[i]?).join)++fg (n-idx.length) b_
theorem Kg{idx:List Nat}{n:Nat}(h:idx.length<=n):(lO idx n σ).length=n:=by
 unfold lO;rw[cj,aP,HZ];lia
theorem Kh{idx:List Nat}{n k:Nat}(h:(lO idx n σ)[k]?=a_ (a_ v)):∃i,idx[k]?=a_ i/\σ[i]?=a_ (a_ v):=by
 unfold lO at h
 by_cases hk:k<idx.length
 ·rw[vj (by simpa using hk),dq]at h;cases e:idx[k]? with
  | none=>rw[e]at h;cases h
  | some i=>
   rw[e]at h;have h':(σ[i]?).join=a_ v:=dr h;refine au i rfl ?_;cases e2:σ[i]? with
   | none=>rw[e2]at h';cases h'
   | some o=>rw[e2]at h';rw[show o=a_ v from h']
 ·rw[tL (by simpa using hk),aav]at h
  split at h
  ·cases h
  ·cases h
def rl(env:Env)(p:Str×gg):Str×gg:=if (p.2 == rZ&&env.scope.kind == .function&&env.kindOf p.1 == a_ .cell)=c_ then (p.1,gg.cell) else p
theorem Lr{env:Env}{k:gg}(h:(k == rZ&&env.scope.kind == .function&&env.kindOf n == a_ .cell)=c_):rl env (n,k)=(n,.cell):=if_pos h
theorem Ur{env:Env}{k:gg}(h:¬(k == rZ&&env.scope.kind == .function&&env.kindOf n == a_ .cell)=c_):rl env (n,k)=(n,k):=if_neg h
theorem QO{env:Env}(hf:env.scope.kind=.function):∀{names:List (Str×gg)} {x:Str},names.lookup x=a_ .free->env.kindOf x=a_ .cell->(names.map (rl env)).lookup x=a_ .cell
 | [],_,h,_=>by simp at h
 | (n,k)::r,x,h,hc=>by
  have ih:=@QO env hf r x;rw[fh]
  by_cases hx:x=n
  ·subst hx;rw[yW]at h;cases h;rw[Lr (by rw[hf,hc];decide),yW]
  ·have hb:=beq_eq_false_iff_ne.mpr hx;rw[lY,hb]at h;have e:=ih h hc
   by_cases q:(k == rZ&&env.scope.kind == .function&&env.kindOf n == a_ .cell)=c_
   ·rw[Lr q,lY,hb];exact e
   ·rw[Ur q,lY,hb];exact e
theorem IS{env:Env}:∀{names:List (Str×gg)} {x:Str} {kd:gg},(names.map (rl env)).lookup x=a_ kd->(x,kd)∈names\/(x,rZ)∈names
 | [],_,_,h=>by simp at h
 | (n,k)::r,x,kd,h=>by
  have ih:=@IS env r x kd;rw[fh]at h
  by_cases q:(k == rZ&&env.scope.kind == .function&&env.kindOf n == a_ .cell)=c_
  ·rw[Lr q]at h
   by_cases hx:x=n
   ·subst hx
    have hk:k=.free:=by
     rw[jR,jR]at q;exact jf q.1.1
    subst hk;exact .inr f9
   ·have hb:=beq_eq_false_iff_ne.mpr hx;rw[lY,hb]at h;exact(ih h).elim (λe=>.inl (eE _ e)) λe=>.inr (eE _ e)
  ·rw[Ur q]at h
   by_cases hx:x=n
   ·subst hx;rw[yW]at h;cases h;exact .inl f9
   ·have hb:=beq_eq_false_iff_ne.mpr hx;rw[lY,hb]at h;exact(ih h).elim (λe=>.inl (eE _ e)) λe=>.inr (eE _ e)
theorem Inv.adopt{X:Cx}{o:HO}(I:Inv X p_ σ H s)(hn:H a=b_)(ya:X.s₀.heap.objs.size<=a)(hL:a≠X.env.locals)
  (hc:∀x c,X.env.cells.lookup x=a_ c->c≠a) (hp:∀p∈X.pn++p_,p.1≠a) (new:fo X.prog X.w (upd H a o) s.heap a o):Inv X p_ σ (upd H a o) s:=by
 have ne:∀b u,H b=a_ u->b≠a:=λb u e=>cg e hn;refine⟨I.ok,I.os,I.bare,⟨I.base.keep,I.base.slot,λb u q n hx=>?_,I.base.there,λb xs q=>?_,λb u xs q=>?_,λb ps q=>?_⟩,I.loc,I.cell,?_,λx c e=>?_,λp hq=>?_,λb u q=>?_,I.len⟩
 ·rw[ao (eM (gx (cx q) ya))];exact I.base.free b u q n hx
 ·have e:=I.base.pX b xs q;rw[ao (ne b _ e)];exact e
 ·have e:=I.base.oO b u xs q;rw[ao (ne b _ e)];exact e
 ·exact oE (I.base.oJ b ps q) λm e=>⟨m,by rw[ao (ne b _ e)];exact e⟩
 ·rw[ao (dW hL)];exact I.free
 ·rw[ao (hc x c e)];exact I.jF x c e
 ·exact cH (I.pin p hq) λe1 e2 e3=>dj e1 (by rw[ao (hp p hq)];exact e2) e3
 ·by_cases hb:b=a
  ·subst hb;rw[ax]at q;cases q;exact new
  ·rw[ao hb]at q;exact(I.aH b u q).pY (λ_ _ _ z=>z) (λc z=>by rw[ao (ne c _ z)];exact z) λc xs z=>by rw[ao (ne c _ z)];exact z
section
variable{X:Cx}{p_:List (e_×Obj)}{σ:St}{H:Hp}{s:g_}{sc:i_}{N:List Str}{idx:List Nat}{fp:List e_}
abbrev eQ:Obj:={ cls:=.type "list",data:=.seq ([]:List f_).toArray }
abbrev mj(s:g_):Shared:={ s with heap:=s.heap.push eQ }
theorem adL(I:Inv X p_ σ H s)(h:gq X p_ H b):X.base.get? b=none:=by
 cases e:X.base.get? b with
 | none=>rfl
 | some o=>
  rcases h.2.2.2.1 with z | z
  ·exact absurd z (I.ok.wm b o e)
  ·exact absurd (gx (cx e) (c7 I.ok.nX z)) (jS _)
theorem ae9(I:Inv X p_ σ H s)(S:ee X sc N idx)(hf:∀b∈fp,gq X p_ H b)(ho:∀b∈fp,∃o,s.heap.get? b=a_ o){m:Str->Option f_}{t:Nat}
  (lU:h'.Ns (s.heap.push eQ).objs.size m) (hk:∀b o,(s.heap.push eQ).get? b=a_ o->h'.get? b=a_ o) :
  Inv (nN X sc N (mj s) H (s.heap.objs.size::fp) (s.heap.push eQ).objs.size EE) [] (lO idx N.length σ) H { mj s with heap:=h',toks:=t }:=by
 have I3:Inv X p_ σ H (mj s):=I.kept (t':=s.toks) λb o e=>bo _ e;have hC:(s.heap.push eQ).objs.size=s.heap.objs.size+1:=pF _ _;have oF:∀x c,(gR X.env.cells sc.names []).lookup x=a_ c->X.env.cells.lookup x=a_ c:=Es sc.names [] (λx c e=>by cases e)
 have clt:∀x c,(gR X.env.cells sc.names []).lookup x=a_ c->c<s.heap.objs.size:=λx c e=>by
  exact oE (I.cell x c (oF x c e)) λv z=>z.lt
 have uE:∀b∈fp,b<s.heap.objs.size:=λb hb=>by
  exact oE (ho b hb) λo e=>cx e
 have back:∀x,((relabel sc X.env).names.lookup x=a_ .cell\/(relabel sc X.env).names.lookup x=a_ .free)->(x,rZ)∈sc.names:=λx h=>by
  rcases h with h | h
  ·rcases IS (env:=X.env) (names:=sc.names) (show (sc.names.map (rl X.env)).lookup x=_ from h)with e | e
   ·exact absurd rfl (S.EZ _ e)
   ·exact e
  ·rcases IS (env:=X.env) (names:=sc.names) (show (sc.names.map (rl X.env)).lookup x=_ from h)with e | e
   ·exact e
   ·exact e
 have has:∀x,(x,rZ)∈sc.names->∃c,(gR X.env.cells sc.names []).lookup x=a_ c:=λx e=>
  Et sc.names [] x e (I.ok.has x (.inl (S.frees _ e rfl)))
 refine⟨⟨I.ok.mod,S.kind,I.ok.glob,I.ok.blt,aI _,λx y c e1 e2=>I.ok.inj x y c (oF x c e1) (oF y c e2),λx h=>has x (back x h),λx c h=>(by cases h),I.ok.hd,I.ok.frames,.inl rfl,λb hb=>?_,I3.bs,c7 I.ok.nX I3.sz,λb o e hb=>?_,λb hb=>?_,I3.stack,I3.EA⟩,I.os ▸ rfl,I.bare,Un.kept hk,⟨m,lU,λk x v e1 e2 e3=>?_⟩,λx c e=>?_,I3.aH.fresh (aI _),λx c e=>I.jF x c (oF x c e),λp hp=>absurd (show p∈([]:List (e_×Obj)) from hp) (by simp),I3.aH.kept hk,Kg S.le⟩
 ·rcases bw.mp hb with e | hb
  ·subst e;exact⟨by rw[hC];exact eM (DE _),λx c e=>eM (clt x c e)⟩
  ·refine⟨by rw[hC];exact eM (Qp (uE b hb)),λx c e=>(hf b hb).2.2.2.2.1 x c (oF x c e)⟩
 ·rcases bw.mp hb with z | hb
  ·subst z;exact absurd (cx (I.bk _ _ e)) (jS _)
  ·have e':X.base.get? b=a_ o:=e;rw[adL I (hf b hb)]at e';cases e'
 ·intro hs;have Zy:=I.ER b hs;rcases bw.mp hb with z | hb
  ·subst z;rcases bw.mp Zy with e | e
   ·exact absurd I.lt (by rw[<-e];exact jS _)
   ·exact I.W7 (aI _) e
  ·rcases bw.mp Zy with e | e
   ·exact(hf b hb).2.1 e
   ·exact(hf b hb).2.2.1 e
 ·refine aw (Kh e2) λi h1 h2=>oA (S.Yi k i x h1 e1) λh3 h4=>?_;have jP:=t_ h4;have uu:X.env.scope.names.lookup x=a_ .cell:=S.frees _ jP rfl;refine aw I.loc λm' wZ C4=>aw (C4 i x v h3 h2 (.inr (.inl uu))) λu r l=>au u r (.inr ⟨.inl (QO I.ok.kind h4 uu),?_⟩);rcases l with ⟨q,_⟩ | ⟨_,c,ec,z⟩
  ·have q':X.env.scope.names.lookup x=a_ .local:=q;rw[uu]at q';cases q'
  ·refine oE (has x jP) λc' Ds=>?_;have:=oF x c' Ds;rw[ec]at this;cases this;exact au c Ds (z.keeps λb o e=>hk b o (bo _ e))
 ·exact oE (I.cell x c (oF x c e)) λv z=>⟨v,z.keeps λb o e=>hk b o (bo _ e)⟩
theorem ae8(I:Inv X p_ σ H s)(hf:∀b∈fp,gq X p_ H b)
  (I':Inv (nN X sc N (mj s) H (s.heap.objs.size::fp) (s.heap.push eQ).objs.size EE) pl σ' H' s'):Inv X p_ σ H' s':=by
 have I3:Inv X p_ σ H (mj s):=I.kept (t':=s.toks) λb o e=>bo _ e;have fa:=I.iz (aI _) (I.aH.fresh (aI _));refine I3.MF (ch:=s.heap.objs.size::fp) (I'.os.trans rfl) I'.base I'.aH I'.bare λb hb=>?_
 have q:gq X p_ H b:=by
  rcases bw.mp hb with e | hb
  ·subst e;exact fa
  ·exact hf b hb
 exact qX q.2.2.2.1 q.2.1 q.2.2.2.2.1 q.2.2.2.2.2
end
abbrev AA:=St->Hp->(Bool->Hp->Prop)->Prop
def oK:AA:=λ_ H Q=>Q c_ H
def Cw(X:Cx)(ifs:List Expr)(t:AA):Prop:=
 ∀(p_:List (e_×Obj)) (s:g_) (σ:St) (H:Hp) (Q:Bool->Hp->Prop),Inv X p_ σ H s->t σ H Q->wpAny (model X.prog X.w) X.A (tests ifs X.env) (TP X p_ σ Q) X.xe s
theorem jW{X:Cx}:Cw X [] oK:=λ_ _ _ H _ I h=>acC ⟨H,I,h⟩
theorem zK{X:Cx}{t:TT}(h:PT X c t):Cw X [c] t:=λp_ s σ H Q I q=>acB (h p_ s σ H Q I q)
def Ca(n:Nat)(σ σ2:St):Prop:=σ2.length=σ.length/\∀i,i<n->σ2[i]?=σ[i]?
def MN(J:It)(g:TG)(tc:AA)(te:TE)(σ0:St)(H1:Hp)(K:List V->Hp->Prop):Prop:=
 ∃W:Nat->Nat->List V->Hp->Prop,(∃m,W 0 m [] H1)/\∀i m ys H,W i m ys H->
  (J.stop i H/\K ys H)\/
  (J.go i H/\ys.length<cq/\∃N:List V->Hp->Prop,(∀zs H',N zs H'->∃m',m'<m/\W (i+1) m' zs H')/\
   ∀x H',J.wI i H x H'->g x σ0 H' λσ2 H2=>tc σ2 H2 λb H3=>if b=c_ then te σ2 H3 (λy H4=>N (ys++[y]) H4) else N ys H3)
def Me(wi:TI)(g:TG)(tc:AA)(te:TE)(idx:List Nat)(n:Nat):TE:=λσ H Q=>wi σ H λJ H1=>
 MN J g tc te (lO idx n σ) H1 λys H2=>ys.length<=cq/\∀p,H2 p=b_->Q (.ref p) (upd H2 p (.lst ys))
def Cb(n:Nat)(g:TG):Prop:=∀x σ H Q,g x σ H Q->g x σ H λσ2 H2=>Q σ2 H2/\Ca n σ σ2
theorem J7{n k:Nat}{v:Option V}(h:n<=k):Ca n σ (σ.set k v):=⟨pD,λi hi=>A6 li⟩
theorem jU{n k:Nat}(h:n<=k):Cb n (kg k):=λx σ H Q q=>⟨q,J7 h⟩
theorem zx{K:u_}{n k l:Nat}(h:n<=k)(h':n<=l):Cb n (Xb K 2 (My (kg k) (My (kg l) Xc))):=λx σ H Q q=>by
 refine jD q λa xs e1 e2 e3 aa=>bX aa λv r e4 aa=>dv aa λv' r' e5 e6 q=>⟨a,⟨xs,e1,e2,e3,v,r,e4,v',r',e5,e6,q,?_⟩⟩;have k1:Ca n σ (σ.set k (a_ v)):=J7 h;have k2:Ca n (σ.set k (a_ v)) ((σ.set k (a_ v)).set l (a_ v')):=J7 h';exact⟨k2.1.trans k1.1,λi hi=>(k2.2 i hi).trans (k1.2 i hi)⟩
theorem SS{X:Cx}{idx:List Nat}{n:Nat}(I:Inv X p_ σ2 H s)(k:Ca idx.length (lO idx n σ) σ2):Inv X p_ (lO idx n σ) H s:=
 I.weak k.1.symm λi v e=>by
  refine aw (Kh e) λj h1 _=>?_;rw[k.2 i (dy.mp h1).1];exact e
theorem iH{J:It}{tc:AA}{K:List V->Hp->Prop}{n:Nat}(P:Nat->List V->Hp->Prop)(hn:n<=cq)(h0:P 0 [] H1)(hle:∀i ys H,P i ys H->ys.length<=i)
  (AU:∀i ys H,i<n->P i ys H->J.go i H) (dh:∀ys H,P n ys H->J.stop n H)
  (hs:∀i ys H,i<n->P i ys H->∀x H',J.wI i H x H'->g x σ0 H' λσ2 H2=>tc σ2 H2 λb H3=>if b=c_ then te σ2 H3 (λy H4=>P (i+1) (ys++[y]) H4) else P (i+1) ys H3)
  (hd:∀ys H,P n ys H->K ys H):MN J g tc te σ0 H1 K:=by
 refine⟨λi m ys H=>m=n-i/\i<=n/\P i ys H,⟨n,by simp,bg _,h0⟩,?_⟩;rintro i m ys H ⟨rfl,hi,p⟩
 by_cases dJ:i<n
 ·refine .inr (dj (AU i ys H dJ p) (by have:=hle i ys H p;lia) ⟨P (i+1),λzs H' p'=>⟨n-(i+1),om,rfl,dJ,p'⟩,hs i ys H dJ p⟩)
 ·have e:i=n:=li;subst e;exact .inl ⟨dh ys H p,hd ys H p⟩
section
variable{X:Cx}{tg elt iter:Expr}{ifs:List Expr}{wi:TI}{g:TG}{tc:AA}{te:TE}{sc:i_}{N:List Str}{idx:List Nat}{pos:Pos}
theorem TN{K:List V->Hp->Prop}{RR:e_->f_->Result->g_->Prop}(hc:X.calm=c_)(S:ee X sc N idx)(gk:Cb idx.length g)
  {fp:List e_} {tn:Nat->j_->Prop} {J:It} (hg:PG (nN X sc N (mj s) H (s.heap.objs.size::fp) (s.heap.push eQ).objs.size EE) tg g) (ht:Cw (nN X sc N (mj s) H (s.heap.objs.size::fp) (s.heap.push eQ).objs.size EE) ifs tc) (he:PE (nN X sc N (mj s) H (s.heap.objs.size::fp) (s.heap.push eQ).objs.size EE) elt te) (I:Inv X p_ σ H s) (T:Turn X.prog X.w X.K tg J fp it tn) (st:tn 0 s.heap) (hf:∀b∈fp,gq X p_ H b) (hW:MN J g tc te (lO idx N.length σ) H K)
  (Pj:∀e s',EE e s'->notedBy (model X.prog X.w) X.A (compEnvC sc (gR X.env.cells sc.names []) (s.heap.push eQ).objs.size X.env) (λe s'=>RR (s.heap.push eQ).objs.size (.ref s.heap.objs.size) (.error e) s') e s')
  (hR:∀(s':g_) (ys:List V) (H':Hp) (m:Str->Option f_) (ar:List f_) (n:Nat),K ys H'->Inv X p_ σ H' s'->s'.heap.Ns (s.heap.push eQ).objs.size m->H' (s.heap.push eQ).objs.size=b_->H' s.heap.objs.size=b_->Vals ys ar->
   s'.heap.get? s.heap.objs.size=a_ { cls:=.type "list",data:=.seq ar.toArray n }->RR (s.heap.push eQ).objs.size (.ref s.heap.objs.size) (.ok .next) s') :
  wpAny (model X.prog X.w) X.A (newList []) (λacc s₃=>wpAny (model X.prog X.w) X.A (newFunctionEnv sc X.env.globals (gR X.env.cells sc.names []) [] X.env.qual b_ .none (a_ X.env)) (λXW s₄=>
   codeAny (model X.prog X.w) X.A (.compStart (.ListComp elt [⟨tg,iter,ifs,0⟩] sc pos) 0 (.ref it) acc { XW with scope:=relabel sc X.env }) (RR XW.locals acc) s₄) E s₃) E s:=by
 refine aw hW λW aa turn=>oE aa λm0 w0=>xx (wpAny_newFunctionEnv S.EZ (by intro y hy;cases hy) (λh' lU Hx=>?_) S.kind);have hC:(s.heap.push eQ).objs.size=s.heap.objs.size+1:=pF _ _;have hk:∀b o,(s.heap.push eQ).get? b=a_ o->h'.get? b=a_ o:=λb o e=>(Hx.2 b (eM (cx e))).trans (bo _ e);have ho:∀b∈fp,∃o,s.heap.get? b=a_ o:=λb hb=>let ⟨o,e,_⟩:=T.obj _ _ st b hb;⟨o,e⟩
 have I0:=ae9 (EE:=EE) (t:=s.toks+([]:List (Str×f_)).length) I S hf ho lU hk
 have fn:∀b∈fp,b≠s.heap.objs.size:=λb hb=>by
  exact oE (ho b hb) λo e=>eM (cx e)
 have accN:=I.aH.fresh (aI _)
 have Pq:∀{H':Hp} {pl:List (e_×Obj)},(∀b∈fp,H' b=b_)->(∀p∈pl,p.1=s.heap.objs.size)->∀b∈fp,gq (nN X sc N (mj s) H (s.heap.objs.size::fp) (s.heap.push eQ).objs.size EE) pl H' b:=λ{H' pl} hn hp b hb=>by
  refine⟨(hn b hb),((I0.ok.uF b (eE _ hb)).1),(I0.ok.uw b (eE _ hb)),(.inl (eE _ hb)),((I0.ok.uF b (eE _ hb)).2),(λp hq=>?_)⟩;have pf:p∈pl:=by simpa[nN]using hq
  rw[hp p pf];exact dW (fn b hb)
 have loop:codeAny (model X.prog X.w) X.A (.compLoop (.ListComp elt [⟨tg,iter,ifs,0⟩] sc pos) 0 (.ref it) (.ref s.heap.objs.size) (compEnvC sc (gR X.env.cells sc.names []) (s.heap.push eQ).objs.size X.env))
   (RR (s.heap.push eQ).objs.size (.ref s.heap.objs.size)) { mj s with heap:=h',toks:=s.toks+([]:List (Str×f_)).length }:=by
  refine adA (EE:=EE) (λn s'=>∃i ys H' ar k,Inv (nN X sc N (mj s) H (s.heap.objs.size::fp) (s.heap.push eQ).objs.size EE) [] (lO idx N.length σ) H' s'/\tn i s'.heap/\(∀b∈fp,H' b=b_)/\H' s.heap.objs.size=b_/\
   Vals ys ar/\s'.heap.get? s.heap.objs.size=a_ { cls:=.type "list",data:=.seq ar.toArray k }/\W i n ys H') Pj ?_ m0 ?_
  ·rintro n s3 ⟨i,ys,H3,ar,kk,I3,ja,Dl,HL,He,ac3,w3⟩
   have Gi:∀{H':Hp},H' s.heap.objs.size=b_->gq (nN X sc N (mj s) H (s.heap.objs.size::fp) (s.heap.push eQ).objs.size EE) [] H' s.heap.objs.size:=λ{H'} hn=>
    ⟨hn,(I0.ok.uF _ f9).1,I0.ok.uw _ f9,.inl f9,(I0.ok.uF _ f9).2,λp hq=>absurd (show p∈([]:List (e_×Obj)) from hq) (by simp)⟩
   have P3:Inv (nN X sc N (mj s) H (s.heap.objs.size::fp) (s.heap.push eQ).objs.size EE) [(s.heap.objs.size,{ cls:=.type "list",data:=.seq ar.toArray kk })] (lO idx N.length σ) H3 s3:=I3.vH λp hp=>by
    have e:p=(s.heap.objs.size,{ cls:=.type "list",data:=.seq ar.toArray kk }):=by simpa using hp
    subst e;exact⟨ac3,HL,((Gi HL).2.1),((Gi HL).2.2.1),(λv z=>by cases z)⟩
   have one:∀p∈[((s.heap.objs.size,{ cls:=.type "list",data:=.seq ar.toArray kk }):e_×Obj)],p.1=s.heap.objs.size:=λp hp=>by
    have e:p=(s.heap.objs.size,{ cls:=.type "list",data:=.seq ar.toArray kk }):=by simpa using hp
    rw[e]
   rcases turn i n ys H3 w3 with ⟨stop,kq⟩ | ⟨go,hz,NN,ZT,step⟩
   ·refine aU (T.done (nN X sc N (mj s) H (s.heap.objs.size::fp) (s.heap.push eQ).objs.size EE) rfl rfl rfl hc i _ s3 _ H3 _ P3 (Pq Dl one) ja stop) λr s4 ⟨hr,I4⟩=>⟨λ_=>?_,λv e=>(by rw[hr]at e;cases e)⟩;exact aw I4.loc λm' wZ _=>hR s4 ys H3 m' ar kk kq (ae8 I hf I4) wZ I4.free HL He (I4.pin _ (f6 _ f9)).1
   ·refine aU (T.item (nN X sc N (mj s) H (s.heap.objs.size::fp) (s.heap.push eQ).objs.size EE) rfl rfl rfl hc i _ s3 _ H3 _ P3 (Pq Dl one) ja go) λr s4 ⟨u,hr,h4⟩=>⟨λe=>(by rw[hr]at e;cases e),λv e=>?_⟩;rw[hr]at e;cases e;refine aU h4 λ_ s5 ⟨x,H5,I5,r5,y5,cQ,Pp⟩=>?_;have PF:=I5.pinned (Pq Pp one) (T.obj _ _ cQ);refine aU (hg _ s5 _ H5 x u _ PF r5 (gk _ _ _ _ (step x H5 y5))) λ_ s6 zq=>dv zq λσ6 H6 I6 q6 k6=>thT (ht _ s6 σ6 H6 _ I6 q6) λok s7 H7 I7 q7=>⟨λe=>?_,λe=>?_⟩
    ·subst e;rw[if_pos rfl]at q7;refine NZ (he _ s7 σ6 H7 _ I7 q7) λv s8 y H8 I8 r8 n8=>aw (ZT _ _ n8) λm' hm w8=>?_;have pa:=I8.pin (s.heap.objs.size,{ cls:=.type "list",data:=.seq ar.toArray kk }) (f6 _ (nj _ f9));have hlen:=He.length;refine wpAny_list_append_plain (items:=ar.toArray) ⟨kk,pa.1⟩ (λh9 pl9 YB=>?_) (by rw[dH];lia);have PD:=I8.vH λp hp=>I8.pin p (f6 _ (f6 _ hp))
     have I9:=PD.turned (h':=h9) (t':=s8.toks) (it:=s.heap.objs.size) (λb o hb e=>(YB.2 b hb).trans e) pa.2.1 (Gi pa.2.1).2.1 (.inl f9) (Gi pa.2.1).2.2.2.2.1 (λp hp=>by
      have Hz:p∈BQ fp s5.heap:=by simpa[nN]using hp
      exact fn p.1 (Se Hz).1)
     refine oE pl9 λk9 e9=>⟨m',⟨hm,i+1,ys++[y],H8,ar++[v],k9,SS (I9.vH λp hp=>absurd hp (by simp)) k6,T.keep _ _ _ cQ λb hb o e=>?_,λb hb=>?_,pa.2.1,He.append (.cons r8 .nil),?_,w8⟩⟩
     ·have q:=(PD.pin (b,o) (f6 _ (zw hb e))).1;exact(YB.2 b (fn b hb)).trans q
     ·exact aw (T.obj _ _ cQ b hb) λo e _=>(PD.pin (b,o) (f6 _ (zw hb e))).2.1
     ·rw[e9];simp
    ·subst e;rw[if_neg eI]at q7;refine aw (ZT _ _ q7) λm' hm w7=>?_;have pa:=I7.pin (s.heap.objs.size,{ cls:=.type "list",data:=.seq ar.toArray kk }) (f6 _ (nj _ f9));exact⟨m',⟨hm,i+1,ys,H7,ar,kk,SS (I7.vH λp hp=>absurd hp (by simp)) k6,T.keep _ _ _ cQ λb hb o e=>(I7.pin (b,o) (f6 _ (f6 _ (zw hb e)))).1,λb hb=>aw (T.obj _ _ cQ b hb) λo e _=>(I7.pin (b,o) (f6 _ (f6 _ (zw hb e)))).2.1,pa.2.1,He,pa.1,w7⟩⟩
  ·exact⟨0,([]),H,([]),0,I0,(T.keep _ _ _ st λb hb o e=>hk b o (bo _ e)),(λb hb=>(hf b hb).1),accN,.nil,(hk _ _ (gw _ rfl)),w0⟩
 exact codeAny_compStart_list loop (T.self _ 0 _ _ _ (T.keep _ _ _ st λb hb o e=>hk b o (bo _ e)) loop)
theorem jA(hc:X.calm=c_)(S:ee X sc N idx)(gk:Cb idx.length g)(hi:PI X tg iter wi)
  (hg:∀s H ex C,PG (Ax X sc N s H ex C) tg g) (ht:∀s H ex C,Cw (Ax X sc N s H ex C) ifs tc) (he:∀s H ex C,PE (Ax X sc N s H ex C) elt te)
  (hs:∀x,Qn iter X.env x=pure x:=by intro _;rfl):PE X (.ListComp elt [⟨tg,iter,ifs,0⟩] sc pos) (Me wi g tc te idx N.length):=by
 intro p_ s σ H Q I h;rw[eval_ListComp];have vc:=Ji λp hp e=>I.ok.has p.1 (.inl (S.frees p hp e));refine aas (use:=b_) rfl hs vc S.kind S.locs (aU (hi p_ s σ H _ I h) λv s1 h1=>aU h1 λHq s2 h2=>Jb h2 λit fp tn J H2 e I2 T eD f2 hW=>?_);subst e;refine TN (EE:=λ_ _=>False) (RR:=λC acc=>compPost (model X.prog X.w) X.A X.xe b_ (EP X p_ σ Q) acc C) hc S gk (hg _ _ _ _) (ht _ _ _ _) (he _ _ _ _) I2 T eD f2 hW (λ_ _ z=>z.elim) λs' ys H' m ar n kq I' lU Pk Dj rv ea=>?_;have hC:(s2.heap.push eQ).objs.size=s2.heap.objs.size+1:=pF _ _;have fa:=I2.iz (aI _) (I2.aH.fresh (aI _));have fC:gq X p_ H2 (s2.heap.push eQ).objs.size:=I2.iz (by rw[hC];exact jv _) (I2.aH.fresh (by rw[hC];exact jv _));have ya:=I2.sz;have I1:=Inv.adopt (o:=.lst ys) I' Dj ya fa.2.1 fa.2.2.2.2.1 fa.2.2.2.2.2 ⟨kq.1,ar,n,rv,ea⟩;refine au m lU λh' sb=>(dw (.ref s2.heap.objs.size) _ (I1.turned (h':=h') (t':=s'.toks) (it:=(s2.heap.push eQ).objs.size) (λb o hb e=>(sb.2 b hb).trans e) ?_ fC.2.1 (.inr (by rw[hC];exact xy ya)) fC.2.2.2.2.1 fC.2.2.2.2.2) rfl (kq.2 _ Dj));rw[ao (by rw[hC];exact Ip _)];exact Pk
theorem Bp{i:Nat}(hN:X.N.Nodup)(hx:X.N[i]?=a_ x)(hl:X.env.scope.names.lookup x=a_ .local)(hc:X.calm=c_)(S:ee X sc N idx)(gk:Cb idx.length g)(hi:PI X tg iter wi)
  (hg:∀s H ex C,PG (Ax X sc N s H ex C) tg g) (ht:∀s H ex C,Cw (Ax X sc N s H ex C) ifs tc) (he:∀s H ex C,PE (Ax X sc N s H ex C) elt te)
  (hsw:By (.ListComp elt [⟨tg,iter,ifs,0⟩] sc pos) (a_ (.Name x pos')) ala.line X.env=pure true:=by rfl)
  (hs:∀x,Qn iter X.env x=pure x:=by intro _;rfl):PS X (.Assign [.Name x pos'] (.ListComp elt [⟨tg,iter,ifs,0⟩] sc pos) ala) (M7 (Me wi g tc te idx N.length) (kg i)):=by
 intro p_ s σ H D I h;rw[exec_Assign_Name_used _ _ _ _ hsw];refine aq (zf (aq ?_));have vc:=Ji λp hp e=>I.ok.has p.1 (.inl (S.frees p hp e));show wpAny _ X.A (do let _ <-comprehension (.ListComp elt [⟨tg,iter,ifs,0⟩] sc pos) sc X.env _ (newList []) d_ (eval iter X.env) (a_ (assign (.Name x pos') X.env))) _ _ s;refine aq (gf (aas (use:=a_ (assign (.Name x pos') X.env)) (Q:=λ_ s'=>SP X p_ D .next s') rfl hs vc S.kind S.locs (aU (hi p_ s σ H _ I h) λv s1 h1=>aU h1 λHq s2 h2=>?_)) (λ_ s' q=>aV (aV q)) λ_ _ q=>q);obtain⟨it,fp,tn,J,H2,e,I2,T,eD,f2,hW⟩:=h2;subst e;refine TN (EE:=λ_ _=>False) (RR:=λC acc=>compPost (model X.prog X.w) X.A X.xe (a_ (assign (.Name x pos') X.env)) (λ_ s'=>SP X p_ D .next s') acc C) hc S gk (hg _ _ _ _) (ht _ _ _ _) (he _ _ _ _) I2 T eD f2 hW (λ_ _ z=>z.elim) λs' ys H' m ar n kq I' lU Pk Dj rv ea=>?_;have hC:(s2.heap.push eQ).objs.size=s2.heap.objs.size+1:=pF _ _;have fa:=I2.iz (aI _) (I2.aH.fresh (aI _));have fC:gq X p_ H2 (s2.heap.push eQ).objs.size:=I2.iz (by rw[hC];exact jv _) (I2.aH.fresh (by rw[hC];exact jv _));have ya:=I2.sz;have I1:=Inv.adopt (o:=.lst ys) I' Dj ya fa.2.1 fa.2.2.2.2.1 fa.2.2.2.2.2 ⟨kq.1,ar,n,rv,ea⟩
 have alY:upd H' s2.heap.objs.size (.lst ys) (s2.heap.push eQ).objs.size=none:=by
  rw[ao (by rw[hC];exact Ip _)];exact Pk
 show wpAny (model X.prog X.w) X.A (assign (.Name x pos') X.env (.ref s2.heap.objs.size)) _ X.xe s';refine wpAny_assign_Name (RT (v:=.ref s2.heap.objs.size) I1 hN hx (.inl hl) rfl (λs3 I3 ⟨a,sb,ha⟩=>?_) (.inr hl))
 have aC:(s2.heap.push eQ).objs.size≠a:=by
  rcases ha with e | e
  ·rw[e];exact fC.2.1
  ·exact dW (fC.2.2.2.2.1 x a e)
 refine au m (lU.sameBut sb aC) λh' sb'=>(fq _ _ (I3.turned (h':=h') (t':=s3.toks) (it:=(s2.heap.push eQ).objs.size) (λb o hb e=>(sb'.2 b hb).trans e) alY fC.2.1 (.inr (by rw[hC];exact xy ya)) fC.2.2.2.2.1 fC.2.2.2.2.2) (kq.2 _ Dj))
end
end L2
namespace L2
open PySem.W
section
variable{cmp:Nat->Nat->(Bool->g_->Prop)->g_->Prop}{r:Nat->Int}{n:Nat}{p:Array Nat}{s:g_}
def rk(r:Nat->Int)(p:Array Nat)(k:Nat):Int:=r (p.getD k 0)
def qU(n:Nat)(p:Array Nat):Prop:=p.Perm (List.range n).toArray
def LY(r:Nat->Int)(p:Array Nat)(m:Nat):Prop:=∀i j,i<j->j<m->rk r p i<rk r p j
theorem qU.size(g:qU n p):p.size=n:=by
 have:=g.size_eq;simpa using this
theorem qU.lt(g:qU n p){k:Nat}(hk:k<n):p.getD k 0<n:=by
 have hs:=g.size;have hm:p[k]'(by exact wg)∈p:=Array.getElem_mem _;have:=(g.mem_iff).mp hm;simp only[D6,show k<p.size by exact wg,dif_pos];simpa using this
theorem qU.ne(g:qU n p){i j:Nat}(hi:i<n)(hj:j<n)(h:i≠j):p.getD i 0≠p.getD j 0:=by
 have hs:=g.size;have nd:=(HR.mp g).nodup_iff.mpr (by simpa using DF);intro e;simp only[D6,show i<p.size by exact wg,show j<p.size by exact wg,dif_pos]at e;have e':p.toList[i]'(by simpa using (by exact wg:i<p.size))=p.toList[j]'(by simpa using (by exact wg:j<p.size)):=by simpa using e
 rcases aaP h with q | q
 ·exact jd.mp nd i j _ _ q e'
 ·exact jd.mp nd j i _ _ q e'.symm
variable(hr:∀i j,i<n->j<n->r i=r j->i=j)(hc:∀i j (C:Bool->g_->Prop),i<n->j<n->i≠j->C (decide (r i<r j)) s->cmp i j C s)
include hr hc
end
end L2
namespace L2
open PySem.W
theorem af4{h:j_}{a:e_}{m m':Str->Option f_}(x:h.Ns a m)(y:h.Ns a m'):m=m':=by
 obtain⟨o,es,ep,e,d,_,f⟩:=x;obtain⟨o',HH,HI,e',d',_,f'⟩:=y;rw[e]at e';cases e';rw[d]at d';cases d'
 funext n
 exact(f n).symm.trans (f' n)
section
variable{X:Cx}{p_:List (e_×Obj)}{σ:St}{H:Hp}{s:g_}
theorem Inv.regrown{h':j_}{m:Str->Option f_}{t':Nat}{d':Drawn}(I:Inv X p_ σ H s)(h1:s.heap.Ns X.env.locals m)(h2:h'.Ns X.env.locals m)(k:∀b o,b≠X.env.locals->s.heap.get? b=a_ o->h'.get? b=a_ o) :
  Inv X p_ σ H { s with heap:=h',drawn:=d',toks:=t' }:=by
 refine I.step (g':=s.gens) (d':=d') (ch:=[]) (λ_ z=>nomatch z) (λb o hL _ _ e _=>k b o hL e) (λb o hL _ _ e _=>⟨o.slots,k b o hL e⟩) (λ_ _ _ _ n=>n) (λb o _ e=>?_) (λ_ _ e=>e) (λ_ _ _ e=>e)
  (λb ps e=>⟨#[],by rw[e];simp⟩) (λm' hm=>by rw[af4 hm h1];exact h2) (λb u e=>?_) I.bare
 ·by_cases z:b=X.env.locals
  ·obtain⟨o',_,_,q,_⟩:=h2;exact⟨o',by rw[z];exact q⟩
  ·exact⟨o,k b o z e⟩
 ·refine(I.aH b u e).pY (λd v hd q=>k d v (λz=>?_) q) (λ_ q=>q) λ_ _ q=>q;have fr:=I.free;rw[<-z]at fr;rcases hd with y | y
  ·rw[y,e]at fr;cases fr
  ·rw[y]at fr;cases fr
structure Srt(P:l_)(w:k_)(L:e_)(h:j_)(vs:List f_)(r:Nat->Int):Prop where
 small:vs.length<64
 inj:∀i j,i<vs.length->j<vs.length->r i=r j->i=j
 ask:2<=vs.length->∃κ,∀(A:h_) (s':g_),(∀b o,b≠L->h.get? b=a_ o->s'.heap.get? b=a_ o)->
  (∀Q:mi->g_->Prop,Q κ s'->wpAny (model P w) A (keyKind' vs.toArray) Q (λ_ _=>False) s')/\
  ∀i j (C:Bool->g_->Prop),i<vs.length->j<vs.length->i≠j->C (decide (r i<r j)) s'->kas_ask P w A κ vs i j C s'
def Fb(ys:List V)(r:Nat->Int)(zs:List V):Prop:=∃p:Array Nat,qU ys.length p/\LY r p ys.length/\zs=p.toList.map λi=>ys.getD i .aG
theorem abY{P:l_}{w:k_}{A:h_}{E:f_->g_->Prop}{a:e_}{vs:List f_}{n:Nat}{R:PySem.Fin->g_->Prop}(ho:s.heap.get? a=a_ (seqObj "list" vs.toArray n))(h1:vs.length<2)
  (k:∀h' e,(∀b o,b≠a->s.heap.get? b=a_ o->h'.get? b=a_ o)->h'.get? a=a_ (seqObj "list" vs.toArray e)->R (.done (.ret .none)) { s with heap:=h' }) :
  wpAny (model P w) A (Builtin.«list.sort» ⟨[.ref a],[]⟩) R E s:=by
 have la:=cx ho;have hn:vs.toArray.size<2:=by rw[dH];exact h1
 have zs:∀m:Nat,m<2->m<=cq:=λm hm=>by rw[gG];exact w5
 obtain⟨e1,q1⟩:∃e1,(s.heap.update a (ow λ_=>(#[]:Array f_))).get? a=a_ (seqObj "list" #[] e1):=⟨_,DI ho λ_=>#[]⟩;rw[list_sort_plain];refine aq (listItems_at ho rfl (aq (IK ho rfl (aq (Jc q1 rfl (aq (QD (aq (II (lE ?_) (bg _))) (zs _ (by simpa using h1)))))) (zs _ (by simpa using h1)) (bg _))));have q3:=bo (seqObj "list" #[] 0) (bo (seqObj "tuple" vs.toArray 0) q1);dsimp only;rw[if_pos hn,if_pos hn];refine aq (aV ?_);rw[StateT.run_pure];refine aq (aV ?_);dsimp only
 have eo:(arrOf (Jo general' (vs.toArray.zip vs.toArray) #[] 7 b_)).map (·.2)=vs.toArray:=by
  show (vs.toArray.zip vs.toArray).map (·.2)=vs.toArray;apply Qx.mp;rw[abc,abb];show (vs.zip vs).map Prod.snd=vs;rw[List.map_snd_zip (aI _)]
 rw[eo];refine aq (Jc q3 rfl (aq (IK q3 rfl ?_ (bg _) (c7 (zs _ (by simpa using h1)) (jv _)))));rw[if_neg (by simp)];refine aV (k _ _ (λb o hb e=>?_) (DI q3 λ_=>vs.toArray));rw[Dy _ _ _ _ hb];exact bo _ (bo _ (by rw[Dy _ _ _ _ hb];exact e))
theorem RM(rv:Vals ys vs):∀l:List Nat,Vals (l.map λi=>ys.getD i .aG) (l.map λi=>vs.getD i iE)
 | []=>.nil
 | i::l=>by
  refine .cons ?_ (RM rv l);dsimp only;rw[kC,kC];cases e:ys[i]? with
  | none=>rw[rv.none_of e];rfl
  | some y=>obtain⟨u,e',q⟩:=rv.get e;rw[e'];exact q
theorem ab4(ys:List V):(List.range ys.length).map (λi=>ys.getD i .aG)=ys:=by
 apply Iv
 ·simp
 ·intro i h1 h2;simp[h2]
theorem Jv{n:Nat}{p:Array Nat}(g:qU n p):p.toList.length=n:=by rw[eG,g.size]
end
end L2
namespace L2
open PySem.W L3
abbrev LL(X:Cx)(sc:i_)(qual:Str)(f:e_)(cd:f_)(L:e_):Env:=envX qual sc L f cd (gR X.env.cells sc.names [])
def Gx(X:Cx)(A:h_)(sc:i_)(N:List Str)(qual:Str)(f:e_)(cd:f_)(s:g_)(H:Hp):Cx:=
 {X with A:=A.deeper (LL X sc qual f cd s.heap.objs.size),N:=N,s₀:=s,H₀:=H,env:=LL X sc qual f cd s.heap.objs.size,outer:=X.stack,stack:=LL X sc qual f cd s.heap.objs.size::X.stack,ex:=[],fn:=λ_=>d_,calm:=c_,pn:=[],xe:=λ_ _=>False }
section
variable{X:Cx}{p_:List (e_×Obj)}{σ:St}{H:Hp}{s:g_}{sc:i_}{N:List Str}{idx:List Nat}{A:h_}{f:e_}{cd:f_}{qual px:Str}{k:Nat}{v:V}{u:f_}
theorem agh(I:Inv X p_ σ H s)(S:ee X sc N idx)(hA:A.frames=a_ X.stack)(hh:A.handled=b_)(hk:N[k]?=a_ px)(hl:sc.names.lookup px=a_ .local)(hi:idx.length<=k)(r:RelV v u){m:Str->Option f_}{t:Nat}
  (lU:h'.Ns s.heap.objs.size m) (hm:m px=a_ u) (kp:∀b o,s.heap.get? b=a_ o->h'.get? b=a_ o) :
  Inv (Gx X A sc N qual f cd s H) [] ((lO idx N.length σ).set k (a_ v)) H { s with heap:=h',toks:=t }:=by
 have oF:∀x c,(gR X.env.cells sc.names []).lookup x=a_ c->X.env.cells.lookup x=a_ c:=Es sc.names [] (λx c e=>by cases e);have has:=λx e=>Et sc.names [] x e (I.ok.has x (.inl (S.frees _ e rfl)));have tf:∀b:e_,b∉(Gx X A sc N qual f cd s H).ex:=λb z=>absurd (show b∈([]:List e_) from z) (by simp);refine⟨⟨I.ok.mod,S.kind,rfl,rfl,aI _,λx y c e1 e2=>I.ok.inj x y c (oF x c e1) (oF y c e2),λx h=>?_,λx c h=>(by cases h),λ_=>hh,aaK hA,.inr ⟨rfl,rfl⟩,λb z=>absurd z (tf b),I.bs,c7 I.ok.nX I.sz,λb _ _=>tf b,λb z=>absurd z (tf b),I.stack,I.EA⟩,rfl,I.bare,Un.kept kp,⟨m,lU,λj x w e1 e2 e3=>?_⟩,λx c e=>?_,I.aH.fresh (aI _),λx c e=>I.jF x c (oF x c e),λp hp=>absurd (show p∈([]:List (e_×Obj)) from hp) (by simp),I.aH.kept kp,by rw[pD];exact Kg S.le⟩
 ·have h2:sc.names.lookup x=a_ .cell\/sc.names.lookup x=a_ .free:=h;rcases h2 with z | z
  ·exact absurd rfl (S.EZ _ (t_ z))
  ·exact has x (t_ z)
 ·have pA:N[j]?=a_ x:=e1
  by_cases hj:j=k
  ·subst hj;rw[hk]at pA;cases pA;have dJ:j<(lO idx N.length σ).length:=by rw[Kg S.le];exact(dy.mp hk).1
   rw[lu dJ]at e2;cases e2;exact⟨u,r,.inl ⟨hl,hm⟩⟩
  ·rw[A6 (dW hj)]at e2;obtain⟨i,h1,h2⟩:=Kh e2;obtain⟨h3,h4⟩:=S.Yi j i x h1 pA;have jP:=t_ h4;have uu:X.env.scope.names.lookup x=a_ .cell:=S.frees _ jP rfl;obtain⟨m',wZ,C4⟩:=I.loc;obtain⟨u',r',l⟩:=C4 i x w h3 h2 (.inr (.inl uu));refine⟨u',r',.inr ⟨.inr h4,?_⟩⟩;rcases l with ⟨q,_⟩ | ⟨_,c,ec,z⟩
   ·have q':X.env.scope.names.lookup x=a_ .local:=q;rw[uu]at q';cases q'
   ·obtain⟨c',Ds⟩:=has x jP;have:=oF x c' Ds;rw[ec]at this;cases this;exact⟨c,Ds,z.keeps λb o e=>kp b o e⟩
 ·obtain⟨v',z⟩:=I.cell x c (oF x c e);exact⟨v',z.keeps λb o e=>kp b o e⟩
theorem aeC{params:Arguments}{body:Expr}(I:Inv X p_ σ H s)(S:ee X sc N idx)(hA:A.frames=a_ X.stack)(hh:A.handled=b_)(akf:A.depth<DP)(hk:N[k]?=a_ px)
  (hl:sc.names.lookup px=a_ .local) (hi:idx.length<=k) (r:RelV v u) (ho:s.heap.get? f=a_ (kla_obj "<lambda>" qual params body sc (gR X.env.cells sc.names []) pm c' qt)) (gv:s.heap.CodeRec (.ref c') qual)
  (Cd:vD (kla_fn "<lambda>" qual params body sc (gR X.env.cells sc.names []) pm (.ref c') qt) ⟨[u],[]⟩=pure [(px,u)]) (Pc:sc.isCoroutine=d_) (NQ:sc.isGenerator=d_)
  (hb:PE (Gx X A sc N qual f (.ref c') s H) body te) (q:te ((lO idx N.length σ).set k (a_ v)) H Q):wpAny (model X.prog X.w) A (call (.ref f) [u]) (EP X p_ σ Q) E s:=by
 refine tW (kla_callFunE akf ho rfl Pc NQ rfl gv ?_);rw[Cd];refine aV (wpAny_newFunctionEnv S.EZ (λy hy=>?_) (λh1 lU Hx=>⟨I.nolimit.fresh _ Hx,?_⟩) S.kind)
 ·have e:y=(px,u):=by simpa using hy
  rw[e];exact hl
 ·have kp:∀b o,s.heap.get? b=a_ o->h1.get? b=a_ o:=λb o e=>Hx.extBut b o (eM (cx e)) (bo _ e);have J:=agh (A:=A) (f:=f) (cd:=.ref c') (qual:=qual) (t:=s.toks+[(px,u)].length) I S hA hh hk hl hi r lU (by simp[lY]) kp;refine kla_codeExpr (gf (hb [] _ _ H _ J q) (λw s2 hw=>?_) λ_ _ z=>iF z);obtain⟨v2,H2,J2,r2,q2⟩:=hw;exact⟨v2,H2,I.MF (ch:=[]) (J2.os.trans rfl) J2.base J2.aH J2.bare λb z=>absurd z (by simp),r2,q2⟩
end
def Ay(c:e_)(qual:Str):HO:=.ext λh=>h.CodeRec (.ref c) qual
theorem ah2{P:l_}{w:k_}(x:h.CodeRec (.ref c) qual):fo P w H h c (Ay c qual):=by
 obtain⟨c0,o,vs,t,e,q,r⟩:=id x;cases e;refine⟨x,⟨o,q⟩,λh1 h2 y k=>?_⟩;obtain⟨c1,o1,CG,t1,e1,q1,r1⟩:=y;cases e1;exact⟨c,o1,CG,t1,rfl,k _ q1,r1⟩
def dg(P:e_)(pos:Pos)(qual:Str)(H:Hp):Prop:=∃ps,H P=a_ (.fu ps)/\(ps=#[]\/∃c,ps=#[rawInt pos.line,rawInt pos.col,.ref c]/\H c=a_ (Ay c qual))
def wc(P:e_)(H H':Hp):Prop:=∀b o,b≠P->H b=a_ o->H' b=a_ o
theorem wc.refl{P:e_}(H:Hp):wc P H H:=λ_ _ _ e=>e
def uz(mg:Str->Option f_)(base:j_):Prop:=∃bm ob,mg "__builtins__" = a_ (.ref bm)/\bm≠sj/\bm≠eY/\base.get? bm=a_ ob/\ob.cls=.type "module"/\ob.dict=a_ sj/\ob.data=.plain
section
variable{X:Cx}{p_:List (e_×Obj)}{σ:St}{H:Hp}{s:g_}
theorem Inv.grow{P:e_}{ps more:Array f_}{t':Nat}(I:Inv X p_ σ H s)(hP:H P=a_ (.fu ps))(k:∀b o,b≠P->s.heap.get? b=a_ o->h'.get? b=a_ o)(e:h'.get? P=a_ (tabObj (ps++more))) :
  Inv X p_ σ (upd H P (.fu (ps++more))) { s with heap:=h',toks:=t' }:=by
 have ne:∀b,H b=b_->b≠P:=λb n z=>by rw[z,hP]at n;cases n
 refine I.step (g':=s.gens) (d':=s.drawn) (ch:=[]) (λ_ z=>nomatch z) (λb o _ _ _ q n=>k b o (ne b n) q) (λb o _ _ _ q n=>⟨o.slots,k b o (ne b n) q⟩) (λb o _ q n=>by rw[ao (ne b n)];exact n) (λb o _ q=>?_) (λb xs q=>?_) (λb o u q=>?_) (λb qs q=>?_)
  (λm hm=>?_) (λb u q=>?_) I.bare
 ·by_cases z:b=P
  ·exact⟨_,by rw[z];exact e⟩
  ·exact⟨o,k b o z q⟩
 ·rw[ao (gj q hP (by intro z;cases z))];exact q
 ·rw[ao (gj q hP (by intro z;cases z))];exact q
 ·by_cases z:b=P
  ·subst z;rw[hP]at q;cases q;exact⟨more,ax⟩
  ·exact⟨#[],by rw[ao z,q];simp⟩
 ·obtain⟨o,es,ep,q,r⟩:=hm;exact⟨o,es,ep,k _ o (ne _ I.free) q,r⟩
 ·by_cases z:b=P
  ·subst z;rw[ax]at q;cases q;exact e
  ·rw[ao z]at q;refine(I.aH b u q).pY (λd v hd y=>k d v (λw=>?_) y) (λc y=>?_) λc xs y=>?_
   ·rcases hd with y1 | y1
    ·exact z (y1.symm.trans w)
    ·rw[w,hP]at y1;cases y1
   ·rw[ao (gj y hP (by intro z;cases z))];exact y
   ·rw[ao (gj y hP (by intro z;cases z))];exact y
theorem Inv.FK(I:Inv X p_ σ H s)(g:gq X p_ H f)(e:s.heap.get? f=a_ o)(n:∀v,o.data≠.cell v):Inv X (p_++[(f,o)]) σ H s:=
 I.vH λp hp=>by
  rcases dD.mp hp with z | z
  ·exact I.pin p (f6 _ z)
  ·have z':p=(f,o):=by simpa using z
   rw[z'];exact⟨e,g.1,g.2.1,g.2.2.1,n⟩
theorem aeB{sc:i_}{idx:List Nat}{params:Arguments}{body:Expr}{c P:e_}(I:Inv X p_ σ H s)(S:ee X sc N idx)(FA:X.env.code=.ref c)(C:CodeHd X.base c P)(B:uz X.mg X.base)
  (NR:defaultsOf params X.env=([],[])) (h:dg P pos (X.env.qual ++ "<lambda>") H)
  (k:∀f c' H' pm qt s',Inv X (p_++[(f,kla_obj "<lambda>" (X.env.qual ++ "<lambda>") params body sc (gR X.env.cells sc.names []) pm c' qt)]) σ H' s'->wc P H H'->dg P pos (X.env.qual ++ "<lambda>") H'->H' c'=a_ (Ay c' (X.env.qual ++ "<lambda>"))->R (.ref f) s') :
  wpAny (model X.prog X.w) X.A (eval (.Lambda params body sc pos) X.env) R E s:=by
 have vc:=Ji λp hp e=>I.ok.has p.1 (.inl (S.frees p hp e));obtain⟨ps,hP,jN⟩:=h;have oP:s.heap.get? P=a_ (tabObj ps):=I.aH P _ hP;obtain⟨bm,ob,b1,b2,b3,b4,b5,b6,b7⟩:=B
 have nP:∀b o,X.base.get? b=a_ o->b≠P:=λb o e z=>by
  have:=(I.bs b o e).2;rw[z,hP]at this;cases this
 have ZI:=I.mod.glob.keeps I.bk
 have gP:eY≠P:=by
  obtain⟨o,es,ep,e,_⟩:=I.mod.glob;exact nP _ _ e
 have hb:s.heap.BuiltinsAt X.mg P:=⟨bm,ob,b1,b2,b3,nP _ _ b4,I.bk _ _ b4,b5,b6,b7⟩;have CC:=C.keeps I.bk;refine kla_eval NR ?_;rcases jN with rfl | ⟨c0,rfl,Dc⟩
 ·refine kla_makeFunction (mg:=X.mg) vc I.ok.glob ZI FA CC oP nu rfl gP hb λc' qt h' tk hx uZ dJ aly htb=>?_
  have I1:Inv X p_ σ (upd H P (.fu (#[] ++ #[rawInt pos.line,rawInt pos.col,.ref c']))) { s with heap:=h'.push (kla_obj "<lambda>" (X.env.qual ++ "<lambda>") params body sc (gR X.env.cells sc.names []) ((X.mg "__name__").getD .none) c' qt),toks:=tk }:=
   I.grow hP (λb o n e=>bo _ (hx b o n e)) (bo _ htb)
  have Zb:=cx oP;have nc:=I.aH.fresh uZ;have cP:=vx (gx Zb uZ);have nc1:upd H P (.fu (#[] ++ #[rawInt pos.line,rawInt pos.col,.ref c'])) c'=none:=by rw[ao cP];exact nc
  have fc:=I.iz (b:=c') uZ nc;have I2:=Inv.adopt (o:=Ay c' (X.env.qual ++ "<lambda>")) I1 nc1 (c7 I.sz uZ) fc.2.1 fc.2.2.2.2.1 fc.2.2.2.2.2 (ah2 (aly.push _));have O0:=c7 uZ (eO dJ);have fP:=vx (gx Zb O0)
  have nf:upd (upd H P (.fu (#[] ++ #[rawInt pos.line,rawInt pos.col,.ref c']))) c' (Ay c' (X.env.qual ++ "<lambda>")) h'.objs.size=none:=by
   rw[ao (vx dJ),ao fP];exact I.aH.fresh O0
  have I3:=I2.FK (I.iz (b:=h'.objs.size) O0 nf) (gw _ rfl) (λv z=>by cases z);refine k _ c' _ _ qt _ I3 (λb o n e=>?_) ⟨_,by rw[ao (dW cP),ax],.inr ⟨c',by simp,ax⟩⟩ ax;rw[ao (cg e nc),ao n];exact e
 ·have Pa:s.heap.CodeRec (.ref c0) (X.env.qual ++ "<lambda>"):=(I.aH c0 _ Dc).1;have hf:codeAmong pos (#[rawInt pos.line,rawInt pos.col,cI c0]:Array f_).toList=a_ (.ref c0):=by simp[codeAmong,rawInt]
  refine kla_makeFunctionHit (mg:=X.mg) vc I.ok.glob ZI FA CC oP (show TriplesOk [rawInt pos.line,rawInt pos.col,cI c0] from nu) hf hb λqt h' tk kk uZ=>?_;have I1:Inv X p_ σ H { s with heap:=h'.push (kla_obj "<lambda>" (X.env.qual ++ "<lambda>") params body sc (gR X.env.cells sc.names []) ((X.mg "__name__").getD .none) c0 qt),toks:=tk }:=I.kept λb o e=>bo _ (kk b o e);have I3:=I1.FK (I.iz (b:=h'.objs.size) uZ (I.aH.fresh uZ)) (gw _ rfl) (λv z=>by cases z);exact k _ c0 _ _ qt _ I3 (wc.refl H) ⟨_,hP,.inr ⟨c0,rfl,Dc⟩⟩ Dc
end
end L2
namespace L2
open PySem.W
def WG(ts:List e_)(H:Hp):Prop:=(∀b,H b=b_\/(∃o xs,H b=a_ (.nV o (.lst xs)))\/(b∈ts/\H b=a_ (.fu #[])))/\∀b∈ts,H b=a_ (.fu #[])
theorem ac8{P:l_}{w:k_}{K:u_}{mg mb:Str->Option f_}{CX:nY}{k:Nat}{sp:Sp}
  (KX:K.In s₁.heap) (lU:s₁.heap.Ns eY mg) (hb:s₁.heap.Ns sj mb) (hbb:∀x:Str,x ≠ "__name__"->mb x=vw x) (alM:s₁.heap.NoLimit) (hg:s₁.gens=#[]) (xk:uz mg s₁.heap)
  (yH:∀b∈ts,s₁.heap.get? b=a_ (tabObj #[])) (htc:∀b∈ts,isCodeTable s₁.heap b) (Hw:∀b∈ts,K.lookup b=b_)
  (ha:s₁.heap.get? a=a_ { cls:=.type "list",data:=.seq vs.toArray }) (hi:IntsAre vs ns) (hl:ns.length<=cq) (hr:eV k callerA)
  (F:∀base:j_,K.In base->base.Ns eY mg->uz mg base->ay P w K mg base CX k fa fd [x] sp) (Cd:∀(s:g_) (u:f_),BindsTo s fd ⟨[u],[]⟩ [(x,u)])
  (qi:∀H:Hp,WG ts H->av K H a (ns.map V.int)->sp [.ref a] H (λv _=>v=.bl c_) λ_ _ _=>False)
  (hCX:∀H e s',CX [] H s₁ (λ_ _ _=>False) e s'->False) :
  codeAny (model P w) callerA (.call (.ref fa) ⟨[.ref a],[]⟩) (λr s'=>r=.ok (.ret (.bool c_))/\OldK s₁.heap s'.heap/\s'.os=s₁.os/\AllBare s'.gens) s₁:=by
 have rv:=RN hi;have alc:=hi.length
 have ant:a∉ts:=λz=>by
  have e:=yH a z;rw[ha]at e;cases e
 have core:∀H:Hp,WG ts H->av K H a (ns.map V.int)->eW P w H s₁.heap->(∀b,H b≠b_->b=a\/b∈ts)->(H a≠b_->K.lookup a=b_)->
   codeAny (model P w) callerA (.call (.ref fa) ⟨[.ref a],[]⟩) (λr s'=>r=.ok (.ret (.bool c_))/\OldK s₁.heap s'.heap/\s'.os=s₁.os/\AllBare s'.gens) s₁:=by
  intro H hO hS aH hA hK;have base_of:∀{b:e_} {o:Obj},s₁.heap.get? b=a_ o->H b=b_->(sP s₁.heap H).get? b=a_ o:=λe n=>aeK e n
  have tf:∀{b:e_} {o:Obj},s₁.heap.get? b=a_ o->(∀xs n,o.data≠.seq xs n)->(∀xs,o.data≠.fields xs)->H b=none:=λ{b o} e d1 d2=>by
   cases q:H b with
   | none=>rfl
   | some u=>
    rcases hA b (by rw[q];simp)with z | z
    ·subst z;rw[ha]at e;cases e;exact absurd rfl (d1 _ _)
    ·rw[yH b z]at e;cases e;exact absurd rfl (d2 _)
  have Hh:∀{b:e_} {m:Str->Option f_},s₁.heap.Ns b m->(sP s₁.heap H).Ns b m:=λ{b m} ⟨o,es,ep,e,d,r⟩=>⟨o,es,ep,base_of e (tf e (λ_ _ z=>by rw[d]at z;cases z) λ_ z=>by rw[d]at z;cases z),d,r⟩
  have ZU:K.In (sP s₁.heap H):=λb o e=>base_of (KX b o e) (by
   cases q:H b with
   | none=>rfl
   | some u=>
    rcases hA b (by rw[q];simp)with z | z
    ·subst z;rw[hK (by rw[q];simp)]at e;cases e
    ·rw[Hw b z]at e;cases e)
  have hB:uz mg (sP s₁.heap H):=by
   obtain⟨bm,ob,b1,b2,b3,b4,b5,b6,b7⟩:=xk;exact⟨bm,ob,b1,b2,b3,base_of b4 (tf b4 (λ_ _ z=>by rw[b7]at z;cases z) λ_ z=>by rw[b7]at z;cases z),b5,b6,b7⟩
  have hM:Mod K mg (sP s₁.heap H):=⟨ZU,Hh lU,⟨mb,Hh hb,hbb⟩,let ⟨mc,h1,h2⟩:=alM;⟨mc,Hh h1,h2⟩⟩;have e0:yh P w K mg (sP s₁.heap H) callerA [] s₁ H:=⟨rfl,hM,λb o e=>af3 e,r6 (adk _ _),trivial,λb hb=>absurd (show b∈([]:List e_) from hb) (by simp),aH,.of_eq hg⟩;refine zo ((F _ ZU (Hh lU) hB).run callerA [] s₁ H ⟨[.ref a],[]⟩ [.ref a] [.ref a] _ _ hr e0 (Cd s₁ (.ref a)) (.cons rfl .nil) (qi H hO hS)) λr s' h=>?_;cases r with
  | error e=>exact(hCX H e s' h).elim
  | ok fl=>
   cases fl with
   | next=>exact iF h
   | brk=>exact iF h
   | cont=>exact iF h
   | ret u=>
    obtain⟨v,H',os,bare,un,XG,r',q⟩:=h;have q':=q;subst q';obtain rfl:u=vA true:=r'
    have old:∀b o,s₁.heap.get? b=a_ o->asItWas s₁.heap s'.heap b o/\∃o',s'.heap.get? b=a_ o':=λb o e=>by
     cases q:H b with
     | none=>
      have:=un.keep b o e q (by intro z;exact absurd (show b∈([]:List e_) from z) (by simp)) (by simp);exact⟨.inl this,_,this⟩
     | some u=>
      rcases hO.1 b with z | ⟨ob,xs,z⟩ | ⟨hm,z⟩
      ·rw[q]at z;cases z
      ·have z2:=un.oO b ob _ z;obtain⟨e1,_⟩:=aH b _ z;obtain⟨e2,_⟩:=XG b _ z2;rw[e]at e1;cases e1;exact⟨.inl e2,_,e2⟩
      ·obtain⟨more,z2⟩:=un.oJ b _ z;have e2:s'.heap.get? b=a_ (tabObj (#[]++more)):=XG b _ z2;have e1:=yH b hm;rw[e]at e1;cases e1;exact⟨.inr (.inl ⟨htc b hm,rfl,#[],more,rfl,e2⟩),_,e2⟩
    exact⟨rfl,⟨λb o e=>(old b o e).1,λb o e=>(old b o e).2⟩,os,bare⟩
 have tok:∀b,b∈ts->fo P w (λb=>if b=a then b_ else if b∈ts then a_ (.fu #[]) else b_) s₁.heap b (.fu #[]):=λb hb=>yH b hb;cases hk:K.lookup a with
 | some o=>
  have e:=KX a o hk;rw[ha]at e;cases e;have hta:∀b∈ts,(λb=>if b∈ts then a_ (HO.fu #[]) else b_) b=a_ (.fu #[]):=λb hb=>if_pos hb;refine core (λb=>if b∈ts then a_ (.fu #[]) else b_) ⟨λb=>?_,hta⟩ (.inr ⟨_,vs.toArray,_,hk,rfl,rfl,rfl,by rw[dH,alc];exact hl,by simpa using rv⟩) (λb u z=>?_) (λb z=>?_) λz=>absurd (if_neg ant) z
  ·by_cases hb:b∈ts
   ·exact .inr (.inr ⟨hb,if_pos hb⟩)
   ·exact .inl (if_neg hb)
  ·by_cases hb:b∈ts
   ·have z':=(if_pos hb).symm.trans z;cases z';exact yH b hb
   ·have z':=(if_neg hb).symm.trans z;cases z'
  ·by_cases hb:b∈ts
   ·exact .inr hb
   ·exact absurd (if_neg hb) z
 | none=>
  have ne:∀b∈ts,b≠a:=λb hb z=>ant (z ▸ hb);refine core (λb=>if b=a then a_ (.nV { cls:=.type "list",data:=.seq vs.toArray } (.lst (ns.map V.int))) else if b∈ts then a_ (.fu #[]) else b_) ⟨λb=>?_,λb hb=>?_⟩ (.inl (.inr ⟨{ cls:=.type "list",data:=.seq vs.toArray },if_pos rfl⟩)) (λb u z=>?_) (λb z=>?_) λ_=>hk
  ·by_cases hb:b=a
   ·exact .inr (.inl ⟨_,_,if_pos hb⟩)
   ·by_cases hc:b∈ts
    ·exact .inr (.inr ⟨hc,by dsimp only;rw[if_neg hb,if_pos hc]⟩)
    ·exact .inl (by dsimp only;rw[if_neg hb,if_neg hc])
  ·dsimp only;rw[if_neg (ne b hb),if_pos hb]
  ·dsimp only at z
   by_cases hb:b=a
   ·rw[if_pos hb]at z;cases z;subst hb;exact⟨ha,by rw[aP];exact hl,vs,_,rv,ha⟩
   ·rw[if_neg hb]at z
    by_cases hc:b∈ts
    ·rw[if_pos hc]at z;cases z;exact yH b hc
    ·rw[if_neg hc]at z;cases z
  ·by_cases hb:b=a
   ·exact .inl hb
   ·by_cases hc:b∈ts
    ·exact .inr hc
    ·exact absurd (show (if b=a then _ else if b∈ts then _ else b_)=b_ by rw[if_neg hb,if_neg hc]) z
end L2
namespace HT
open PySem.W L2
theorem QN:∀{us:List f_} {xs:List Str},sA us xs=c_->Vals (xs.map V.str) us/\us.length=xs.length
 | [],[],_=>⟨.nil,rfl⟩
 | .str y t::us,x::xs,h=>by
  have h:(decide (y=x)&&sA us xs)=true:=h;rw[jR]at h;obtain⟨a,b⟩:=QN h.2;have e:=of_decide_eq_true h.1;subst e;exact⟨.cons ⟨t,rfl⟩ a,by rw[iT,iT,b]⟩
 | [],_::_,h=>by simp[sA]at h
 | u::us,[],h=>by cases u <;> simp[sA]at h
 | .none::_,_::_,h=>by simp[sA]at h
 | .ref _::_,_::_,h=>by simp[sA]at h
 | .int _ _::_,_::_,h=>by simp[sA]at h
 | .bool _::_,_::_,h=>by simp[sA]at h
theorem afj{K:Frag}(h:tupS K a xs=c_)(hz:xs.length<=cq)(H:Hp):aJ K H a (xs.map V.str):=by
 unfold tupS at h
 split at h
 ·rename_i d ar n sl e
  obtain⟨r,l⟩:=QN h;exact .inr ⟨_,ar,n,e,rfl,rfl,by rw[<-eG,l];exact hz,r⟩
 ·cases h
end HT
namespace L3
def gK(b:Bool)(h:j_)(it l:e_)(i:Nat):Prop:=if b=c_ then h.IsListIter it l i else h.IsTupleIter it l i
def gL(b:Bool)(h:j_)(l:e_)(xs:Array f_):Prop:=if b=c_ then h.IsList l xs else h.IsTuple l xs
theorem gK.ext{b:Bool}{i:Nat}(x:gK b h it l i)(e:Je c h h')(n:it≠c):gK b h' it l i:=by
 cases b with
 | true=>exact(show h.IsListIter it l i from x).extBut e n
 | false=>exact(show h.IsTupleIter it l i from x).extBut e n
theorem gL.ext{b:Bool}{xs:Array f_}(x:gL b h l xs)(e:Je c h h')(n:l≠c):gL b h' l xs:=by
 cases b with
 | true=>exact(show h.IsList l xs from x).extBut e n
 | false=>exact(show h.IsTuple l xs from x).extBut e n
theorem gK.at{b:Bool}{i:Nat}(x:gK b h it l i)(e:∀o,h.get? it=a_ o->h'.get? it=a_ o):gK b h' it l i:=by
 cases b with
 | true=>exact(show h.IsListIter it l i from x).at e
 | false=>obtain⟨o,ho,r⟩:=(show h.IsTupleIter it l i from x);exact⟨o,e o ho,r⟩
theorem gL.at{b:Bool}{xs:Array f_}(x:gL b h l xs)(e:∀o,h.get? l=a_ o->h'.get? l=a_ o):gL b h' l xs:=by
 cases b with
 | true=>exact(show h.IsList l xs from x).at e
 | false=>obtain⟨o,ho,r⟩:=(show h.IsTuple l xs from x);exact⟨o,e o ho,r⟩
theorem gK.obj{b:Bool}{i:Nat}(x:gK b h it l i):∃o vs,h.get? it=a_ o/\o.data=.fields vs:=by
 cases b with
 | true=>obtain⟨o,e,_,d⟩:=(show h.IsListIter it l i from x);exact⟨o,_,e,d⟩
 | false=>obtain⟨o,e,_,d⟩:=(show h.IsTupleIter it l i from x);exact⟨o,_,e,d⟩
section
variable{prog:l_}{w:k_}{A:h_}{E:f_->g_->Prop}{s:g_}
theorem abo{it t:e_}{i:Nat}{ar:Array f_}(a1:s.heap.IsTupleIter it t i)(a2:s.heap.IsTuple t ar)(a3:ar[i]?=a_ x)
  (k:∀h',h'.IsTupleIter it t (i+1)->tU it s.heap h'->Q x { s with heap:=h' }):wpAny (model prog w) A (tM (.ref it)) Q E s:=by
 obtain⟨o,e,c,d⟩:=id a1;obtain⟨ot,et,_,nt,dt⟩:=a2;unfold tM;refine aq (A3 (name:=gc "__next__") a1.typeIs HQ (y6 HQ a1.typeIs aaf ?_ (aae _)));show wpAny _ _ (field (.ref it) 0 >>= _) _ _ s;refine aq (ju e d (x:=.ref t) rfl ?_);show wpAny _ _ (if (cI t == iE)=c_ then _ else _) _ _ s;rw[if_neg (by exact eI)];show wpAny _ _ (field (.ref it) 1 >>= _) _ _ s;refine aq (ju e d (x:=.int i 0) rfl ?_);show wpAny _ _ (JG (.ref t) >>= _) _ _ s;refine aq (tS et dt ?_);simp only[lC,a3];refine aq (DO e d (by simp) (aV ⟨x,rfl,aV (k _ ⟨_,A4 _ e (P9 (Dz d _)),(aaZ ..).trans c,?_⟩ (Ic ..))⟩));rw[Dz d];simp[rawInt]
theorem abD{it t:e_}{i:Nat}{ar:Array f_}(hh:A.handled=b_)(a1:s.heap.IsTupleIter it t i)(a2:s.heap.IsTuple t ar)(a3:ar[i]?=b_)
  (k:∀h' x,Je it s.heap h'->(∃o,h'.get? x=a_ o/\o.cls=.type "StopIteration")->E (.ref x) { s with heap:=h' }):wpAny (model prog w) A (tM (.ref it)) Q E s:=by
 obtain⟨o,e,c,d⟩:=id a1;obtain⟨ot,et,_,nt,dt⟩:=a2;unfold tM;refine aq (A3 (name:=gc "__next__") a1.typeIs HQ (y6 HQ a1.typeIs aaf ?_ (aae _)));show wpAny _ _ (field (.ref it) 0 >>= _) _ _ s;refine aq (ju e d (x:=.ref t) rfl ?_);show wpAny _ _ (if (cI t == iE)=c_ then _ else _) _ _ s;rw[if_neg (by exact eI)];show wpAny _ _ (field (.ref it) 1 >>= _) _ _ s;refine aq (ju e d (x:=.int i 0) rfl ?_);show wpAny _ _ (JG (.ref t) >>= _) _ _ s;refine aq (tS et dt ?_);simp only[lC,a3];refine aq (Bs (aq (DO e d (by simp) ?_)));show wpAny _ _ (newExc (.type "StopIteration") [] >>= _) _ _ _;refine aq ?_;unfold newExc newTuple;refine aq (xx ?_ (by size_fits));refine aq (m:=firstArgMember _ _) (wpAny_of_eq (a:=iE) (by first | rfl | (simp only[firstArgMember];rfl)) (xx ?_ (by size_fits)));unfold raiseNew;refine aq (wpAny_handled ?_)
 first | rw[show A.in1.handled=b_ from hh] | rw[hh]
 exact aq (aV (wpAny_throw (k _ _ (((Ic ..).extBut.push _).push _) ⟨_,gw _ rfl,rfl⟩)))
theorem next_item{b:Bool}{i:Nat}{xs:Array f_}(a1:gK b s.heap it l i)(a2:gL b s.heap l xs)(a3:xs[i]?=a_ x)
  (k:∀h',gK b h' it l (i+1)->tU it s.heap h'->Q x { s with heap:=h' }):wpAny (model prog w) A (tM (.ref it)) Q E s:=by
 cases b with
 | true=>exact wpAny_nextOf_list_item a1 a2 a3 k
 | false=>exact abo a1 a2 a3 k
theorem next_end{b:Bool}{i:Nat}{xs:Array f_}(hh:A.handled=b_)(a1:gK b s.heap it l i)(a2:gL b s.heap l xs)(a3:xs[i]?=b_)
  (k:∀h' x,Je it s.heap h'->(∃o,h'.get? x=a_ o/\o.cls=.type "StopIteration")->E (.ref x) { s with heap:=h' }):wpAny (model prog w) A (tM (.ref it)) Q E s:=by
 cases b with
 | true=>exact wpAny_nextOf_list_end hh a1 a2 a3 k
 | false=>exact abD hh a1 a2 a3 k
theorem adJ{b1 b2:Bool}{z TI TO i1 i2 l1 l2:e_}{k1 k2:Nat}{xs ys:Array f_}{Q:Option f_->g_->Prop}(D:ZipApart z TI TO i1 i2 l1 l2)
  (hz:IsZip s.heap z TI TO .none) (Pg:IsPair s.heap TI (.ref i1) (.ref i2)) (Pf:IsPair s.heap TO a b) (n1:gK b1 s.heap i1 l1 k1) (n2:gK b2 s.heap i2 l2 k2) (m1:gL b1 s.heap l1 xs) (m2:gL b2 s.heap l2 ys)
  (hx:xs[k1]?=a_ x) (hy:ys[k2]?=a_ y)
  (hQ:∀h',IsZip h' z TI TO (rawInt s.heap.objs.size)->IsPair h' TO x y->gK b1 h' i1 l1 (k1+1)->gK b2 h' i2 l2 (k2+1)->IsPair h' s.heap.objs.size x y-> (∀c o,c≠z->c≠TO->c≠i1->c≠i2->s.heap.get? c=a_ o->h'.get? c=a_ o)->Q (a_ (.ref s.heap.objs.size)) { s with heap:=h' }):wpAny (model prog w) A (pyNext (.ref z)) Q E s:=by
 have hT:s.TypeIs (.ref z) "zip":=⟨_,hz,rfl⟩;unfold pyNext;refine aq (Bh (A3 (name:=gc "__next__") hT IA (y6 IA hT F.entry_zip_next ?_ (F.args_zip_next_1 _))));show wpAny _ _ (field (.ref z) 2 >>= _) _ _ s;refine aq (ju hz rfl (x:=.bool d_) rfl ?_);show wpAny _ _ (field (.ref z) 3 >>= _) _ _ s;refine aq (ju hz rfl (x:=.ref TI) rfl (aq (tS Pg rfl ?_)));show wpAny _ _ (HP (.ref z) >>= _) _ _ s;unfold HP;refine aq (aq (ju hz rfl (x:=.none) rfl (aV ?_)));simp only[if_true];refine aq (Bs (aq (ju hz rfl (x:=.ref TO) rfl (aq (A8 hz (by simp) λg1 eL s1=>?_)))));have eL:IsZip g1 z TI TO .ellipsis:=eL;simp only[Qr,List.zipIdx_nil,zd,List.forIn_nil];refine aq (aq (aq (IH ?_)));show wpAny _ _ (tM (.ref i1) >>= _) _ _ _;refine aq (next_item (n1.ext s1.extBut D.i1z) (m1.ext s1.extBut D.l1z) hx λg2 OC s2=>aV ?_);have t2:IsPair g2 TO a b:=s2.extBut _ _ D.TOi1 (s1.extBut _ _ D.TOz Pf);refine aq (tS t2 rfl (aq (Qa t2 λg3 t3 s3=>aq (zt (aV ?_)))));have t3:IsPair g3 TO x b:=t3;refine aq (aq (IH ?_));show wpAny _ _ (tM (.ref i2) >>= _) _ _ _;refine aq (next_item (((n2.ext s1.extBut D.i2z).ext s2.extBut D.i12.symm).ext s3.extBut D.TOi2.symm) (((m2.ext s1.extBut D.l2z).ext s2.extBut D.l2i1).ext s3.extBut D.l2TO) hy λg4 n2' s4=>aV ?_);have t4:IsPair g4 TO x b:=s4.extBut _ _ D.TOi2 t3;refine aq (tS t4 rfl (aq (Qa t4 λg5 t5 s5=>aq (zt (aV (aV ?_))))));have t5:IsPair g5 TO x y:=t5;refine aq (tS t5 rfl (aq (QD ?_)));have hsz:g5.objs.size=s.heap.objs.size:=by rw[s5.1,s4.1,s3.1,s2.1,s1.1]
 have Zq:IsZip g5 z TI TO .ellipsis:=s5.extBut _ _ D.TOz.symm (s4.extBut _ _ D.i2z.symm (s3.extBut _ _ D.TOz.symm (s2.extBut _ _ D.i1z.symm eL)))
 have k5:∀c o,c≠z->c≠TO->c≠i1->c≠i2->s.heap.get? c=a_ o->g5.get? c=a_ o:=λc o c1 c2 c3 c4 e=>
  s5.extBut _ _ c2 (s4.extBut _ _ c4 (s3.extBut _ _ c2 (s2.extBut _ _ c3 (s1.extBut _ _ c1 e))))
 have CO:=((OC.ext s3.extBut D.TOi1.symm).ext s4.extBut D.i12).ext s5.extBut D.TOi1.symm;have n25:=n2'.ext s5.extBut D.TOi2.symm;have Yv:=cx Zq;show wpAny _ _ (aaa (.ref z) (.ref g5.objs.size) >>= _) _ _ _;unfold aaa;have hz6:IsZip (g5.push { cls:=.type "tuple",data:=.seq #[x,y] }) z TI TO .ellipsis:=bo _ Zq;refine aq (aq (A8 hz6 (by simp) λg7 yE s7=>?_));have yE:IsZip g7 z TI TO (rawInt g5.objs.size):=yE;refine A8 yE (by simp) λg8 Hr s8=>?_;have Hr:IsZip g8 z TI TO (rawInt g5.objs.size):=Hr;have up:∀c o,c≠z->g5.get? c=a_ o->g8.get? c=a_ o:=λc o c1 e=>s8.extBut _ _ c1 (s7.extBut _ _ c1 (bo _ e));have ZR:IsPair g8 g5.objs.size x y:=s8.extBut _ _ (vx Yv) (s7.extBut _ _ (vx Yv) (gw _ rfl));rw[hsz]at Hr ZR;refine aV ⟨_,rfl,?_⟩;show wpAny _ _ (pure (a_ (cI g5.objs.size)):Sem (Option f_)) _ _ _;rw[hsz];exact aV (hQ g8 Hr (up _ _ D.TOz t5) (CO.at λo e=>up _ o D.i1z e) (n25.at λo e=>up _ o D.i2z e) ZR λc o c1 c2 c3 c4 e=>up c o c1 (k5 c o c1 c2 c3 c4 e))
theorem afd{b1 b2:Bool}{z TI TO i1 i2 l1 l2:e_}{k1 k2:Nat}{xs ys:Array f_}{Q:Option f_->g_->Prop}(hh:A.handled=b_)(D:ZipApart z TI TO i1 i2 l1 l2)
  (hz:IsZip s.heap z TI TO .none) (Pg:IsPair s.heap TI (.ref i1) (.ref i2)) (Pf:IsPair s.heap TO a b) (n1:gK b1 s.heap i1 l1 k1) (n2:gK b2 s.heap i2 l2 k2) (m1:gL b1 s.heap l1 xs) (m2:gL b2 s.heap l2 ys)
  (Gd:xs[k1]?=b_\/ys[k2]?=b_)
  (hQ:∀h',(∀c o,c≠z->c≠TO->c≠i1->c≠i2->s.heap.get? c=a_ o->h'.get? c=a_ o)->Q b_ { s with heap:=h' }):wpAny (model prog w) A (pyNext (.ref z)) Q E s:=by
 have hT:s.TypeIs (.ref z) "zip":=⟨_,hz,rfl⟩
 have fin:∀(h':j_) (e:e_),(∀c o,c≠z->c≠TO->c≠i1->c≠i2->s.heap.get? c=a_ o->h'.get? c=a_ o)->(∃o,h'.get? e=a_ o/\o.cls=.type "StopIteration")->
   wpAny (model prog w) A (do if <-Bu (.ref e) (.type "StopIteration") then pure b_ else throw (.ref e)) Q E { s with heap:=h' }:=λh' e hk ⟨o,ho,hc⟩=>
  aq (wpAny_isInstance (T:="StopIteration") (b:=c_) ⟨o,ho,hc⟩ isSubtype_stop (aV (hQ _ hk)))
 unfold pyNext;refine aq (Bh (A3 (name:=gc "__next__") hT IA (y6 IA hT F.entry_zip_next ?_ (F.args_zip_next_1 _))));show wpAny _ _ (field (.ref z) 2 >>= _) _ _ s;refine aq (ju hz rfl (x:=.bool d_) rfl ?_);show wpAny _ _ (field (.ref z) 3 >>= _) _ _ s;refine aq (ju hz rfl (x:=.ref TI) rfl (aq (tS Pg rfl ?_)));show wpAny _ _ (HP (.ref z) >>= _) _ _ s;unfold HP;refine aq (aq (ju hz rfl (x:=.none) rfl (aV ?_)));simp only[if_true];refine aq (Bs (aq (ju hz rfl (x:=.ref TO) rfl (aq (A8 hz (by simp) λg1 eL s1=>?_)))));have eL:IsZip g1 z TI TO .ellipsis:=eL;simp only[Qr,List.zipIdx_nil,zd,List.forIn_nil];refine aq (aq (aq (IH ?_)));show wpAny _ _ (tM (.ref i1) >>= _) _ _ _;cases hx:xs[k1]? with
 | none=>
  refine aq (next_end hh (n1.ext s1.extBut D.i1z) (m1.ext s1.extBut D.l1z) hx λg2 e s2 he=>?_);obtain⟨oe,yI,xj⟩:=he;have o7:IsZip g2 z TI TO .ellipsis:=s2 _ _ D.i1z.symm eL;have O4:e≠z:=λq=>by subst q;rw[o7]at yI;cases yI;simp at xj
  exact A8 o7 (by simp) λg3 _ s3=>fin g3 e (λc o c1 _ c3 _ q=>s3.extBut _ _ c1 (s2 _ _ c3 (s1.extBut _ _ c1 q))) ⟨oe,s3.extBut _ _ O4 yI,xj⟩
 | some x=>
  have hy:ys[k2]?=none:=by
   rcases Gd with q | q
   ·rw[hx]at q;cases q
   ·exact q
  refine aq (next_item (n1.ext s1.extBut D.i1z) (m1.ext s1.extBut D.l1z) hx λg2 OC s2=>aV ?_);have t2:IsPair g2 TO a b:=s2.extBut _ _ D.TOi1 (s1.extBut _ _ D.TOz Pf);refine aq (tS t2 rfl (aq (Qa t2 λg3 t3 s3=>aq (zt (aV (aq (aq (IH ?_))))))));show wpAny _ _ (tM (.ref i2) >>= _) _ _ _;refine aq (next_end hh (((n2.ext s1.extBut D.i2z).ext s2.extBut D.i12.symm).ext s3.extBut D.TOi2.symm) (((m2.ext s1.extBut D.l2z).ext s2.extBut D.l2i1).ext s3.extBut D.l2TO) hy λg4 e s4 he=>?_);obtain⟨oe,yI,xj⟩:=he;have Zr:IsZip g4 z TI TO .ellipsis:=s4 _ _ D.i2z.symm (s3.extBut _ _ D.TOz.symm (s2.extBut _ _ D.i1z.symm eL));have O4:e≠z:=λq=>by subst q;rw[Zr]at yI;cases yI;simp at xj
  exact A8 Zr (by simp) λg5 _ s5=>fin g5 e (λc o c1 c2 c3 c4 q=>s5.extBut _ _ c1 (s4 _ _ c4 (s3.extBut _ _ c2 (s2.extBut _ _ c3 (s1.extBut _ _ c1 q))))) ⟨oe,s5.extBut _ _ O4 yI,xj⟩
abbrev sG(b:Bool)(l:e_):Obj:={ cls:=.type (if b=c_ then "list_iterator" else "tuple_iterator"),data:=.fields #[.ref l,.int 0 0] }
theorem Ep{b:Bool}{xs:Array f_}(m:gL b s.heap l xs)(k:Q (.ref s.heap.objs.size) { s with heap:=s.heap.push (sG b l) }):wpAny (model prog w) A (pyIter (.ref l)) Q E s:=by
 cases b with
 | true=>exact Ig m k
 | false=>exact wpAny_pyIter_tuple m k
theorem Tt{b:Bool}(e:h.get? a=a_ (sG b l)):gK b h a l 0:=by
 cases b with
 | true=>exact⟨_,e,rfl,rfl⟩
 | false=>exact⟨_,e,rfl,rfl⟩
end
abbrev Gn(b1:Bool)(h:j_)(l1:e_):Heap:=h.push (sG b1 l1)
abbrev Gm(b1 b2:Bool)(h:j_)(l1 l2:e_):Heap:=(Gn b1 h l1).push (sG b2 l2)
abbrev Gk(b1 b2:Bool)(h:j_)(l1 l2:e_):Heap:=(Gm b1 b2 h l1 l2).push { cls:=.type "tuple",data:=.seq #[.ref h.objs.size,.ref (Gn b1 h l1).objs.size] }
abbrev Gj(b1 b2:Bool)(h:j_)(l1 l2:e_):Heap:=(Gk b1 b2 h l1 l2).push { cls:=.type "tuple",data:=.seq #[.none,.none] }
abbrev Ap(b1 b2:Bool)(h:j_)(l1 l2:e_):Heap:=(Gj b1 b2 h l1 l2).push { cls:=.type "zip",data:=.fields #[.none,.bool d_,.bool d_,.ref (Gm b1 b2 h l1 l2).objs.size,.ref (Gk b1 b2 h l1 l2).objs.size] }
theorem gL.push{b:Bool}{xs:Array f_}(x:gL b h l xs)(o:Obj):gL b (h.push o) l xs:=x.at λ_ e=>bo _ e
theorem afc(b1 b2:Bool)(l1 l2:e_)(xs ys:Array f_) :
  Meets (Builtin.«zip.__new__» ⟨[.type "zip",.ref l1,.ref l2],[]⟩) (λ_ R s=>gL b1 s.heap l1 xs/\gL b2 s.heap l2 ys/\R (.ok (.ret (.ref (Gj b1 b2 s.heap l1 l2).objs.size))) { s with heap:=Ap b1 b2 s.heap l1 l2 }):=
 .of_wp λprog w A R s h=>by
  obtain⟨hp,g,d,tk,os⟩:=s;obtain⟨m1,m2,h⟩:=h;have alr:=sub_zip;have M1:=m1;have M2:gL b2 (Shared.heap ⟨hp.push (sG b1 l1),g,d,tk,os⟩) l2 ys:=gL.push m2 _
  wp_walk using Ep M1,Ep M2
  exact⟨_,rfl,h⟩
section
variable{prog:l_}{w:k_}{A:h_}{E:f_->g_->Prop}{s:g_}
theorem adK{b1 b2:Bool}{l1 l2:e_}{xs ys:Array f_}(m1:gL b1 s.heap l1 xs)(m2:gL b2 s.heap l2 ys)
  (k:∀h',IsZip h' (s.heap.objs.size+4) (s.heap.objs.size+2) (s.heap.objs.size+3) .none->IsPair h' (s.heap.objs.size+2) (.ref s.heap.objs.size) (.ref (s.heap.objs.size+1))->
   IsPair h' (s.heap.objs.size+3) .none .none->gK b1 h' s.heap.objs.size l1 0->gK b2 h' (s.heap.objs.size+1) l2 0->(∀c o,s.heap.get? c=a_ o->h'.get? c=a_ o)->Q (.ref (s.heap.objs.size+4)) { s with heap:=h' }) :
  wpAny (model prog w) A (call (.type "zip") [.ref l1,.ref l2]) Q E s:=by
 refine callType_new F.called_zip qc (F.typeCall_zip_2 _ _) (F.newCall_zip_2 _ _) (λobj=>F.args_object_init_3 obj _ _) F.entry_zip_new (afc b1 b2 l1 l2 xs ys) ⟨m1,m2,?_⟩;have z1:(Gn b1 s.heap l1).objs.size=s.heap.objs.size+1:=pF ..;have z2:(Gm b1 b2 s.heap l1 l2).objs.size=s.heap.objs.size+2:=by rw[pF,z1]
 have z3:(Gk b1 b2 s.heap l1 l2).objs.size=s.heap.objs.size+3:=by rw[pF,z2]
 have z4:(Gj b1 b2 s.heap l1 l2).objs.size=s.heap.objs.size+4:=by rw[pF,z3]
 have q5:(Ap b1 b2 s.heap l1 l2).get? (Gj b1 b2 s.heap l1 l2).objs.size=a_ _:=gw _ rfl;have q4:(Ap b1 b2 s.heap l1 l2).get? (Gk b1 b2 s.heap l1 l2).objs.size=a_ _:=bo _ (gw _ rfl);have q3:(Ap b1 b2 s.heap l1 l2).get? (Gm b1 b2 s.heap l1 l2).objs.size=a_ _:=bo _ (bo _ (gw _ rfl));have q2:(Ap b1 b2 s.heap l1 l2).get? (Gn b1 s.heap l1).objs.size=a_ _:=bo _ (bo _ (bo _ (gw _ rfl)));have q1:(Ap b1 b2 s.heap l1 l2).get? s.heap.objs.size=a_ _:=bo _ (bo _ (bo _ (bo _ (gw _ rfl))));show _/\_;rw[z2,z3,z4]at q5;rw[z1,z2]at q3;rw[z3]at q4;rw[z1]at q2;rw[z4];exact⟨⟨_,q5,rfl⟩,k _ q5 q3 q4 (Tt q1) (Tt q2) λc o x=>bo _ (bo _ (bo _ (bo _ (bo _ x))))⟩
end
end L3
namespace L3
open AutoSeq1 (wpAny_loadPart')
theorem ads(l:e_)(ar:Array f_)(n:Nat)(PB:Option e_)(sl:Array (Option f_)) :
  Meets (Builtin.«enumerate.__new__» ⟨[.type "enumerate",.ref l],[]⟩) (λ_ R s=>s.heap.get? l=a_ { cls:=.type "tuple",dict:=PB,data:=.seq ar n,slots:=sl }/\
   R (.ok (.ret (.ref (s.heap.push (sG d_ l)).objs.size))) { s with heap:=(s.heap.push (sG d_ l)).push { cls:=.type "enumerate",data:=.fields #[.none,.bool d_,.ref s.heap.objs.size,rawInt 0,.none,.none] } }):=
 .of_wp λprog w A R s h=>by
  obtain⟨hp,g,d,tk,os⟩:=s;obtain⟨q,h⟩:=h;have alr:=sub_enumerate;have M:gL d_ (Shared.heap ⟨hp,g,d,tk,os⟩) l ar:=⟨_,q,rfl,n,rfl⟩
  wp_walk using QB q
  refine wpAny_stack_any λst=>aV ?_
  split
  ·rename_i c _ _ _ _ _
   cases (c == pH "enumerate") <;> (wp_walk using QB q,Ep M;exact⟨_,rfl,h⟩)
  ·wp_walk using QB q,Ep M
   exact⟨_,rfl,h⟩
section
variable{prog:l_}{w:k_}{A:h_}{E:f_->g_->Prop}{s:g_}
theorem adt{b:Bool}{xs:Array f_}(m:gL b s.heap l xs)
  (k:∀h',IsEnum h' (s.heap.objs.size+1) s.heap.objs.size 0 .none->gK b h' s.heap.objs.size l 0->(∀c o,s.heap.get? c=a_ o->h'.get? c=a_ o)->Q (.ref (s.heap.objs.size+1)) { s with heap:=h' }) :
  wpAny (model prog w) A (call (.type "enumerate") [.ref l]) Q E s:=by
 cases b with
 | true=>exact call_enumerate_list (show s.heap.IsList l xs from m) λh' a1 a2 _ a4=>k h' a1 a2 a4
 | false=>
  obtain⟨⟨c,PB,dt,sl⟩,hl,hc,n,hd⟩:=(show s.heap.IsTuple l xs from m);have hc:c=.type "tuple":=hc;have hd:dt=.seq xs n:=hd;subst hc hd;refine callType_new F.called_enumerate qc (F.typeCall_enumerate_1 _) (F.newCall_enumerate_1 _) (λobj=>F.args_object_init_2 obj _) F.entry_enumerate_new (ads l xs n PB sl) ⟨hl,?_⟩;have hz:(s.heap.push (sG d_ l)).objs.size=s.heap.objs.size+1:=pF ..
  have he:IsEnum ((s.heap.push (sG d_ l)).push { cls:=.type "enumerate",data:=.fields #[.none,.bool d_,.ref s.heap.objs.size,rawInt 0,.none,.none] }) (s.heap.objs.size+1) s.heap.objs.size 0 .none:=by
   have q:=gw (s.heap.push (sG d_ l)) (o:={ cls:=.type "enumerate",data:=.fields #[.none,.bool d_,.ref s.heap.objs.size,rawInt 0,.none,.none] }) rfl;rw[hz]at q;exact q
  show _/\_;rw[hz];exact⟨⟨_,he,rfl⟩,k _ he ⟨_,bo _ (gw _ rfl),rfl,rfl⟩ λc o x=>bo _ (bo _ x)⟩
theorem adv{b:Bool}(hh:A.handled=b_)(it l:e_)(fZ:l≠it)(xs:Array f_):Draws prog w A it [it,l] xs.size (λi v=>xs[i]?=a_ v) (λi h=>gK b h it l i/\gL b h l xs) where
 live:=λ_ _ st=>let ⟨o,_,e,_⟩:=st.1.obj;⟨o,e⟩
 frame:=λ_ _ _ st hk=>⟨st.1.at λo e=>hk it (by simp) o e,st.2.at λo e=>hk l (by simp) o e⟩
 item:=λi s Q E hi st hQ=>next_item st.1 st.2 (x:=xs[i]) (by simp[hi]) λh' n' sb=>hQ _ h' s.toks (by simp[hi]) ⟨n',st.2.ext sb.extBut fZ⟩ sb
 done:=λs Q E st hE=>next_end hh st.1 st.2 (by simp) hE
end
end L3
namespace L2
open L3
theorem Inv.Kk{X:Cx}{p_:List (e_×Obj)}{σ:St}{H:Hp}{s:g_}{h':j_}{t':Nat}{ch:List e_}(I:Inv X p_ σ H s)(k:∀b o,b∉ch->s.heap.get? b=a_ o->h'.get? b=a_ o)
  (hc:∀b∈ch,gq X p_ H b):Inv X p_ σ H { s with heap:=h',toks:=t' }:=by
 have wR:∀b u,H b=a_ u->b∉ch:=λb u e z=>by rw[(hc b z).1]at e;cases e
 refine I.step (g':=s.gens) (d':=s.drawn) (ch:=ch) (λb hb=>⟨(hc b hb).2.2.2.1,(hc b hb).2.1,(hc b hb).2.2.2.2.1,(hc b hb).2.2.2.2.2⟩) (λb o _ _ z e _=>k b o z e) (λb o _ _ z e _=>⟨o.slots,k b o z e⟩) (λ_ _ _ _ n=>n)
  (λb o z e=>⟨o,k b o z e⟩) (λ_ _ e=>e) (λ_ _ _ e=>e) (λb ps e=>⟨#[],by rw[e];simp⟩) (λm hm=>?_) (λb u e=>?_) I.bare
 ·exact pQ hm λo es ep ho r=>⟨o,es,ep,(k _ o (λz=>(hc _ z).2.1 rfl) ho),r⟩
 ·refine(I.aH b u e).pY (λc v hq q=>k c v ?_ q) (λ_ q=>q) λ_ _ q=>q;rcases hq with z | z
  ·rw[z];exact wR b u e
  ·exact wR c _ z
def Sq(b:Bool)(K:u_)(H:Hp)(a:e_)(xs:List V):Prop:=if b=c_ then av K H a xs else aJ K H a xs
theorem sD{X:Cx}{b:Bool}(I:Inv X p_ σ H s)(h:Sq b X.K H a xs):∃ar:List f_,Vals xs ar/\gL b s.heap a ar.toArray/\xs.length<=cq:=by
 cases b with
 | true=>
  exact aR (I.list h) λar r p z=>cD ar r p.isList z
 | false=>
  exact aR (I.tuple h) λar r p z=>cD ar r p z
theorem Lc{X:Cx}{b:Bool}(I:Inv X p_ σ H s)(h:Sq b X.K H a xs)(h':Sq b X.K H a ys):xs=ys:=by
 cases b with
 | true=>exact I.Tr h h'
 | false=>exact I.RQ h h'
theorem Mf{X:Cx}{b:Bool}(I:Inv X p_ σ H s)(h:Sq b X.K H a xs):a<s.heap.objs.size:=by
 refine aR (sD I h) λar r p z=>?_;cases b with
 | true=>obtain⟨o,e,_⟩:=(show s.heap.IsList a ar.toArray from p);exact cx e
 | false=>obtain⟨o,e,_⟩:=(show s.heap.IsTuple a ar.toArray from p);exact cx e
def Yq(b1 b2:Bool)(K:u_)(l1 l2:e_):It:=
 ⟨λi H=>∃xs ys x y,Sq b1 K H l1 xs/\Sq b2 K H l2 ys/\xs[i]?=a_ x/\ys[i]?=a_ y,λi H v H'=>∃p x y,H p=b_/\v=.ref p/\H'=upd H p (.tup [x,y])/\∀xs ys,Sq b1 K H l1 xs->Sq b2 K H l2 ys->xs[i]?=a_ x/\ys[i]?=a_ y,λi H=>∃xs ys,Sq b1 K H l1 xs/\Sq b2 K H l2 ys/\(xs.length<=i\/ys.length<=i)⟩
theorem zu{b:Bool}{i:Nat}(x:gK b h it l i):∃o,h.get? it=a_ o/\∀v,o.data≠.cell v:=by
 exact bX x.obj λo vs e d=>au o e (λv z=>by rw[d]at z;cases z)
theorem adN{P:l_}{w:k_}{K:u_}{es:List Expr}{x1:Nat}{pos:Pos}{b1 b2:Bool}{z TI TO i1 i2 l1 l2:e_}(D:ZipApart z TI TO i1 i2 l1 l2) :
  Turn P w K (.Tuple es x1 pos) (Yq b1 b2 K l1 l2) [z,TI,TO,i1,i2] z (λi h=>IsZip h z TI TO .none/\IsPair h TI (.ref i1) (.ref i2)/\(∃a b,IsPair h TO a b)/\gK b1 h i1 l1 i/\gK b2 h i2 l2 i) where
 mem:=by simp
 obj:=λi h ⟨a1,a2,⟨a,b,a3⟩,a4,a5⟩ c hc=>by
  simp only[bw,rX,or_false]at hc;rcases hc with rfl | rfl | rfl | rfl | rfl
  ·exact au _ a1 (λv z=>by cases z)
  ·exact au _ a2 (λv z=>by cases z)
  ·exact au _ a3 (λv z=>by cases z)
  ·exact zu a4
  ·exact zu a5
 keep:=λi h h' ⟨a1,a2,⟨a,b,a3⟩,a4,a5⟩ k=>⟨k z (by simp) _ a1,k TI (by simp) _ a2,⟨a,b,k TO (by simp) _ a3⟩,a4.at λo e=>k i1 (by simp) o e,a5.at λo e=>k i2 (by simp) o e⟩
 item:=by
  intro X hP hw hK hc i p_ s σ H E I hf ⟨a1,a2,⟨a,b,a3⟩,a4,a5⟩ hg;subst hP hw hK;refine nC hg λxs ys x y q1 aa=>cH aa λq2 hx hy=>aR (sD I q1) λCG r1 m1 _=>aR (sD I q2) λYw r2 m2 _=>aw (r1.get hx) λu hu ru=>aw (r2.get hy) λv hv rv=>adJ D a1 a2 a3 a4 a5 m1 m2 (x:=u) (y:=v) (by simpa using hu) (by simpa using hv) λh' c1 c2 c3 c4 c5 kk=>?_;have hp:=I.aH.fresh (aI _)
  have lts:∀c∈[z,TI,TO,i1,i2],c<s.heap.objs.size:=λc hc=>by
   simp only[bw,rX,or_false]at hc;rcases hc with rfl | rfl | rfl | rfl | rfl
   ·exact cx a1
   ·exact cx a2
   ·exact cx a3
   ·obtain⟨o,e,_⟩:=zu a4;exact cx e
   ·obtain⟨o,e,_⟩:=zu a5;exact cx e
  refine au _ rfl (wpAny_letOwnedTupleGo_zip c1 λyQ d1 sb=>?_);have sz:∀c∈[z,TI,TO,i1,i2],c≠s.heap.objs.size:=λc hc=>eM (lts c hc)
  have k2:∀c o,c∉[z,TO,i1,i2]->s.heap.get? c=a_ o->yQ.get? c=a_ o:=λc o hc e=>by
   simp only[bw,rX,or_false,not_or]at hc;exact(sb.2 c hc.1).trans (kk c o hc.1 hc.2.1 hc.2.2.1 hc.2.2.2 e)
  have fz:∀c∈[z,TO,i1,i2],gq X p_ H c:=λc hc=>hf c (by
   simp only[bw,rX,or_false]at hc ⊢;rcases hc with rfl | rfl | rfl | rfl <;> simp)
  have I1:=Inv.Kk (t':=s.toks) I k2 fz;have pT:IsPair yQ s.heap.objs.size u v:=(sb.2 _ (dW (sz z (by simp)))).trans c5;have fT:=I.iz (aI _) hp;have I2:Inv X p_ σ (upd H s.heap.objs.size (.tup [x,y])) { s with heap:=yQ }:=Inv.adopt I1 hp I.sz fT.2.1 fT.2.2.2.2.1 fT.2.2.2.2.2 ⟨by show 2<=cq;decide,[u,v],.cons ru (.cons rv .nil),⟨_,pT,rfl,_,rfl⟩⟩;refine⟨.ref s.heap.objs.size,_,I2,rfl,⟨_,x,y,hp,rfl,rfl,λxs' ys' p1 p2=>⟨by rw[Lc I p1 q1];exact hx,by rw[Lc I p2 q2];exact hy⟩⟩,⟨d1,(sb.2 _ D.TIz).trans (kk _ _ D.TIz D.TITO D.TIi1 D.TIi2 a2),⟨u,v,(sb.2 _ D.TOz).trans c2⟩,c3.at λo e=>(sb.2 _ D.i1z).trans e,c4.at λo e=>(sb.2 _ D.i2z).trans e⟩,λc hc=>?_⟩;rw[ao (sz c hc)];exact(hf c hc).1
 done:=by
  intro X hP hw hK hc i p_ s σ H E I hf ⟨a1,a2,⟨a,b,a3⟩,a4,a5⟩ hg;subst hP hw hK;refine dv hg λxs ys q1 q2 Gd=>aR (sD I q1) λCG r1 m1 _=>aR (sD I q2) λYw r2 m2 _=>?_;have l1':=r1.length;have l2':=r2.length;refine afd (I.ok.hd hc) D a1 a2 a3 a4 a5 m1 m2 (by rcases Gd with q | q;exact .inl (by simp;lia);exact .inr (by simp;lia)) λh' kk=>⟨rfl,?_⟩
  refine Inv.Kk (t':=s.toks) (ch:=[z,TO,i1,i2]) I (λc o hc e=>?_) λc hc=>hf c (by
   simp only[bw,rX,or_false]at hc ⊢;rcases hc with rfl | rfl | rfl | rfl <;> simp)
  simp only[bw,rX,or_false,not_or]at hc;exact kk c o hc.1 hc.2.1 hc.2.2.1 hc.2.2.2 e
 self:=λ_ _ _ _ _ st h=>wpAny_pyIter_zip st.1 h
section
variable{X:Cx}{pos:Pos}
def akY(b1 b2:Bool)(K:u_)(ta:TA):TI:=λσ H R=>ta σ H λvs H1=>∃l1 l2 xs ys,vs=[.ref l1,.ref l2]/\Sq b1 K H1 l1 xs/\Sq b2 K H1 l2 ys/\R (Yq b1 b2 K l1 l2) H1
theorem Lv{b1 b2:Bool}{es:List Expr}{x1:Nat}(hg:Gl X "zip")(hm:X.mg "zip" = b_)(ha:PA X [a,b] ta)
  (hs:cJ [a,b] X.env=[(d_,eval a X.env),(d_,eval b X.env)]:=by rfl) (rE:cJ [b] X.env=[(d_,eval b X.env)]:=by rfl):PI X (.Tuple es x1 Cp) (.Call (.Name "zip" p) [a,b] [] pos) (akY b1 b2 X.K ta):=by
 intro p_ s σ H R I h;refine Call_ (vU I hg hm boot_zip (Dw (Aq (ha pos p_ s σ H _ I h) λus s1 vs H1 I1 r1 q1=>?_) (by rw[hs,rE]) (by rw[rE];rfl)));obtain⟨l1,l2,xs,ys,e,q1,q2,q⟩:=q1;subst e;cases r1 with
 | cons r rr=>
  cases rr with
  | cons r' rr=>
   cases rr;cases r;cases r';obtain⟨CG,_,m1,_⟩:=sD I1 q1;obtain⟨Yw,_,m2,_⟩:=sD I1 q2;have n1:=Mf I1 q1;have n2:=Mf I1 q2;refine adK m1 m2 λh' c1 c2 c3 c4 c5 kk=>wpAny_pyIter_zip c1 (⟨_,_,_,_,H1,rfl,(I1.kept (t':=s1.toks) kk),(adN (D:=zipApart_new n1 n2)),⟨c1,c2,⟨_,_,c3⟩,c4,c5⟩,(λc hc=>?_),q⟩)
   have rG:s1.heap.objs.size<=c:=by
    simp only[bw,rX,or_false]at hc;rcases hc with rfl | rfl | rfl | rfl | rfl <;> lia
   exact I1.iz rG (I1.aH.fresh rG)
def Ys(b:Bool)(K:u_)(l:e_):It:=
 ⟨λi H=>∃xs x,Sq b K H l xs/\xs[i]?=a_ x,λi H v H'=>∃p x,H p=b_/\v=.ref p/\H'=upd H p (.tup [.int i,x])/\∀xs,Sq b K H l xs->xs[i]?=a_ x,λi H=>∃xs,Sq b K H l xs/\xs.length<=i⟩
end
theorem acA{P:l_}{w:k_}{K:u_}{es:List Expr}{x1:Nat}{pos:Pos}{b:Bool}{e it l:e_}(n1:e≠it)(n2:l≠it)(n3:e≠l) :
  Turn P w K (.Tuple es x1 pos) (Ys b K l) [e,it] e (λi h=>(∃old,IsEnum h e it i old)/\gK b h it l i) where
 mem:=by simp
 obj:=λi h ⟨⟨old,a1⟩,a2⟩ c hc=>by
  simp only[bw,rX,or_false]at hc;rcases hc with rfl | rfl
  ·exact au _ a1 (λv z=>by cases z)
  ·exact zu a2
 keep:=λi h h' ⟨⟨old,a1⟩,a2⟩ k=>⟨⟨old,k e (by simp) _ a1⟩,a2.at λo q=>k it (by simp) o q⟩
 item:=by
  intro X hP hw hK hc i p_ s σ H E I hf ⟨⟨old,a1⟩,a2⟩ hg;subst hP hw hK;refine bX hg λxs x q1 hx=>aR (sD I q1) λvs r1 m1 _=>aw (r1.get hx) λu hu ru=>?_
  have AS:i<vs.toArray.size:=by
   have:=(dy.mp hu).1;simpa using this
  have hh:X.A.in1.handled=none:=I.ok.hd hc;refine wpAny_pyNext_enum_itemD (n:=vs.toArray.size) (adv (b:=b) hh it l n2 vs.toArray) a1 ⟨a2,m1⟩ AS n1 (by simp;exact⟨n1,n3⟩) λy h' tk hy c1 c2 c3 c4 kk=>?_
  have ey:y=u:=by
   have:vs[i]?=a_ y:=by simpa using hy
   rw[hu]at this;exact(dr this).symm
  subst ey;have hp:=I.aH.fresh (aI _);have eS:e≠s.heap.objs.size:=eM (cx a1)
  have iS:it≠s.heap.objs.size:=by
   exact aw (zu a2) λo q _=>eM (cx q)
  refine au _ rfl (wpAny_letOwnedTupleGo_enum c1 λyQ d1 sb=>?_)
  have k2:∀c o,c∉[e,it]->s.heap.get? c=a_ o->yQ.get? c=a_ o:=λc o hc q=>by
   simp only[bw,rX,or_false,not_or]at hc;exact(sb.2 c hc.1).trans (kk c o hc.1 hc.2 q)
  have I1:Inv X p_ σ H { s with heap:=yQ,toks:=tk+1 }:=Inv.Kk I k2 hf;have pT:=(sb.2 _ (dW eS)).trans c3;have fT:=I.iz (aI _) hp
  have I2:Inv X p_ σ (upd H s.heap.objs.size (.tup [.int i,x])) { s with heap:=yQ,toks:=tk+1 }:=Inv.adopt I1 hp I.sz fT.2.1 fT.2.2.2.2.1 fT.2.2.2.2.2
   ⟨by show 2<=cq;decide,[.int i tk,y],.cons ⟨_,rfl⟩ (.cons ru .nil),⟨_,pT,rfl,_,rfl⟩⟩
  refine⟨(.ref s.heap.objs.size),_,I2,rfl,⟨_,x,hp,rfl,rfl,λxs' p1=>by rw[Lc I p1 q1];exact hx⟩,⟨⟨_,by simpa using d1⟩,c2.1.at λo q=>(sb.2 _ (dW n1)).trans q⟩,(λc hc=>?_)⟩;simp only[bw,rX,or_false]at hc;rcases hc with rfl | rfl
  ·rw[ao eS];exact(hf _ (by simp)).1
  ·rw[ao iS];exact(hf _ (by simp)).1
 done:=by
  intro X hP hw hK hc i p_ s σ H E I hf ⟨⟨old,a1⟩,a2⟩ hg;subst hP hw hK;refine aw hg λxs q1 Gd=>aR (sD I q1) λvs r1 m1 _=>?_;have hl:=r1.length;have hT:s.TypeIs (.ref e) "enumerate":=⟨_,a1,rfl⟩;unfold pyNext;refine aq (Bh (A3 (name:=gc "__next__") hT aaE (y6 aaE hT F.entry_enumerate_next ?_ (F.args_enumerate_next_1 _))));show wpAny _ _ (field (.ref e) 2 >>= _) _ _ s;refine aq (ju a1 rfl (x:=.ref it) rfl (aq (next_end (show X.A.in1.handled=b_ from I.ok.hd hc) a2 m1 (by simp;lia) λh' y hk ⟨o,ho,yJ⟩=>aq (wpAny_isInstance (T:="StopIteration") (b:=c_) ⟨o,ho,yJ⟩ isSubtype_stop (aV ⟨rfl,I.turned (t':=s.toks) (it:=it) (λc q hc z=>hk c q hc z) (hf it (by simp)).1 (hf it (by simp)).2.1 (hf it (by simp)).2.2.2.1 (hf it (by simp)).2.2.2.2.1 (hf it (by simp)).2.2.2.2.2⟩)))))
 self:=λ_ _ _ _ _ st h=>let ⟨_,a1⟩:=st.1;wpAny_pyIter_enum a1 h
section
variable{X:Cx}{pos:Pos}
def ajf(b:Bool)(K:u_)(ta:TA):TI:=λσ H R=>ta σ H λvs H1=>∃l xs,vs=[.ref l]/\Sq b K H1 l xs/\R (Ys b K l) H1
theorem xQ{b:Bool}{es:List Expr}{x1:Nat}(hg:Gl X "enumerate")(hm:X.mg "enumerate" = b_)(ha:PA X [a] ta)
  (hs:cJ [a] X.env=[(d_,eval a X.env)]:=by rfl):PI X (.Tuple es x1 Cp) (.Call (.Name "enumerate" p) [a] [] pos) (ajf b X.K ta):=by
 intro p_ s σ H R I h;refine Call_ (vU I hg hm boot_enumerate (Dw (Aq (ha pos p_ s σ H _ I h) λus s1 vs H1 I1 r1 q1=>?_) hs rfl));obtain⟨l,xs,e,q1,q⟩:=q1;subst e;cases r1 with
 | cons r rr=>
  cases rr;cases r;obtain⟨CG,_,m1,_⟩:=sD I1 q1;have n1:=Mf I1 q1;refine adt m1 λh' c1 c2 kk=>wpAny_pyIter_enum c1 (⟨_,_,_,_,H1,rfl,(I1.kept (t':=s1.toks) kk),(acA (Ip _) (eM n1) (dW (eM (Qp n1)))),⟨⟨_,c1⟩,c2⟩,(λc hc=>?_),q⟩)
  have rG:s1.heap.objs.size<=c:=by
   simp only[bw,rX,or_false]at hc;rcases hc with rfl | rfl <;> lia
  exact I1.iz rG (I1.aH.fresh rG)
end
end L2
namespace L2
open PySem.SeqAt L3
def Nx:V->Option f_
 | .ty n=>a_ (.type n)
 | .ref a=>a_ (.ref a)
 | _=>b_
theorem TQ(h:Nx c=a_ cv)(r:RelV c u):u=cv:=by
 cases c with
 | ty n=>cases h;exact r
 | ref a=>cases h;exact r
 | _=>cases h
def WW(K:u_):List V->Hp->VK->Prop:=λxs H Q=>∃x c t cv b,xs=[x,c]/\iL K H x t/\Nx c=a_ cv/\v_ K t cv=a_ b/\Q (.bl b) H
section
variable{X:Cx}
theorem jy:lK X (.builtin "isinstance") (WW X.K):=by
 intro p_ s σ H xs us Q I r h;refine jh h λx c t cv b aa=>xX aa λe ty hc hk q=>?_;subst e;cases r with
 | cons r1 r2=>
  cases r2 with
  | cons r2 r3=>
   cases r3;cases TQ hc r2;exact adf I r1 ty hk λtk=>(dw (.bl b) H (I.tok tk) rfl q)
theorem range_all(bs:List Bool):(List.range bs.length).all (λi=>bs.getD i d_)=bs.all id:=by
 induction bs with
 | nil=>rfl
 | cons b r ih=>
  rw[iT,List.range_succ_eq_map,zk,Bm,zk];simp only[List.getD_cons_zero,id]
  congr 1
theorem SK:∀{bs:List Bool} {us:List f_},Vals (bs.map V.bl) us->us=bs.map vA
 | [],_,r=>by cases r;rfl
 | b::bs,_,r=>by
  cases r with
  | cons r1 r2=>
   cases r1;rw[fh,SK r2]
theorem abG(bs:List Bool):TruthOf X.prog X.w A (λi v=>(bs.map vA).toArray[i]?=a_ v) (λi=>bs.getD i d_):=by
 intro i v s Q E h q;have h':(bs.map vA)[i]?=a_ v:=by simpa using h
 rw[dq]at h';cases e:bs[i]? with
 | none=>rw[e]at h';cases h'
 | some b=>
  rw[e]at h';have hv:=(dr h').symm;subst hv;have hq:bs.getD i d_=b:=by rw[kC,e];rfl
  have q':Q (bs.getD i d_) s:=q;rw[hq]at q';exact qw q'
def akP(K:u_):List V->Hp->VK->Prop:=λxs H Q=>∃(p:e_) (bs:List Bool),xs=[.ref p]/\av K H p (bs.map V.bl)/\Q (.bl (bs.all id)) H
theorem Eu(hc:X.calm=c_):lK X (.builtin "all") (akP X.K):=by
 intro p_ s σ H xs us Q I r h;refine dv h λp bs e hq q=>?_;subst e;refine aw (vals1 r) λu aa rx=>?_;subst aa;cases rx;refine aR (I.list hq) λar rv pl hz=>?_;have ei:=SK rv;subst ei
 have fZ:p≠s.heap.objs.size:=by
  exact aw pl.isList λo e _=>eM (cx e)
 refine call_all_walk (Ig pl.isList (⟨_,_,_,_,_,_,(dX _ rfl (RJ (show X.A.in1.handled=b_ from I.ok.hd hc) _ p fZ (bs.map vA).toArray) ⟨⟨_,gw _ rfl,rfl,rfl⟩,pl.isList.push _⟩ (abG bs) λh' tk kk=>?_)⟩))
 have e2:(List.range (bs.map vA).toArray.size).all (λi=>bs.getD i d_)=bs.all id:=by
  rw[dH,aP];exact range_all bs
 rw[e2];refine dw (.bl _) H (I.kept λb o e=>kk b o (λz=>?_) (bo _ e)) rfl q;have z':b=s.heap.objs.size:=by simpa using z
 rw[z']at e;exact absurd (cx e) (jS _)
mutual
inductive jo (K:u_) (H:Hp):V->PyData->Prop
 | aG:jo K H .aG .none
 | bl (b:Bool):jo K H (.bl b) (.bool b)
 | int (i:Int):jo K H (.int i) (.int i)
 | str (x:Str):jo K H (.str x) (.str x)
 | lst {a:e_} {xs:List V} {ds:List PyData}:av K H a xs->nJ K H xs ds->jo K H (.ref a) (.list ds)
 | tup {a:e_} {xs:List V} {ds:List PyData}:aJ K H a xs->nJ K H xs ds->jo K H (.ref a) (.tuple ds)
inductive nJ (K:u_) (H:Hp):List V->List PyData->Prop
 | nil:nJ K H [] []
 | cons {x:V} {d:PyData} {xs:List V} {ds:List PyData}:jo K H x d->nJ K H xs ds->nJ K H (x::xs) (d::ds)
end
variable{p_:List (e_×Obj)}{σ:St}{H:Hp}{s:g_}
mutual
theorem jo.reads(I:Inv X p_ σ H s):∀{v:V} {d:PyData} {u:f_},jo X.K H v d->RelV v u->∃as,Reads s.heap u d as
 | _,_,_,.aG,r=>by cases r;exact⟨_,.none⟩
 | _,_,_,.bl b,r=>by cases r;exact⟨_,.bool b⟩
 | _,_,_,.int i,r=>by obtain⟨t,e⟩:=r;subst e;exact⟨_,.int i t⟩
 | _,_,_,.str x,r=>by obtain⟨t,e⟩:=r;subst e;exact⟨_,.str x t⟩
 | _,_,_,.lst hq hs,r=>by
  cases r;exact aR (I.list hq) λar rv pl hz=>oE (nJ.reads I hs rv) λas h=>aR pl.isList λo ho hc aa=>oE aa λn hd=>⟨_,.list ho hc hd (by simpa using h)⟩
 | _,_,_,.tup hq hs,r=>by
  cases r;exact aR (I.tuple hq) λar rv pl hz=>oE (nJ.reads I hs rv) λas h=>aR pl λo ho hc aa=>oE aa λn hd=>⟨_,.tuple ho hc hd (by simpa using h)⟩
theorem nJ.reads(I:Inv X p_ σ H s):∀{vs:List V} {ds:List PyData} {us:List f_},nJ X.K H vs ds->Vals vs us->∃as,ReadsAll s.heap us ds as
 | _,_,_,.nil,r=>by cases r;exact⟨_,.nil⟩
 | _,_,_,.cons h t,r=>by
  cases r with
  | cons r1 r2=>
   exact oE (jo.reads I h r1) λas q1=>oE (nJ.reads I t r2) λbs q2=>⟨_,.cons q1 q2⟩
end
def FH(K:u_)(neg:Bool):R2:=λx y H Q=>∃d e,jo K H x d/\jo K H y e/\shaped d=c_/\shaped e=c_/\noMix d e=c_/\Q (.bl (if neg=c_ then !same d e else same d e)) H
theorem ahc(hu:X.A.units+64<cLine):eZ X (jx .Eq) (FH X.K d_):=by
 intro p_ s σ H x y v u Q I rx ry h;exact eP h λd e h1 h2 h3 h4 h5 q=>oE (h1.reads I rx) λas q1=>oE (h2.reads I ry) λbs q2=>eq_dataH_same q1 q2 h3 h4 hu h5 (dw (.bl _) H I rfl q)
theorem Vv(hu:X.A.units+64<cLine):eZ X (jx .NotEq) (FH X.K c_):=by
 intro p_ s σ H x y v u Q I rx ry h;exact eP h λd e h1 h2 h3 h4 h5 q=>oE (h1.reads I rx) λas q1=>oE (h2.reads I ry) λbs q2=>ne_dataH_same q1 q2 h3 h4 hu h5 (dw (.bl _) H I rfl q)
end
structure MO(K:u_)(C:e_)(m:Str)(f:e_):Prop where
 sp:W.specialIn K (.ref C) "__getattribute__" = a_ (a_ (.builtin "type.__getattribute__"))
 rd:W.readsIn K C (.type "type")=c_
 fc:W.findCls K (.ref C) (.type "type") m=a_ (.val (.ref f))
 kp:x_ K (.ref f)=c_
section
variable{X:Cx}{CX:nY}{k:Nat}{f C:e_}{fd:jz}{ps:List Str}{sp:Sp}{dvs:List V}{ds:List f_}{E:XK}{x m:Str}{p pos apos:Pos}{e o:Expr}{es:List Expr}{ta:TE}{t:TA}
theorem zv{pl:Sem Bool}(c:MO X.K C m f)(F:ay X.prog X.w X.K X.mg X.base CX k f fd ps sp)(hr:eV k X.A)(hg:Gl X x)(hm:X.mg x=a_ (.ref C))(hb:Binds X.K fd ps ds)(hd:Vals dvs ds)(hx:Passes CX X E)(ha:PA X (e::es) t)
  (jQ:(x == ("__debug__" : Str))=false:=by decide) (dh:cJ (e::es) X.env=(d_,eval e X.env)::cJ es X.env:=by rfl) (ff:(backTo pos (cJ es X.env)).any (·.1)=false:=by rfl)
  (ht:eval (.Call (.Attribute (.Name x p) m apos) (e::es) [] pos) X.env=(do
   let ov <-eval (.Name x p) X.env
   standAt apos.atName
   let (f,first) <-holding [ov] (Bz ov m pl)
   callWith pos f first (backTo pos (cJ (e::es) X.env)) (BC pos (Bo [] X.env))):=by rfl) :
  PE X (.Call (.Attribute (.Name x p) m apos) (e::es) [] pos) (V9 sp dvs E t):=by
 intro p_ s σ H Q I h;refine W.methodCall_KW (pl:=pl) (ua I hg hm ?_ jQ) ht;refine W.method_cls I.dm c.sp (W.cls_value I.dm c.rd c.fc rfl ?_);have I1:=I.tok (s.toks+1);refine G_ (first:=[]) (h₀:=X.base) I.ok.mod.qf c.kp (Aq (ha pos p_ _ σ H _ I1 h) λus s2 vs H2 I2 r q2=>⟨I2.dm,?_⟩) dh ff;exact BP F hr hb hd hx I2 r q2
def agL(P:l_)(w:k_)(K:u_)(mg:Str->Option f_)(base:j_)(CX:nY)(k:Nat)(m:Str)(E:XK)(ta:TE):TE:=λσ H Q=>ta σ H λx H1=>∃a C dx fs f fd ps sp,x=.ref a/\H1 a=a_ (.ins C dx fs)/\fs.lookup m=b_/\eX K C/\Meth K C m f/\
 ay P w K mg base CX k f fd ps sp/\Binds K fd ps []/\sp [.ref a] H1 Q E
theorem ad7{P:l_}{w:k_}{K:u_}{mg:Str->Option f_}{base:j_}{pl:Sem Bool}(he:PE X o ta)(hr:eV k X.A)(hx:Passes CX X E)(hP:X.prog=P:=by rfl)(hw:X.w=w:=by rfl)(hK:X.K=K:=by rfl)(AN:X.mg=mg:=by rfl)(hbs:X.base=base:=by rfl)
  (ht:eval (.Call (.Attribute o m apos) [] [] pos) X.env=(do
   let ov <-eval o X.env
   standAt apos.atName
   let (f,first) <-holding [ov] (Bz ov m pl)
   callWith pos f first (backTo pos (cJ [] X.env)) (BC pos (Bo [] X.env))):=by rfl) :
  PE X (.Call (.Attribute o m apos) [] [] pos) (agL P w K mg base CX k m E ta):=by
 subst hP hw hK AN hbs;intro p_ s σ H Q I h;refine W.methodCall_KW (pl:=pl) (aU (he p_ s σ H _ I h) λu s1 hh=>?_) ht;refine dv hh λx H1 I1 rx aa=>jh aa λa C dx fs f aa=>iY aa λfd ps sp ex ea aa=>qM aa λl c hm F hb q=>?_;subst ex;obtain rfl:u=cI a:=rx;exact Jh I1 ea c hm l (W.callWith_K0 (first:=[.ref a]) I1.dm hm.kp (BP (us:=[.ref a]) (vs:=[.ref a]) (dvs:=[]) (ds:=[]) F hr hb .nil hx I1 (.cons rfl .nil) q))
end
theorem cu{c A B:Prop}[Decidable c](h1:c->A)(h2:¬c->B):if decide c=c_ then A else B:=by
 by_cases h:c
 ·rw[decide_eq_true h];exact jG (h1 h)
 ·rw[decide_eq_false h];exact gC (h2 h)
theorem nF{c A B:Prop}[Decidable c](h1:¬c->A)(h2:c->B):if (!decide c)=c_ then A else B:=by
 by_cases h:c
 ·rw[decide_eq_true h];exact gC (h2 h)
 ·rw[decide_eq_false h];exact jG (h1 h)
theorem Nq{b:Bool}{A B:Prop}(h1:b=c_->A)(h2:b=d_->B):if b=c_ then A else B:=by
 cases b with
 | true=>exact jG (h1 rfl)
 | false=>exact gC (h2 rfl)
theorem B7{b:Bool}{A B:Prop}(h1:b=d_->A)(h2:b=c_->B):if (!b)=c_ then A else B:=by
 cases b with
 | true=>exact gC (h2 rfl)
 | false=>exact jG (h1 rfl)
def WT(sc out:i_)(XN N:List Str)(idx:List Nat):Bool:=
 decide (sc.kind=.function)&&(sc.names.all (λy=>decide (y.2≠.cell))&&(sc.names.all (λy=>decide (y.2≠.local)||decide (sc.names.lookup y.1=a_ .local)) && (sc.names.all (λy=>decide (y.2≠.free)||decide (out.names.lookup y.1=a_ .cell))&&(decide (idx.length<=N.length)&&(idx.zip N).all λp=>decide (XN[p.1]?=a_ p.2)&&decide (sc.names.lookup p.2=a_ .free)))))
theorem ee.of{X:Cx}{sc:i_}{idx:List Nat}(h:WT sc X.env.scope X.N N idx=c_):ee X sc N idx:=by
 unfold WT at h;simp only[jR,decide_eq_true_eq,Iw,Bool.or_eq_true]at h;refine qM h λh1 h2 h3 h4 h5 h6=>⟨h1,h2,λy hy e=>?_,λy hy e=>?_,h5,λk i x a b=>?_⟩
 ·rcases h3 y hy with z | z
  ·exact absurd e z
  ·exact z
 ·rcases h4 y hy with z | z
  ·exact absurd e z
  ·exact z
 ·have hm:(i,x)∈idx.zip N:=by
   have:(idx.zip N)[k]?=a_ (i,x):=by rw[aap];exact⟨a,b⟩
   exact b9 this
  exact h6 (i,x) hm
end L2
namespace TL
open L2 L3
def kinds:List String:=["NoneType","bool","int","str","list","tuple"]
def VJ:List String:=["int","bool","str","tuple","list"]
def sO(T U:String):Bool:=T == U||(T == "bool" && U == "int")
theorem ahz(K:u_)(T U:String):v_ K (.type T) (.type U) =
  (if (pH T == pH U)=c_ then a_ c_ else if W.kitMeta U=c_ then (fastBuiltinMro T).map (·.contains (.type U)) else b_):=rfl
theorem agi:∀T∈kinds,∀U∈VJ,(if (pH T == pH U)=c_ then a_ c_ else if W.kitMeta U=c_ then (fastBuiltinMro T).map (·.contains (.type U)) else b_)=a_ (sO T U):=dk
def tyName(H:Hp):V->Option String
 | .aG=>a_ "NoneType"
 | .bl _=>a_ "bool"
 | .int _=>a_ "int"
 | .str _=>a_ "str"
 | .ref a=>match H a with
  | some (.lst _)=>a_ "list"
  | some (.tup _)=>a_ "tuple"
  | _=>b_
 | _=>b_
theorem RP{K:u_}{T:String}(h:tyName H v=a_ T):iL K H v (.type T)/\T∈kinds:=by
 cases v with
 | aG=>cases h;exact⟨.aG,qc⟩
 | bl b=>cases h;exact⟨.bl b,qc⟩
 | int i=>cases h;exact⟨.int i,qc⟩
 | str x=>cases h;exact⟨.str x,qc⟩
 | ref a=>
  unfold tyName at h;cases e:H a with
  | none=>simp only[e]at h;cases h
  | some o=>
   cases o with
   | lst xs=>simp only[e]at h;cases h;exact⟨.lst e,qc⟩
   | tup xs=>simp only[e]at h;cases h;exact⟨.tup e,qc⟩
   | _=>simp only[e]at h;cases h
 | _=>cases h
theorem nM{K:u_}{T U:String}(h:tyName H v=a_ T)(hU:U∈VJ):v_ K (.type T) (.type U)=a_ (sO T U):=by
 rw[ahz];exact agi T (RP (K:=K) h).2 U hU
theorem nR{K:u_}{T:String}(h:tyName H v=a_ T):iL K H v (.type T):=(RP h).1
theorem QY{T:String}(s:ak H H')(h:tyName H v=a_ T):tyName H' v=a_ T:=by
 cases v with
 | ref a=>
  unfold tyName at h ⊢;cases e:H a with
  | none=>simp only[e]at h;cases h
  | some o=>simp only[s a o e];simp only[e]at h;exact h
 | _=>exact h
def q9:V->Bool
 | .int _=>c_
 | _=>d_
theorem VL{T:String}(h:tyName H v=a_ T):(sO T "int" && !sO T "bool")=q9 v:=by
 cases v with
 | aG=>cases h;rfl
 | bl b=>cases h;rfl
 | int i=>cases h;rfl
 | str x=>cases h;rfl
 | ref a=>
  unfold tyName at h;cases e:H a with
  | none=>simp only[e]at h;cases h
  | some o=>
   cases o with
   | lst xs=>simp only[e]at h;cases h;rfl
   | tup xs=>simp only[e]at h;cases h;rfl
   | _=>simp only[e]at h;cases h
 | _=>cases h
def dO(w:Str):Option (List Int):=
 if w = "put" then a_ [4,mZ] else if w = "add" then a_ [4,4] else if w = "set" then a_ [12,4] else if w = "look" then a_ [4,12] else if w = "swap" then a_ [4,12]
 else if w = "clear" then a_ [] else if w = "skip" then a_ [4,121] else b_
def oQ:V->Int->Bool
 | .int i,b=>decide (0<=i)&&decide (i<b)
 | _,_=>d_
def stepOk:List V->Bool
 | .str w::ps=>match dO w with
  | none=>d_
  | some bs=>decide (ps.length=bs.length)&&(ps.zip bs).all λp=>oQ p.1 p.2
 | _=>d_
def uj(H:Hp):V->Option (List V)
 | .ref a=>match H a with
  | some (.tup xs)=>a_ xs
  | _=>b_
 | _=>b_
def z8(H:Hp)(v:V):Bool:=match uj H v with
 | some xs=>stepOk xs
 | none=>d_
theorem acy(h:uj H v=a_ xs):∃a,v=.ref a/\H a=a_ (.tup xs):=by
 cases v with
 | ref a=>
  refine au a rfl ?_;unfold uj at h;cases e:H a with
  | none=>simp only[e]at h;cases h
  | some o=>
   cases o with
   | tup ys=>simp only[e]at h;cases h;rfl
   | _=>simp only[e]at h;cases h
 | _=>cases h
theorem SU(h:H a=a_ (.tup xs)):uj H (.ref a)=a_ xs:=by
 unfold uj;simp only[h]
theorem D2(h:H a=a_ (.tup xs)):tyName H (.ref a)=a_ "tuple":=by
 unfold tyName;simp only[h]
theorem Vw{T:String}(h:tyName H v=a_ T):sO T "tuple" = (uj H v).isSome:=by
 cases v with
 | aG=>cases h;rfl
 | bl b=>cases h;rfl
 | int i=>cases h;rfl
 | str x=>cases h;rfl
 | ref a=>
  unfold tyName at h;unfold uj;cases e:H a with
  | none=>simp only[e]at h;cases h
  | some o=>
   cases o with
   | lst xs=>simp only[e]at h ⊢;cases h;rfl
   | tup xs=>simp only[e]at h ⊢;cases h;rfl
   | _=>simp only[e]at h;cases h
 | _=>cases h
theorem E5{T:String}(h:tyName H v=a_ T):sO T "str" = c_↔∃x,v=.str x:=by
 cases v with
 | str x=>cases h;exact⟨λ_=>⟨x,rfl⟩,λ_=>rfl⟩
 | aG=>cases h;exact⟨λz=>(by cases z),λ⟨_,z⟩=>(by cases z)⟩
 | bl b=>cases h;exact⟨λz=>(by cases z),λ⟨_,z⟩=>(by cases z)⟩
 | int i=>cases h;exact⟨λz=>(by cases z),λ⟨_,z⟩=>(by cases z)⟩
 | ref a=>
  refine⟨λz=>?_,λ⟨_,z⟩=>by cases z⟩;unfold tyName at h;cases e:H a with
  | none=>simp only[e]at h;cases h
  | some o=>
   cases o with
   | lst xs=>simp only[e]at h;cases h;cases z
   | tup xs=>simp only[e]at h;cases h;cases z
   | _=>simp only[e]at h;cases h
 | _=>cases h
theorem aN{o:HO}(s:ak H H')(h:H' p=b_):ak H (upd H' p o):=λb u e=>by
 rw[ao (cg (s b u e) h)];exact s b u e
end TL
namespace L2
open TL
theorem nw{o:HO}(n:H l=b_):∃H',upd H l o=H'/\ak H H'/\H' l=a_ o:=⟨_,rfl,aN (ak.refl _) n,ax⟩
theorem sl{n:Nat}(h:n<=1000:=by decide):n<=cq:=by rw[gG];exact c7 h qc
end L2
set_option autoImplicit true
namespace L2
abbrev IV:=Nat->St->Hp->Prop
theorem pR{X:Cx}{l:List PySem.Stmt}(R:TS)(h:fJ X l R):fJ X l R:=h
end L2
namespace TL
open L2 L3
structure Bl(mg:Str->Option f_):Prop where
 jI:mg "isinstance" = b_
 int:mg "int" = b_
 bool:mg "bool" = b_
 str:mg "str" = b_
 tuple:mg "tuple" = b_
 len:mg "len" = b_
 all:mg "all" = b_
 zip:mg "zip" = b_
structure Cn(mg:Str->Option f_):Prop where
 top:∃u,mg "TOP" = a_ u/\RelV (.int mZ) u
 names:∃u,mg "NAMES" = a_ u/\RelV (.int 12) u
 fX:∃u,mg "REGISTERS" = a_ u/\RelV (.int 4) u
 long:∃u,mg "LONGEST" = a_ u/\RelV (.int 120) u
section
variable{P:l_}{w:k_}{K:u_}{mg:Str->Option f_}{base:j_}
def Kl:Sp:=λvs H Q _=>∃v T,vs=[v]/\tyName H v=a_ T/\Q (.bl (q9 v)) H
theorem afr:bp ["thing"] ["thing"] (aW BO):=bJ
theorem Ti(F:aY K "is_whole" "is_whole" BO f fd)(B:Bl mg):ay P w K mg base aB 1 f fd ["thing"] Kl:=by
 refine F.ok afr λaM A _ s H vs Q E hr h=>?_
 ·refine dv h λv T aa ht k=>?_;clear h;subst aa;refine⟨_,aF (bj (Lx (bG jy rfl B.jI iU (ae (pv 0) (ae (nA (v:=.ty "int") rfl B.int boot_int rfl) af))) (EY (Lw (bG jy rfl B.jI iU (ae (pv 0) (ae (nA (v:=.ty "bool") rfl B.bool boot_bool rfl) af))))))),?_⟩;have e:=VL ht;refine au v rfl (dZ _ _ _ _ (dX _ rfl (nR ht) rfl (nM ht qc) (au _ rfl (Nq (λh1=>?_) λh1=>?_))))
  ·refine au v rfl (dZ _ _ _ _ (dX _ rfl (nR ht) rfl (nM ht qc) (au _ rfl ?_)));rw[h1,DS]at e;rw[e];exact k
  ·rw[h1,DQ]at e;rw[e];exact k
def S8:Sp:=λvs H Q _=>∃x,vs=[.str x]/\(dO x=b_->Q .aG H)/\∀bs,dO x=a_ bs->∀p,H p=b_->Q (.ref p) (upd H p (.lst (bs.map V.int)))
theorem adW:bp ["word"] ["word"] (aW BG):=bJ
theorem str_inj(h:V.str x=V.str y):x=y:=by injection h
theorem acS(F:aY K "bounds_of" "bounds_of" BG f fd)(C:Cn mg):ay P w K mg base aB 1 f fd ["word"] S8:=by
 refine F.ok adW λaM A _ s H vs Q E hr h=>?_
 ·refine aR h λx aa k0 k1=>?_;clear h;subst aa;refine aw C.top λuT mT rT=>aw C.names λuN mN rN=>aw C.fX λuR mR rR=>aw C.long λuL mL rL=>?_;refine let R1:TS:=_;let R2:TS:=_;let R3:TS:=_;let R4:TS:=_;let R5:TS:=_;let R6:TS:=_;let R7:TS:=_;let R8:TS:=_;let R9:TS:=_;let jc:TS:=_;let tJ:TS:=_;⟨_,aE (cC (cb eJ (pv 0) di (bQ _)) (pR R1 (aF (bj (fk (ae (fQ rfl mR rR) (ae (fQ rfl mT rT) af)))))) cO) (pR tJ (aE (cC (cb eJ (pv 0) di (bQ _)) (pR R2 (aF (bj (fk (ae (fQ rfl mR rR) (ae (fQ rfl mR rR) af)))))) cO) (pR jc (aE (cC (cb eJ (pv 0) di (bQ _)) (pR R3 (aF (bj (fk (ae (fQ rfl mN rN) (ae (fQ rfl mR rR) af)))))) cO) (pR R9 (aE (cC (PW.pt (pw_or (cb eJ (pv 0) di (bQ _)) (pw_or1 (cb eJ (pv 0) di (bQ _))))) (pR R4 (aF (bj (fk (ae (fQ rfl mR rR) (ae (fQ rfl mN rN) af)))))) cO) (pR R8 (aE (cC (cb eJ (pv 0) di (bQ _)) (pR R5 (aF (bj (fk af)))) cO) (pR R7 (aE (cC (cb eJ (pv 0) di (bQ _)) (pR R6 (aF (bj (fk (ae (fQ rfl mR rR) (ae (bh iX (fQ rfl mL rL) aA) af)))))) cO) (aF (bj nB)))))))))))),?_⟩
  refine vr rfl ⟨rfl,⟨_,rfl,cu (λe=>?_) λn1=>?_⟩⟩
  ·cases str_inj e;exact⟨qc,λp hp=>k1 [4,mZ] (by unfold dO;rw[if_pos rfl]) p hp⟩
  refine au _ rfl ⟨rfl,⟨_,rfl,cu (λe=>?_) λn2=>?_⟩⟩
  ·cases str_inj e;exact⟨qc,λp hp=>k1 [4,4] (by unfold dO;rw[if_neg dk,if_pos rfl]) p hp⟩
  refine au _ rfl ⟨rfl,⟨_,rfl,cu (λe=>?_) λn3=>?_⟩⟩
  ·cases str_inj e;exact⟨qc,λp hp=>k1 [12,4] (by unfold dO;rw[if_neg dk,if_neg dk,if_pos rfl]) p hp⟩
  refine au _ rfl ⟨rfl,⟨_,rfl,cu (λe=>?_) λn4=>?_⟩⟩
  ·cases str_inj e;exact jG ⟨qc,λp hp=>k1 [4,12] (by unfold dO;rw[if_neg dk,if_neg dk,if_neg dk,if_pos rfl]) p hp⟩
  refine vr rfl ⟨rfl,⟨_,rfl,cu (λe=>?_) λn5=>?_⟩⟩
  ·cases str_inj e;exact⟨qc,λp hp=>k1 [4,12] (by unfold dO;rw[if_neg dk,if_neg dk,if_neg dk,if_neg dk,if_pos rfl]) p hp⟩
  refine au _ rfl ⟨rfl,⟨_,rfl,cu (λe=>?_) λn6=>?_⟩⟩
  ·cases str_inj e;exact⟨qc,λp hp=>k1 [] (by unfold dO;rw[if_neg dk,if_neg dk,if_neg dk,if_neg dk,if_neg dk,if_pos rfl]) p hp⟩
  refine au _ rfl ⟨rfl,⟨_,rfl,cu (λe=>?_) λn7=>?_⟩⟩
  ·cases str_inj e;exact⟨_,⟨_,rfl,rfl,qc,λp hp=>k1 [4,121] (by unfold dO;rw[if_neg dk,if_neg dk,if_neg dk,if_neg dk,if_neg dk,if_neg dk,if_pos rfl]) p hp⟩⟩
  refine k0 ?_;have nn:∀{y:Str},¬V.str x=V.str y->¬x=y:=λh e=>h (by rw[e]);unfold dO;rw[if_neg (nn n1),if_neg (nn n2),if_neg (nn n3),if_neg (nn n4),if_neg (nn n5),if_neg (nn n6),if_neg (nn n7)]
def S4:Sp:=λvs H Q _=>∃v T,vs=[v]/\tyName H v=a_ T/\(∀xs,uj H v=a_ xs->xs.length<=1000/\∀x∈xs,∃T,tyName H x=a_ T)/\∀H',ak H H'->Q (.bl (z8 H v)) H'
theorem Te:bp ["told","bounds"] ["told"] (aW ED):=bJ
theorem Ng(y:V)(ps:List V):HT.cF (y::ps).length 0 (a_ 1)=1:=by
 simp only[HT.cF,iT]
 first | omega | (simp;done) | (split <;> omega)
theorem Nw(y:V)(ps:List V):mJ (y::ps) (a_ 1) b_=ps:=by
 unfold mJ;rw[Ng];show List.take (HT.cF (y::ps).length (y::ps).length b_-1) ps=ps;exact je (by simp[HT.cF])
theorem RI{bs:List Int}(h:dO x=a_ bs):bs.length<=2:=by
 unfold dO at h
 repeat (first | (split at h;(cases h;decide)) | (cases h;done))
theorem Wk:(["part","bound"]:List Str).Nodup:=dk
theorem acR(F:aY K "is_step" "is_step" ED f fd)(B:Bl mg)(C:Cn mg)
  (FW:aY K "is_whole" "is_whole" BO fW kr) (bW:Binds K kr ["thing"] []) (mW:mg "is_whole" = a_ (.ref fW)) (FB:aY K "bounds_of" "bounds_of" BG fB kX) (bB:Binds K kX ["word"] []) (mB:mg "bounds_of" = a_ (.ref fB)) :
  ay P w K mg base aB 2 f fd ["told"] S4:=by
 have GW:ay P w K mg base aB 1 fW kr ["thing"] Kl:=Ti FW B;have GB:ay P w K mg base aB 1 fB kX ["word"] S8:=acS FB C;refine F.ok Te λaM A _ s H vs Q E hr h=>?_
 ·refine jD h λv T aa ht hx k=>?_;clear h;subst aa
  refine let R1:TS:=_;let R2:TS:=_;let R3:TS:=_;⟨_,aE (cC (PW.pt (pw_or (lG (gH (bG jy rfl B.jI iU (ae (pv 0) (ae (nA (v:=.ty "tuple") rfl B.tuple tX rfl) af))))) (pw_or (cb eJ (bG fj rfl B.len q_ (ae (pv 0) af)) aA (bQ _)) (pw_or1 (lG (gH (bG jy rfl B.jI iU (ae (aT de (pv 0) aA) (ae (nA (v:=.ty "str") rfl B.str boot_str rfl) af))))))))) (aF (bj sE)) cO) (pR R3 (aE (cU (i:=1) Te.nd rfl (aX rfl) (dN GB hr rfl mB FB.kp bB .nil a7 (ae (aT de (pv 0) aA) af))) (pR R2 (aE (cC (PW.pt (pw_or (cb Ly (pv 1) nB (bQ _)) (pw_or1 (cb B3 (bG fj rfl B.len q_ (ae (pv 0) af)) (bh iX (bG fj rfl B.len q_ (ae (pv 1) af)) aA) (bQ _))))) (aF (bj sE)) cO) (pR R1 (aF (bj (bG (Eu rfl) rfl B.all boot_all (ae (jA (N:=["part","bound"]) (idx:=[]) rfl (ee.of (by kernel_rfl)) (zx (bg _) (bg _))
    (Lv (b1:=d_) (b2:=c_) rfl B.zip (ae (zH Lf (pv 0) (zL aA) zM) (ae (pv 1) af)))
    (λ_ _ _ _=>qL rfl (iV (cG (i:=0) Wk rfl (aX rfl) (.inr rfl)) (iV (cG (i:=1) Wk rfl (aX rfl) (.inr rfl)) qH)))
    (λ_ _ _ _=>jW)
    λ_ _ _ _=>Lx (dN GW hr rfl mW FW.kp bW .nil a7 (ae (pv 0) af)) (EY (ad' Mq B4 aA (pv 0) (pv 1)))) af))))))))),?_⟩
  cases hv:uj H v with
  | none=>
   have hi:sO T "tuple" = false:=by rw[Vw ht,hv];rfl
   have dh:z8 H v=false:=by unfold z8;rw[hv]
   have kk:=k H (ak.refl H);rw[dh]at kk;refine au v rfl (dZ _ _ _ _ (dX _ rfl (nR ht) rfl (nM ht qc) (au _ rfl ?_)));rw[hi];exact jG (jG kk)
  | some xs=>
   refine aw (acy hv) λa e0 ha=>?_;subst e0;refine oA (hx xs hv) λhl pe=>?_;have hi:sO T "tuple" = true:=by rw[Vw ht,hv];rfl
   have kk:∀H',ak H H'->Q (.bl (stepOk xs)) H':=λH' s=>by
    have q:=k H' s;unfold z8 at q;rw[hv]at q;exact q
   refine vr rfl (dZ _ _ _ _ (dX _ rfl (nR ht) rfl (nM ht qc) (au _ rfl ?_)));rw[hi];refine gC ?_;cases xs with
   | nil=>
    refine vr rfl (dw a ([]) rfl (.inr (aJ.of ha)) ⟨rfl,⟨_,rfl,cu (λe=>?_) λn0=>absurd rfl n0⟩⟩);exact jG (kk H (ak.refl H))
   | cons y ps=>
    refine vr rfl (dw a (y::ps) rfl (.inr (aJ.of ha)) ⟨rfl,⟨_,rfl,cu (λe=>?_) λn0=>?_⟩⟩)
    ·injection e with e
     exact absurd e (by simp only[iT];omega)
    refine oE (pe y f9) λTy hy=>iA (v:=y) (j:=0) rfl ha rfl (dZ _ _ _ _ (dX _ rfl (nR hy) rfl (nM hy qc) (au _ rfl (B7 (λh1=>?_) λh1=>?_))))
    ·have e:stepOk (y::ps)=false:=by
      cases y with
      | str x=>exact absurd ((E5 hy).mpr ⟨x,rfl⟩) (by rw[h1];exact eI)
      | _=>rfl
     have q:=kk H (ak.refl H);rw[e]at q;exact q
    refine oE ((E5 hy).mp h1) λx0 e0=>?_;subst e0;refine iA (v:=.str x0) (j:=0) rfl ha rfl (cD x0 rfl (λhb=>?_) λbs hb p hp=>?_)
    ·refine au _ rfl ⟨rfl,⟨_,rfl,cu (λ_=>?_) λn=>absurd rfl n⟩⟩
     have e:stepOk (.str x0::ps)=false:=by
      show (match dO x0 with | none=>d_ | some bs=>decide (ps.length=bs.length)&&(ps.zip bs).all λp=>oQ p.1 p.2)=d_;rw[hb]
     have q:=kk H (ak.refl H);rw[e]at q;exact jG q
    have s1:ak H (upd H p (.lst (bs.map V.int))):=aN (ak.refl H) hp;have vd:=s1 _ _ ha
    have eS:stepOk (.str x0::ps)=(decide (ps.length=bs.length)&&(ps.zip bs).all λp=>oQ p.1 p.2):=by
     show (match dO x0 with | none=>d_ | some bs=>decide (ps.length=bs.length)&&(ps.zip bs).all λp=>oQ p.1 p.2)=_;rw[hb]
    rw[eS]at kk;refine au _ rfl ⟨rfl,⟨_,rfl,cu (λz=>by cases z) λ_=>vr rfl ⟨a,⟨_,rfl,.inr (aJ.of vd),_,rfl,p,_,rfl,.inl (av.of ax),_,_,rfl,rfl,rfl,_,rfl,nF (λne=>?_) λeq=>?_⟩⟩⟩⟩
    ·have e:decide (ps.length=bs.length)=false:=decide_eq_false λz=>ne (by rw[iT,aP,z];rfl);rw[e,DQ]at kk;exact kk _ s1
    have hlen:ps.length=bs.length:=by
     injection eq with eq
     rw[iT,aP]at eq;omega
    rw[decide_eq_true hlen,DS]at kk;refine au _ rfl (au 1 rfl ⟨a,⟨_,rfl,aJ.of vd,?_,λq hq=>?_⟩⟩)
    ·intro z;have z1:=z.1;rw[Ng]at z1;cases z1
    rw[Nw];have s2:ak H (upd (upd H p (.lst (bs.map V.int))) q (.tup ps)):=aN s1 hq;have wJ:=cg ax hq;have uX:upd (upd H p (.lst (bs.map V.int))) q (.tup ps) p=a_ (.lst (bs.map V.int)):=by rw[ao wJ];exact ax
    refine vr rfl (⟨q,p,ps,(bs.map V.int),rfl,(aJ.of ax),(av.of uX),?_⟩);generalize hH3:upd (upd H p (.lst (bs.map V.int))) q (.tup ps)=H3 at s2 uX;have uW:H3 q=a_ (.tup ps):=by rw[<-hH3];exact ax
    refine iH (n:=bs.length) (λi ys H'=>i<=bs.length/\ak H3 H'/\ys=((ps.zip bs).take i).map λz=>V.bl (oQ z.1 z.2)) ?_ ?_ ?_ ?_ ?_ ?_ ?_
    ·have dQ:=RI hb;exact eO (gz w4)
    ·exact dj (bg _) (ak.refl _) rfl
    ·rintro i ys H' ⟨_,_,e⟩;rw[e,aP,dS];exact xl
    ·rintro i ys H' hi ⟨_,s3,_⟩;exact⟨ps,(bs.map V.int),(ps[i]'wg),(V.int bs[i]),(aJ.of (s3 _ _ uW)),(av.of (s3 _ _ uX)),(by simp[hlen,hi]),(by simp[hi])⟩
    ·rintro ys H' ⟨_,s3,_⟩;exact dw ps (bs.map V.int) (aJ.of (s3 _ _ uW)) (av.of (s3 _ _ uX)) (.inr (by rw[aP];exact aI _))
    ·rintro i ys H' hi ⟨_,s3,e⟩ v lh ⟨r,x,y,ik,ev,eH,AJ⟩;refine oA (AJ ps (bs.map V.int) (aJ.of (s3 _ _ uW)) (av.of (s3 _ _ uX))) λgu uU=>?_;subst ev;subst eH
     have i6:y=V.int bs[i]:=by
      rw[dq,aO hi]at uU;exact(dr uU).symm
     subst i6;have s4:ak H3 (upd H' r (.tup [x,V.int bs[i]])):=aN s3 ik;refine oE (pe x (eE _ (b9 gu))) λTx Pe=>?_;have NU:=QY (s2.trans s4) Pe
     have zi:(ps.zip bs)[i]?=a_ (x,bs[i]):=by
      rw[aap];exact⟨gu,aO hi⟩
     have fin:∀c,c=oQ x bs[i]->i+1<=bs.length/\ak H3 (upd H' r (.tup [x,V.int bs[i]]))/\ys++[V.bl c]=((ps.zip bs).take (i+1)).map λz=>V.bl (oQ z.1 z.2):=λc hc=>by
      refine dj hi s4 ?_;rw[qy,zi,gy,<-e,hc];rfl
     refine oC r ([x,V.int bs[i]]) rfl (aJ.of ax) rfl (fq x ([V.int bs[i]]) rfl (dw (V.int bs[i]) ([]) rfl rfl ?_));dsimp only[oK];rw[if_pos rfl];refine vr rfl (dw x Tx rfl NU (au _ rfl ?_));cases x with
     | int j=>
      exact jG (au _ rfl (fq 0 j rfl ⟨rfl,⟨_,rfl,cu (λh0=>vr rfl (dw j (bs[i]) rfl rfl (fin _ (by show _=(decide (0<=j)&&decide (j<bs[i]));rw[decide_eq_true h0,DS])))) λh0=>fin _ (by show _=(decide (0<=j)&&decide (j<bs[i]));rw[decide_eq_false h0,DQ])⟩⟩))
     | _=>exact gC (fin _ rfl)
    ·rintro ys H' ⟨_,s3,e⟩;refine⟨?_,λr ik=>?_⟩
     ·rw[e,aP,dS];have dQ:=RI hb;have:=gz (n:=bs.length) w4;omega
     have ey:ys=(((ps.zip bs).map λz=>oQ z.1 z.2)).map V.bl:=by
      rw[e,je (by rw[DM];omega),tT];rfl
     refine dw r ((ps.zip bs).map λz=>oQ z.1 z.2) rfl (av.of (by rw[ax,ey])) ?_;rw[Bm];exact kk _ (aN (s2.trans s3) ik)
def vO(K:u_):Sp:=λvs H Q _=>∃x C dx fs a xs,vs=[.ref x,.ref a]/\H x=a_ (.ins C dx fs)/\eX K C/\bu K C "parts"/\fs.length<900/\H a=a_ (.tup xs)/\Q .aG (upd H x (.ins C dx (aQ "parts" (.ref a) fs)))
theorem agV:bp zLa zLa (aW Ff):=bJ
theorem xS(F:aY K "__init__" "Step.__init__" Ff f fd)(B:mg "tuple" = b_):ay P w K mg base aB 1 f fd ["self","told"] (vO K):=by
 refine F.ok agV λaM A _ s H vs Q E hr h=>?_
 ·refine qD h λx C dx fs a xs aa hx cl nP ba=>?_;subst aa;exact cH ba λhl ha k=>sU (aF (gI (pv 0) (xK Bg rfl B tX (ae (pv 1) af)) rfl)) (vr rfl (fq a xs rfl (.inr ⟨aJ.of ha,_,rfl,x,C,dx,fs,rfl,hx,cl,nP,wa,k⟩)))
theorem Ai(f:Str)(u:V):(aQ f u []).length<1000:=by
 have h1:=sh f u [];have h3:([]:List (Str×V)).length=0:=rfl;exact wb
theorem Ah(f g:Str)(u v:V):(aQ f u (aQ g v [])).length<1000:=by
 have h1:=sh f u (aQ g v []);have h2:=sh g v [];have h3:([]:List (Str×V)).length=0:=rfl;exact xi
structure x9(K:u_)(mg:Str->Option f_)(cS fI:e_)(ij:jz):Prop where
 fn:aY K "__init__" "Step.__init__" Ff fI ij
 bi:Binds K ij zLa []
 cf:MO K cS "__init__" fI
 at_:mg "Step" = a_ (.ref cS)
 tup:mg "tuple" = b_
def qd(C:e_)(f1 f2:Str):Sp:=λvs H Q _=>∃x dx a xs v1 v2,vs=[.ref x,.ref a]/\H x=a_ (.ins C dx [])/\H a=a_ (.tup xs)/\xs[1]?=a_ v1/\xs[2]?=a_ v2/\
 Q .aG (upd H x (.ins C dx (aQ f2 v2 (aQ f1 v1 (aQ "parts" (.ref a) [])))))
theorem agT:bp zLa zLa (aW Fe):=bJ
theorem afW(F:aY K "__init__" "Put.__init__" Fe f fd)(I:x9 K mg cS fI ij)(cl:eX K C)(nP:bu K C "parts")(n1:bu K C "reg")(n2:bu K C "number") :
  ay P w K mg base aB 2 f fd zLa (qd C "reg" "number"):=by
 have GI:ay P w K mg base aB 1 fI ij zLa (vO K):=xS I.fn I.tup;refine F.ok agT λaM A _ s H vs Q E hr h=>?_
 ·refine qD h λx dx a xs v1 v2 aa hx ha e1 ba=>?_;subst aa;refine oA ba λe2 k=>?_;refine let R1:TS:=_;let R2:TS:=_;⟨_,aE (dE (zv I.cf GI hr rfl I.at_ I.bi .nil a7 (ae (pv 0) (ae (pv 1) af)))) (pR R2 (aE (gI (pv 0) (aT de (pv 1) aA) rfl) (pR R1 (aF (gI (pv 0) (aT de (pv 1) aA) rfl))))),?_⟩
  have iP:=gj ha hx (by intro z;cases z);refine vr rfl (vr rfl ⟨x,⟨C,dx,[],a,xs,rfl,hx,cl,nP,qc,ha,vT (v:=v1) rfl (aJ.of (by rw[ao iP];exact ha)) (cR (j:=1) e1) ⟨_,rfl,x,C,dx,_,rfl,ax,cl,n1,Ai _ _,vT (v:=v2) rfl (aJ.of (by rw[ao iP,ao iP];exact ha)) (cR (j:=2) e2) ⟨_,rfl,x,C,dx,_,rfl,ax,cl,n2,Ah _ _ _ _,?_⟩⟩⟩⟩);rw[oz,oz];exact k
theorem agX:bp zLa zLa (aW Fg):=bJ
theorem af2(F:aY K "__init__" "Add.__init__" Fg f fd)(I:x9 K mg cS fI ij)(cl:eX K C)(nP:bu K C "parts")(n1:bu K C "reg")(n2:bu K C "other") :
  ay P w K mg base aB 2 f fd zLa (qd C "reg" "other"):=by
 have GI:ay P w K mg base aB 1 fI ij zLa (vO K):=xS I.fn I.tup;refine F.ok agX λaM A _ s H vs Q E hr h=>?_
 ·refine qD h λx dx a xs v1 v2 aa hx ha e1 ba=>?_;subst aa;refine oA ba λe2 k=>?_;refine let R1:TS:=_;let R2:TS:=_;⟨_,aE (dE (zv I.cf GI hr rfl I.at_ I.bi .nil a7 (ae (pv 0) (ae (pv 1) af)))) (pR R2 (aE (gI (pv 0) (aT de (pv 1) aA) rfl) (pR R1 (aF (gI (pv 0) (aT de (pv 1) aA) rfl))))),?_⟩
  have iP:=gj ha hx (by intro z;cases z);refine vr rfl (vr rfl ⟨x,⟨C,dx,[],a,xs,rfl,hx,cl,nP,qc,ha,vT (v:=v1) rfl (aJ.of (by rw[ao iP];exact ha)) (cR (j:=1) e1) ⟨_,rfl,x,C,dx,_,rfl,ax,cl,n1,Ai _ _,vT (v:=v2) rfl (aJ.of (by rw[ao iP,ao iP];exact ha)) (cR (j:=2) e2) ⟨_,rfl,x,C,dx,_,rfl,ax,cl,n2,Ah _ _ _ _,?_⟩⟩⟩⟩);rw[oz,oz];exact k
theorem agS:bp zLa zLa (aW Fd):=bJ
theorem afT(F:aY K "__init__" "Set.__init__" Fd f fd)(I:x9 K mg cS fI ij)(cl:eX K C)(nP:bu K C "parts")(n1:bu K C "name")(n2:bu K C "reg") :
  ay P w K mg base aB 2 f fd zLa (qd C "name" "reg"):=by
 have GI:ay P w K mg base aB 1 fI ij zLa (vO K):=xS I.fn I.tup;refine F.ok agS λaM A _ s H vs Q E hr h=>?_
 ·refine qD h λx dx a xs v1 v2 aa hx ha e1 ba=>?_;subst aa;refine oA ba λe2 k=>?_;refine let R1:TS:=_;let R2:TS:=_;⟨_,aE (dE (zv I.cf GI hr rfl I.at_ I.bi .nil a7 (ae (pv 0) (ae (pv 1) af)))) (pR R2 (aE (gI (pv 0) (aT de (pv 1) aA) rfl) (pR R1 (aF (gI (pv 0) (aT de (pv 1) aA) rfl))))),?_⟩
  have iP:=gj ha hx (by intro z;cases z);refine vr rfl (vr rfl ⟨x,⟨C,dx,[],a,xs,rfl,hx,cl,nP,qc,ha,vT (v:=v1) rfl (aJ.of (by rw[ao iP];exact ha)) (cR (j:=1) e1) ⟨_,rfl,x,C,dx,_,rfl,ax,cl,n1,Ai _ _,vT (v:=v2) rfl (aJ.of (by rw[ao iP,ao iP];exact ha)) (cR (j:=2) e2) ⟨_,rfl,x,C,dx,_,rfl,ax,cl,n2,Ah _ _ _ _,?_⟩⟩⟩⟩);rw[oz,oz];exact k
theorem afx:bp zLa zLa (aW EW):=bJ
theorem aej(F:aY K "__init__" "Look.__init__" EW f fd)(I:x9 K mg cS fI ij)(cl:eX K C)(nP:bu K C "parts")(n1:bu K C "reg")(n2:bu K C "name") :
  ay P w K mg base aB 2 f fd zLa (qd C "reg" "name"):=by
 have GI:ay P w K mg base aB 1 fI ij zLa (vO K):=xS I.fn I.tup;refine F.ok afx λaM A _ s H vs Q E hr h=>?_
 ·refine qD h λx dx a xs v1 v2 aa hx ha e1 ba=>?_;subst aa;refine oA ba λe2 k=>?_;refine let R1:TS:=_;let R2:TS:=_;⟨_,aE (dE (zv I.cf GI hr rfl I.at_ I.bi .nil a7 (ae (pv 0) (ae (pv 1) af)))) (pR R2 (aE (gI (pv 0) (aT de (pv 1) aA) rfl) (pR R1 (aF (gI (pv 0) (aT de (pv 1) aA) rfl))))),?_⟩
  have iP:=gj ha hx (by intro z;cases z);refine vr rfl (vr rfl ⟨x,⟨C,dx,[],a,xs,rfl,hx,cl,nP,qc,ha,vT (v:=v1) rfl (aJ.of (by rw[ao iP];exact ha)) (cR (j:=1) e1) ⟨_,rfl,x,C,dx,_,rfl,ax,cl,n1,Ai _ _,vT (v:=v2) rfl (aJ.of (by rw[ao iP,ao iP];exact ha)) (cR (j:=2) e2) ⟨_,rfl,x,C,dx,_,rfl,ax,cl,n2,Ah _ _ _ _,?_⟩⟩⟩⟩);rw[oz,oz];exact k
theorem afu:bp zLa zLa (aW ET):=bJ
theorem aee(F:aY K "__init__" "Swap.__init__" ET f fd)(I:x9 K mg cS fI ij)(cl:eX K C)(nP:bu K C "parts")(n1:bu K C "reg")(n2:bu K C "name") :
  ay P w K mg base aB 2 f fd zLa (qd C "reg" "name"):=by
 have GI:ay P w K mg base aB 1 fI ij zLa (vO K):=xS I.fn I.tup;refine F.ok afu λaM A _ s H vs Q E hr h=>?_
 ·refine qD h λx dx a xs v1 v2 aa hx ha e1 ba=>?_;subst aa;refine oA ba λe2 k=>?_;refine let R1:TS:=_;let R2:TS:=_;⟨_,aE (dE (zv I.cf GI hr rfl I.at_ I.bi .nil a7 (ae (pv 0) (ae (pv 1) af)))) (pR R2 (aE (gI (pv 0) (aT de (pv 1) aA) rfl) (pR R1 (aF (gI (pv 0) (aT de (pv 1) aA) rfl))))),?_⟩
  have iP:=gj ha hx (by intro z;cases z);refine vr rfl (vr rfl ⟨x,⟨C,dx,[],a,xs,rfl,hx,cl,nP,qc,ha,vT (v:=v1) rfl (aJ.of (by rw[ao iP];exact ha)) (cR (j:=1) e1) ⟨_,rfl,x,C,dx,_,rfl,ax,cl,n1,Ai _ _,vT (v:=v2) rfl (aJ.of (by rw[ao iP,ao iP];exact ha)) (cR (j:=2) e2) ⟨_,rfl,x,C,dx,_,rfl,ax,cl,n2,Ah _ _ _ _,?_⟩⟩⟩⟩);rw[oz,oz];exact k
theorem afv:bp zLa zLa (aW EU):=bJ
theorem aef(F:aY K "__init__" "Skip.__init__" EU f fd)(I:x9 K mg cS fI ij)(cl:eX K C)(nP:bu K C "parts")(n1:bu K C "reg")(n2:bu K C "place") :
  ay P w K mg base aB 2 f fd zLa (qd C "reg" "place"):=by
 have GI:ay P w K mg base aB 1 fI ij zLa (vO K):=xS I.fn I.tup;refine F.ok afv λaM A _ s H vs Q E hr h=>?_
 ·refine qD h λx dx a xs v1 v2 aa hx ha e1 ba=>?_;subst aa;refine oA ba λe2 k=>?_;refine let R1:TS:=_;let R2:TS:=_;⟨_,aE (dE (zv I.cf GI hr rfl I.at_ I.bi .nil a7 (ae (pv 0) (ae (pv 1) af)))) (pR R2 (aE (gI (pv 0) (aT de (pv 1) aA) rfl) (pR R1 (aF (gI (pv 0) (aT de (pv 1) aA) rfl))))),?_⟩
  have iP:=gj ha hx (by intro z;cases z);refine vr rfl (vr rfl ⟨x,⟨C,dx,[],a,xs,rfl,hx,cl,nP,qc,ha,vT (v:=v1) rfl (aJ.of (by rw[ao iP];exact ha)) (cR (j:=1) e1) ⟨_,rfl,x,C,dx,_,rfl,ax,cl,n1,Ai _ _,vT (v:=v2) rfl (aJ.of (by rw[ao iP,ao iP];exact ha)) (cR (j:=2) e2) ⟨_,rfl,x,C,dx,_,rfl,ax,cl,n2,Ah _ _ _ _,?_⟩⟩⟩⟩);rw[oz,oz];exact k
structure a9 where
 (fW fB fS fO fI Nu Nv Nt MD MB MC ajn mQ mU kM lJ lH ug kh:e_)
 (kr kX kU nW ij Ft Fu Fs E8 E6 E7:jz)
structure ui(K:u_)(mg:Str->Option f_)(t:a9):Prop where
 bl:Bl mg
 cn:Cn mg
 N6:aY K "is_whole" "is_whole" BO t.fW t.kr
 bW:Binds K t.kr ["thing"] []
 mW:mg "is_whole" = a_ (.ref t.fW)
 fnB:aY K "bounds_of" "bounds_of" BG t.fB t.kX
 bB:Binds K t.kX ["word"] []
 mB:mg "bounds_of" = a_ (.ref t.fB)
 Yh:aY K "is_step" "is_step" ED t.fS t.kU
 bS:Binds K t.kU ["told"] []
 mS:mg "is_step" = a_ (.ref t.fS)
 N7:aY K "step_of" "step_of" Ku t.fO t.nW
 bO:Binds K t.nW ["told"] []
 mO:mg "step_of" = a_ (.ref t.fO)
 init:x9 K mg t.ajn t.fI t.ij
 BJ:eX K t.ug
 af':bu K t.ug "parts"
 agb:Mk K t.ug t.fI
 agc:mg "Clear" = a_ (.ref t.ug)
 x6:eX K t.mQ
 ai3:bu K t.mQ "parts"
 Ws:bu K t.mQ "reg"
 Wq:bu K t.mQ "number"
 ai5:Mk K t.mQ t.Nu
 Wv:mg "Put" = a_ (.ref t.mQ)
 ajh:aY K "__init__" "Put.__init__" Fe t.Nu t.Ft
 ajq:Binds K t.Ft zLa []
 v8:eX K t.mU
 ai4:bu K t.mU "parts"
 Mr:bu K t.mU "reg"
 Wr:bu K t.mU "other"
 mkAdd:Mk K t.mU t.Nv
 Ww:mg "Add" = a_ (.ref t.mU)
 aji:aY K "__init__" "Add.__init__" Fg t.Nv t.Fu
 ajr:Binds K t.Fu zLa []
 uq:eX K t.kM
 ai2:bu K t.kM "parts"
 Fl:bu K t.kM "name"
 Wo:bu K t.kM "reg"
 mkSet:Mk K t.kM t.Nt
 Wu:mg "Set" = a_ (.ref t.kM)
 ajg:aY K "__init__" "Set.__init__" Fd t.Nt t.Fs
 ajp:Binds K t.Fs zLa []
 uf:eX K t.lJ
 ahp:bu K t.lJ "parts"
 VC:bu K t.lJ "reg"
 E3:bu K t.lJ "name"
 ahs:Mk K t.lJ t.MD
 VG:mg "Look" = a_ (.ref t.lJ)
 ahK:aY K "__init__" "Look.__init__" EW t.MD t.E8
 ah6:Binds K t.E8 zLa []
 sC:eX K t.lH
 ahn:bu K t.lH "parts"
 LF:bu K t.lH "reg"
 E2:bu K t.lH "name"
 ahq:Mk K t.lH t.MB
 VF:mg "Swap" = a_ (.ref t.lH)
 ahH:aY K "__init__" "Swap.__init__" ET t.MB t.E6
 ah4:Binds K t.E6 zLa []
 vV:eX K t.kh
 aho:bu K t.kh "parts"
 VB:bu K t.kh "reg"
 LD:bu K t.kh "place"
 ahr:Mk K t.kh t.MC
 LG:mg "Skip" = a_ (.ref t.kh)
 ahJ:aY K "__init__" "Skip.__init__" EU t.MC t.E7
 ah5:Binds K t.E7 zLa []
def eA(t:a9)(x:Str):Addr:=if x = "put" then t.mQ else if x = "add" then t.mU else if x = "set" then t.kM else if x = "look" then t.lJ else if x = "swap" then t.lH else if x = "clear" then t.ug else t.kh
def gJ(v:V)(x:Str)(ps:List V):List (Str×V):=
 if x = "put" then aQ "number" (ps.getD 1 .aG) (aQ "reg" (ps.getD 0 .aG) (aQ "parts" v []))
 else if x = "add" then aQ "other" (ps.getD 1 .aG) (aQ "reg" (ps.getD 0 .aG) (aQ "parts" v []))
 else if x = "set" then aQ "reg" (ps.getD 1 .aG) (aQ "name" (ps.getD 0 .aG) (aQ "parts" v []))
 else if x = "look" then aQ "name" (ps.getD 1 .aG) (aQ "reg" (ps.getD 0 .aG) (aQ "parts" v []))
 else if x = "swap" then aQ "name" (ps.getD 1 .aG) (aQ "reg" (ps.getD 0 .aG) (aQ "parts" v []))
 else if x = "clear" then aQ "parts" v []
 else aQ "place" (ps.getD 1 .aG) (aQ "reg" (ps.getD 0 .aG) (aQ "parts" v []))
theorem agf{α:Type}{l:List α}(h:l.length=2):∃a b,l=[a,b]:=by
 cases l with
 | nil=>cases h
 | cons a t=>
  exact oE (P7.mp (show t.length=1 from IX h)) λb e=>lR a b (by rw[e])
theorem zV(h:stepOk (.str x::ps)=c_){b c:Int}{bs:List Int}(hb:dO x=a_ bs)(hl:bs=[b,c]:=by rfl):∃v1 v2,ps=[v1,v2]:=by
 subst hl;have h':(match dO x with | none=>d_ | some bs=>decide (ps.length=bs.length)&&(ps.zip bs).all λp=>oQ p.1 p.2)=true:=h;rw[hb]at h';simp only[jR,decide_eq_true_eq]at h';exact agf h'.1
theorem ac9(h:stepOk (.str x::ps)=c_)(n1:¬x = "put")(n2:¬x = "add")(n3:¬x = "set")(n4:¬x = "look")(n5:¬x = "swap")(n6:¬x = "clear"):x = "skip":=by
 apply Classical.byContradiction;intro n7
 have e:dO x=none:=by
  unfold dO;rw[if_neg n1,if_neg n2,if_neg n3,if_neg n4,if_neg n5,if_neg n6,if_neg n7]
 have h':(match dO x with | none=>d_ | some bs=>decide (ps.length=bs.length)&&(ps.zip bs).all λp=>oQ p.1 p.2)=true:=h;rw[e]at h';cases h'
def JM(t:a9):Sp:=λvs H Q _=>∃a x ps,vs=[.ref a]/\H a=a_ (.tup (.str x::ps))/\stepOk (.str x::ps)=c_/\(ps.length<=900/\∀y∈ps,∃T,tyName H y=a_ T)/\
 ∀z dx H',ak H H'->H z=b_->H' z=a_ (.ins (eA t x) dx (gJ (.ref a) x ps))->Q (.ref z) H'
theorem Td:bp ["told","word"] ["told"] (aW Ku):=bJ
theorem Sd{t:a9}(T:ui K mg t):ay P w K mg base aB 4 t.fO t.nW ["told"] (JM t):=by
 have GS:ay P w K mg base aB 2 t.fS t.kU ["told"] S4:=acR T.Yh T.bl T.cn T.N6 T.bW T.mW T.fnB T.bB T.mB;have GI:ay P w K mg base aB 1 t.fI t.ij zLa (vO K):=xS T.init.fn T.init.tup;have ami:ay P w K mg base aB 2 t.Nu t.Ft zLa (qd t.mQ "reg" "number"):=afW T.ajh T.init T.x6 T.ai3 T.Ws T.Wq;have amr:ay P w K mg base aB 2 t.Nv t.Fu zLa (qd t.mU "reg" "other"):=af2 T.aji T.init T.v8 T.ai4 T.Mr T.Wr;have amh:ay P w K mg base aB 2 t.Nt t.Fs zLa (qd t.kM "name" "reg"):=afT T.ajg T.init T.uq T.ai2 T.Fl T.Wo;have aks:ay P w K mg base aB 2 t.MD t.E8 zLa (qd t.lJ "reg" "name"):=aej T.ahK T.init T.uf T.ahp T.VC T.E3;have akq:ay P w K mg base aB 2 t.MB t.E6 zLa (qd t.lH "reg" "name"):=aee T.ahH T.init T.sC T.ahn T.LF T.E2;have akr:ay P w K mg base aB 2 t.MC t.E7 zLa (qd t.kh "reg" "place"):=aef T.ahJ T.init T.vV T.aho T.VB T.LD;refine T.N7.ok Td λaM A _ s H vs Q E hr h=>?_
 ·refine iY h λa x0 ps aa ha ba=>?_;clear h;subst aa;refine cH ba λhk aa k=>oA aa λhl pe=>?_;have nn:∀{y:Str},¬V.str x0=V.str y->¬x0=y:=λh e=>h (by rw[e])
  refine let R1:TS:=_;let R2:TS:=_;let R3:TS:=_;let R4:TS:=_;let R5:TS:=_;let R6:TS:=_;let R7:TS:=_;let R8:TS:=_;let R9:TS:=_;let jc:TS:=_;let tJ:TS:=_;let yV:TS:=_;let yU:TS:=_;let Dv:TS:=_;⟨_,(aE (cC (lG (gH (dN GS (hr.mono qc) rfl T.mS T.Yh.kp T.bS .nil a7 (ae (pv 0) af)))) zC cO)
   (pR Dv (aE (cU (i:=1) Td.nd rfl (aX rfl) (aT de (pv 0) aA)) (pR yU (aE (cC (cb eJ (pv 1) di (bQ _)) (pR R1 (aF (bj (t7 T.ai5 ami hr rfl T.Wv T.ajq .nil a7 (ae (pv 0) af))))) cO) (pR yV (aE (cC (cb eJ (pv 1) di (bQ _)) (pR R2 (aF (bj (t7 T.mkAdd amr hr rfl T.Ww T.ajr .nil a7 (ae (pv 0) af))))) cO) (pR tJ (aE (cC (cb eJ (pv 1) di (bQ _)) (pR R3 (aF (bj (t7 T.mkSet amh hr rfl T.Wu T.ajp .nil a7 (ae (pv 0) af))))) cO) (pR jc (aE (cC (cb eJ (pv 1) di (bQ _)) (pR R4 (aF (bj (t7 T.ahs aks hr rfl T.VG T.ah6 .nil a7 (ae (pv 0) af))))) cO) (pR R9 (aE (cC (cb eJ (pv 1) di (bQ _)) (pR R5 (aF (bj (t7 T.ahq akq hr rfl T.VF T.ah4 .nil a7 (ae (pv 0) af))))) cO) (pR R8 (aE (cC (cb eJ (pv 1) di (bQ _)) (pR R6 (aF (bj (t7 T.agb GI (hr.mono qc) rfl T.agc T.init.bi .nil a7 (ae (pv 0) af))))) cO)
   (pR R7 (aF (bj (t7 T.ahr akr hr rfl T.LG T.ah5 .nil a7 (ae (pv 0) af)))))))))))))))))))),?_⟩
  refine vr rfl ⟨_,⟨_,rfl,D2 ha,(λxs hv=>?_),λH1 hS=>?_⟩⟩
  ·rw[SU ha]at hv;cases hv;refine⟨by simp only[iT];exact wb,λy hy=>?_⟩;rcases bw.mp hy with e | hy
   ·subst e;exact⟨_,rfl⟩
   ·exact pe y hy
  have dh:z8 H (.ref a)=true:=by unfold z8;rw[SU ha];exact hk
  rw[dh];refine au _ rfl (gC (iA (v:=.str x0) (j:=0) rfl ((hS _ _ ha)) rfl (au _ rfl ⟨rfl,⟨_,rfl,cu (λe=>?_) λn1=>?_⟩⟩)))
  ·cases str_inj e;obtain⟨v1,v2,jN⟩:=zV hk (bs:=[4,mZ]) (by unfold dO;rw[if_pos rfl]);subst jN;refine vr rfl λx dx nx iC AH=>⟨x,dx,a,[.str "put",v1,v2],v1,v2,rfl,ax,?_,rfl,rfl,rfl,?_⟩
   ·rw[ao (cg (hS _ _ ha) nx),ao (cg (hS _ _ ha) iC)];exact hS _ _ ha
   ·refine k x dx _ (λb o q=>?_) (hS.free nx) (by rw[ax];rfl);rw[ao (cg (hS b o q) nx),ao (cg (hS b o q) nx),ao (cg (hS b o q) iC)];exact hS b o q
  refine au _ rfl ⟨rfl,⟨_,rfl,cu (λe=>?_) λn2=>?_⟩⟩
  ·cases str_inj e;obtain⟨v1,v2,jN⟩:=zV hk (bs:=[4,4]) (by unfold dO;rw[if_neg dk,if_pos rfl]);subst jN;refine vr rfl λx dx nx iC AH=>⟨x,dx,a,[.str "add",v1,v2],v1,v2,rfl,ax,?_,rfl,rfl,rfl,?_⟩
   ·rw[ao (cg (hS _ _ ha) nx),ao (cg (hS _ _ ha) iC)];exact hS _ _ ha
   ·refine k x dx _ (λb o q=>?_) (hS.free nx) (by rw[ax];rfl);rw[ao (cg (hS b o q) nx),ao (cg (hS b o q) nx),ao (cg (hS b o q) iC)];exact hS b o q
  refine au _ rfl ⟨rfl,⟨_,rfl,cu (λe=>?_) λn3=>?_⟩⟩
  ·cases str_inj e;obtain⟨v1,v2,jN⟩:=zV hk (bs:=[12,4]) (by unfold dO;rw[if_neg dk,if_neg dk,if_pos rfl]);subst jN;refine vr rfl λx dx nx iC AH=>⟨x,dx,a,[.str "set",v1,v2],v1,v2,rfl,ax,?_,rfl,rfl,rfl,?_⟩
   ·rw[ao (cg (hS _ _ ha) nx),ao (cg (hS _ _ ha) iC)];exact hS _ _ ha
   ·refine k x dx _ (λb o q=>?_) (hS.free nx) (by rw[ax];rfl);rw[ao (cg (hS b o q) nx),ao (cg (hS b o q) nx),ao (cg (hS b o q) iC)];exact hS b o q
  refine au _ rfl ⟨rfl,⟨_,rfl,cu (λe=>?_) λn4=>?_⟩⟩
  ·cases str_inj e;obtain⟨v1,v2,jN⟩:=zV hk (bs:=[4,12]) (by unfold dO;rw[if_neg dk,if_neg dk,if_neg dk,if_pos rfl]);subst jN;refine vr rfl λx dx nx iC AH=>⟨x,dx,a,[.str "look",v1,v2],v1,v2,rfl,ax,?_,rfl,rfl,rfl,?_⟩
   ·rw[ao (cg (hS _ _ ha) nx),ao (cg (hS _ _ ha) iC)];exact hS _ _ ha
   ·refine k x dx _ (λb o q=>?_) (hS.free nx) (by rw[ax];rfl);rw[ao (cg (hS b o q) nx),ao (cg (hS b o q) nx),ao (cg (hS b o q) iC)];exact hS b o q
  refine au _ rfl ⟨rfl,⟨_,rfl,cu (λe=>?_) λn5=>?_⟩⟩
  ·cases str_inj e;obtain⟨v1,v2,jN⟩:=zV hk (bs:=[4,12]) (by unfold dO;rw[if_neg dk,if_neg dk,if_neg dk,if_neg dk,if_pos rfl]);subst jN;refine vr rfl λx dx nx iC AH=>⟨x,dx,a,[.str "swap",v1,v2],v1,v2,rfl,ax,?_,rfl,rfl,rfl,?_⟩
   ·rw[ao (cg (hS _ _ ha) nx),ao (cg (hS _ _ ha) iC)];exact hS _ _ ha
   ·refine k x dx _ (λb o q=>?_) (hS.free nx) (by rw[ax];rfl);rw[ao (cg (hS b o q) nx),ao (cg (hS b o q) nx),ao (cg (hS b o q) iC)];exact hS b o q
  refine au _ rfl ⟨rfl,⟨_,rfl,cu (λe=>?_) λn6=>?_⟩⟩
  ·cases str_inj e;refine vr rfl λx dx nx iC AH=>⟨x,t.ug,dx,[],a,.str "clear" :: ps,rfl,ax,T.BJ,T.af',qc,?_,rfl,?_⟩
   ·rw[ao (cg (hS _ _ ha) nx),ao (cg (hS _ _ ha) iC)];exact hS _ _ ha
   ·refine k x dx _ (λb o q=>?_) (hS.free nx) (by rw[ax];rfl);rw[ao (cg (hS b o q) nx),ao (cg (hS b o q) nx),ao (cg (hS b o q) iC)];exact hS b o q
  have ake:=ac9 hk (nn n1) (nn n2) (nn n3) (nn n4) (nn n5) (nn n6);subst ake;obtain⟨v1,v2,jN⟩:=zV hk (bs:=[4,121]) (by unfold dO;rw[if_neg dk,if_neg dk,if_neg dk,if_neg dk,if_neg dk,if_neg dk,if_pos rfl]);subst jN;refine vr rfl λx dx nx iC AH=>⟨x,dx,a,[.str "skip",v1,v2],v1,v2,rfl,ax,?_,rfl,rfl,rfl,?_⟩
  ·rw[ao (cg (hS _ _ ha) nx),ao (cg (hS _ _ ha) iC)];exact hS _ _ ha
  ·refine k x dx _ (λb o q=>?_) (hS.free nx) (by rw[ax];rfl);rw[ao (cg (hS b o q) nx),ao (cg (hS b o q) nx),ao (cg (hS b o q) iC)];exact hS b o q
end
end TL
namespace L2
section
variable{X:Cx}
theorem len_K(K:u_)(h:X.K=K:=by rfl):lK X (.builtin "len") (λxs H Q=>∃p ys,xs=[.ref p]/\(av K H p ys\/aJ K H p ys)/\Q (.int ys.length) H):=by subst h;exact fj
theorem Fn(K:u_)(h:X.K=K:=by rfl):CA X (Af K):=by subst h;exact cY
theorem Ab(K:u_)(h:X.K=K:=by rfl):CA X (Ce K):=by subst h;exact de
theorem aiJ(K:u_)(h:X.K=K:=by rfl):GQ X (WV K):=by subst h;exact Lf
theorem ajj(K:u_)(he:PE X e ta)(hb:xD e f X.env (eval e X.env)=eval e X.env)(h:X.K=K:=by rfl):PE X (.Attribute e f pos) (M5 K ta f):=by subst h;exact bz he hb
end
end L2
namespace L2
end L2
namespace L2
open L3
def F1(h:j_)(e:e_)(cls:f_)(dd:Option e_)(tb:f_):Prop:=
 ∃oe vs a0,h.get? e=a_ oe/\oe.cls=cls/\oe.dict=dd/\oe.data=.fields vs/\vs[0]?=a_ a0/\vs[1]?=a_ tb/\(cls≠.ref Xg->vs[2]?=a_ .none)
def Xi(h:j_)(e T:e_)(fl:f_):Prop:=T≠e/\∃oT ts,h.get? T=a_ oT/\oT.data=.fields ts/\ts[3]?=a_ fl
def CD(h:j_)(e:e_)(cls:f_)(dd:Option e_)(tb:Option e_):Prop:=
 F1 h e cls dd (tb.elim .none cI)/\∀T,tb=a_ T->Xi h e T .none
def NA(h:j_)(e:e_)(cls:f_)(dd:Option e_)(T:e_)(fl:f_):Prop:=F1 h e cls dd (.ref T)/\Xi h e T fl
theorem adx(o:Obj)(f:Array f_->Array f_):(o.mapFields f).dict=o.dict:=by
 obtain⟨c,d,dt,s⟩:=o;cases dt <;> rfl
section
variable{M:Model}{A:h_}{E:f_->g_->Prop}{s:g_}{base:j_}{env:Env}{outer:List Env}{L e:e_}{cls:f_}{dd:Option e_}{Q:Unit->g_->Prop}
theorem RE{had:Bool}{vs:Array f_}(jP:A.frames=a_ (env::outer))(hl:s.heap.FunFrames base (env::outer))(hf:env.frame=a_ L)(q:s.heap.get? e=a_ oe)(hc:oe.cls=cls)(xg:oe.dict=dd)
  (hd:oe.data=.fields vs) (h0:vs[0]?=a_ a0) (hsz:1<vs.size) (AW:cls≠.ref Xg->vs[2]?=a_ .none)
  (k:∀h' T,(∀b o,b∉ko (env::outer)->b≠e->s.heap.get? b=a_ o->h'.get? b=a_ o)->(∀b o,s.heap.get? b=a_ o->b≠e->∃sl,h'.get? b=a_ { o with slots:=sl })->s.heap.objs.size<=T->
   NA h' e cls dd T (rawInt L)->Q () { s with heap:=h' }) :
  wpAny M A (do let a <-frameOf env;let pl <-entryPlaceOf L had;let b <-aaO head a .none (rawInt L) .none pl;setField (.ref e) 1 b) Q E s:=by
 have fZ:e∉ko (env::outer):=λz=>by
  refine oA (hl.mem z) λ_ aa=>aw aa λo ho nf=>?_;rw[q]at ho;cases ho;exact nf vs hd
 refine aq (wpAny_frameOf_fun jP hl hf λh1 so=>aq (wpAny_entryPlaceOf λpl hp=>?_));unfold aaO newFields;refine aq (xx ?_ (hp.sizeOk5 _ _ _ _ _));have q1:=(so.2.1 e fZ).trans q;generalize hz:({ cls:=.type "traceback",dict:=b_,data:=.fields ([head,.ref L,.none,rawInt L,.none]++(if pl.isEmpty then fg 6 iE else pl)).toArray }:Obj)=ot;have q2:(h1.push ot).get? e=a_ oe:=bo _ q1;refine DO q2 hd hsz ?_;have nT:=vx (cx q1);have d3:=Dz hd (·.setIfInBounds 1 (cI h1.objs.size));have e3:=A4 (zh (·.setIfInBounds 1 (cI h1.objs.size))) q2 (P9 d3);have fr:ot.isFreed=false:=by rw[<-hz];rfl
 have t3:((h1.push ot).update e (zh (·.setIfInBounds 1 (cI h1.objs.size)))).get? h1.objs.size=a_ ot:=by
  rw[vk _ _ (dW nT)];exact gw h1 fr
 have kp:∀b o,b≠e->h1.get? b=a_ o->((h1.push ot).update e (zh (·.setIfInBounds 1 (cI h1.objs.size)))).get? b=a_ o:=λb o n z=>by
  rw[vk _ _ (dW n)];exact bo _ z
 refine k _ h1.objs.size (λb o hb n z=>kp b o n ((so.2.1 b hb).trans z)) (λb o z n=>oE (so.2.2 b o z) λsl z1=>⟨sl,kp b _ n z1⟩) (r6 so.1.symm) (dj ⟨_,_,a0,e3,?_,?_,d3,?_,?_,λz=>by rw[PN qc];exact AW z⟩ nT ⟨ot,_,t3,by rw[<-hz],?_⟩)
 ·rw[aaZ];exact hc
 ·rw[adx];exact xg
 ·rw[PN qc];exact h0
 ·simp[hsz]
 ·first | (simp;done) | (rcases hp with rfl | ⟨_,_,_,_,_,_,_,rfl⟩ <;> simp)
theorem Sg{tb:Option e_}(jP:A.frames=a_ (env::outer))(hl:s.heap.FunFrames base (env::outer))(hf:env.frame=a_ L)(x:CD s.heap e cls dd tb)
  (k:∀h' T,(∀b o,b∉ko (env::outer)->b≠e->tb≠a_ b->s.heap.get? b=a_ o->h'.get? b=a_ o)->(∀b o,s.heap.get? b=a_ o->b≠e->tb≠a_ b->∃sl,h'.get? b=a_ { o with slots:=sl })->s.heap.objs.size<=T->
   NA h' e cls dd T (rawInt L)->Q () { s with heap:=h' }):wpAny M A (noteFrame (.ref e) env) Q E s:=by
 refine oA x λaa ht=>iY aa λoe vs a0 q hc aa=>xX aa λxg hd h0 h1 AW=>?_;have hsz:1<vs.size:=(PR.mp h1).1;unfold noteFrame;simp only[hf];cases tb with
 | none=>
  refine aq (ju q hd h1 ?_);rw[if_neg qc];exact RE jP hl hf q hc xg hd h0 hsz AW λh' T a b c d=>k h' T (λx o y z _=>a x o y z) (λx o y z _=>b x o y z) c d
 | some T0=>
  refine oA (ht T0 rfl) λnT aa=>dv aa λoT ts qT dT t3=>aq (ju q hd h1 ?_);show wpAny M A (if (cI T0 != iE)=c_ then _ else _) Q E s;rw[if_pos (by simp)];refine aq (ju qT dT t3 ?_);rw[if_neg (show ¬((iE == rawInt L)=c_) by simp[rawInt])];refine aq (DO qT dT (PR.mp t3).1 ?_);have yy:∀b,b≠T0->(s.heap.update T0 (zh (·.setIfInBounds 3 iE))).get? b=s.heap.get? b:=λb n=>vk _ _ (dW n);refine RE (s:={ s with heap:=s.heap.update T0 (zh (·.setIfInBounds 3 iE)) }) jP (hl.of_keeps λb o z nf=>⟨o,(yy b λw=>?_).trans z,rfl⟩) hf ((yy e (dW nT)).trans q) hc xg hd h0 hsz AW λh' T a b c d=>?_
  ·rw[w,qT]at z;cases z;exact nf ts dT
  ·refine k h' T (λx o y z n w=>a x o y z ((yy x λv=>n (by rw[v])).trans w)) (λx o w z n=>b x o ((yy x λv=>n (by rw[v])).trans w) z) ?_ d;have c':(s.heap.update T0 (zh (·.setIfInBounds 3 iE))).objs.size<=T:=c;rw[Heap.size_after_update]at c';exact c'
theorem D0(x:NA s.heap e cls dd T fl)(k:∀h',(∀b o,b≠T->s.heap.get? b=a_ o->h'.get? b=a_ o)->CD h' e cls dd (a_ T)->Q () { s with heap:=h' }) :
  wpAny M A (setFlight (.ref e) b_) Q E s:=by
 refine cH x λaa nT ba=>iY aa λoe vs a0 q hc aa=>xX aa λxg hd h0 h1 AW=>dv ba λoT ts qT dT t3=>?_;have s3:3<ts.size:=(PR.mp t3).1;unfold setFlight;refine aq (ju q hd h1 ?_);rw[if_pos (show (cI T != iE)=c_ by simp)];have yy:∀b,b≠T->(s.heap.update T (zh (·.setIfInBounds 3 ((b_:Option e_).elim iE λf=>rawInt f)))).get? b=s.heap.get? b:=λb n=>vk _ _ (dW n);refine DO qT dT s3 (k _ (λb o n z=>(yy b n).trans z) ⟨⟨oe,vs,a0,(yy e (dW nT)).trans q,hc,xg,hd,h0,h1,AW⟩,λT' z=>?_⟩);cases z;exact⟨nT,⟨_,_,A4 _ qT (P9 (Dz dT _)),Dz dT _,by simp[s3]⟩⟩
end
def iN(P:l_)(w:k_):nY:=λouter H s E e s'=>∃ea c dd T H',e=.ref ea/\s'.os=s.os/\AllBare s'.gens/\Un (ko outer) [] H H' s.heap s'.heap/\eW P w H' s'.heap/\CD s'.heap ea c dd (a_ T)/\
 s.heap.objs.size<=ea/\s.heap.objs.size<=T/\H' ea=b_/\H' T=b_/\E c dd H'
structure BZ(X:Cx)(p_:List (e_×Obj))(σ:St)(H:Hp)(s:g_)(ea:e_)(c:f_)(dd tb:Option e_):Prop where
 inv:Inv X p_ σ H s
 Gw:CD s.heap ea c dd tb
 fe:gq X p_ H ea
 ft:∀T,tb=a_ T->gq X p_ H T
abbrev WX:=St->XK
def wd(X:Cx)(W:WX):Prop:=∀(p_:List (e_×Obj)) (σ:St) (H:Hp) (s:g_) (ea:e_) (c:f_) (dd tb:Option e_),BZ X p_ σ H s ea c dd tb->W σ c dd H->X.xe (.ref ea) s
section
variable{X:Cx}{p_:List (e_×Obj)}{σ:St}{H:Hp}{s:g_}
theorem So{h':j_}{ch:List e_}(I:Inv X p_ σ H s)(hc:∀b∈ch,H b=b_)(k:∀b o,b∉ko X.stack->b∉ch->s.heap.get? b=a_ o->h'.get? b=a_ o):eW X.prog X.w H h':=λb u e=>by
 refine(I.aH b u e).pY (λd v hd q=>k d v (λz=>?_) (λz=>?_) q) (λ_ q=>q) λ_ _ q=>q
 ·have n:=I.EA d z;rcases hd with w | w
  ·rw[w,e]at n;cases n
  ·rw[w]at n;cases n
 ·have n:=hc d z;rcases hd with w | w
  ·rw[w,e]at n;cases n
  ·rw[w]at n;cases n
theorem aeA{P:l_}{w:k_}{K:u_}{mg:Str->Option f_}{base:j_}{N:List Str}{qual:Str}{scope:i_}{f:e_}{cd:f_}{A:h_}{outer:List Env}{s0:g_}{H0:Hp}{E:XK} :
  wd (p0 (iN P w) P w K mg base N qual scope f cd A outer s0 H0 E) (λ_=>E):=by
 intro p_ σ H s ea c dd tb x hE;show wpAny (model P w) (A.deeper (envOfC qual scope s0.heap.objs.size f cd)) (leaving (envOfC qual scope s0.heap.objs.size f cd) (.ref ea)) (λ_ yx=>iN P w outer H0 s0 E (.ref ea) yx) (λe' yx=>iN P w outer H0 s0 E e' yx) s;have I:=x.inv
 have Z9:s0.heap.objs.size<=ea:=by
  rcases x.fe.2.2.2.1 with z | z
  ·exact absurd (show ea∈([]:List e_) from z) (by simp)
  ·exact z
 have tN:∀T,tb=a_ T->s0.heap.objs.size<=T:=λT z=>by
  rcases(x.ft T z).2.2.2.1 with y | y
  ·exact absurd (show T∈([]:List e_) from y) (by simp)
  ·exact y
 unfold leaving;refine aq (Sg (base:=base) I.ok.frames I.stack rfl x.Gw λh1 T k1 k2 hT xh=>D0 xh λh2 k3 Pr=>?_);have yC:∀{b:e_} {o:Obj},s0.heap.get? b=a_ o->b<s0.heap.objs.size:=λe=>cx e;have sN:s0.heap.objs.size<=s.heap.objs.size:=I.sz;have Oz:∀{b:e_},b<s0.heap.objs.size->b≠T:=λh z=>absurd (gx h (c7 sN hT)) (by rw[z];exact jS _);have OA:∀{b:e_},b<s0.heap.objs.size->b≠ea:=λh z=>absurd (gx h Z9) (by rw[z];exact jS _);have OB:∀{b:e_},b<s0.heap.objs.size->tb≠a_ b:=λh z=>absurd (gx h (tN _ z)) (jS _)
 have nL0:∀{b:e_},b<s0.heap.objs.size->b∉ko outer->b∉ko (envOfC qual scope s0.heap.objs.size f cd::outer):=λh z y=>by
  rcases I.ER _ y |> bw.mp with u | u
  ·exact absurd h (by rw[u];exact jS _)
  ·exact z u
 have Hg:∀{b:e_} {o:Obj},s.heap.get? b=a_ o->b≠T:=λe z=>absurd (gx (cx e) hT) (by rw[z];exact jS _)
 have alC:eW P w H h2:=by
  refine So (ch:=ea::tb.toList) I (λb hb=>?_) λb o hb hc e=>k3 b o (Hg e) (k1 b o hb (λz=>hc (by rw[z];exact f9)) (λz=>hc (eE _ (by rw[z];simp))) e);rcases bw.mp hb with z | z
  ·rw[z];exact x.fe.1
  ·cases tb with
   | none=>simp at z
   | some T0=>
    have z':b=T0:=by simpa using z
    rw[z'];exact(x.ft T0 rfl).1
 refine⟨ea,c,dd,T,H,rfl,I.os,I.bare,⟨λb o e n hb hx=>?_,λb o e n hb hx=>?_,I.base.free,λb o e hx=>?_,I.base.pX,I.base.oO,I.base.oJ⟩,alC,Pr,Z9,(c7 sN hT),x.fe.1,⟨I.aH.fresh hT,hE⟩⟩
 ·have l:=yC e;exact k3 b o (Oz l) (k1 b o (nL0 l hb) (OA l) (OB l) (I.base.keep b o e n hb hx))
 ·have l:=yC e;exact oE (I.base.slot b o e n hb hx) λsl q=>oE (k2 b _ q (OA l) (OB l)) λCI q'=>⟨CI,k3 b _ (Oz l) q'⟩
 ·have l:=yC e;exact oE (I.base.there b o e hx) λo' q=>oE (k2 b _ q (OA l) (OB l)) λCI q'=>⟨_,k3 b _ (Oz l) q'⟩
theorem acu(I:Inv X p_ σ H s)(h:iN X.prog X.w X.stack H s E e s'):∃ea c dd T H',e=.ref ea/\BZ X p_ σ H' s' ea c dd (a_ T)/\E c dd H':=by
 obtain⟨ea,c,dd,T,H',aa,os,bare,un,aH,ba⟩:=h;subst aa;exact qM ba λfl l1 l2 n1 n2 q=>⟨ea,c,dd,T,H',rfl,⟨I.MF os un aH bare λb z=>absurd z (by simp),fl,I.iz l1 n1,λT' z=>by cases z;exact I.iz l2 n2⟩,q⟩
end
def agO(sp:Sp)(dvs:List V)(W:WX)(t:TA):TE:=λσ H Q=>t σ H λvs H1=>sp (vs++dvs) H1 Q (W σ)
section
variable{X:Cx}{k:Nat}{f C:e_}{fd:jz}{ps:List Str}{sp:Sp}{dvs:List V}{ds:List f_}{W:WX}{x m:Str}{p pos apos:Pos}{e o:Expr}{es:List Expr}{ta:TE}{t:TA}{P:l_}{w:k_}
theorem afD(F:ay X.prog X.w X.K X.mg X.base (iN X.prog X.w) k f fd ps sp)(hr:eV k X.A)(hb:Binds X.K fd ps ds)(hd:Vals dvs ds)(hx:wd X W)
  (I:Inv X p_ σ H s) (r:Vals vs us) (h:sp (vs++dvs) H Q (W σ)):wpAny (model X.prog X.w) X.A (call (.ref f) us) (EP X p_ σ Q) X.xe s:=by
 have r2:=r.append hd;have hl:(us++ds).length=ps.length:=by rw[<-r2.length];exact F.len _ _ _ _ h
 refine tW (zo (F.run X.A X.stack s H ⟨us,[]⟩ (us++ds) (vs++dvs) Q (W σ) hr I.FU (hb s us I.dm hl) r2 h) λr s' hq=>?_);cases r with
 | error e=>
  refine jh (acu I hq) λea c dd T H' aa=>cH aa λaa x hE=>?_;subst aa;exact hx _ _ _ _ _ _ _ _ x hE
 | ok fl=>
  cases fl with
  | ret u=>exact I.after hq
  | next=>exact iF hq
  | brk=>exact iF hq
  | cont=>exact iF hq
theorem Th(F:ay P w X.K X.mg X.base (iN P w) k f fd ps sp)(hr:eV k X.A)(hL:wd X W)(hg:Gl X x)(hm:X.mg x=a_ (.ref f))(hk:x_ X.K (.ref f)=c_)(hb:Binds X.K fd ps ds)(hd:Vals dvs ds)
  (ha:PA X (e::es) t) (hP:X.prog=P:=by rfl) (hw:X.w=w:=by rfl) (jQ:(x == ("__debug__" : Str))=false:=by decide) (he:cJ (e::es) X.env=(d_,eval e X.env)::cJ es X.env:=by rfl) (ff:(backTo pos (cJ es X.env)).any (·.1)=false:=by rfl) :
  PE X (.Call (.Name x p) (e::es) [] pos) (agO sp dvs W t):=by
 subst hP hw;intro p_ s σ H Q I h;refine xw (ua I hg hm ?_ jQ);refine G_ (h₀:=X.base) I.ok.mod.qf hk (Aq (ha pos p_ s σ H _ I h) λus s1 vs H1 I1 r q=>⟨I1.dm,?_⟩) he ff;exact afD F hr hb hd hL I1 r q
end
section
variable{P:l_}{w:k_}{K:u_}{mg:Str->Option f_}{base:j_}
theorem aY.Ct{st:Stmt}{k:Nat}{sp:Sp}(F:aY K x qual st f fd)(S:bp N ps (aW st))
  (uv:∀(aM:f_) (A:h_) (outer:List Env) (s:g_) (H:Hp) (vs:List V) (Q:VK) (E:XK),eV k (A.deeper (envOfC qual (aW st) s.heap.objs.size f aM))->
   wd (p0 (iN P w) P w K mg base N qual (aW st) f aM A outer s H E) (λ_=>E)->
   gX (model P w) (A.deeper (envOfC qual (aW st) s.heap.objs.size f aM)) (envOfC qual (aW st) s.heap.objs.size f aM) (p0 (iN P w) P w K mg base N qual (aW st) f aM A outer s H E).xe->sp vs H Q E->
   ∃t,fJ (p0 (iN P w) P w K mg base N qual (aW st) f aM A outer s H E) (jB st) t/\t { nx:=λ_ H'=>Q .aG H',rt:=Q } (start N vs) H) (len:∀vs H Q E,sp vs H Q E->vs.length=ps.length:=by intro _ _ _ _ h;(repeat obtain⟨_,h⟩:=h);subst_vars;rfl):ay P w K mg base (iN P w) (k+1) f fd ps sp:=by
 refine jh F.ex λoc od kV doc pm aa=>nC aa λan aM ct i5 aa ba=>?_;subst aa;exact oA ba λlk gv=>v7 lk gv S len λA outer s H vs Q E hr qi=>uv aM A outer s H vs Q E hr aeA gX.leaving qi
end
end L2
namespace L2
open L3
open Sem (wp)
def sX(h:j_)(C:e_)(oi:Option f_):Prop:=∃nm q N bs bm wH sn sub ab col dd k0 k1 k2 k3 k5 mN,h.get? C=a_ (excClassObj nm q C N bs bm wH sn sub ab col dd k0 k1 k2 k3 k5 "ValueError.__new__")/\h.Ns N mN/\mN "__init__" = oi/\OwnTail h wy bm
theorem sX.keeps{oi:Option f_}(x:sX h C oi)(k:∀b o,h.get? b=a_ o->h'.get? b=a_ o):sX h' C oi:=by
 exact qC x λnm q N bs bm wH sn sub ab col aa=>DZ aa λdd k0 k1 k2 k3 k5 mN hC hN hi T=>⟨nm,⟨q,N,bs,bm,wH,sn,sub,ab,col,dd,k0,k1,k2,k3,k5,mN,k _ _ hC,hN.keeps k,hi,T.keeps k⟩⟩
def FZ(K:u_)(C:e_):Prop:=W.excIn K C wy "ValueError.__new__" = c_
theorem FZ.at{K:u_}(x:FZ K C)(X:K.In h):sX h C none:=by
 unfold FZ W.excIn at x
 split at x
 ·rename_i dd cd sl ho
  split at x
  ·rename_i C' bm k0 k1 k2 k3 n k5 hm hs
   simp only[jR,beq_iff_eq,aa3]at x;refine oA x λaa CZ=>oA aa λaa aH=>oA aa λaa ht=>oA aa λaa Cq=>oA aa λe1 e2=>?_;subst e1 e2;obtain⟨nm,bs,mro,ns,qn,hd,sn,sub,ab,col,del⟩:=cd;dsimp only at hm Cq aH CZ;subst hm Cq
   have OO:sl=#[k0,k1,k2,k3,a_ (.builtin "ValueError.__new__"),k5]:=by
    obtain⟨l⟩:=sl;exact congrArg Ey hs
   subst OO;exact⟨nm,⟨qn,ns,bs,bm,hd,sn,sub,ab,col,dd,k0,k1,k2,k3,k5,_,X _ _ ho,.of_isNs (W.isNs_of_in X aH),W.nsMap_none_of_in X aH CZ,W.tail_of_in X ht⟩⟩
  ·cases x
 ·cases x
section
variable{prog:l_}{w:k_}{A:h_}{E:f_->g_->Prop}{h:j_}{g:Array GenState}{d:Drawn}{t:Nat}{os:OsState}{C:e_}
abbrev newX(C t:e_):Obj:={ cls:=.ref C,data:=.fields #[.ref t,.none,.none,.none,.bool d_,.none] }
abbrev Cg(us:List f_):Obj:={ cls:=.type "tuple",data:=.seq us.toArray }
theorem aeX{Q:Fin->g_->Prop}(x:sX h C b_)(hz:us.length<=cq)
  (hq:∀h' t',(∀b o,h.get? b=a_ o->h'.get? b=a_ o)->h'.get? (h.objs.size+1)=a_ (newX C t')->Q (.done (.ret (.ref (h.objs.size+1)))) ⟨h',g,d,t,os⟩) :
  wpAny (model prog w) A (Builtin.«type.__call__» ⟨.ref C::us,[]⟩) Q E ⟨h,g,d,t,os⟩:=by
 refine qC x λnm q N bs bm wH sn sub ab col aa=>DZ aa λdd k0 k1 k2 k3 k5 mN hC hN hi T=>?_;have Fv:=PySem.F.excBase_ValueError
 repeat (first | (with_reducible refine vq hC ?_) | (with_reducible refine wpAny_madeBy_exc hC ?_) | wp_step)
 refine aal (Ie _ Fv.quiet) (wpAny_check_new_subU Fv rfl T hC (codeAny_exc_new_subU Fv rfl Fv T hC ?_ hz));show wpAny _ _ _ _ _ _;have kk:∀b o,h.get? b=a_ o->((h.push { cls:=.type "tuple",data:=.seq us.toArray }).push { cls:=.ref C,data:=.fields #[.ref h.objs.size,.none,.none,.none,.bool d_,.none] }).get? b=a_ o:=λb o z=>bo _ (bo _ z);have c1:=kk _ _ hC;have n1:=hN.keeps kk;have T1:=T.keeps kk;have ge:((h.push { cls:=.type "tuple",data:=.seq us.toArray }).push { cls:=.ref C,data:=.fields #[.ref h.objs.size,.none,.none,.none,.bool d_,.none] }).get? (h.objs.size+1)=a_ { cls:=.ref C,data:=.fields #[.ref h.objs.size,.none,.none,.none,.bool d_,.none] }:=by heap_get
 have cc:(cI C::bm).contains (.ref C)=true:=by simp
 unfold Bu
 repeat (first | (with_reducible refine vq ge ?_) | (with_reducible refine Qd c1 ?_;rw[cc]) | wp_step)
 show wpAny _ _ (D4 (.ref C) _) _ _ _;refine wpAny_typeLookup_tail c1 n1 T1 Fv.mroIs Fv.init.lookup ?_;rw[hi];refine lE (aq (wpAny_of_eq (Fv.init.bind _) (aq (tW (Qb Fv.init.plain Fv.initEntry (wpAny_check_init_subU Fv T1 c1 ge rfl ?_))))))
 wp_walk
 refine hq _ (h.objs.size+2) (λb o z=>?_) ?_
 ·rw[vk _ _ (vx (Qp (cx z)))];exact bo _ (kk b o z)
 ·rw[A4 _ (bo _ ge) rfl];simp only[pF];rfl
theorem aeY(x:sX h C b_)(hz:us.length<=cq)
  (hq:∀h' t',(∀b o,h.get? b=a_ o->h'.get? b=a_ o)->h'.get? (h.objs.size+1)=a_ (newX C t')->Q (.ref (h.objs.size+1)) ⟨h',g,d,t,os⟩) :
  wpAny (model prog w) A (call (.ref C) us) Q E ⟨h,g,d,t,os⟩:=by
 refine qC (id x) λnm q N bs bm wH sn sub ab col aa=>jh aa λdd k0 k1 k2 k3 aa=>bX aa λk5 mN hC r=>?_;have f1:=tc_lookup;have f2:=tc_bind (.ref C);have hT:(⟨h,g,d,t,os⟩:g_).TypeIs (.ref C) "type":=⟨_,hC,rfl⟩;refine tW (codeAny_of_tree ?_);show wpAny _ _ (callAny (.ref C) _) _ _ _
 repeat (any_goals (first | assumption | (with_reducible refine vq hC ?_) | wp_step))
 exact⟨rfl,aau (Ie _ dk) entry_typeCall (aak hC (aeX x hz λh' t' k q=>hq h' t' k q))⟩
end
section
variable{M:Model}{A:h_}{E:f_->g_->Prop}{s:g_}{env:Env}{C:e_}
theorem Rn{x:Sem f_}{Q:Flow->g_->Prop}(hh:A.handled=b_)
  (k:wpAny M A x (λv s1=>∃e oe vs a0 oi,v=.ref e/\sX s1.heap C oi/\s1.heap.get? e=a_ oe/\oe.cls=.ref C/\oe.data=.fields vs/\vs[0]?=a_ a0/\vs[1]?=a_ .none/\E (.ref e) s1) E s) :
  wpAny M A (raiseStmt env (a_ x) b_) Q E s:=by
 unfold raiseStmt;refine aq (gf k (λv s1 z=>?_) λ_ _ y=>y);obtain⟨e,oe,vs,a0,oi,aa,ba,he,hc,hd,Oc⟩:=z;subst aa;refine qC ba λnm q N bs bm wH sn sub ab col aa=>DZ aa λdd k0 k1 k2 k3 k5 mN hC hN hi T=>cH Oc λh0 h1 hE=>?_;have cB:(cI C::bm).contains (.type "BaseException")=true:=by rw[List.contains_cons,T.hasType (show wy.contains (.type "BaseException")=c_ from rfl),Bool.or_true]
 obtain⟨oc,od,oda,i5⟩:=oe;dsimp only at hc hd;subst hc hd;obtain⟨hp,g,d,tk,os⟩:=s1
 repeat (first | (with_reducible refine vq he ?_) | (with_reducible refine vq hC ?_) | (with_reducible refine Qd hC ?_;rw[cB]) | wp_step)
 rw[h1];refine aV ?_;rw[if_neg qc];exact aV (wpAny_raiseNew_none hh hE)
end
end L2
namespace L2
open L3
structure XC(K:u_)(C:e_):Prop where
 exc:FZ K C
 kp:x_ K (.ref C)=c_
def agJ(C:e_)(W:WX)(t:TA):TS:=λ_ σ H=>t σ H λvs H1=>vs.length<=cq/\W σ (.ref C) b_ H1
section
variable{X:Cx}{W:WX}{C:e_}{x:Str}{np ie pos:Pos}{e:Expr}{es:List Expr}{t:TA}
theorem J1(hc:X.calm=c_)(hL:wd X W)(xc:XC X.K C)(hg:Gl X x)(hm:X.mg x=a_ (.ref C))(ha:PA X (e::es) t)(jQ:(x == ("__debug__" : Str))=false:=by decide)
  (he:cJ (e::es) X.env=(d_,eval e X.env)::cJ es X.env:=by rfl) (ff:(backTo ie (cJ es X.env)).any (·.1)=false:=by rfl) :
  PS X (.Raise (a_ (.Call (.Name x np) (e::es) [] ie)) b_ pos) (agJ C W t):=by
 intro p_ s σ H D I h;rw[arm_exec_Raise];refine aq (zf (Rn (C:=C) (I.ok.hd hc) (aq (gf ?_ (λv s3 z=>aq (zf (aV z))) λ_ _ y=>y))));refine xw (ua I hg hm ?_ jQ);refine G_ (h₀:=X.base) I.ok.mod.qf xc.kp (Aq (ha ie p_ s σ H _ I h) λus s1 vs H1 I1 r zq=>oA zq λhz q=>⟨I1.dm,?_⟩) he ff;have xa:=xc.exc.at I1.dm;obtain⟨h1,g1,d1,t1,YU⟩:=s1;refine aeY xa (by rw[zc,<-r.length];exact hz) λh' t' k ge=>?_;have I2:=I1.kept (t':=t1) k;refine dZ _ _ _ _ (⟨_,rfl,(xa.keeps k),ge,rfl,rfl,rfl,rfl,(hL _ _ _ _ _ _ _ (tb:=b_) ⟨I2,⟨⟨_,_,_,ge,rfl,rfl,rfl,rfl,rfl,λ_=>rfl⟩,λT z=>by cases z⟩,I1.iz (jv _) (I1.aH.fresh (jv _)),λT z=>by cases z⟩ q)⟩)
end
section
variable{M:Model}{A:h_}{E:f_->g_->Prop}{s:g_}
theorem Rv{K:u_}{dd:Option e_}{b:Bool}{Q:Bool->g_->Prop}(X:K.In s.heap)(he:F1 s.heap ea c dd tb)(hb:y_ K c cv=a_ b)(hx:y_ K cv (.type "BaseException")=a_ c_)
  (hq:Q b s):wpAny M A (excMatches (.ref ea) cv) Q E s:=by
 refine cH (PySem.W.kit_cls (M:=M) X hb) λl1 l2 l3=>cH (PySem.W.kit_cls (M:=M) X hx) λ_ _ m3=>iY he λoe vs a0 q hc _=>?_;have nt:=tc_notTuple;unfold excMatches Bu;refine aq (aq (l1.at ?_));rw[nt];refine aV ?_;rw[if_neg eI];refine aq (aV ?_);simp only[zd,List.forIn_nil];unfold isExcClass;refine aq (aq (aq (aq (l2.at ?_))));rw[if_pos rfl];refine m3.at ?_;simp only[Bool.not_true,DB,if_false];refine aV (aV ?_);obtain⟨hp,g,d,tk,os⟩:=s;unfold typeOf;refine aq (aq (vq q (aV ?_)));rw[hc];refine aq (aq (aq (l3.at ?_)));cases b with
 | true=>exact aV (aV (aV hq))
 | false=>exact aV (aV (aV hq))
end
abbrev Cx.body(X:Cx)(pn:List (e_×Obj))(E:f_->g_->Prop):Cx:={ X with pn:=pn,xe:=E }
abbrev Cx.jZ(X:Cx)(ea:e_)(pn:List (e_×Obj)):Cx:={ X with A:=X.A.mark (a_ (.ref ea)),calm:=d_,pn:=pn,xe:=λ_ _=>False }
section
variable{X:Cx}{p_ pl:List (e_×Obj)}{σ:St}{H:Hp}{s:g_}{ea:e_}{E:f_->g_->Prop}
theorem afR(ok:X.Ok)(pn:List (e_×Obj))(E:f_->g_->Prop):(X.body pn E).Ok:=
 ⟨ok.mod,ok.kind,ok.glob,ok.blt,ok.above,ok.inj,ok.has,ok.wN,ok.hd,ok.frames,ok.yk,ok.uF,ok.bs,ok.nX,ok.wm,ok.uw,ok.mI,ok.sW⟩
theorem acQ(ok:(X.body pn E).Ok):X.Ok:=
 ⟨ok.mod,ok.kind,ok.glob,ok.blt,ok.above,ok.inj,ok.has,ok.wN,ok.hd,ok.frames,ok.yk,ok.uF,ok.bs,ok.nX,ok.wm,ok.uw,ok.mI,ok.sW⟩
theorem aea(ok:X.Ok)(ea:e_)(pn:List (e_×Obj)):(X.jZ ea pn).Ok:=
 ⟨ok.mod,ok.kind,ok.glob,ok.blt,ok.above,ok.inj,ok.has,ok.wN,λz=>(by cases z),ok.frames,ok.yk,ok.uF,ok.bs,ok.nX,ok.wm,ok.uw,ok.mI,ok.sW⟩
theorem Inv.body(I:Inv X p_ σ H s)(E:f_->g_->Prop):Inv (X.body (X.pn++p_) E) [] σ H s:=
 ⟨afR I.ok _ E,I.os,I.bare,I.base,I.loc,I.cell,I.free,I.jF,λp hp=>I.pin p (by simpa using hp),I.aH,I.len⟩
theorem Inv.ud(I:Inv (X.body (X.pn++p_) E) pl σ H s):Inv X p_ σ H s:=
 ⟨acQ I.ok,I.os,I.bare,I.base,I.loc,I.cell,I.free,I.jF,λp hp=>I.pin p (nj _ hp),I.aH,I.len⟩
theorem Inv.jZ(I:Inv X p_ σ H s)(ea:e_):Inv (X.jZ ea (X.pn++p_)) [] σ H s:=
 ⟨aea I.ok ea _,I.os,I.bare,I.base,I.loc,I.cell,I.free,I.jF,λp hp=>I.pin p (by simpa using hp),I.aH,I.len⟩
theorem Inv.vE(ok:X.Ok)(I:Inv (X.jZ ea (X.pn++p_)) pl σ H s):Inv X p_ σ H s:=
 ⟨ok,I.os,I.bare,I.base,I.loc,I.cell,I.free,I.jF,λp hp=>I.pin p (nj _ hp),I.aH,I.len⟩
theorem gq.body(f:gq (X.body (X.pn++p_) E) pl H b):gq X p_ H b:=
 ⟨f.1,f.2.1,f.2.2.1,f.2.2.2.1,f.2.2.2.2.1,λp hp=>f.2.2.2.2.2 p (nj _ hp)⟩
theorem SP.ud{f:Flow}(h:SP (X.body (X.pn++p_) E) pl D f s):SP X p_ D f s:=by
 cases f with
 | next=>obtain⟨σ',H',I,q⟩:=h;exact⟨σ',H',I.ud,q⟩
 | brk=>obtain⟨σ',H',I,q⟩:=h;exact⟨σ',H',I.ud,q⟩
 | cont=>obtain⟨σ',H',I,q⟩:=h;exact⟨σ',H',I.ud,q⟩
 | ret u=>obtain⟨v,σ',H',I,r,q⟩:=h;exact⟨v,σ',H',I.ud,r,q⟩
theorem Si{dd tb:Option e_}{Q:Unit->g_->Prop}(hs:X.stack=X.env::X.outer)(hf:X.env.frame=a_ X.env.locals)(x:BZ X p_ σ H s ea c dd tb)
  (k:∀h' T,Inv X p_ σ H { s with heap:=h' }->CD h' ea c dd (a_ T)->gq X p_ H ea->gq X p_ H T->Q () { s with heap:=h' }) :
  wpAny (model X.prog X.w) X.A (noteFrame (.ref ea) X.env) (λ_ s2=>wpAny (model X.prog X.w) X.A (setFlight (.ref ea) b_) Q E' s2) E' s:=by
 have I:=x.inv;have st:=I.stack;have fr:=I.ok.frames;rw[hs]at st fr;refine Sg (base:=X.base) fr st hf x.Gw λh1 T k1 k2 hT xh=>D0 xh λh2 k3 Pr=>?_;have Hg:∀{b:e_} {o:Obj},s.heap.get? b=a_ o->b≠T:=λe z=>absurd (gx (cx e) hT) (by rw[z];exact jS _)
 have lW:∀b∈ea::tb.toList,gq X p_ H b:=λb hb=>by
  rcases bw.mp hb with z | z
  ·rw[z];exact x.fe
  ·cases tb with
   | none=>simp at z
   | some T0=>
    have z':b=T0:=by simpa using z
    rw[z'];exact x.ft T0 rfl
 have n1:∀{b:e_},b∉ea::tb.toList->b≠ea:=λh z=>h (by rw[z];exact f9);have n2:∀{b:e_},b∉ea::tb.toList->tb≠a_ b:=λh z=>h (eE _ (by rw[z];simp));have kk:=λb o hb hc e=>k3 b o (Hg e) (k1 b o (by rw[<-hs];exact hb) (n1 hc) (n2 hc) e)
 have ks:∀b o,b∉ea::tb.toList->s.heap.get? b=a_ o->∃sl,h2.get? b=a_ { o with slots:=sl }:=λb o hc e=>by
  exact oE (k2 b o e (n1 hc) (n2 hc)) λsl q=>⟨sl,k3 b _ (Hg e) q⟩
 have I2:Inv X p_ σ H { s with heap:=h2 }:=I.call (g':=s.gens) (d':=s.drawn) (t':=s.toks) (ch:=ea::tb.toList)
  ⟨λb o e n hb hx=>kk b o hb hx e,λb o e n hb hx=>ks b o hx e,λ_ _ _ n _=>n,λb o e hx=>let ⟨sl,q⟩:=ks b o hx e;⟨_,q⟩,λ_ _ e=>e,λ_ _ _ e=>e,λb ps e=>⟨#[],by rw[e];simp⟩⟩
  (So I (λb hb=>(lW b hb).1) kk) I.bare λb hb=>⟨(lW b hb).2.2.2.1,(lW b hb).2.1,(lW b hb).2.2.2.2.1,(lW b hb).2.2.2.2.2⟩
 exact k h2 T I2 Pr x.fe (I.iz hT (I.aH.fresh hT))
end
def rj(ea:e_)(c:f_)(dd:Option e_):HO:=.ext λh=>∃o vs,h.get? ea=a_ o/\o.cls=c/\o.dict=dd/\o.data=.fields vs
theorem ahP{P:l_}{w:k_}{dd:Option e_}(x:F1 h ea c dd tb):fo P w H h ea (rj ea c dd):=by
 exact iY x λoe vs a0 q hc aa=>cH aa λxg hd _=>dj ⟨oe,vs,q,hc,xg,hd⟩ ⟨oe,q⟩ λh1 h2 ⟨o,vs,e,r⟩ k=>⟨o,vs,k o e,r⟩
section
variable{X:Cx}{p_:List (e_×Obj)}{σ:St}{H:Hp}{s:g_}
theorem EL{M:Model}{i:Nat}{Q:Unit->g_->Prop}(I:Inv X p_ σ H s)(hN:X.N.Nodup)(hi:X.N[i]?=a_ n)(hl:X.env.scope.names.lookup n=a_ .local)
  (k:∀s',Inv X p_ (σ.set i b_) H s'->Q () s'):wpAny M A (do bindName X.env n .none;unbindBehindTheSuite X.env n pos) Q E s:=by
 refine aw (id I.loc) λm hn lg=>?_;have NT:(X.env.scope.kind == .class||(X.env.scope.kind == .module&&X.env.locals != X.env.globals))=false:=by rw[I.ok.kind];rfl
 have AS:i < σ.length:=by rw[I.len];exact(dy.mp hi).1
 refine wpAny_nameGoes_keeps hl hn NT λh' v wZ hs=>k _ ?_;have yC:∀{b:e_} {o:Obj},X.s₀.heap.get? b=a_ o->b≠X.env.locals:=λe=>eM (gx (cx e) I.ok.above);refine⟨I.ok,I.os,I.bare,⟨λb o e n hb hx=>(hs.2 b (yC e)).trans (I.base.keep b o e n hb hx),λb o e n hb hx=>let ⟨sl,q⟩:=I.base.slot b o e n hb hx;⟨sl,(hs.2 b (yC e)).trans q⟩,I.base.free,λb o e hx=>let ⟨o',q⟩:=I.base.there b o e hx;⟨o',(hs.2 b (yC e)).trans q⟩,I.base.pX,I.base.oO,I.base.oJ⟩,⟨_,wZ,λj y v' e1 e2 e3=>?_⟩,λy c e=>let ⟨u,z⟩:=I.cell y c e;⟨u,z.sameBut hs (I.uH y c e)⟩,I.free,I.jF,λp hp=>let ⟨e,n,ne,r⟩:=I.pin p hp;⟨(hs.2 p.1 ne).trans e,n,ne,r⟩,λb u e=>?_,by simpa using I.len⟩
 ·by_cases hj:j=i
  ·subst hj;rw[lu AS]at e2;cases e2
  ·rw[A6 (dW hj)]at e2;refine aw (lg j y v' e1 e2 e3) λu r q=>au u r ?_;rcases q with ⟨kd,e⟩ | ⟨kd,c,e,z⟩
   ·refine .inl ⟨kd,?_⟩;have ny:y≠n:=λz=>hj (J4 hN e1 (z ▸ hi));show (if y=n then v else m y)=a_ u;rw[if_neg ny];exact e
   ·exact .inr ⟨kd,⟨c,e,z.sameBut hs (I.uH y c e)⟩⟩
 ·refine(I.aH b u e).pY (λd w hd q=>(hs.2 d λz=>?_).trans q) (λ_ q=>q) λ_ _ q=>q;have fr:=I.free;rw[<-z]at fr;rcases hd with y | y
  ·rw[y,e]at fr;cases fr
  ·rw[y]at fr;cases fr
end
def agI(K:u_)(cv:f_)(i:Nat)(tb:WX->TS)(ts:TS):TS:=λD σ H=>tb (λσ' c dd H'=>y_ K c cv=a_ c_/\
 ∀ea,H' ea=b_->ts ⟨λσ2 H2=>D.nx (σ2.set i b_) H2,D.rt,λσ2 H2=>D.bk (σ2.set i b_) H2,λσ2 H2=>D.ct (σ2.set i b_) H2⟩ (σ'.set i (a_ (.ref ea))) (upd H' ea (rj ea c dd))) D σ H
def aiC(K:u_)(cv:f_)(tb:WX->TS)(ts:TS):TS:=λD σ H=>tb (λσ' c dd H'=>y_ K c cv=a_ c_/\ts D σ' H') D σ H
section
variable{X:Cx}{body:List Stmt}{b0:Stmt}{jZ:List Stmt}{x n:Str}{np sT pos:Pos}{tb:WX->TS}{ts:TS}{cv:f_}{i:Nat}
theorem ad4(hs:X.stack=X.env::X.outer)(hf:X.env.frame=a_ X.env.locals)(hx:X.ex=[])(hN:X.N.Nodup)(hi:X.N[i]?=a_ n)(hl:X.env.scope.names.lookup n=a_ .local)
  (hg:Gl X x) (hm:X.mg x=a_ cv) (rH:y_ X.K cv (.type "BaseException")=a_ c_)
  (hb:∀(W:WX) (pn:List (e_×Obj)) (E:f_->g_->Prop),wd (X.body pn E) W->gX (model X.prog X.w) X.A X.env E->fJ (X.body pn E) body (tb W))
  (OM:∀(ea:e_) (pn:List (e_×Obj)),fJ (X.jZ ea pn) (b0::jZ) ts) (jQ:(x == ("__debug__" : Str))=false:=by decide) :
  PS X (.Try body [.ExceptHandler (a_ (.Name x np)) (a_ n) (b0::jZ) sT] [] [] pos) (agI X.K cv i tb ts):=by
 intro p_ s σ H D I h;have ok:=I.ok;refine wpAny_Try_except (gf (hb _ (X.pn++p_) _ ?_ aaY [] s σ H D (I.body _) h) (λf s1 q=>?_) λ_ _ y=>y)
 ·-- the exception
  intro pl σ1 H1 s1 ea c dd Od x1 hW;refine oA hW λhk hW=>?_;have x2:BZ X p_ σ1 H1 s1 ea c dd Od:=⟨x1.inv.ud,x1.Gw,x1.fe.body,λT z=>(x1.ft T z).body⟩;refine Si hs hf x2 λh' T I2 fl fe fT=>?_;have I3:=I2.jZ ea;refine wpAny_handleBy_cons (aaA (ua (X:=X.jZ ea (X.pn++p_)) I3 hg hm ?_ jQ)) (by intro z;cases z);refine Rv I3.dm fl.1 hk rH (codeAny_handlers_suite_as (D0 (T:=T) (fl:=.none) ⟨fl.1,fl.2 T rfl⟩ λh3 k3 Z4=>?_));have I4:Inv X p_ σ1 H1 { s1 with heap:=h3 }:=Inv.turned (s:={ s1 with heap:=h' }) (h':=h3) (t':=s1.toks) (it:=T) I2 (λb o hb e=>k3 b o hb e) fT.1 fT.2.1 fT.2.2.2.1 fT.2.2.2.2.1 fT.2.2.2.2.2
  have ya:X.s₀.heap.objs.size<=ea:=by
   rcases fe.2.2.2.1 with z | z
   ·rw[hx]at z;exact absurd z (by simp)
   ·exact z
  have I5:=Inv.adopt (o:=rj ea c dd) I4 fe.1 ya fe.2.1 fe.2.2.2.2.1 fe.2.2.2.2.2 (ahP Z4.1);have I6:=I5.jZ ea;refine JL (X:=X.jZ ea (X.pn++p_)) (v:=.ref ea) I6 hN hi (.inl hl) rfl (λs4 I7=>?_) (.inr hl);refine gf (OM ea (X.pn++p_) [] s4 _ _ _ I7 (hW ea fe.1)) (λf s5 q=>?_) λ_ _ z=>iF z;cases f with
  | next=>obtain⟨σ',H',J,q⟩:=q;exact EL (X:=X) (Inv.vE ok J) hN hi hl λs6 J6=>⟨_,_,J6,q⟩
  | brk=>obtain⟨σ',H',J,q⟩:=q;exact EL (X:=X) (Inv.vE ok J) hN hi hl λs6 J6=>⟨_,_,J6,q⟩
  | cont=>obtain⟨σ',H',J,q⟩:=q;exact EL (X:=X) (Inv.vE ok J) hN hi hl λs6 J6=>⟨_,_,J6,q⟩
  | ret u=>obtain⟨v,σ',H',J,r,q⟩:=q;exact EL (X:=X) (Inv.vE ok J) hN hi hl λs6 J6=>⟨v,_,_,J6,r,q⟩
 ·have q':=SP.ud q;cases f with
  | next=>exact Bb q'
  | brk=>exact q'
  | cont=>exact q'
  | ret u=>exact q'
theorem afI(hs:X.stack=X.env::X.outer)(hf:X.env.frame=a_ X.env.locals)(hg:Gl X x)(hm:X.mg x=a_ cv)(rH:y_ X.K cv (.type "BaseException")=a_ c_)
  (hb:∀(W:WX) (pn:List (e_×Obj)) (E:f_->g_->Prop),wd (X.body pn E) W->gX (model X.prog X.w) X.A X.env E->fJ (X.body pn E) body (tb W))
  (OM:∀(ea:e_) (pn:List (e_×Obj)),fJ (X.jZ ea pn) (b0::jZ) ts) (jQ:(x == ("__debug__" : Str))=false:=by decide) :
  PS X (.Try body [.ExceptHandler (a_ (.Name x np)) b_ (b0::jZ) sT] [] [] pos) (aiC X.K cv tb ts):=by
 intro p_ s σ H D I h;have ok:=I.ok;refine wpAny_Try_except (gf (hb _ (X.pn++p_) _ ?_ aaY [] s σ H D (I.body _) h) (λf s1 q=>?_) λ_ _ y=>y)
 ·intro pl σ1 H1 s1 ea c dd Od x1 hW;refine oA hW λhk hW=>?_;have x2:BZ X p_ σ1 H1 s1 ea c dd Od:=⟨x1.inv.ud,x1.Gw,x1.fe.body,λT z=>(x1.ft T z).body⟩;refine Si hs hf x2 λh' T I2 fl fe fT=>?_;have I3:=I2.jZ ea;refine wpAny_handleBy_cons (aaA (ua (X:=X.jZ ea (X.pn++p_)) I3 hg hm ?_ jQ)) (by intro z;cases z);refine Rv I3.dm fl.1 hk rH (codeAny_handlers_suite (D0 (T:=T) (fl:=.none) ⟨fl.1,fl.2 T rfl⟩ λh3 k3 Z4=>?_));have I4:Inv X p_ σ1 H1 { s1 with heap:=h3 }:=Inv.turned (s:={ s1 with heap:=h' }) (h':=h3) (t':=s1.toks) (it:=T) I2 (λb o hb e=>k3 b o hb e) fT.1 fT.2.1 fT.2.2.2.1 fT.2.2.2.2.1 fT.2.2.2.2.2;refine gf (OM ea (X.pn++p_) [] _ _ _ _ (I4.jZ ea) hW) (λf s5 q=>?_) λ_ _ z=>iF z;cases f with
  | next=>obtain⟨σ',H',J,q⟩:=q;exact⟨_,_,Inv.vE ok J,q⟩
  | brk=>obtain⟨σ',H',J,q⟩:=q;exact⟨_,_,Inv.vE ok J,q⟩
  | cont=>obtain⟨σ',H',J,q⟩:=q;exact⟨_,_,Inv.vE ok J,q⟩
  | ret u=>obtain⟨v,σ',H',J,r,q⟩:=q;exact⟨v,_,_,Inv.vE ok J,r,q⟩
 ·have q':=SP.ud q;cases f with
  | next=>exact Bb q'
  | brk=>exact q'
  | cont=>exact q'
  | ret u=>exact q'
end
end L2
namespace L2
open PySem.W L3
end L2
namespace L2
open Sem (wp)
section
variable{X:Cx}
end
end L2
namespace HT
open Sem (wp)
section
variable{prog:l_}{w:k_}{A:h_}{E:f_->g_->Prop}{s:g_}
end
end HT
namespace L2
section
variable{X:Cx}
end
end L2
namespace L2
open PySem.SeqAt
mutual
def noDict:PyData->Bool
 | .dict _=>d_
 | .list xs=>vC xs
 | .tuple xs=>vC xs
 | _=>c_
def vC:List PyData->Bool
 | []=>c_
 | x::xs=>noDict x&&vC xs
end
mutual
theorem Ru:∀d:PyData,noDict d=c_->noMix d d=c_/\same d d=c_
 | .none,_=>⟨rfl,rfl⟩
 | .bool b,_=>⟨rfl,by simp[same]⟩
 | .int i,_=>⟨rfl,by simp[same]⟩
 | .str x,_=>⟨rfl,by simp[same]⟩
 | .list xs,h=>by
  rw[noMix,same];exact IG xs (by rw[noDict]at h;exact h)
 | .tuple xs,h=>by
  rw[noMix,same];exact IG xs (by rw[noDict]at h;exact h)
 | .dict _,h=>by rw[noDict]at h;cases h
theorem IG:∀xs:List PyData,vC xs=c_->noMixAll xs xs=c_/\sameAll xs xs=c_
 | [],_=>⟨by rw[noMixAll],by rw[sameAll]⟩
 | x::xs,h=>by
  rw[vC,jR]at h;refine oA (Ru x h.1) λa b=>oA (IG xs h.2) λc d=>?_;rw[noMixAll,sameAll,a,b,c,d];exact⟨rfl,rfl⟩
end
mutual
theorem QK:∀d:PyData,d.canLay0=c_->noDict d=c_
 | .none,_=>rfl
 | .bool b,_=>rfl
 | .int i,_=>rfl
 | .str x,_=>rfl
 | .list xs,h=>by rw[noDict];exact Il xs (by rw[Be]at h;exact h)
 | .tuple xs,h=>by rw[noDict];exact Il xs (by rw[Be]at h;exact h)
 | .dict _,h=>by rw[Be]at h;cases h
theorem Il:∀xs:List PyData,y0 xs=c_->vC xs=c_
 | [],_=>by rw[vC]
 | x::xs,h=>by
  rw[y0,jR]at h;rw[vC,QK x h.1,Il xs h.2];rfl
end
theorem Ui(h:shaped d=c_):noMix d d=c_/\same d d=true:=Ru d (QK d (canLay_of_shaped h))
theorem aeq{K:u_}(hx:jo K H x d)(hy:jo K H y d)(hs:shaped d=c_)(q:Q (.bl d_) H):FH K c_ x y H Q:=by
 refine oA (Ui hs) λa b=>⟨d,d,hx,hy,hs,hs,a,?_⟩;rw[if_pos rfl,b];exact q
theorem aeZ{K:u_}(hx:jo K H x d)(hy:jo K H y d)(hs:shaped d=c_)(q:Q (.bl c_) H):FH K d_ x y H Q:=by
 refine oA (Ui hs) λa b=>⟨d,d,hx,hy,hs,hs,a,?_⟩;rw[if_neg eI,b];exact q
theorem Jk{α:Type}{f:α->PyData}:∀{l:List α},(∀a∈l,(f a).canLay0=c_)->y0 (l.map f)=c_
 | [],_=>by simp[y0]
 | a::l,h=>by
  rw[fh,y0,h a f9,Jk λb hb=>h b (eE _ hb)];rfl
theorem JC{α:Type}{f:α->PyData}{k:Nat}:∀{l:List α},(∀a∈l,(f a).depth<=k)->DJ (l.map f)<=k
 | [],_=>by simp[DJ]
 | a::l,h=>by
  have h1:=h a f9;have h2:=JC λb hb=>h b (eE _ hb);simp only[fh,DJ];lia
theorem abZ{α:Type}{f:α->PyData}{l:List α}(h1:∀a∈l,(f a).canLay0=c_)(h2:∀a∈l,(f a).depth<=60):shaped (.list (l.map f))=true:=by
 have d:=JC h2;unfold shaped;rw[jR];refine⟨by simp only[Be];exact Jk h1,decide_eq_true ?_⟩;simp only[IW];exact wb
theorem JD{α:Type}{K:u_}{F:V->α->Prop}{f:α->PyData}(h:∀v a,F v a->jo K H v (f a)):∀{vs:List V} {l:List α},Paired F vs l->nJ K H vs (l.map f)
 | _,_,.nil=>.nil
 | _,_,.cons g t=>.cons (h _ _ g) (JD h t)
def yo(h:j_)(dx:PyData)(u:f_):Bool:=@decide (∃d as,Reads h u d as/\tY d dx=c_) (P6 _)
theorem VT(r:Reads h u d as):yo h dx u=tY d dx:=by
 unfold yo;cases e:tY d dx with
 | true=>exact @decide_eq_true _ (P6 _) ⟨d,as,r,e⟩
 | false=>
  refine @decide_eq_false _ (P6 _) ?_;rintro⟨d',as',r',e'⟩;refine oA (r.unique d' as' r') λq _=>?_;rw[q,e']at e;cases e
theorem U5:∀{us:List f_} {ds:List PyData} {as:List e_},ReadsAll h us ds as->us.any (yo h dx)=ds.any λd=>tY d dx
 | _,_,_,.nil=>rfl
 | _,_,_,.cons r t=>by rw[xE,xE,VT r,U5 t]
theorem Uz{A:h_}{s:g_}{v:f_}{dx:PyData}{bs:List e_}(rx:Reads s.heap v dx bs)(sx:shaped dx=c_)(hu:A.in1.units+64<cLine):∀{us:List f_} {ds:List PyData} {as:List e_},ReadsAll s.heap us ds as->(∀d∈ds,shaped d=c_)->∀u∈us,EqAt A.in1 s u v (yo s.heap dx u)
 | _,_,_,.nil,_=>λu hu=>by cases hu
 | _,_,_,.cons r t,h=>λu hm=>by
  rcases bw.mp hm with rfl | hm
  ·rw[VT r];exact W.keq_at r rx (h _ (by simp)) sx hu
  ·exact Uz rx sx hu t (λd hd=>h d (eE _ hd)) u hm
def akN(K:u_)(neg:Bool):R2:=λx y H Q=>∃p xs ds dx,y=.ref p/\av K H p xs/\nJ K H xs ds/\jo K H x dx/\shaped dx=c_/\(∀d∈ds,shaped d=c_)/\Q (.bl (if neg=c_ then !(ds.any λd=>tY d dx) else ds.any λd=>tY d dx)) H
section
variable{X:Cx}
theorem acO(hu:X.A.units+65<cLine):eZ X (jx .NotIn) (akN X.K c_):=by
 intro p_ s σ H x y v u Q I rx ry h;obtain⟨p,xs,ds,dx,aa,hq,hd,hx,sx,sd,q⟩:=h;subst aa;cases ry;refine aR (I.list hq) λar r pl hz=>oE (hd.reads I r) λas q1=>oE (hx.reads I rx) λbs q2=>notIn_listAt (yo s.heap dx) pl.isList (λw hw=>Uz q2 sx (by show X.A.units+1+64<cLine;exact w0) q1 sd w (by simpa using hw)) ⟨.bl _,H,I,rfl,?_⟩;rw[show ar.toArray.any (yo s.heap dx)=ar.any (yo s.heap dx) by simp,U5 q1];exact q
end
theorem xP{X:Cx}(hu:X.A.units+64<cLine):eZ X (jx .NotEq) (λx y H Q=>∃a b xs,x=.ref a/\y=.ref b/\H a=a_ (.lst xs)/\H b=a_ (.lst [])/\Q (.bl (!decide (xs=[]))) H):=by
 intro p_ s σ H x y v u Q I rx ry h;obtain⟨a,b,xs,rfl,rfl,ha,hb,q⟩:=h
 by_cases e:xs=[]
 ·subst e;refine Vv hu p_ s σ H _ _ v u Q I rx ry ⟨.list [],.list [],.lst (av.of ha) .nil,.lst (av.of hb) .nil,qc,qc,by simp[noMix,noMixAll],?_⟩;have e1:same (.list []) (.list [])=true:=by simp[same,sameAll]
  rw[if_pos rfl,e1];exact q
 ·cases rx;cases ry;obtain⟨z,ar,n,r,hl,e1⟩:=I.qW ha;obtain⟨z2,wF,n2,r2,xb,e2⟩:=I.qW hb;rw[decide_eq_false e]at q;have hz:=tO.mp (by rw[<-xb];rfl);subst hz
  have hs:(ar.toArray.size != ([]:List f_).toArray.size)=true:=by
   rw[bne_iff_ne,dH,<-hl];intro h0;exact e (tO.mp h0)
  show wpAny _ _ (richCompare .NotEq (.ref a) (.ref b)) _ _ s;exact richCompare_meets_room ⟨_,e1,rfl⟩ ⟨_,e2,rfl⟩ F.slot_list_ne F.entry_list_ne (F.args_list_ne_2 _ _) (list_ne_lengthsAt a b _ _ _ _ _ _ _ _ hs) ⟨e1,e2,(by intro z;cases z),⟨.bl c_,H,I,rfl,q⟩⟩ om
end L2
namespace L2
open PySem.W L3
section
variable{X:Cx}{pz:List (e_×Obj)}{σ:St}{H:Hp}{s:g_}{ns:List Int}{kf:Int->Int}{l it sx f:e_}{R:Result->g_->Prop}
def aib(kf:Int->Int)(ns:List Int)(sx:e_)(j:Nat)(h:j_):Prop:=(j=0/\∃c,h.get? sx=a_ (seqObj "list" #[] c))\/
 (0<j/\∃nb vb tb c,h.get? sx=a_ (seqObj "list" #[vb,.int (kf nb) tb] c)/\RelV (.int nb) vb/\nb∈ns/\∀i n,i<j->ns[i]?=a_ n->kf nb<=kf n)
theorem ah'(rv:Vals (ns.map V.int) vs){j:Nat}(e:vs[j]?=a_ v):∃n t,ns[j]?=a_ n/\v=.int n t:=by
 have hl:=rv.length;rw[aP]at hl;have hj:j<vs.length:=(dy.mp e).1;obtain⟨u,e',t,ru⟩:=rv.get (i:=j) (x:=.int ns[j]) (by simp[show j<ns.length by exact wg]);rw[e]at e';cases e';exact⟨ns[j],t,aO (by exact wg),ru⟩
theorem aew(hh:X.A.handled=b_)(hl:av X.K H l (ns.map V.int))(h0:0<ns.length)(ZE:l≠it)
  (turn:∀(n:Int) (u:f_) (pp:List (e_×Obj)) (s:g_),n∈ns->RelV (.int n) u->(∀p∈pz,p∈pp)->Inv X pp σ H s->wpAny (model X.prog X.w) X.A.in1 (call (.ref f) [u]) (EP X pp σ λv H'=>v=.int (kf n)/\H'=H) (λ_ _=>False) s)
  (hR:∀nb vb s',Inv X pz σ H s'->RelV (.int nb) vb->nb∈ns->(∀n∈ns,kf nb<=kf n)->R (.ok (.ret vb)) s') :
  ∀(r j:Nat) (s:g_),ns.length-j=r->j<=ns.length->Inv X pz σ H s->gq X pz H sx->gq X pz H it->sx≠it->s.heap.IsListIter it l j->aib kf ns sx j s.heap->
   codeAny (model X.prog X.w) X.A (.builtin "min.loop" ⟨[.ref it,.ref f,.ref sx],[]⟩) R s:=by
 have Cc:(toString "min" ++ toString ".loop" : String) = "min.loop":=qc;intro r
 induction r with
 | zero=>
  intro j s hr hj I fs fi yA hit hb;have ej:j=ns.length:=li;rcases hb with ⟨z,_⟩ | ⟨_,nb,vb,tb,c,eS,rb,mb,best⟩
  ·lia
  ·obtain⟨vs,rv,pl,hz⟩:=I.list hl;have lv:=rv.length;rw[aP]at lv;have W:=RJ (prog:=X.prog) (w:=X.w) (A:=X.A.in1) hh it l ZE vs.toArray;refine(codeAny_builtin PySem.F.entry_min_loop (?_:wpAny _ _ _ _ _ s));rw[(aaJ PySem.F.plain_min_loop _)];show wpAny _ X.A.in1 (JG (.ref sx) >>= _) _ _ _;refine aq (tS eS rfl (?_:wpAny _ X.A.in1 (tryCatch (pyNext (.ref it)) _ >>= _) _ _ _));refine aq (ID (W.done _ _ _ ⟨by rw[dH,<-lv,<-ej];exact hit,pl.isList⟩ λh' CH C7=>?_));have k1:∀b o,b≠it->s.heap.get? b=a_ o->h'.get? b=a_ o:=λb o n e=>C7 b o (by simpa using n) e;have I1:Inv X pz σ H { s with heap:=h',toks:=CH }:=I.turned k1 fi.1 fi.2.1 fi.2.2.2.1 fi.2.2.2.2.1 fi.2.2.2.2.2;have e1:=k1 sx _ yA eS;show wpAny _ X.A.in1 (updateSeq sx (λ_=>#[]) >>= _) _ _ _;refine aq (QA e1 rfl (aq (zt (aV ?_))));have sb:=Ic h' sx (ow λ_=>(#[]:Array f_));refine hR nb vb _ (I1.turned (h':=_) (t':=CH) (it:=sx) (λb o n e=>(sb.2 b n).trans e) fs.1 fs.2.1 fs.2.2.2.1 fs.2.2.2.2.1 fs.2.2.2.2.2) rb mb λn hn=>?_;obtain⟨i,hi,e⟩:=rS hn;exact best i n (by exact wg) (by rw[<-e];exact aO hi)
 | succ r ih=>
  intro j s hr hj I fs fi yA hit hb;have lt:j<ns.length:=li;obtain⟨vs,rv,pl,hz⟩:=I.list hl;have lv:=rv.length;rw[aP]at lv;have W:=RJ (prog:=X.prog) (w:=X.w) (A:=X.A.in1) hh it l ZE vs.toArray
  have hS:∃xs c,s.heap.get? sx=a_ (seqObj "list" xs c)/\((j=0/\xs=#[])\/(0<j/\∃nb vb tb,xs=#[vb,.int (kf nb) tb]/\RelV (.int nb) vb/\nb∈ns/\∀i n,i<j->ns[i]?=a_ n->kf nb<=kf n)):=by
   rcases hb with ⟨z,c,e⟩ | ⟨z,nb,vb,tb,c,e,q⟩
   ·exact⟨_,c,e,.inl ⟨z,rfl⟩⟩
   ·exact⟨_,c,e,.inr ⟨z,nb,vb,tb,rfl,q⟩⟩
  obtain⟨xs,c,eS,hx⟩:=hS;refine(codeAny_builtin PySem.F.entry_min_loop (?_:wpAny _ _ _ _ _ s));rw[(aaJ PySem.F.plain_min_loop _)];show wpAny _ X.A.in1 (JG (.ref sx) >>= _) _ _ _;refine aq (tS eS rfl (?_:wpAny _ X.A.in1 (tryCatch (pyNext (.ref it)) _ >>= _) _ _ _));refine aq (ID (W.item j _ _ _ (by rw[dH];exact wf) ⟨hit,pl.isList⟩ λv h' CH hP alv C7=>?_));have hv:vs[j]?=a_ v:=by simpa using hP
  obtain⟨n,t,en,rfl⟩:=ah' rv hv;have mn:=b9 en;have k1:∀b o,b≠it->s.heap.get? b=a_ o->h'.get? b=a_ o:=λb o z e=>C7 b o (by simpa using z) e;have I1:Inv X pz σ H { s with heap:=h',toks:=CH }:=I.turned k1 fi.1 fi.2.1 fi.2.2.2.1 fi.2.2.2.2.1 fi.2.2.2.2.2;have e1:=k1 sx _ yA eS;obtain⟨oI,hoI,yJ,OR⟩:=id alv.1
  have P1:Inv X ((pz++[(sx,seqObj "list" xs c)])++[(it,oI)]) σ H { s with heap:=h',toks:=CH }:=by
   have a:=I1.FK fs e1 (λv z=>by cases z);refine a.FK ⟨fi.1,fi.2.1,fi.2.2.1,fi.2.2.2.1,fi.2.2.2.2.1,λp hp=>?_⟩ hoI (λv z=>by rw[OR]at z;cases z);rcases dD.mp hp with z | z
   ·exact fi.2.2.2.2.2 p (nj _ z)
   ·rcases dD.mp z with z | z
    ·exact fi.2.2.2.2.2 p (f6 _ z)
    ·have z':p=(sx,seqObj "list" xs c):=by simpa using z
     rw[z'];exact yA
  show wpAny _ X.A.in1 (tryCatch (holding [ip n t] (call (.ref f) [ip n t])) _ >>= _) _ _ _;refine aq (ID (lE (gf (turn n _ _ _ mn ⟨t,rfl⟩ (λp hp=>nj _ (nj _ hp)) P1) (λw s2 hw=>?_) λ_ _ z=>z.elim)));obtain⟨v2,H2,J,r2,rfl,rfl⟩:=hw;obtain⟨t2,rfl⟩:=r2;have I2:=J.vH λp hp=>J.pin p (f6 _ (nj _ (nj _ hp)));have e2:=(J.pin (sx,seqObj "list" xs c) (f6 _ (nj _ (f6 _ (by simp))))).1;have i2:=(J.pin (it,oI) (f6 _ (f6 _ (by simp)))).1
  have wr:∀(tk:Nat),(∀i m,i<j->ns[i]?=a_ m->kf n<=kf m)->codeAny (model X.prog X.w) X.A (.builtin "min.loop" ⟨[.ref it,.ref f,.ref sx],[]⟩) R { s2 with heap:=s2.heap.update sx (ow λ_=>#[.int n t,.int (kf n) t2]),toks:=tk }:=λtk aki=>by
   have sb:=Ic s2.heap sx (ow λ_=>#[ip n t,ip (kf n) t2]);have I3:Inv X pz σ H2 { s2 with heap:=s2.heap.update sx (ow λ_=>#[.int n t,.int (kf n) t2]),toks:=tk }:=I2.turned (it:=sx) (λb o z e=>(sb.2 b z).trans e) fs.1 fs.2.1 fs.2.2.2.1 fs.2.2.2.2.1 fs.2.2.2.2.2;refine ih (j+1) _ om (by exact xf) I3 fs fi yA ⟨oI,(sb.2 it (dW yA)).trans i2,yJ,OR⟩ (.inr ⟨DU _,n,_,t2,_,DI e2 λ_=>#[.int n t,.int (kf n) t2],⟨t,rfl⟩,mn,λi m hi em=>?_⟩)
   by_cases z:i=j
   ·subst z;rw[en]at em;cases em;exact Jd _
   ·exact aki i m li em
  rcases hx with ⟨z,rfl⟩ | ⟨z,nb,vb,tb,rfl,rb,mb,best⟩
  ·show wpAny _ X.A.in1 (updateSeq sx (λ_=>#[.int n t,.int (kf n) t2]) >>= _) _ _ _;refine aq (QA e2 rfl ?_);rw[Cc];exact aV ⟨IJ PySem.F.plain_min_loop _,wr s2.toks λi m hi _=>absurd hi li⟩
  ·show wpAny _ X.A.in1 (tryCatch (holding [.int n t,.int (kf n) t2] (richCompare .Lt (.int (kf n) t2) (.int (kf nb) tb) >>= _)) _ >>= _) _ _ _;refine aq (ID (lE (aq (lt_int (?_:wpAny _ _ _ _ _ _)))));refine aq (lE (qw (aq (zt (aV ?_)))))
   by_cases dJ:kf n<kf nb
   ·simp only[dJ,decide_true,if_true];refine aq (QA e2 rfl (aq (zt ?_)));rw[Cc];refine aV ⟨IJ PySem.F.plain_min_loop _,wr s2.toks λi m hi em=>?_⟩;have:=best i m hi em;lia
   ·simp only[dJ,decide_false,DB,if_false];refine aq (zt ?_);rw[Cc];refine aV ⟨IJ PySem.F.plain_min_loop _,ih (j+1) _ li (by exact xf) I2 fs fi yA ⟨oI,i2,yJ,OR⟩ (.inr ⟨DU _,nb,vb,tb,c,e2,rb,mb,λi m hi em=>?_⟩)⟩
    by_cases z2:i=j
    ·subst z2;rw[en]at em;cases em;lia
    ·exact best i m li em
end
section
variable{X:Cx}{p_:List (e_×Obj)}{σ:St}{H:Hp}{s:g_}{ns:List Int}{kf:Int->Int}{l f:e_}
theorem aex(I:Inv X pz σ H s)(hh:X.A.handled=b_)(hl:av X.K H l (ns.map V.int))(h0:0<ns.length)
  (turn:∀(n:Int) (u:f_) (pp:List (e_×Obj)) (s:g_),n∈ns->RelV (.int n) u->(∀p∈pz,p∈pp)->Inv X pp σ H s->wpAny (model X.prog X.w) X.A.in1 (call (.ref f) [u]) (EP X pp σ λv H'=>v=.int (kf n)/\H'=H) (λ_ _=>False) s)
  (q:∀m∈ns,(∀n∈ns,kf m<=kf n)->Q (.int m) H):wpAny (model X.prog X.w) X.A (call (.builtin "min") [.ref l] [(gc "key",.ref f)]) (EP X pz σ Q) E s:=by
 have Cc:(toString "min" ++ toString ".loop" : String) = "min.loop":=qc;obtain⟨vs,rv,pl,hz⟩:=I.list hl
 have ZD:l<s.heap.objs.size:=by
  obtain⟨o,e,_⟩:=pl.isList;exact cx e
 refine kmk_tree PySem.F.kind_min PySem.F.plain_min PySem.F.entry_min (kmk_min_key _ _) (?_:wpAny _ X.A.in1 (aag "min" ["key","default"] 0 ⟨[],[(gc "key",.ref f)]⟩ >>= _) _ _ s);refine aq (wpAny_of_eq (rfl:aag "min" ["key","default"] 0 ⟨[],[(gc "key",.ref f)]⟩=pure [a_ (.ref f),b_]) (aq (aV (aq (Ig pl.isList (aq (II ?_ (bg _))))))));rw[Cc];have z1:(s.heap.push { cls:=.type "list_iterator",data:=.fields #[.ref l,.int 0 0] }).objs.size=s.heap.objs.size+1:=pF _ _;have hI:=I.aH.fresh (aI _);have hS:H (s.heap.push { cls:=.type "list_iterator",data:=.fields #[.ref l,.int 0 0] }).objs.size=none:=I.aH.fresh (by rw[z1];exact jv _);refine aV ⟨IJ PySem.F.plain_min_loop _,?_⟩;have I1:Inv X pz σ H { s with heap:=(s.heap.push { cls:=.type "list_iterator",data:=.fields #[.ref l,.int 0 0] }).push (seqObj "list" #[] 0) }:=I.kept (t':=s.toks) λb o e=>bo _ (bo _ e)
 refine aew (kf:=kf) (pz:=pz) (σ:=σ) hh hl h0 (eM ZD) turn (λnb vb s' J rb mb best=>?_) (ns.length-0) 0 _ rfl (bg _) I1 (I.iz (by rw[z1];exact jv _) hS) (I.iz (aI _) hI) (by rw[z1];exact Ip _)
  ⟨_,bo _ (gw _ rfl),rfl,rfl⟩ (.inl ⟨rfl,0,gw _ rfl⟩)
 exact⟨.int nb,H,J,rb,q nb mb best⟩
def W0(B:V->Hp->Prop):List V->Hp->Prop:=λvs H=>match vs with | [x]=>B x H | _=>False
theorem afN{B:V->Hp->Prop}:∀{vs:List V} {H:Hp},W0 B vs H->∃x,vs=[x]/\B x H
 | [x],_,h=>⟨x,rfl,h⟩
 | [],_,h=>h.elim
 | _::_::_,_,h=>h.elim
def afm(K:u_)(P:e_)(Al:Pos)(qual:Str)(tl te:TE)(idx:List Nat)(n k:Nat):TE:=λσ H Q=>tl σ H λx H1=>∃(a:e_) (ns:List Int) (kf:Int->Int),x=.ref a/\av K H1 a (ns.map V.int)/\0<ns.length/\dg P Al qual H1/\
 ∀H2,wc P H1 H2->dg P Al qual H2->av K H2 a (ns.map V.int)/\(∀m∈ns,te ((lO idx n σ).set k (a_ (.int m))) H2 λv H'=>v=.int (kf m)/\H'=H2)/\∀m∈ns,(∀n∈ns,kf m<=kf n)->Q (.int m) H2
theorem acM{sc:i_}{idx:List Nat}{k:Nat}{params:Arguments}{le body:Expr}{c P:e_}(hc:X.calm=c_)(ZA:X.A.depth+5<DP)(hg:Gl X "min")(hm:X.mg "min" = b_)(hl:PE X le tl)(S:ee X sc N idx)
  (FA:X.env.code=.ref c) (C:CodeHd X.base c P) (B:uz X.mg X.base) (hk:N[k]?=a_ px) (lg:sc.names.lookup px=a_ .local) (hi:idx.length<=k) (hb:∀A qual f cd s H,PE (Gx X A sc N qual f cd s H) body te)
  (Cd:∀(qual:Str) (cl:List (Str×e_)) (pm cd qt u:f_),vD (kla_fn "<lambda>" qual params body sc cl pm cd qt) ⟨[u],[]⟩=pure [(px,u)]) (NR:defaultsOf params X.env=([],[]):=by rfl) (Pc:sc.isCoroutine=false:=by rfl) (NQ:sc.isGenerator=false:=by rfl)
  (he:backTo pos (cJ [le] X.env)=(d_,eval le X.env)::backTo pos (cJ [] X.env):=by rfl) (ff:(backTo pos (cJ [le] X.env)).any (·.1)=false:=by rfl) (hs:cJ [le] X.env=(d_,eval le X.env)::cJ [] X.env:=by rfl) :
  PE X (.Call (.Name "min" p) [le] [⟨a_ "key",.Lambda params body sc Al,ale⟩] pos) (afm X.K P Al (X.env.qual ++ "<lambda>") tl te idx N.length k):=by
 intro p_ s σ H Q I h;refine xw (vU I hg hm (show vw "min" = a_ (.builtin "min") from boot_min) ?_ qc qc)
 refine callWith_kw (aU (ae (X:=X) hl af hs pos p_ s σ H (W0 λx H1=>∃(a:e_) (ns:List Int) (kf:Int->Int),x=.ref a/\av X.K H1 a (ns.map V.int)/\0<ns.length/\dg P Al (X.env.qual ++ "<lambda>") H1/\
  ∀H2,wc P H1 H2->dg P Al (X.env.qual ++ "<lambda>") H2->av X.K H2 a (ns.map V.int)/\(∀m∈ns,te ((lO idx N.length σ).set k (a_ (.int m))) H2 λv H'=>v=.int (kf m)/\H'=H2)/\∀m∈ns,(∀n∈ns,kf m<=kf n)->Q (.int m) H2) I h) λus s1 ⟨vs,H1,I1,rv,q1⟩=>?_) he ff rfl rfl
 obtain⟨x,rfl,a,ns,kf,rfl,hL,h0,wG,hq⟩:=afN q1;obtain⟨u,rfl,ru⟩:=vals1 rv;cases ru;refine kws_cons (aeB I1 S FA C B NR wG λf c' H2 pm qt s2 I2 sm wD C9=>kws_nil ?_);obtain⟨qp,hte,hQ⟩:=hq H2 sm wD;have hh:=I.ok.hd hc;refine NZ (aex (kf:=kf) (f:=f) I2 hh qp h0 (λn u pp s3 hn ru hp I3=>?_) λm hm hb=>hQ m hm hb) λw s4 v H4 I4 r4 q4=>⟨v,H4,I4.Ei,r4,q4⟩;refine aeC (A:=X.A.in1) (v:=.int n) I3 S I3.ok.frames hh (by show X.A.depth<_;lia) hk lg hi ru (I3.pin _ (f6 _ (hp _ (f6 _ f9)))).1 (I3.aH c' _ C9).1 (Cd _ _ _ _ _ _) Pc NQ (hb _ _ _ _ _ _) (hte n hn)
end
end L2
namespace L2
open L3
section
variable{X:Cx}{k:Nat}{f C:e_}{fd:jz}{ps:List Str}{sp:Sp}{dvs:List V}{ds:List f_}{W:WX}{x m:Str}{p pos apos:Pos}{e o:Expr}{es:List Expr}{ta:TE}{t:TA}{P:l_}{w:k_}
end
structure wB(K:u_)(x qual:Str)(st:Stmt)(f:e_)(fd:jz)(c:e_):Prop where
 ex:∃(oc:f_) (od:Option e_) (kV doc pm:f_) (an:Option e_) (ct:f_) (i5:Array (Option f_)),fd=B_ x qual (mm st) (jB st) (aW st) .none kV doc pm an (.ref c) ct/\K.lookup f=a_ ⟨oc,od,.func fd,i5⟩/\PySem.W.codeIn K (.ref c) qual=c_
 kp:x_ K (.ref f)=c_
theorem agq{K:u_}{st:Stmt}{od an:Option e_}{i5:Array (Option f_)}{kV doc pm ct:f_}(l:K.lookup f=a_ ⟨oc,od,.func (B_ x qual (mm st) (jB st) (aW st) .none kV doc pm an (.ref c) ct),i5⟩)
  (c1:PySem.W.codeIn K (.ref c) qual=c_) (k:x_ K (.ref f)=c_):wB K x qual st f (B_ x qual (mm st) (jB st) (aW st) .none kV doc pm an (.ref c) ct) c:=⟨⟨oc,od,kV,doc,pm,an,ct,i5,rfl,l,c1⟩,k⟩
section
variable{P:l_}{w:k_}{K:u_}{mg:Str->Option f_}{base:j_}
theorem wB.ok{st:Stmt}{k:Nat}{sp:Sp}(F:wB K x qual st f fd c)(S:bp N ps (aW st))
  (uv:∀(A:h_) (outer:List Env) (s:g_) (H:Hp) (vs:List V) (Q:VK) (E:XK),eV k (A.deeper (envOfC qual (aW st) s.heap.objs.size f (.ref c)))->sp vs H Q E->
   ∃t,fJ (p0 aB P w K mg base N qual (aW st) f (.ref c) A outer s H E).wK (jB st) t/\t { nx:=λ_ H'=>Q .aG H',rt:=Q } (start N vs) H) (len:∀vs H Q E,sp vs H Q E->vs.length=ps.length:=by intro _ _ _ _ h;(repeat obtain⟨_,h⟩:=h);subst_vars;rfl):ay P w K mg base aB (k+1) f fd ps sp:=by
 refine jh F.ex λoc od kV doc pm aa=>iY aa λan ct i5 aa lk gv=>?_;subst aa;exact v7 lk gv S len λA outer s H vs Q E hr qi=>aw (uv A outer s H vs Q E hr qi) λt h q=>au t h.wK q
theorem wB.fun{st:Stmt}(F:wB K x qual st f fd c):aY K x qual st f fd:=by
 exact jh F.ex λoc od kV doc pm aa=>iY aa λan ct i5 e lk gv=>⟨⟨oc,od,kV,doc,pm,an,_,ct,i5,e,lk,gv⟩,F.kp⟩
end
end L2
namespace L2
open PySem.W
theorem abA{ps:List (Int×V)}(h:Fb (ps.map (·.2)) (λi=>(ps.map (·.1)).getD i 0) zs):∃qs:List (Int×V),qs.Perm ps/\qs.Pairwise (λa b=>a.1<b.1)/\zs=qs.map (·.2):=by
 obtain⟨p,g,ri,rfl⟩:=h;rw[aP]at g ri;have hlen:=Jv g;have gp:=HR.mp g
 have er:(List.range ps.length).map (λi=>ps.getD i (0,.aG))=ps:=by
  apply Iv
  ·simp
  ·intro i h1 h2;simp[h2]
 refine⟨p.toList.map λi=>ps.getD i (0,.aG),?_,?_,?_⟩
 ·have:=gp.map λi=>ps.getD i (0,.aG);simp only[aaN]at this;rw[er]at this;exact this
 ·rw[jd];intro i j hi hj nh;rw[aP]at hi hj;have:=ri i j nh wf;unfold rk at this;have hsz:=g.size;simp only[xC,Array.getElem_toList];have e:∀k (hk:k<p.size),p.getD k 0=p[k]:=λk hk=>by simp[D6,hk]
  rw[e i om,e j om]at this;have e2:∀k,k<ps.length->(ps.map (·.1)).getD k 0=(ps.getD k (0,.aG)).1:=λk hk=>by simp[hk]
  have lt:∀k (hk:k<p.size),p[k]<ps.length:=λk hk=>by
   have:=g.lt (k:=k) wf;rw[e k hk]at this;exact this
  dsimp only at this;rw[e2 _ (lt i om),e2 _ (lt j om)]at this;exact this
 ·rw[tT];refine Qf λi hi=>?_
  have hl:i<ps.length:=by
   have:=gp.mem_iff.mp hi;simpa using this
  simp[hl]
section
variable{X:Cx}
theorem abS(M:Model)(h:j_)(i:Int)(t:Tok):Looks M h (typeOf (.int i t)) (.type "int"):=Looks.of_pure rfl
end
def Asc(xs:Array Nat):Prop:=xs.toList.Pairwise (· < ·)
structure amM(led:Bool)(t:SetTable):Prop where
 dum:t.dummies=#[]
 led:t.led=led
 asc:t.plain=c_->Asc t.place
section
variable{P:l_}{w:k_}{A:h_}{E:f_->g_->Prop}{s:g_}{a:e_}{ns:List Int}
end
section
variable{P:l_}{w:k_}{A:h_}{E:f_->g_->Prop}{s:g_}
set_option maxHeartbeats 6000000 in
end
namespace SF
end SF
section
variable{M:Model}{A:h_}{E:f_->g_->Prop}{s:g_}
end
section
variable{P:l_}{w:k_}{A:h_}{E:f_->g_->Prop}{s:g_}{it a:e_}{ord:List Int}{i:Nat}
end
section
variable{P:l_}{w:k_}{A:h_}{E:f_->g_->Prop}{s:g_}{it a:e_}{ord:List Int}{i:Nat}
end
section
variable{P:l_}{w:k_}{A:h_}{E:f_->g_->Prop}{s:g_}{a:e_}{ns:List Int}
end
section
variable{X:Cx}
end
end L2
namespace TL
open L2 L3
variable{P:l_}{w:k_}{K:u_}{mg:Str->Option f_}{base:j_}
structure Ent where
 (t n num d:Int)
 deriving DecidableEq
def cw(es:List Ent)(i:Nat):List Ent:=es.filter λe=>decide (e.n=(i:Int))
def kj(H:Hp)(v:V)(e:Ent):Prop:=∃p s,v=.ref p/\H p=a_ (.tup [.int e.t,.ref s])/\H s=a_ (.tup [.int e.n,.int e.num,.int e.d])
def GU(H:Hp)(b:e_)(es:List Ent):Prop:=∃vs,H b=a_ (.lst vs)/\Paired (kj H) vs es
def Vd:List Str:=["add","latest","fronts","take","is_empty","listed","twin"]
structure kY(tn:Int)(es:List Ent):Prop where
 asc:es.Pairwise λx y=>x.t<y.t
 nm:∀e∈es,0<=e.n/\e.n<12
 lt:∀e∈es,e.t<tn
structure dP(H:Hp)(a C:e_)(kd:Str)(tn:Int)(es:List Ent)(q:e_)(qr:List e_):Prop where
 obj:∃dx fs,H a=a_ (.ins C dx fs)/\fs.lookup ("kind" : Str)=a_ (V.str kd)/\fs.lookup ("turn" : Str)=a_ (V.int tn)/\fs.lookup ("queues" : Str)=a_ (V.ref q)/\(∀m∈Vd,fs.lookup m=b_)/\fs.length<=20
 qs:H q=a_ (.lst (qr.map V.ref))
 len:qr.length=12
 nd:qr.Nodup
 nq:q∉qr
 kn:∀i b,qr[i]?=a_ b->GU H b (cw es i)
 wf:kY tn es
structure gQ(F:List e_)(H H':Hp):Prop where
 k:∀b o,b∉F->(∀ps,o≠.fu ps)->H b=a_ o->H' b=a_ o
 t:∀b,H' b=b_->H b=b_
theorem gQ.of(s:ak H H'):gQ F H H':=⟨λb o _ _ e=>s b o e,λb h=>s.free h⟩
theorem gQ.trans(a:gQ F H H1)(b:gQ F H1 H2):gQ F H H2:=⟨λc o h1 h2 e=>b.k c o h1 h2 (a.k c o h1 h2 e),λc h=>a.t c (b.t c h)⟩
theorem gQ.X'{P:e_}{ps Hf:Array f_}(s:wc P H H')(hP:H P=a_ (.fu ps))(Ph:H' P=a_ (.fu Hf)):gQ [] H H':=
 ⟨λb o _ n e=>s b o (λz=>by rw[z,hP]at e;cases e;exact n ps rfl) e,λb h=>by
  cases e:H b with
  | none=>rfl
  | some o=>
   by_cases z:b=P
   ·rw[z,Ph]at h;cases h
   ·rw[s b o z e]at h;cases h⟩
theorem Br{P:e_}{pos:Pos}{qual:Str}{F:List e_}{H H':Hp}(h:dg P pos qual H)(k:∀b o,b∉F->H b=a_ o->H' b=a_ o)(hF:∀b∈F,∀o,H b=a_ o->(∃C dx fs,o=.ins C dx fs)\/∃xs,o=.lst xs):dg P pos qual H':=by
 refine aw h λps hP hc=>?_
 have nP:P∉F:=λz=>by
  rcases hF P z _ hP with ⟨_,_,_,e⟩ | ⟨_,e⟩ <;> cases e
 refine au ps (k P _ nP hP) ?_;rcases hc with e | ⟨c,e,hc⟩
 ·exact .inl e
 ·refine .inr (au c e (k c _ (λz=>?_) hc));rcases hF c z _ hc with ⟨_,_,_,e⟩ | ⟨_,e⟩ <;> cases e
theorem lF{P:e_}{pos:Pos}{qual:Str}{H H':Hp}(h:dg P pos qual H)(k:ak H H'):dg P pos qual H':=Br (F:=[]) h (λb o _ e=>k b o e) λb hb=>nomatch hb
theorem kj.keep{F:List e_}(h:kj H v e)(k:∀b xs,H b=a_ (.tup xs)->H' b=a_ (.tup xs)):kj H' v e:=let ⟨p,s,e1,e2,e3⟩:=h;⟨p,s,e1,k _ _ e2,k _ _ e3⟩
theorem xR{α β:Type}{F G:α->β->Prop}(f:∀a b,F a b->G a b):∀{l:List α} {r:List β},Paired F l r->Paired G l r
 | _,_,.nil=>.nil
 | _,_,.cons h t=>.cons (f _ _ h) (xR f t)
theorem GU.keep(h:GU H b es)(kb:∀o,H b=a_ o->H' b=a_ o)(k:∀b xs,H b=a_ (.tup xs)->H' b=a_ (.tup xs)):GU H' b es:=let ⟨vs,e,r⟩:=h;⟨vs,kb _ e,xR (λ_ _ z=>z.keep (F:=[]) k) r⟩
theorem dP.keep{tn:Int}(T:dP H a C kd tn es q qr)(k:∀b∈a::q::qr,∀o,H b=a_ o->H' b=a_ o)(kt:∀b xs,H b=a_ (.tup xs)->H' b=a_ (.tup xs)):dP H' a C kd tn es q qr:=by
 obtain⟨⟨dx,fs,e,r⟩,qs,len,nd,nq,kn,wf⟩:=T;exact⟨⟨dx,fs,k a (by simp) _ e,r⟩,k q (by simp) _ qs,len,nd,nq,λi b hb=>(kn i b hb).keep (λo=>k b (by simp[b9 hb]) o) kt,wf⟩
theorem dP.ai'{tn:Int}(T:dP H a C kd tn es q qr)(k:gQ F H H')(hF:∀b∈F,b∉a::q::qr)(hT:∀b∈F,∀xs,H b≠a_ (.tup xs)):dP H' a C kd tn es q qr:=by
 refine T.keep (λb hb o e=>k.k b o (λz=>hF b z hb) (λps z=>?_) e) λb xs e=>k.k b _ (λz=>hT b z xs e) (λps z=>by cases z) e;subst z;rcases bw.mp hb with z | z
 ·refine bX T.obj λdx fs e' _=>?_;rw[z,e']at e;cases e
 ·rcases bw.mp z with z | z
  ·rw[z,T.qs]at e;cases e
  ·refine oE (rS z) λi oY=>oE oY λhi ez=>?_;obtain⟨vs,e',_⟩:=T.kn i b (by rw[<-ez];exact aO hi);rw[e']at e;cases e
theorem dP.uk{tn:Int}(T:dP H a C kd tn es q qr)(k:gQ [] H H'):dP H' a C kd tn es q qr:=T.ai' k (λb hb=>nomatch hb) λb hb=>nomatch hb
theorem dP.kinds{tn:Int}(T:dP H a C kd tn es q qr):∀b∈a::q::qr,∀o,H b=a_ o->(∃C dx fs,o=.ins C dx fs)\/∃xs,o=.lst xs:=λb hb o e=>by
 rcases bw.mp hb with z | z
 ·refine bX T.obj λdx fs e' _=>?_;rw[z,e']at e;cases e;exact .inl (⟨_,_,_,rfl⟩)
 ·rcases bw.mp z with z | z
  ·rw[z,T.qs]at e;cases e;exact .inr ⟨_,rfl⟩
  ·refine oE (rS z) λi oY=>oE oY λhi ez=>?_;obtain⟨vs,e',_⟩:=T.kn i b (by rw[<-ez];exact aO hi);rw[e']at e;cases e;exact .inr ⟨_,rfl⟩
theorem dP.there{tn:Int}(T:dP H a C kd tn es q qr):∀b∈a::q::qr,∃o,H b=a_ o:=λb hb=>by
 rcases bw.mp hb with z | z
 ·exact bX T.obj λdx fs e' _=>⟨_,by rw[z];exact e'⟩
 ·rcases bw.mp z with z | z
  ·exact⟨_,by rw[z];exact T.qs⟩
  ·refine oE (rS z) λi oY=>oE oY λhi ez=>?_;obtain⟨vs,e',_⟩:=T.kn i b (by rw[<-ez];exact aO hi);exact⟨_,e'⟩
def zR(es:List Ent)(i:Nat):Option Ent:=(cw es i).getLast?
def my(es:List Ent):List Int:=((List.range 12).filter λi=>decide (cw es i≠[])).map λ(i:Nat)=>(i:Int)
def iq(kd:Str)(es:List Ent):List Int:=if kd = "row" then (es.head?.map (·.n)).toList else my es
def jk(es:List Ent)(n:Int):List Ent:=es.eraseP λe=>decide (e.n=n)
theorem afH(i:Nat):cw [] i=[]:=rfl
theorem Ut(es:List Ent)(e:Ent)(i:Nat):cw (es++[e]) i=if e.n=(i:Int) then cw es i++[e] else cw es i:=by
 unfold cw;rw[yZ]
 by_cases h:e.n=(i:Int)
 ·rw[if_pos h];simp[h]
 ·rw[if_neg h];simp[h]
theorem zD{n:Int}:n∈my es↔∃i:Nat,i<12/\n=i/\cw es i≠[]:=by
 unfold my;rw[jT];constructor
 ·rintro⟨i,hi,rfl⟩;rw[pC,lZ]at hi;exact cD i hi.1 rfl (by simpa using hi.2)
 ·rintro⟨i,h1,rfl,h2⟩;exact au i (by rw[pC,lZ];exact⟨h1,by simpa using h2⟩) rfl
theorem Tw{i:Nat}(h:es.head?=a_ e)(hi:e.n=(i:Int)):(cw es i).head?=a_ e:=by
 cases es with
 | nil=>cases h
 | cons x r=>
  cases h;unfold cw;rw[y8,if_pos (by simpa using hi)];rfl
theorem agG{tn:Int}{n num d:Int}(w:kY tn es)(h0:0<=n)(h1:n<12):kY (tn+1) (es++[⟨tn,n,num,d⟩]):=by
 refine⟨lX.mpr ⟨w.asc,P0 _ _,λx hx y hy=>?_⟩,λe he=>?_,λe he=>?_⟩
 ·rw[f7.mp hy];exact w.lt x hx
 ·rcases dD.mp he with z | z
  ·exact w.nm e z
  ·rw[f7.mp z];exact⟨h0,h1⟩
 ·rcases dD.mp he with z | z
  ·have:=w.lt e z;lia
  ·rw[f7.mp z];show tn<tn+1;lia
theorem afh{tn:Int}(w:kY tn es)(n:Int):kY tn (jk es n):=by
 have sub:(jk es n).Sublist es:=List.eraseP_sublist;exact⟨w.asc.sublist sub,λe he=>w.nm e (sub.subset he),λe he=>w.lt e (sub.subset he)⟩
theorem ad0(es:List Ent)(n:Int)(i:Nat):cw (jk es n) i=if n=(i:Int) then (cw es i).tail else cw es i:=by
 induction es with
 | nil=>unfold jk cw;simp
 | cons e r ih=>
  unfold jk at ih ⊢;rw[List.eraseP_cons]
  by_cases h:e.n=n
  ·rw[decide_eq_true h,cond_true];unfold cw
   by_cases hi:n=(i:Int)
   ·rw[if_pos hi,y8,if_pos (by simpa using h.trans hi)];rfl
   ·rw[if_neg hi,y8,if_neg (by simpa using λz:e.n=(i:Int)=>hi (h.symm.trans z))]
  ·rw[decide_eq_false h,cond_false];unfold cw at ih ⊢;rw[y8,y8]
   by_cases he:e.n=(i:Int)
   ·have CZ:¬n=(i:Int):=λz=>h (he.trans z.symm);rw[if_neg CZ]at ih;simp only[decide_eq_true he,if_true];rw[if_neg CZ,ih]
   ·simp only[decide_eq_false he,DB,if_false];rw[ih]
structure BT(mg:Str->Option f_):Prop where
 jI:mg "isinstance" = b_
 int:mg "int" = b_
 bool:mg "bool" = b_
 str:mg "str" = b_
 len:mg "len" = b_
 all:mg "all" = b_
 range:mg "range" = b_
 enum:mg "enumerate" = b_
 min:mg "min" = b_
 sorted:mg "sorted" = b_
structure mz(K:u_)(C:e_):Prop where
 cl:eX K C
 kind:bu K C "kind"
 turn:bu K C "turn"
 vP:bu K C "queues"
def SX:Sp:=λvs H Q _=>∃v T,vs=[v]/\tyName H v=a_ T/\Q (.bl (q9 v)) H
theorem adR:bp ["thing"] ["thing"] (aW Kr):=bJ
theorem acP(F:aY K "is_whole" "is_whole" Kr f fd)(B:BT mg):ay P w K mg base aB 1 f fd ["thing"] SX:=by
 refine F.ok adR λaM A _ s H vs Q E hr h=>?_
 ·refine dv h λv T aa ht k=>?_;clear h;subst aa;refine⟨_,aF (bj (Lx (bG jy rfl B.jI iU (ae (pv 0) (ae (nA (v:=.ty "int") rfl B.int boot_int rfl) af))) (EY (Lw (bG jy rfl B.jI iU (ae (pv 0) (ae (nA (v:=.ty "bool") rfl B.bool boot_bool rfl) af))))))),?_⟩;have e:=VL ht;refine au v rfl (dZ _ _ _ _ (dX _ rfl (nR ht) rfl (nM ht qc) (au _ rfl (Nq (λh1=>?_) λh1=>?_))))
  ·refine au v rfl (dZ _ _ _ _ (dX _ rfl (nR ht) rfl (nM ht qc) (au _ rfl ?_)));rw[h1,DS]at e;rw[e];exact k
  ·rw[h1,DQ]at e;rw[e];exact k
def WR(C:e_):Sp:=λvs H Q _=>∃x dx kd,vs=[.ref x,.str kd]/\H x=a_ (.ins C dx [])/\∀H' q qr,dP H' x C kd 0 [] q qr->(∀b o,b≠x->H b=a_ o->H' b=a_ o)->(∀b∈q::qr,H b=b_)->Q .aG H'
theorem akI:bp ["self","kind"] ["self","kind"] (aW Gr):=bJ
theorem af9:(["name"]:List Str).Nodup:=dk
theorem ai9(f:Str)(u:V):(aQ f u []).length<1000:=by
 have h1:=sh f u [];have h3:([]:List (Str×V)).length=0:=rfl;exact wb
theorem ai8(f g:Str)(u v:V):(aQ f u (aQ g v [])).length<1000:=by
 have h1:=sh f u (aQ g v []);have h2:=sh g v [];have h3:([]:List (Str×V)).length=0:=rfl;exact xi
theorem T5:∀m∈Vd,¬m = "kind"/\¬m = "turn"/\¬m = "queues":=dk
theorem rh(kd:Str)(q:e_):(aQ "queues" (.ref q) (aQ "turn" (.int 0) (aQ "kind" (.str kd) [])))=[(("kind" : Str),V.str kd),(("turn" : Str),V.int 0),(("queues" : Str),V.ref q)]:=by
 have n1:¬("kind" : Str) = "turn":=dk;have n2:¬("kind" : Str) = "queues":=dk;have n3:¬("turn" : Str) = "queues":=dk;simp only[aQ,n1,n2,n3,if_false]
theorem aiT(F:aY K "__init__" "Tray.__init__" Gr f fd)(B:BT mg)(cT:mz K C)(mN:∃u,mg "NAMES" = a_ u/\RelV (.int 12) u):ay P w K mg base aB 1 f fd ["self","kind"] (WR C):=by
 refine aw mN λuN mN rN=>F.ok akI λaM A _ s H vs Q E hr h=>?_
 ·refine iY h λx dx kd aa hx k=>?_;clear h;subst aa
  refine let R1:TS:=_;let R2:TS:=_;⟨_,aE (gI (pv 0) (pv 1) rfl) (pR R2 (aE (gI (pv 0) aA rfl) (pR R1 (aF (gI (pv 0) (jA (N:=["name"]) (idx:=[]) rfl (ee.of (by kernel_rfl)) (jU (bg _))
   (kG rfl B.range (ae (fQ rfl mN rN) af)) (λ_ _ _ _=>cG (i:=0) af9 rfl (aX rfl) (.inr rfl)) (λ_ _ _ _=>jW) λ_ _ _ _=>fk af) rfl))))),?_⟩
  refine vr rfl (vr rfl (md x C dx ([]) rfl hx cT.cl cT.kind qc (au _ rfl (⟨x,C,dx,(kJ _ rfl ax cT.cl cT.turn (ai9 _ _) ?_)⟩))));rw[oz];refine kL 12 rfl qc qc ?_;generalize yP:upd H x (.ins C dx (aQ "turn" (.int 0) (aQ "kind" (.str kd) [])))=H1;have gu:H1 x=a_ (.ins C dx (aQ "turn" (.int 0) (aQ "kind" (.str kd) []))):=by rw[<-yP];exact ax
  have n1:∀b,H1 b=b_->H b=none:=λb e=>by
   rw[<-yP]at e
   by_cases z:b=x
   ·rw[z,ax]at e;cases e
   ·rwa[ao z]at e
  refine iH (n:=12) (λi ys H'=>∃qr:List e_,ys=qr.map V.ref/\qr.length=i/\qr.Nodup/\(∀b∈qr,H' b=a_ (.lst [])/\H1 b=b_)/\ak H1 H') qc ⟨[],rfl,rfl,.nil,(λb hb=>nomatch hb),ak.refl _⟩ ?_ ?_ ?_ ?_ ?_
  ·rintro i ys H' ⟨qr,rfl,hl,_⟩;rw[aP,hl];exact aI _
  ·rintro i ys H' hi _;exact hi
  ·rintro ys H' _;exact aI _
  ·rintro i ys H' hi ⟨qr,rfl,hl,nd,hq,sm⟩ y lh ⟨eH,ey⟩;subst eH;dsimp only[kg,oK];rw[if_pos rfl];refine⟨qc,λp hp=>⟨qr++[p],by simp,by simp[hl],?_,λb hb=>?_,aN sm hp⟩⟩
   ·refine vt.mpr (dj nd (by simp) λb hb c hc=>?_);rw[f7.mp hc];exact cg (hq b hb).1 hp
   ·rcases dD.mp hb with z | z
    ·exact⟨by rw[ao (cg (hq b z).1 hp)];exact(hq b z).1,(hq b z).2⟩
    ·rw[f7.mp z];refine⟨ax,?_⟩;cases e:H1 p with
     | none=>rfl
     | some o=>rw[sm _ _ e]at hp;cases hp
  ·rintro ys H' ⟨qr,rfl,hl,nd,hq,sm⟩;refine⟨by rw[aP,hl];decide,λq AM=>?_⟩;have nx:=cg (sm _ _ gu) AM;refine vr rfl (⟨x,C,dx,(kJ _ rfl (by rw[ao nx];exact sm _ _ gu) cT.cl cT.vP (ai8 _ _ _ _) ?_)⟩);have Au:q∉qr:=λz=>by rw[(hq q z).1]at AM;cases AM
   have xqr:x∉qr:=λz=>by have:=(hq x z).2;rw[gu]at this;cases this
   refine k _ q qr ⟨⟨dx,_,ax,?_,?_,?_,?_,?_⟩,by rw[ao (dW nx),ax],hl,nd,Au,λi b hb=>⟨[],?_,by rw[afH];exact .nil⟩,⟨.nil,(λe he=>nomatch he),(λe he=>nomatch he)⟩⟩ (λb o hb e=>?_) λb hb=>?_
   ·rw[gd,if_neg dk,gd,if_neg dk,gd,if_pos rfl]
   ·rw[gd,if_neg dk,gd,if_pos rfl]
   ·rw[gd,if_pos rfl]
   ·intro m hm;refine cH (T5 m hm) λm1 m2 m3=>?_;rw[gd,if_neg m3,gd,if_neg m2,gd,if_neg m1];rfl
   ·rw[rh];show 3<=20;decide
   ·have hm:=b9 hb;have nbx:b≠x:=λz=>xqr (z ▸ hm);have nbq:b≠q:=λz=>Au (z ▸ hm);rw[ao nbx,ao nbq];exact(hq b hm).1
   ·have e1:H1 b=a_ o:=by rw[<-yP,ao hb];exact e
    have e2:=sm _ _ e1;rw[ao hb,ao (cg e2 AM)];exact e2
   ·refine n1 b ?_;rcases bw.mp hb with z | z
    ·subst z;cases e:H1 b with
     | none=>rfl
     | some o=>rw[sm _ _ e]at AM;cases AM
    ·exact(hq b z).2
def Fy(F:List e_)(H H':Hp):Prop:=∀b o,b∉F->H b=a_ o->H' b=a_ o
theorem ahw{n:Nat}(h:n<=20000):n<cq:=by rw[gG];exact wb
theorem KG(es:List Ent)(i:Nat):(cw es i).length<=es.length:=yX _ _
theorem Jg{α β:Type}{F:α->β->Prop}{a:α}{b:β}:∀{l:List α} {r:List β},Paired F l r->F a b->Paired F (l++[a]) (r++[b])
 | _,_,.nil,h=>.cons h .nil
 | _,_,.cons g t,h=>.cons g (Jg t h)
theorem dP.WY{tn:Int}(T:dP H a C kd tn es q qr){n:Int}(h0:0<=n)(h1:n<12):∃i:Nat,n=i/\i<12/\∃b,qr[i]?=a_ b/\iB (qr.map V.ref) n=a_ (.ref b):=by
 have hl:=T.len;obtain⟨i,rfl⟩:∃i:Nat,n=i:=⟨n.toNat,xm⟩;have hi:i<qr.length:=li;refine cD i rfl li (au (qr[i]) (aO hi) (cR ?_));rw[dq,aO hi];rfl
theorem VI:∀(fs:List (Str×V)) (u:V),fs.lookup f=a_ v->(aQ f u fs).length=fs.length
 | [],_,e=>by cases e
 | (g,x)::r,u,e=>by
  by_cases h:g=f
  ·simp only[aQ,if_pos h,iT]
  ·simp only[aQ,if_neg h,iT];rw[VI r u];have hb:(f == g)=false:=by simpa using λz=>h z.symm
   rw[lY,hb]at e;exact e
def Wd(C:e_):Sp:=λvs H Q _=>∃a n num d kd tn es q qr,vs=[.ref a,.int n,.int num,.int d]/\dP H a C kd tn es q qr/\0<=n/\n<12/\es.length<=20000/\
 ∀H',dP H' a C kd (tn+1) (es++[⟨tn,n,num,d⟩]) q qr->Fy (a::q::qr) H H'->Q .aG H'
theorem agR:bp zLi zLi (aW Mg):=bJ
theorem afS(F:aY K "add" "Tray.add" Mg f fd)(cT:mz K C):ay P w K mg base aB 1 f fd zLi (Wd C):=by
 refine F.ok agR λaM A _ s H vs Q E hr h=>?_
 ·refine jh h λa n num d kd aa=>nC aa λtn es q qr aa ba=>?_;subst aa;obtain⟨T,h0,h1,hz,k⟩:=ba;refine let R1:TS:=_;⟨_,aE (dE (ke m_ n_ o_ pI (aT cY (bz (pv 0) rfl) (pv 1)) (ae (hV (ae (bz (pv 0) rfl) (ae (hV (ae (pv 1) (ae (pv 2) (ae (pv 3) af)))) af))) af))) (pR R1 (aF (acJ (pv 0) aA ahG))),?_⟩
  refine eP (id T.obj) λdx fs ea e1 e2 e3 em el=>aR (T.WY h0 h1) λi aa hi ba=>?_;subst aa;refine aw ba λb hb hat=>aw (T.kn i b hb) λvs eb rb=>?_;have xk:=b9 hb;have lv:=r_ rb;have lq:=KG es i;refine vF rfl ea cT.cl cT.vP e3 (vr rfl (rL (v:=.ref b) (av.of T.qs) (hat) ⟨.inl ⟨rfl,_,av.of eb⟩,vF rfl ea cT.cl cT.turn e2 (au _ rfl (vr rfl (vr rfl ⟨(sl (n:=3)),(λst dh=>⟨(sl (n:=2)),λp hp=>?_⟩)⟩)))⟩));have AG:∀c o,H c=a_ o->c≠st:=λc o e=>cg e dh;have np:=λc o e=>cg (by rw[ao (AG c o e)];exact e) hp;have nsp:=cg ax hp;have up:∀c o,H c=a_ o->upd (upd H st (.tup [.int (i:Int),.int num,.int d])) p (.tup [.int tn,.ref st]) c=a_ o:=λc o e=>by rw[ao (np c o e),ao (AG c o e)];exact e
  have CN:=gj ea eb (by intro z;cases z);have Oo:q≠b:=λz=>T.nq (z ▸ xk);refine kI b vs (.ref p) rfl rfl (up _ _ eb) (ahw li) (au _ rfl (dZ a C dx fs (kJ _ rfl (by rw[ao CN];exact up _ _ ea) cT.cl cT.turn e2 ⟨_,_,rfl,rfl,dx,fs,by rw[ao CN];exact up _ _ ea,wb,?_⟩)));have pb:=dW (np b _ eb);have pa:=dW (np a _ ea);have sb:=dW (AG b _ eb);have sa:=dW (AG a _ ea);generalize Dh:upd (upd (upd (upd H st (.tup [.int (i:Int),.int num,.int d])) p (.tup [.int tn,.ref st])) b (.lst (vs++[.ref p]))) a (.ins C dx (aQ "turn" (.int (tn+1)) fs))=H2;have g0:∀c o,c≠a->c≠b->H c=a_ o->H2 c=a_ o:=λc o z1 z2 e=>by rw[<-Dh,ao z1,ao z2];exact up c o e
  have ga:H2 a=a_ (.ins C dx (aQ "turn" (.int (tn+1)) fs)):=by rw[<-Dh];exact ax
  have gb:H2 b=a_ (.lst (vs++[.ref p])):=by rw[<-Dh,ao (dW CN)];exact ax
  have gp:H2 p=a_ (.tup [.int tn,.ref st]):=by rw[<-Dh,ao pa,ao pb];exact ax
  have gs:H2 st=a_ (.tup [.int (i:Int),.int num,.int d]):=by rw[<-Dh,ao sa,ao sb,ao nsp];exact ax
  have kt:∀c xs,H c=a_ (.tup xs)->H2 c=a_ (.tup xs):=λc xs e=>g0 c _ (gj e ea (by intro z;cases z)) (gj e eb (by intro z;cases z)) e;refine k H2 ⟨⟨dx,_,ga,?_,?_,?_,λm hm=>?_,?_⟩,g0 q _ (gj T.qs ea (by intro z;cases z)) Oo T.qs,T.len,T.nd,T.nq,λj c hc=>?_,agG T.wf h0 h1⟩ λc o hc e=>g0 c o (λz=>hc (by simp[z])) (λz=>hc (by simp[z,xk])) e
  ·rw[gd,if_neg dk];exact e1
  ·rw[gd,if_pos rfl]
  ·rw[gd,if_neg dk];exact e3
  ·rw[gd,if_neg (T5 m hm).2.1];exact em m hm
  ·have:=VI fs (.int (tn+1)) e2;exact w7
  ·rw[Ut]
   by_cases z:j=i
   ·subst z;rw[hb]at hc;cases hc;rw[if_pos rfl];exact au _ gb (Jg (xR (λ_ _ y=>y.keep (F:=[]) kt) rb) ⟨p,st,rfl,gp,gs⟩)
   ·rw[if_neg λy=>z (by have:(i:Int)=(j:Int):=y;lia)]
    have Ox:c≠b:=λy=>z (by
     subst y;have n1:=dy.mp hc;have n2:=dy.mp hb;refine oE n1 λp1 q1=>oE n2 λp2 q2=>?_;rcases y3 j i with y | y | y
     ·exact absurd (q1.trans q2.symm) (jd.mp T.nd j i p1 p2 y)
     ·exact y
     ·exact absurd (q2.trans q1.symm) (jd.mp T.nd i j p2 p1 y))
    refine(T.kn j c hc).keep (λo e=>g0 c o (λy=>?_) Ox e) kt;refine aw (T.kn j c hc) λnZ e' _=>?_;rw[y,ea]at e';cases e'
theorem ab5{α β:Type}{F:α->β->Prop}{r:List β}(h:Paired F [] r):r=[]:=by cases h;rfl
theorem QP:∀{vs:List V} {l:List Ent},Paired (kj H) vs l->vs≠[]->∃nZ v e,vs=nZ++[v]/\l.getLast?=a_ e/\kj H v e
 | _,_,.nil,h=>absurd rfl h
 | _,_,.cons (a:=v) (b:=e) g t,_=>by
  cases t with
  | nil=>exact⟨[],v,e,rfl,rfl,g⟩
  | cons h t=>
   exact iY (QP (.cons h t) (by simp)) λnZ v' e' q1 q2 q3=>qP (v::nZ) v' e' (by rw[q1];rfl) (by rw[List.getLast?_cons_cons];exact q2) q3
def S3(C:e_):Sp:=λvs H Q _=>∃a n kd tn es q qr,vs=[.ref a,.int n]/\dP H a C kd tn es q qr/\0<=n/\n<12/\es.length<=20000/\
 (zR es n.toNat=b_->Q .aG H)/\∀e st,zR es n.toNat=a_ e->H st=a_ (.tup [.int e.n,.int e.num,.int e.d])->Q (.ref st) H
theorem RX:bp ["self","name","queue"] zLc (aW JW):=bJ
theorem ab8(F:aY K "latest" "Tray.latest" JW f fd)(B:BT mg)(cT:mz K C):ay P w K mg base aB 1 f fd zLc (S3 C):=by
 refine F.ok RX λaM A _ s H vs Q E hr h=>?_
 ·obtain⟨a,n,kd,tn,es,q,qr,aa,T,h0,ba⟩:=h;subst aa;refine nL ba λh1 hz k0 k1=>?_;refine let R1:TS:=_;⟨_,aE (cU (i:=2) RX.nd rfl (aX rfl) (aT cY (bz (pv 0) rfl) (pv 1))) (pR R1 (aF (bj (J3 (cb eJ (bG fj rfl B.len q_ (ae (pv 2) af)) aA (bQ _)) nB (aT de (aT cY (pv 2) (B2 BM aA)) aA))))),?_⟩
  refine eP (id T.obj) λdx fs ea e1 e2 e3 em el=>aR (T.WY h0 h1) λi aa hi ba=>?_;subst aa;refine aw ba λb hb hat=>?_;rw[lC]at k0 k1;refine aw (T.kn i b hb) λvs eb rb=>vF rfl ea cT.cl cT.vP e3 (vr rfl (rL (v:=.ref b) (av.of T.qs) (hat) (vr rfl ⟨b,⟨_,rfl,.inl (av.of eb),rfl,_,rfl,cu (λz=>?_) λz=>?_⟩⟩)))
  ·have hv:vs=[]:=by
    injection z with z
    exact tO.mp li
   subst hv;refine k0 ?_;unfold zR;rw[ab5 rb];rfl
  ·have hv:vs≠[]:=λy=>z (by rw[y];rfl);refine iY (QP rb hv) λnZ v e q1 q2 aa=>dv aa λp st aa q3 q4=>?_;subst aa;subst q1;refine vr rfl (au _ rfl (rL (v:=.ref p) (av.of eb) (TV _ _) (rT (v:=.ref st) (aJ.of q3) (rfl) (k1 e st q2 q4))))
def Ue(C:e_):Sp:=λvs H Q _=>∃a kd tn es q qr,vs=[.ref a]/\dP H a C kd tn es q qr/\∀H',ak H H'->Q (.bl (decide (es=[]))) H'
theorem adT:bp zLd zLd (aW Kt):=bJ
theorem aer:(["queue"]:List Str).Nodup:=dk
theorem acv{tn:Int}(w:kY tn es)(h:∀i,i<12->cw es i=[]):es=[]:=by
 cases es with
 | nil=>rfl
 | cons e r=>
  refine oA (w.nm e f9) λh0 h1=>?_;have:=h e.n.toNat li;unfold cw at this;rw[y8,if_pos (by simp;lia)]at this;cases this
theorem all_empty{tn:Int}(w:kY tn es):((List.range 12).map λi=>decide (cw es i=[])).all id=decide (es=[]):=by
 by_cases h:es=[]
 ·subst h;rfl
 ·rw[decide_eq_false h,Bm];cases e:(List.range 12).all (id ∘ λi=>decide (cw es i=[]))with
  | false=>rfl
  | true=>
   exfalso;exact h (acv w λi hi=>by simpa using Iw.mp e i (lZ.mpr hi))
theorem acW(F:aY K "is_empty" "Tray.is_empty" Kt f fd)(B:BT mg)(cT:mz K C):ay P w K mg base aB 1 f fd zLd (Ue C):=by
 refine F.ok adT λaM A _ s H vs Q E hr h=>?_
 ·refine jh h λa kd tn es q aa=>aR aa λqr aa T k=>?_;subst aa
  refine⟨_,aF (bj (bG (Eu rfl) rfl B.all boot_all (ae (jA (N:=["queue"]) (idx:=[]) rfl (ee.of (by kernel_rfl)) (jU (bg _)) (zO (bz (pv 0) rfl))
   (λ_ _ _ _=>cG (i:=0) aer rfl (aX rfl) (.inr rfl)) (λ_ _ _ _=>jW) λ_ _ _ _=>EH eJ (bG (len_K K) rfl B.len q_ (ae (pv 0) af)) aA (bQ _)) af))),?_⟩
  refine eP (id T.obj) λdx fs ea e1 e2 e3 em el=>au _ rfl (dZ a C dx fs (kJ _ rfl ea cT.cl cT.vP e3 (cD q rfl ⟨_,av.of T.qs⟩ ?_)));have hl:=T.len;refine iH (n:=12) (λi ys H'=>H'=H/\ys=(List.range i).map λj=>V.bl (decide (cw es j=[]))) qc ⟨rfl,rfl⟩ ?_ ?_ ?_ ?_ ?_
  ·rintro i ys H' ⟨_,rfl⟩;rw[aP,rW];exact aI _
  ·rintro i ys H' hi ⟨rfl,_⟩;exact fq _ (V.ref (qr[i]'wg)) (av.of T.qs) (by rw[dq,aO wg];rfl)
  ·rintro ys H' ⟨rfl,_⟩;exact au _ (av.of T.qs) (by rw[aP,hl];exact aI _)
  ·rintro i ys H' hi ⟨rfl,rfl⟩ y lh ⟨eH,hy⟩;subst eH;have uU:=hy _ (av.of T.qs);rw[dq,aO wg]at uU;cases uU;refine aw (T.kn i _ (aO wg)) λvs eb rb=>?_;dsimp only[kg,oK];rw[if_pos rfl];refine vr rfl ⟨_,⟨_,rfl,.inl (av.of eb),rfl,rfl,?_⟩⟩;rw[lD,gy]
   congr 1
   have lv:=r_ rb;simp only[fh,IY,abh,V.bl.injEq,and_true];refine decide_eq_decide.mpr ⟨λz=>?_,λz=>?_⟩
   ·injection z with z
    exact tO.mp li
   ·rw[z]at lv;rw[lv];rfl
  ·rintro ys H' ⟨rfl,rfl⟩;refine⟨by rw[aP,rW];decide,λp hp=>dw p ((List.range 12).map λj=>decide (cw es j=[])) rfl (av.of (by rw[ax,tT];rfl)) ?_⟩;rw[all_empty T.wf];exact k _ (aN (ak.refl _) hp)
def vY(es:List Ent)(i:Nat):List Int:=((List.range i).filter λj=>decide (cw es j≠[])).map λ(j:Nat)=>(j:Int)
theorem Rh(es:List Ent)(i:Nat):vY es (i+1)=vY es i++(if cw es i≠[] then [(i:Int)] else []):=by
 unfold vY;rw[lD,yZ,gy]
 congr 1
 by_cases h:cw es i≠[]
 ·rw[if_pos h,aax (by simpa using h)];rfl
 ·rw[if_neg h,List.filter_cons_of_neg (by simpa using h)];rfl
theorem RL(es:List Ent)(i:Nat):(vY es i).length<=i:=by
 unfold vY;rw[aP];have h:=yX (λj=>decide (cw es j≠[])) (List.range i);rw[rW]at h;exact h
def wM(es:List Ent)(n:Int):Int:=((cw es n.toNat).head?.map (·.t)).getD 0
theorem DT{tn:Int}(w:kY tn es)(h:es.head?=a_ e):e.n∈my es:=by
 have hm:e∈es:=by
  cases es with
  | nil=>cases h
  | cons x r=>cases h;exact f9
 refine oA (w.nm e hm) λh0 h1=>zD.mpr (cD e.n.toNat li xm λz=>?_);have:=Tw (i:=e.n.toNat) h xm;rw[z]at this;cases this
theorem afE{tn:Int}{m:Int}(w:kY tn es)(hm:m∈my es)(hb:∀n∈my es,wM es m<=wM es n):(es.head?.map (·.n)).toList=[m]:=by
 refine aR (zD.mp hm) λi hi aa fZ=>?_;subst aa;cases es with
 | nil=>exact absurd rfl fZ
 | cons e r=>
  have h1:=hb e.n (DT w rfl);refine oA (w.nm e f9) λn0 n1=>?_
  have k1:wM (e::r) e.n=e.t:=by
   unfold wM;rw[Tw (i:=e.n.toNat) (e:=e) rfl xm];rfl
  cases q:cw (e::r) i with
  | nil=>exact absurd q fZ
  | cons x l=>
   have k2:wM (e::r) (i:Int)=x.t:=by
    unfold wM;rw[lC,q];rfl
   have hx:x∈cw (e::r) i:=by rw[q];exact f9
   unfold cw at hx;refine oA (pC.mp hx) λgu wU=>?_;have hn:x.n=(i:Int):=by simpa using wU
   rcases bw.mp gu with z | z
   ·show [e.n]=[(i:Int)];rw[<-z,hn]
   ·have:=(rV.mp w.asc).1 x z;rw[k1,k2]at h1;lia
theorem afF{tn:Int}(w:kY tn es)(h:¬1<(my es).length):(es.head?.map (·.n)).toList=my es:=by
 cases es with
 | nil=>rfl
 | cons e r=>
  have hm:=DT (e:=e) w rfl
  match q:my (e::r)with
  | []=>rw[q]at hm;cases hm
  | [x]=>
   rw[q]at hm;rw[<-f7.mp hm];rfl
  | _::_::_=>
   rw[q]at h;simp at h
abbrev LP:Pos:=⟨225,35,225,71⟩
abbrev LQ:Str:=("Tray.fronts" : Str) ++ ".<locals>." ++ "<lambda>"
def JN(C PT:e_):Sp:=λvs H Q _=>∃a kd tn es q qr,vs=[.ref a]/\dP H a C kd tn es q qr/\dg PT LP LQ H/\
 ∀H' l,gQ [] H H'->dg PT LP LQ H'->H l=b_->H' l=a_ (.lst ((iq kd es).map V.int))->Q (.ref l) H'
theorem RY:bp ["self","names"] zLd (aW Ek):=bJ
theorem Wl:(["name","queue"]:List Str).Nodup:=dk
theorem FG(h:V.str x=V.str y):x=y:=by injection h
theorem ab2{PT:e_}{ps:Array f_}(s:ak H H1){Hf:Array f_}(t:wc PT H1 H2)(hP:H1 PT=a_ (.fu ps))(Ph:H2 PT=a_ (.fu Hf)):gQ [] H H2:=(gQ.of s).trans (gQ.X' t hP Ph)
theorem Rr{f C PT c:e_}(F:wB K "fronts" "Tray.fronts" Ek f fd c)(B:BT mg)(cT:mz K C)(hC:W.CodeHd base c PT)(hB:uz mg base):ay P w K mg base aB 2 f fd zLd (JN C PT):=by
 refine F.ok RY λA outer s H vs Q E hr h=>?_
 ·refine jh h λa kd tn es q aa=>dY aa λqr aa T wG k=>?_;subst aa;have ZA:=hr.dp
  refine let R1:TS:=_;let R2:TS:=_;⟨_,aE (Bp (i:=1) (N:=["name","queue"]) (idx:=[]) RY.nd rfl rfl rfl (ee.of (by kernel_rfl)) (zx (bg _) (bg _)) (xQ (b:=c_) rfl B.enum (ae (bz (pv 0) rfl) af))
    (λ_ _ _ _=>qL rfl (iV (cG (i:=0) Wl rfl (aX rfl) (.inr rfl)) (iV (cG (i:=1) Wl rfl (aX rfl) (.inr rfl)) qH)))
    (λ_ _ _ _=>zK (cb B5 (bG (len_K K) rfl B.len q_ (ae (pv 1) af)) aA (bQ _))) λ_ _ _ _=>pv 0)
   (pR R2 (aE (cC (PW.pt (pw_and (cb eJ (bz (pv 0) rfl) di (bQ _)) (pw_and1 (cb B5 (bG fj rfl B.len q_ (ae (pv 1) af)) aA (bQ _))))) (pR R1 (aF (bj (fk (ae (acM (N:=["self","name"]) (idx:=[0]) (k:=1) (px:="name") (P:=PT) rfl (by show A.depth+1+5<_;have h1:A.depth+1+3*1+5<DP:=ZA;lia) rfl B.min (pv 1) (ee.of (by kernel_rfl)) rfl hC hB rfl rfl qc
     (λ_ _ _ _ _ _=>aT (Ab K) (aT (Fn K) (aT (Fn K) (ajj K (pv 0) rfl) (pv 1)) aA) aA) λ_ _ _ _ _ _=>rfl) af))))) cO)
   (aF (bj (pv 1))))),?_⟩
  refine eP (id T.obj) λdx fs ea e1 e2 e3 em el=>?_;have hl:=T.len;refine vF rfl ea cT.cl cT.vP e3 ⟨q,⟨_,rfl,av.of T.qs,iH (n:=12) (λi ys H'=>ak H H'/\ys=(vY es i).map V.int) qc ⟨ak.refl _,rfl⟩ ?_ ?_ ?_ ?_ ?_⟩⟩
  ·rintro i ys H' ⟨_,rfl⟩;rw[aP];exact RL es i
  ·rintro i ys H' hi ⟨sm,_⟩;exact fq _ (V.ref (qr[i]'wg)) (av.of (sm _ _ T.qs)) (by rw[dq,aO wg];rfl)
  ·rintro ys H' ⟨sm,_⟩;exact au _ (av.of (sm _ _ T.qs)) (by rw[aP,hl];exact aI _)
  ·rintro i ys H' hi ⟨sm,rfl⟩ y lh ⟨p,x,hp,ey,eH,hx⟩;subst ey;subst eH;have gu:=hx _ (av.of (sm _ _ T.qs));rw[dq,aO wg]at gu;cases gu;refine aw (T.kn i _ (aO wg)) λvs eb rb=>?_;have s2:ak H (upd H' p (.tup [.int i,.ref qr[i]])):=aN sm hp;have lv:=r_ rb;refine⟨p,⟨_,rfl,aJ.of ax,rfl,_,_,rfl,_,_,rfl,rfl,vr rfl ⟨_,⟨_,rfl,.inl (av.of (s2 _ _ eb)),_,_,rfl,rfl,_,rfl,cu (λz=>?_) λz=>?_⟩⟩⟩⟩
   ·refine vr rfl ⟨s2,?_⟩;rw[Rh,if_pos (λy=>by rw[y]at lv;rw[lv]at z;exact absurd z (by simp)),gy];rfl
   ·refine⟨s2,?_⟩;rw[Rh,if_neg λy=>y (tO.mp li),il]
  ·rintro ys H' ⟨sm,rfl⟩;have wl:=RL es 12;refine⟨by rw[aP];exact eO (gz w4),λl1 yL=>?_⟩;have s1:ak H (upd H' l1 (.lst ((vY es 12).map V.int))):=aN sm yL;generalize yP:upd H' l1 (.lst ((vY es 12).map V.int))=H1 at s1;have AR:H1 l1=a_ (.lst ((my es).map V.int)):=by rw[<-yP];exact ax
   have Y0:H l1=none:=by
    cases e:H l1 with
    | none=>rfl
    | some o=>rw[sm _ _ e]at yL;cases yL
   have uA:=lF wG s1;have T1:=T.uk (gQ.of s1);refine eP (id T1.obj) λxq tH Dt f1 f2 f3 _ _=>?_;have done:(my es).length<=12:=wl;refine au _ rfl (dZ a C xq tH (⟨_,rfl,Dt,cT.cl,cT.kind,f1,rfl,(au _ rfl ?_)⟩))
   by_cases hk:kd = "row"
   ·rw[decide_eq_true (show V.str kd=V.str "row" by rw[hk])];refine jG (vr rfl ⟨l1,⟨_,rfl,.inl (av.of AR),_,_,rfl,rfl,_,rfl,cu (λz=>?_) λz=>?_⟩⟩)
    ·rw[aP]at z;refine au _ rfl (kI l1 (my es) (wM es) rfl (av.of AR) li uA λH2 sp wD=>aw (id uA) λps ZS _=>aw (id wD) λHf XR _=>?_);have kp:=gQ.X' sp ZS XR;have T2:=T1.uk kp;have xb:=kp.k l1 _ (by simp) (λps z=>by cases z) AR;refine dj (av.of xb) (λm hm=>?_) λm hm hb=>?_
     ·refine aR (zD.mp hm) λi hi aa fZ=>?_;subst aa;refine eP (id T2.obj) λvi rO ea2 g1 g2 g3 _ _=>aw (T2.kn i _ (aO wg)) λvs eb rb=>?_;cases Oj:cw es i with
      | nil=>exact absurd Oj fZ
      | cons x r=>
       rw[Oj]at rb;cases rb with
       | cons hx Hy=>
        refine dv hx λp st aa q1 q2=>?_;clear hx;subst aa;refine vF rfl ea2 cT.cl cT.vP g3 (vr rfl (rL (v:=.ref (qr[i]'wg)) (av.of T2.qs) ((cR (by rw[dq,aO wg];rfl))) (cl1 (v:=.ref p) (j:=0) eb rfl (rT (v:=.int x.t) (aJ.of q1) (cR (j:=0) rfl) ⟨?_,rfl⟩))))
        ·unfold wM;rw[lC,Oj];rfl
     ·refine⟨(sl (n:=1)),λl hn=>k _ l ((ab2 s1 sp ZS XR).trans (gQ.of (aN (ak.refl _) hn))) (lF wD (aN (ak.refl _) hn)) ?_ ?_⟩
      ·cases e:H l with
       | none=>rfl
       | some o=>
        by_cases zp:l=PT
        ·refine aw wD λps2 h2 _=>?_;rw[zp,h2]at hn;cases hn
        ·rw[sp _ _ zp (s1 _ _ e)]at hn;cases hn
      ·rw[ax];unfold iq;rw[if_pos hk,afE T.wf hm hb];rfl
    ·rw[aP]at z;refine vr rfl (k H1 l1 (gQ.of s1) uA Y0 ?_);rw[AR];unfold iq;rw[if_pos hk,afF T.wf li]
   ·rw[decide_eq_false (show ¬V.str kd=V.str "row" from λz=>hk (FG z))];refine gC (gC (vr rfl (k H1 l1 (gQ.of s1) uA Y0 ?_)));rw[AR];unfold iq;rw[if_neg hk]
theorem agk(n:Int)(ns:List Int):Av (.int n) (ns.map V.int)=decide (n∈ns):=by
 unfold Av
 induction ns with
 | nil=>rfl
 | cons m r ih=>
  rw[fh,xE,ih]
  by_cases h:m=n
  ·subst h;simp[oU]
  ·have:oU (.int m) (.int n)=false:=by simp[oU,h]
   rw[this,Bool.false_or];exact decide_eq_decide.mpr ⟨λz=>eE _ z,λz=>(bw.mp z).resolve_left λy=>h y.symm⟩
theorem ado(ns:List Int):(ns.map V.int).all uo=true:=by
 rw[Bm];exact Iw.mpr λ_ _=>rfl
theorem Ed{tn:Int}{n:Int}(w:kY tn es)(h:n∈iq kd es):∃i:Nat,i<12/\n=i/\∃e r,cw es i=e::r:=by
 have hw:n∈my es:=by
  unfold iq at h
  by_cases hk:kd = "row"
  ·rw[if_pos hk]at h;cases es with
   | nil=>cases h
   | cons e r=>
    have e1:n=e.n:=by simpa using h
    rw[e1];exact DT w rfl
  ·rw[if_neg hk]at h;exact h
 refine aR (zD.mp hw) λi hi e fZ=>cD i hi e ?_;cases q:cw es i with
 | nil=>exact absurd q fZ
 | cons x r=>exact⟨x,r,rfl⟩
def Vg(C PT lL:e_):Sp:=λvs H Q E=>∃a n kd tn es q qr,vs=[.ref a,.int n]/\dP H a C kd tn es q qr/\dg PT LP LQ H/\
 (n∈iq kd es->∀H' e st,(cw es n.toNat).head?=a_ e->dP H' a C kd tn (jk es n) q qr->gQ (a::q::qr) H H'->dg PT LP LQ H'->H' st=a_ (.tup [.int e.n,.int e.num,.int e.d])->Q (.ref st) H')/\
 (n∉iq kd es->∀H',gQ [] H H'->dg PT LP LQ H'->E (.ref lL) b_ H')
theorem afs:bp zLc zLc (aW Lh):=bJ
theorem aed{f fW fF C PT c lL:e_}(F:aY K "take" "Tray.take" Lh f fd)(B:BT mg)(cT:mz K C)(hC:W.CodeHd base c PT)(hB:uz mg base)
  (FW:aY K "is_whole" "is_whole" Kr fW kr) (bW:Binds K kr ["thing"] []) (mW:mg "is_whole" = a_ (.ref fW)) (FF:wB K "fronts" "Tray.fronts" Ek fF xo c) (bF:Binds K xo zLd []) (mF:Meth K C "fronts" fF)
  (xc:XC K lL) (mM:mg "NoMove" = a_ (.ref lL)):ay P w K mg base (iN P w) 3 f fd zLc (Vg C PT lL):=by
 have GW:ay P w K mg base aB 1 fW kr ["thing"] SX:=acP FW B;have GF:ay P w K mg base aB 2 fF xo zLd (JN C PT):=Rr FF B cT hC hB;refine F.Ct afs λaM A outer s H vs Q E hr hL hp h=>?_
 ·obtain⟨a,n,kd,tn,es,q,qr,aa,T,wG,ba⟩:=h;subst aa;obtain⟨k1,k2⟩:=ba
  refine let R1:TS:=_;let R2:TS:=_;⟨_,aE (cC (PW.pt (pw_or (lG (gH (dN GW (hr.mono qc) rfl mW FW.kp bW .nil a7 (ae (pv 1) af))))
    (pw_or1 (cb QQ (pv 1) (nv (pv 0) cT.cl mF GF hr bF .nil a7) rfl)))) (pR R1 (aF (J1 rfl hL xc rfl mM (ae di af)))) cO)
   (pR R2 (aF (bj (aT de (ke m_ PySem.F.slot_list_pop PySem.F.type_list_pop aet (aT cY (bz (pv 0) rfl) (pv 1)) (ae aA af)) aA)))),?_⟩
  refine eP (id T.obj) λdx fs ea e1 e2 e3 em el=>vr rfl (dw (.int n) ("int") rfl rfl (au _ rfl (gC (vr rfl (vM rfl ea (em "fronts" dk) (⟨a,kd,tn,es,q,qr,rfl,T,wG,(λH1 l kp uA hn hl=>⟨l,⟨_,rfl,.inl (av.of hl),rfl,ado _,_,rfl,?_⟩⟩)⟩))))));rw[if_pos rfl,agk];refine B7 (λz=>⟨qc,k2 (of_decide_eq_false z) H1 kp uA⟩) λz=>?_
  ·have jO:=of_decide_eq_true z;have T1:=T.uk kp;refine aR (Ed T.wf jO) λi hi aa ba=>?_;subst aa;refine As ba λe r he=>eP (id T1.obj) λxq tH Dt f1 f2 f3 fm fl=>?_;have am7:=T1.len;have hb:qr[i]?=a_ (qr[i]'wg):=aO wg;refine aw (T1.kn i _ hb) λvs eb rb=>?_;have xk:=b9 hb;generalize qr[i]'wg=b at hb eb xk;rw[he]at rb;cases rb with
   | cons hx Hy=>
    refine dv hx λp st aa q1 q2=>?_;clear hx;subst aa
    rename_i nZ
    refine au _ rfl (dZ a C xq tH (kJ _ rfl Dt cT.cl cT.vP f3 (vr rfl (rL (v:=.ref b) (av.of T1.qs) (cR (by rw[dq,hb];rfl)) ⟨.inl ⟨rfl,_,av.of eb⟩,?_⟩))));refine⟨b,_,0,0,(.ref p),rfl,rfl,eb,qc,qc,(by simp[JH]),rfl,?_⟩;have npb:=gj q1 eb (by intro z;cases z);have nsb:=gj q2 eb (by intro z;cases z);refine rT (v:=.ref st) (aJ.of (by rw[ao npb];exact q1)) (cR (j:=1) rfl) ?_
    have ka:Fy (a::q::qr) H1 (upd H1 b (.lst nZ)):=λc o hc ec=>by
     rw[ao λz=>hc (by simp[z,xk])];exact ec
    have kt:∀c xs,H1 c=a_ (.tup xs)->upd H1 b (.lst nZ) c=a_ (.tup xs):=λc xs ec=>by rw[ao (gj ec eb (by intro z;cases z))];exact ec
    have CN:=gj Dt eb (by intro z;cases z);have Oo:q≠b:=λz=>T1.nq (z ▸ xk)
    refine k1 jO _ e st (by rw[lC,he];rfl) ⟨⟨xq,tH,by rw[ao CN];exact Dt,f1,f2,f3,fm,fl⟩,by rw[ao Oo];exact T1.qs,T1.len,T1.nd,T1.nq,λj c hc=>?_,afh T1.wf _⟩
     ⟨λc o hc ht ec=>ka c o hc (kp.k c o (by simp) ht ec),λc h=>kp.t c (by
      by_cases z:c=b
      ·rw[z,ax]at h;cases h
      ·rwa[ao z]at h)⟩ (Br uA ka T1.kinds) (by rw[ao nsb];exact q2)
    rw[ad0]
    by_cases zj:j=i
    ·subst zj;rw[hb]at hc;cases hc;rw[if_pos rfl,he];exact au nZ ax (xR (λ_ _ y=>y.keep (F:=[]) kt) Hy)
    ·rw[if_neg λy=>zj (by have:(i:Int)=(j:Int):=y;lia)]
     have Ox:c≠b:=λy=>zj (by
      subst y;refine oE (dy.mp hc) λp1 q1=>?_;refine oE (dy.mp hb) λp2 q2=>?_;rcases y3 j i with y | y | y
      ·exact absurd (q1.trans q2.symm) (jd.mp T1.nd j i p1 p2 y)
      ·exact y
      ·exact absurd (q2.trans q1.symm) (jd.mp T1.nd i j p2 p1 y))
     exact(T1.kn j c hc).keep (λo e=>by rw[ao Ox];exact e) kt
def SY(C PT Ae:e_):Sp:=λvs H Q E=>∃v T,vs=[v]/\tyName H v=a_ T/\
 ((v=.str "row"\/v=.str "name"\/v=.str "none")->∀kd H' x q qr,v=.str kd->dP H' x C kd 0 [] q qr->Fy [] H H'->(∀b∈x::q::qr,H b=b_)->Q (.ref x) H')/\
 (¬(v=.str "row"\/v=.str "name"\/v=.str "none")->E (.ref Ae) b_ H)
theorem adS:bp ["kind"] ["kind"] (aW Ks):=bJ
theorem UH{T:String}(h:tyName H v=a_ T):sO T "str" = c_↔∃x,v=.str x:=by
 constructor
 ·intro z;cases v with
  | str x=>exact⟨x,rfl⟩
  | aG=>cases h;cases z
  | bl b=>cases h;cases z
  | int i=>cases h;cases z
  | ref a=>
   unfold tyName at h;cases e:H a with
   | none=>simp only[e]at h;cases h
   | some o=>
    cases o with
    | lst xs=>simp only[e]at h;cases h;cases z
    | tup xs=>simp only[e]at h;cases h;cases z
    | _=>simp only[e]at h;cases h
  | _=>cases h
 ·rintro⟨x,rfl⟩;cases h;rfl
theorem Sv{f:Nat->List Ent}:∀n:Nat,((∃k:Nat,k<n/\e.n=(k:Int))->dM ((List.range n).flatMap λ(i:Nat)=>if e.n=(i:Int) then e::f i else f i) (e::(List.range n).flatMap f))/\
  ((¬∃k:Nat,k<n/\e.n=(k:Int))->((List.range n).flatMap λ(i:Nat)=>if e.n=(i:Int) then e::f i else f i)=(List.range n).flatMap f)
 | 0=>⟨λ⟨k,hk,_⟩=>absurd hk (Bc _),λ_=>rfl⟩
 | n+1=>by
  refine oA (Sv (e:=e) (f:=f) n) λi1 i2=>?_;have eF:∀g:Nat->List Ent,(List.range (n+1)).flatMap g=(List.range n).flatMap g++g n:=λg=>by rw[lD,vp];simp
  rw[eF,eF];constructor
  ·rintro⟨k,hk,ek⟩
   by_cases h:e.n=(n:Int)
   ·have ky:¬∃k:Nat,k<n/\e.n=(k:Int):=λ⟨j,hj,ej⟩=>li;rw[i2 ky,if_pos h];exact Qt
   ·rw[if_neg h];exact(i1 ⟨k,li,ek⟩).append_right _
  ·intro ky;rw[i2 λ⟨j,hj,ej⟩=>ky ⟨j,li,ej⟩,if_neg λh=>ky ⟨n,w1,h⟩]
theorem Q0:∀{es:List Ent},(∀e∈es,0<=e.n/\e.n<12)->dM ((List.range 12).flatMap (cw es)) es
 | [],_=>by
  have:(List.range 12).flatMap (cw [])=[]:=P5.mpr λi _=>rfl;rw[this]
 | e::r,h=>by
  have hf:(cw (e::r))=λi=>if e.n=((i:Nat):Int) then e::cw r i else cw r i:=by
   funext i
   unfold cw;rw[y8]
   by_cases z:e.n=(i:Int)
   ·simp only[decide_eq_true z,if_true,if_pos z]
   ·simp only[decide_eq_false z,DB,if_false,if_neg z]
  refine oA (h e f9) λh0 h1=>?_;rw[hf];exact((Sv (e:=e) (f:=cw r) 12).1 ⟨e.n.toNat,li,xm⟩).trans ((Q0 λx hx=>h x (eE _ hx)).cons e)
theorem Q7(qv:Nat->List V)(ql:Nat->List Ent):∀n:Nat,(∀i:Nat,i<n->Paired (kj H) (qv i) (ql i))->Paired (kj H) ((List.range n).flatMap qv) ((List.range n).flatMap ql)
 | 0,_=>.nil
 | n+1,h=>by
  have eF:∀{α:Type} (g:Nat->List α),(List.range (n+1)).flatMap g=(List.range n).flatMap g++g n:=λg=>by rw[lD,vp];simp
  rw[eF,eF];exact paired_cat (Q7 qv ql n λi hi=>h i li) (h n (DE n))
where
 paired_cat {H:Hp}:∀{l l':List V} {r r':List Ent},Paired (kj H) l r->Paired (kj H) l' r'->Paired (kj H) (l++l') (r++r')
 | _,_,_,_,.nil,h=>h
 | _,_,_,_,.cons g t,h=>.cons g (paired_cat t h)
theorem Sa{α β:Type}{F:α->β->Prop}:∀{l:List α} {r:List β},l.length=r.length->(∀(i:Nat) a b,l[i]?=a_ a->r[i]?=a_ b->F a b)->Paired F l r
 | [],[],_,_=>.nil
 | [],_::_,h,_=>by cases h
 | _::_,[],h,_=>by cases h
 | a::l,b::r,h,k=>.cons (k 0 a b rfl rfl) (Sa (by simpa using h) λi x y hx hy=>k (i+1) x y (by simpa using hx) (by simpa using hy))
theorem Jf:∀{l:List V} {r:List Ent},Paired (kj H) l r->∀q∈(l.zip r).map λz=>(z.2.t,z.1),∃e∈r,q.1=e.t/\kj H q.2 e
 | _,_,.nil,q,h=>by cases h
 | _,_,.cons (a:=v) (b:=e) g t,q,h=>by
  rw[aaQ,fh]at h;rcases bw.mp h with z | z
  ·rw[z];exact cD e f9 rfl g
  ·exact aw (Jf t q z) λe' h1 h2=>au e' (eE _ h1) h2
theorem zip_parts:∀{l:List V} {r:List Ent},Paired (kj H) l r->((l.zip r).map λz=>(z.2.t,z.1)).map (·.2)=l/\((l.zip r).map λz=>(z.2.t,z.1)).map (·.1)=r.map (·.t)
 | _,_,.nil=>⟨rfl,rfl⟩
 | _,_,.cons g t=>by
  refine oA (zip_parts t) λh1 h2=>?_;rw[aaQ,fh,fh,fh,h1,h2];exact⟨rfl,rfl⟩
theorem abH{tn:Int}{qs:List (Int×V)}(w:kY tn es)(hL:dM L es)(r:Paired (kj H) vs L)(hp:dM qs ((vs.zip L).map λz=>(z.2.t,z.1)))(ha:qs.Pairwise λa b=>a.1<b.1):Paired (kj H) (qs.map (·.2)) es:=by
 have e1:qs.map (·.1)=es.map (·.t):=by
  refine W.ksm_same ?_ (Ii.mpr (ha.imp λh=>IZ h)) (Ii.mpr (w.asc.imp λh=>IZ h));have:=hp.map (·.1);rw[(zip_parts r).2]at this;exact this.trans (hL.map _)
 have hl:qs.length=es.length:=by have:=congrArg List.length e1;simpa using this
 refine Sa (by rw[aP,hl]) λi v e hv he=>?_;rw[dq]at hv;refine aw (xr.mp hv) λq hq aa=>?_;subst aa;refine aR (Jf r q (hp.mem_iff.mp (b9 hq))) λe' he' ht hE=>?_
 have ht2:q.1=e.t:=by
  have:(qs.map (·.1))[i]?=a_ q.1:=by rw[dq,hq];rfl
  rw[e1,dq,he]at this;exact(dr this).symm
 have he2:=hL.mem_iff.mp he'
 have:e'=e:=by
  refine oE (rS he2) λj oY=>oE oY λhj ej=>oE (dy.mp he) λhi ei=>?_;have tt:es[j].t=es[i].t:=by rw[ej,ei,<-ht,ht2]
  rcases y3 j i with z | z | z
  ·have:=jd.mp w.asc j i hj hi z;lia
  ·subst z;rw[<-ej,<-ei]
  ·have:=jd.mp w.asc i j hi hj z;lia
 rw[<-this];exact hE
theorem abK{tn:Int}(w:kY tn es)(hL:dM L es):(L.map (·.t)).Nodup:=by
 exact(hL.map (·.t)).nodup_iff.mpr (Ii.mpr (w.asc.imp λh=>Int.ne_of_lt h))
theorem acV(F:aY K "tray_of" "tray_of" Ks f fd)(B:BT mg)(cT:mz K C)(M:Mk K C fI)(FI:aY K "__init__" "Tray.__init__" Gr fI ij)(bI:Binds K ij ["self","kind"] [])(mT:mg "Tray" = a_ (.ref C))(mN:∃u,mg "NAMES" = a_ u/\RelV (.int 12) u)
  (mK:mg "KINDS" = a_ (.ref aK)) (hK:∀H:Hp,aJ K H aK [.str "row",.str "name",.str "none"]) (xc:XC K Ae) (mX:mg "NoKind" = a_ (.ref Ae)) {PT:e_}:ay P w K mg base (iN P w) 3 f fd ["kind"] (SY C PT Ae):=by
 have GI:ay P w K mg base aB 1 fI ij ["self","kind"] (WR C):=aiT FI B cT mN;refine F.Ct adS λaM A outer s H vs Q E hr hL hp h=>?_
 ·refine jD h λv T aa ht k1 k2=>?_;clear h;subst aa;refine let R1:TS:=_;let R2:TS:=_;⟨_,aE (cC (PW.pt (pw_or (lG (gH (bG jy rfl B.jI iU (ae (pv 0) (ae (nA (v:=.ty "str") rfl B.str boot_str rfl) af))))) (pw_or1 (cb QQ (pv 0) (fQ (v:=.ref aK) rfl mK rfl) rfl)))) (pR R1 (aF (J1 rfl hL xc rfl mX (ae di af)))) cO) (pR R2 (aF (bj (t7 M GI hr rfl mT bI .nil a7 (ae (pv 0) af))))),?_⟩
  refine vr rfl (dZ _ _ _ _ (dX _ rfl (nR ht) rfl (nM ht qc) (au _ rfl (B7 (λz=>?_) λz=>?_))))
  ·refine jG ⟨qc,k2 λy=>?_⟩;have:∃x,v=.str x:=by rcases y with y | y | y <;> exact⟨_,y⟩
   rw[(UH ht).mpr this]at z;cases z
  ·refine oE ((UH ht).mp z) λx aa=>?_;subst aa;refine vr rfl ⟨aK,⟨_,rfl,.inr (hK H),rfl,rfl,_,rfl,?_⟩⟩;rw[if_pos rfl]
   have ei:Av (.str x) [.str "row",.str "name",.str "none"]=decide (V.str x=.str "row"\/V.str x=.str "name"\/V.str x=.str "none"):=by
    unfold Av
    have g:∀y:Str,oU (.str y) (.str x)=decide (V.str x=V.str y):=λy=>by
     simp only[oU]
     by_cases q:x=y
     ·subst q;simp
     ·have:¬V.str x=V.str y:=λe=>q (FG e);rw[decide_eq_false this];exact beq_eq_false_iff_ne.mpr λe=>q e.symm
    simp only[xE,List.any_nil,g,Bool.or_false]
    by_cases q1:V.str x=.str "row" <;> by_cases q2:V.str x=.str "name" <;> by_cases q3:V.str x=.str "none" <;> simp[q1,q2,q3]
   rw[ei];refine B7 (λy=>⟨qc,k2 (of_decide_eq_false y)⟩) λy=>?_
   ·refine vr rfl λo dx no iC ne=>qP o dx x rfl ax λH' q qr T1 kp fr=>⟨rfl,k1 (of_decide_eq_true y) x H' o q qr rfl T1 (λb u _ e=>kp b u (cg e no) ?_) λb hb=>?_⟩
    ·rw[ao (cg e no),ao (cg e iC)];exact e
    ·rcases bw.mp hb with z | z
     ·rw[z];exact no
     ·have:=fr b z;have nbo:b≠o:=λe=>by rw[e,ax]at this;cases this
      rw[ao nbo]at this;have nbd:b≠dx:=λe=>by rw[e,ax]at this;cases this
      rw[ao nbd]at this;exact this
end TL
namespace TS
theorem afe{σ:Type}{M:Model}{Q:PUnit->σ->Prop}{x st:σ}(h:Q ⟨⟩ x):wpS M A E s (set x) Q st:=aV ⟨rfl,h⟩
theorem iG{M:Model}{arr:Array Keyed}{i:Nat}{x:Keyed}{Q:Keyed->SortSt->Prop}{st:SortSt}(h:arr[i]?=a_ x)(q:Q x st):wpS M A E s (elem' arr i) Q st:=by
 rw[elem'_eq,h];exact a8 q
def Ob:=Bool->Keyed->Array Keyed->Nat->Nat->Nat->StateT SortSt Sem (Option Nat)
def bey(left:Bool)(key:Keyed)(arr:Array Keyed)(base i:Nat):StateT SortSt Sem (Option Bool):=do
 let x <-elem' arr (base+i)
 if left=c_ then lt' x key
 else do
  let r <-lt' key x
  pure (r.map λx=>!x)
def BK(g:Ob):Prop:=∀(M:Model) (A:h_) (E:f_->g_->Prop) (s:g_) (left:Bool) (key:Keyed) (arr:Array Keyed) (base n hint k0:Nat) (st:SortSt) (Q:Option Nat->SortSt->Prop),hint<n->k0<=n->
 (∀i,i<n->∀Q:Option Bool->SortSt->Prop,Q (a_ (decide (i<k0))) st->wpS M A E s (bey left key arr base i) Q st)->Q (a_ k0) st->wpS M A E s (g left key arr base n hint) Q st
theorem U0{M:Model}{n k0:Nat}{F:Nat->Option (Option Nat)×Nat×Nat->StateT SortSt Sem (ForInStep (Option (Option Nat)×Nat×Nat))}{R:Option (Option Nat)×Nat×Nat->SortSt->Prop}{st:SortSt}
  (hF:∀i lo hi (R:ForInStep (Option (Option Nat)×Nat×Nat)->SortSt->Prop),hi<=n->(lo ≥ hi->R (.done (b_,lo,hi)) st)->(lo<hi->lo+(hi-lo)/2<k0->R (.yield (b_,lo+(hi-lo)/2+1,hi)) st)->(lo<hi->¬lo+(hi-lo)/2<k0->R (.yield (b_,lo,lo+(hi-lo)/2)) st)->wpS M A E s (F i (b_,lo,hi)) R st)
  {lo hi:Nat} (h1:lo<=k0) (h2:k0<=hi) (h3:hi<=n) (q:∀lo,R (b_,lo,k0) st):wpS M A E s (forIn [:n] (b_,lo,hi) F) R st:=by
 refine ma (I:=λi c aD=>aD=st/\∃lo hi,c=(b_,lo,hi)/\lo<=k0/\k0<=hi/\hi<=n/\hi-lo<=n-i) ?_ ?_ ⟨rfl,lo,hi,rfl,h1,h2,h3,li⟩
 ·rintro i c aD _ tE ⟨rfl,lo,hi,rfl,a,b,c,d⟩;refine hF i lo hi _ c (λh=>?_) (λh m=>⟨rfl,_,_,rfl,li,b,c,om⟩) λh m=>⟨rfl,_,_,rfl,a,li,li,om⟩;have:hi=k0:=li;subst this;exact q lo
 ·rintro c aD ⟨rfl,lo,hi,rfl,a,b,c,d⟩;have:hi=k0:=li;subst this;exact q lo
theorem Tj{M:Model}{n mx:Nat}{T:Nat->Prop}{F:Nat->Option (Option Nat)×Nat×Nat->StateT SortSt Sem (ForInStep (Option (Option Nat)×Nat×Nat))}{R:Option (Option Nat)×Nat×Nat->SortSt->Prop}{st:SortSt}
  (hF:∀i l o (R:ForInStep (Option (Option Nat)×Nat×Nat)->SortSt->Prop),(o ≥ mx->R (.done (b_,l,o)) st)->(o<mx->T o->R (.yield (b_,o,2*o+1)) st)->(o<mx->¬T o->R (.done (b_,l,o)) st)->wpS M A E s (F i (b_,l,o)) R st)
  (h0:T 0) (hm:0<mx) (hn:mx<=n) (q:∀l o,T l->l<o->l<mx->(o ≥ mx\/¬T o)->R (b_,l,o) st):wpS M A E s (forIn [:n] (b_,0,1) F) R st:=by
 refine ma (I:=λi c aD=>aD=st/\∃l o,c=(b_,l,o)/\T l/\l<o/\l<mx/\i+1<=o) ?_ ?_ ⟨rfl,0,1,rfl,h0,li,hm,li⟩
 ·rintro i c aD _ tE ⟨rfl,l,o,rfl,a,b,c,d⟩;exact hF i l o _ (λh=>q l o a b c (.inl h)) (λh m=>⟨rfl,_,_,rfl,m,li,h,li⟩) λh m=>q l o a b c (.inr m)
 ·rintro c aD ⟨rfl,l,o,rfl,a,b,c,d⟩;exact q l o a b c (.inl li)
section
variable{α:Type}{rk:α->Int}{la lb L:List α}{ia ib:Nat}
structure MI(rk:α->Int)(la lb L:List α)(ia ib:Nat):Prop where
 p:L.Perm (la.take ia++lb.take ib)
 s:L.Pairwise λx y=>rk x<=rk y
 a:∀x∈L,∀y∈la.drop ia,rk x<=rk y
 b:∀x∈L,∀y∈lb.drop ib,rk x<=rk y
theorem MI.swap(h:MI rk la lb L ia ib):MI rk lb la L ib ia:=⟨h.p.trans rQ,h.s,h.b,h.a⟩
theorem MI.add(h:MI rk la lb L ia ib)(sa:la.Pairwise λx y=>rk x<=rk y)(k:Nat)(hk:∀x∈(la.drop ia).take k,∀y∈lb.drop ib,rk x<=rk y):MI rk la lb (L++(la.drop ia).take k) (ia+k) ib:=by
 have sd:(la.drop ia).Pairwise λx y=>rk x<=rk y:=sa.sublist (y4 _ _);have sp:((la.drop ia).take k++(la.drop ia).drop k).Pairwise λx y=>rk x<=rk y:=by rw[gU];exact sd
 rw[lX]at sp;have e:(la.drop ia).drop k=la.drop (ia+k):=pE;refine⟨?_,?_,λx hx y hy=>?_,λx hx y hy=>?_⟩
 ·rw[IM];refine(xt _ h.p).trans ?_;rw[cX,cX];exact vm _ rQ
 ·exact lX.mpr ⟨h.s,sp.1,λx hx y hy=>h.a x hx y (xu hy)⟩
 ·rcases dD.mp hx with hx | hx
  ·exact h.a x hx y (by rw[<-e]at hy;exact vn hy)
  ·exact sp.2.2 x hx y (by rw[e];exact hy)
 ·rcases dD.mp hx with hx | hx
  ·exact h.b x hx y hy
  ·exact hk x hx y hy
theorem MI.fin(h:MI rk la lb L ia ib)(sa:la.Pairwise λx y=>rk x<=rk y)(sb:lb.Pairwise λx y=>rk x<=rk y)(hx:∀x∈la.drop ia,∀y∈lb.drop ib,rk x<=rk y):(L++la.drop ia++lb.drop ib).Pairwise (λx y=>rk x<=rk y)/\(L++la.drop ia++lb.drop ib).Perm (la++lb):=by
 constructor
 ·refine lX.mpr ⟨lX.mpr ⟨h.s,sa.sublist (y4 _ _),h.a⟩,sb.sublist (y4 _ _),λx tu y hy=>?_⟩;rcases dD.mp tu with z | z
  ·exact h.b x z y hy
  ·exact hx x z y hy
 ·refine(xt _ (xt _ h.p)).trans ?_;have e1:=gU ia la;have e2:=gU ib lb;generalize la.take ia=p at *;generalize la.drop ia=q at *;generalize lb.take ib=r at *;generalize lb.drop ib=t at *;subst e1 e2;rw[cX,cX,cX];refine vm _ ?_;rw[<-cX,<-cX];exact xt _ rQ
theorem Lu{p:α->Bool}:∀{l:List α},l.Pairwise (λx y=>p y=c_->p x=c_)->∃k,k<=l.length/\∀i (h:i<l.length),p l[i]=decide (i<k)
 | [],_=>⟨0,aI _,λi h=>absurd h (Bc _)⟩
 | x::l,h=>by
  rw[rV]at h;cases e:p x with
  | false=>
   refine⟨0,bg _,λi hi=>?_⟩;cases i with
   | zero=>simpa using e
   | succ i=>
    have hm:l[i]'(by simpa using hi)∈l:=tQ _;have:=h.1 _ hm;rw[e]at this;cases z:p (l[i]'(by simpa using hi))with
    | false=>simpa using z
    | true=>exact absurd (this z) qc
  | true=>
   obtain⟨k,hk,hq⟩:=Lu h.2;refine⟨k+1,by simpa using hk,λi hi=>?_⟩;cases i with
   | zero=>simpa using e
   | succ i=>
    have:=hq i (by simpa using hi);simpa using this
end
end TS
namespace TS
variable{M:Model}{A:h_}{E:f_->g_->Prop}{s:g_}{κ:mi}{U:Keyed->Prop}{rk:Keyed->Int}
structure uK(M:Model)(A:h_)(E:f_->g_->Prop)(s:g_)(κ:mi)(U:Keyed->Prop)(rk:Keyed->Int):Prop where
 lt:∀(st:SortSt) (x y:Keyed) (Q:Option Bool->SortSt->Prop),kindOf st=κ->U x->U y->Q (a_ (decide (rk x<rk y))) st->wpS M A E s (lt' x y) Q st
abbrev Up(rk:Keyed->Int)(l:List Keyed):Prop:=l.Pairwise λx y=>rk x<=rk y
def pq(rk:Keyed->Int)(left:Bool)(key x:Keyed):Bool:=if left=c_ then decide (rk x<rk key) else !decide (rk key<rk x)
theorem zS{g:Ob}(G:BK g)(C:uK M A E s κ U rk){left:Bool}{key:Keyed}{arr:Array Keyed}{base n hint:Nat}{st:SortSt}{Q:Option Nat->SortSt->Prop}{l:List Keyed}(hl:(arr.toList.drop base).take n=l)(ln:l.length=n)(hκ:kindOf st=κ)(hU:∀x∈l,U x)(hk:U key)(hh:hint<n)(so:Up rk l)
  (q:∀k,k<=n->(∀x∈l.take k,pq rk left key x=c_)->(∀x∈l.drop k,pq rk left key x=d_)->Q (a_ k) st):wpS M A E s (g left key arr base n hint) Q st:=by
 have mono:l.Pairwise (λx y=>pq rk left key y=c_->pq rk left key x=c_):=so.imp λ{x y} h=>by
  unfold pq;cases left
  ·simp;lia
  ·simp;lia
 obtain⟨k,h1,h2⟩:=Lu mono;refine G M A E s left key arr base n hint k st Q hh li (λi hi Q' q'=>?_) (q k om (λx hx=>?_) λx hx=>?_)
 ·have tE:i<l.length:=li
  have hx:arr[base+i]?=a_ l[i]:=by
   have:((arr.toList.drop base).take n)[i]?=a_ l[i]:=by rw[hl];exact aO tE
   rw[qu,if_pos hi,pB]at this;simpa using this
  refine aS (iG hx ?_);have e:=h2 i tE;have hm:l[i]∈l:=tQ _;rw[<-e]at q';unfold pq at q';cases left
  ·show wpS M A E s (lt' key l[i] >>= λr=>pure (r.map λx=>!x)) Q' st;exact aS (C.lt st _ _ _ hκ hk (hU _ hm) (a8 q'))
  ·show wpS M A E s (lt' l[i] key) Q' st;exact C.lt st _ _ _ hκ (hU _ hm) hk q'
 ·obtain⟨i,hi,rfl⟩:=aan.mp hx;rw[h2 i li];exact decide_eq_true li
 ·obtain⟨i,hi,rfl⟩:=aao.mp hx;rw[h2 (k+i) li];exact decide_eq_false li
end TS
open L2
namespace TS
structure Sm(st aD:SortSt):Prop where
 k:kindOf aD=kindOf st
 a:arrOf aD=arrOf st
 p:bf aD=bf st
 f:nz aD=nz st
theorem zF{M:Model}{n:String}{Q:PUnit->SortSt->Prop}{st:SortSt}(h:Q ⟨⟩ st):wpS M A E s (liftM (rule n)) Q st:=by
 exact wpS_lift (Bs ⟨rfl,h⟩)
def Yp:=Array Keyed->Array Keyed->StateT SortSt Sem (Array Keyed)
def Fx(m:Yp):Prop:=∀(M:Model) (A:h_) (E:f_->g_->Prop) (s:g_) (κ:mi) (U:Keyed->Prop) (rk:Keyed->Int),uK M A E s κ U rk->∀(a b:Array Keyed) (st:SortSt) (Q:Array Keyed->SortSt->Prop),kindOf st=κ->(∀x∈a.toList,U x)->(∀x∈b.toList,U x)->Up rk a.toList->Up rk b.toList->
 (∃x l,b.toList=x::l/\∀y∈a.toList,rk x<=rk y)->(∃l x,a.toList=l++[x]/\∀y∈b.toList,rk y<=rk x)->
 (∀r aD,Sm st aD->Up rk r.toList->r.toList.Perm (a.toList++b.toList)->Q r aD)->wpS M A E s (m a b) Q st
section
variable{rk:Keyed->Int}{la lb L:List Keyed}{ia ib:Nat}{x:Keyed}
theorem EN(h:la[ia]?=a_ x):la.drop ia=x::la.drop (ia+1):=by
 obtain⟨hi,e⟩:=dy.mp h;rw[HU hi,e]
theorem vJ(sa:Up rk la)(h:la[ia]?=a_ x):∀y∈la.drop ia,rk x<=rk y:=by
 have sd:Up rk (la.drop ia):=sa.sublist (y4 _ _);rw[EN h]at sd ⊢;intro y hy;rcases bw.mp hy with e | hy
 ·rw[e];exact Jd _
 ·exact(rV.mp sd).1 y hy
theorem MI.one(h:MI rk la lb L ia ib)(sa:Up rk la)(hx:la[ia]?=a_ x)(hk:∀y∈lb.drop ib,rk x<=rk y):MI rk la lb (L++[x]) (ia+1) ib:=by
 have:=h.add sa 1 (λz hz=>by rw[EN hx]at hz;rw[show z=x by simpa using hz];exact hk);rw[EN hx]at this;exact this
end
theorem dU{α:Type}{M:Model}{c:Prop}[Decidable c]{m m':StateT SortSt Sem α}{Q:α->SortSt->Prop}{st:SortSt}(h1:c->wpS M A E s m Q st)(h2:¬c->wpS M A E s m' Q st):wpS M A E s (if c then m else m') Q st:=by
 by_cases h:c
 ·rw[if_pos h];exact h1 h
 ·rw[if_neg h];exact h2 h
theorem Ef{M:Model}{f:SortSt->SortSt}{Q:PUnit->SortSt->Prop}{st YA:SortSt}(h0:Sm YA st)(hf:Sm st (f st))(q:∀aD,Sm YA aD->Q ⟨⟩ aD):wpS M A E s (modify f) Q st:=si (q _ ⟨hf.k.trans h0.k,hf.a.trans h0.a,hf.p.trans h0.p,hf.f.trans h0.f⟩)
theorem FJ{rk:Keyed->Int}{y x:Keyed}(h:pq rk d_ y x=c_):rk x<=rk y:=by
 unfold pq at h;simp at h;omega
theorem Fh{rk:Keyed->Int}{y x:Keyed}(h:pq rk d_ y x=d_):rk y<=rk x:=by
 unfold pq at h;simp at h;lia
theorem Nj{rk:Keyed->Int}{y x:Keyed}(h:pq rk c_ y x=c_):rk x<=rk y:=by
 unfold pq at h;simp at h;lia
theorem Fi{rk:Keyed->Int}{y x:Keyed}(h:pq rk c_ y x=d_):rk y<=rk x:=by
 unfold pq at h;simp at h;omega
theorem nsz{i n:Nat}(h:i+1<n)(k:¬i+1+1=n):i+1+1<n:=li
theorem wsz{w i j j' n:Nat}(h:w<=i+j)(_:j+1+j'<n):w<=i+1+(j+1+j'):=li
theorem FR(a:Array Keyed)(i:Nat):(a.extract i).toList=a.toList.drop i:=by
 simp;exact je (by simp)
theorem FT(a:Array Keyed)(i k:Nat):(a.extract i (i+k)).toList=(a.toList.drop i).take k:=by simp[List.extract_eq_drop_take]
theorem ag0{l:List Keyed}{n:Nat}(h:1<=n)(hn:n<=l.length):l.reverse[l.length-n]?=l[n-1]?:=by
 rw[aaD om]
 congr 1
 lia
theorem qG{l:List Keyed}{n:Nat}(hn:n<=l.length):l.reverse.drop (l.length-n)=(l.take n).reverse:=by
 rw[List.reverse_take]
theorem Uq{l:List Keyed}{n k:Nat}(hn:n<=l.length)(hk:k<=n):(l.reverse.drop (l.length-n)).take (n-k)=((l.take n).drop k).reverse:=by
 rw[qG hn,List.take_reverse]
 congr 1
 have:(l.take n).length=n:=by simp;lia
 rw[this]
 congr 1
 lia
theorem V5{rk:Keyed->Int}{l:List Keyed}(h:l.Pairwise λx y=>rk x<=rk y):l.reverse.Pairwise λx y=>- rk x<=- rk y:=by
 rw[aaB];exact h.imp λz=>li
theorem Ma{rk:Keyed->Int}{l:List Keyed}(h:l.Pairwise λx y=>- rk x<=- rk y):l.reverse.Pairwise λx y=>rk x<=rk y:=by
 rw[aaB];exact h.imp λz=>li
theorem We(a:Array Keyed){i:Nat}(h1:1<=i)(h:i<=a.size):∃x,a[i-1]?=a_ x/\a.toList.reverse[a.size-i]?=a_ x/\x∈a.toList:=by
 have hs:a.toList.length=a.size:=eG;have e:=ag0 (l:=a.toList) h1 om;rw[hs]at e;obtain⟨x,hx⟩:∃x,a.toList[i-1]?=a_ x:=⟨_,aO om⟩;exact⟨x,by simpa using hx,e.trans hx,b9 hx⟩
theorem Xd(a:Array Keyed)(k n:Nat):((a.extract k n).reverse).toList=((a.toList.take n).drop k).reverse:=by
 simp;rw[QH]
end TS
namespace TS
theorem Uu{sa:Nat}:∀(l:List Keyed) (n0:Nat) (arr:Array Keyed),sa+n0+l.length<=arr.size->∀i,(Bw (λ(a:Array Keyed) (x:Keyed×Nat)=>match x with | (p,j)=>a.setIfInBounds (sa+j) p) arr (l.zipIdx n0))[i]?=if sa+n0<=i/\i<sa+n0+l.length then l[i-(sa+n0)]? else arr[i]?
 | [],n0,arr,h,i=>by
  rw[if_neg (by simp)];rfl
 | x::l,n0,arr,h,i=>by
  have hl:(x::l).length=l.length+1:=rfl;rw[Qr,List.foldl_cons,Uu l (n0+1) _ (by rw[Array.size_setIfInBounds];lia)]
  by_cases e:i=sa+n0
  ·subst e;rw[if_neg li,if_pos li,xG,Array.getElem?_setIfInBounds_self_of_lt li];rfl
  ·by_cases c:sa+(n0+1)<=i/\i<sa+(n0+1)+l.length
   ·rw[if_pos c,if_pos li,show i-(sa+n0)=(i-(sa+(n0+1)))+1 by lia,aaw]
   ·rw[if_neg c,if_neg li,PN li]
theorem ad1{sa:Nat}{l:List Keyed}{arr:Array Keyed}(h:sa+l.length<=arr.size):(Bw (λ(a:Array Keyed) (x:Keyed×Nat)=>match x with | (p,j)=>a.setIfInBounds (sa+j) p) arr l.zipIdx).toList=arr.toList.take sa++l++arr.toList.drop (sa+l.length):=by
 apply A9;intro i;have:=Uu l 0 arr (sa:=sa) om i;rw[A5,this];have hs:arr.toList.length=arr.size:=eG;have ht:(arr.toList.take sa).length=sa:=by rw[dS];lia
 by_cases c:i<sa
 ·rw[if_neg li,cX,vj li,qu,if_pos c];simp
 ·by_cases d:i<sa+l.length
  ·rw[if_pos li,cX,tL li,ht,vj li];rfl
  ·rw[if_neg li,tL (by rw[cj];lia),cj,ht,pB];rw[show sa+l.length+(i-(sa+l.length))=i by lia];simp
theorem ac6{rk:Keyed->Int}{p q b d r:List Keyed}{x z:Keyed}(h1:Up rk (p++q))(h2:Up rk (b++d))(hr:Up rk r)(pr:r.Perm (q++b))(hx:∀y∈p,rk y<=rk x)(hq:∀y∈q,rk x<=rk y)(hb:∀y∈b++d,rk x<=rk y)(hz:∀y∈q,rk y<=rk z)(hd:∀y∈d,rk z<=rk y):Up rk (p++r++d)/\(p++r++d).Perm ((p++q)++(b++d)):=by
 have Po:=lX.mp h1;have HG:=lX.mp h2;constructor
 ·refine lX.mpr ⟨lX.mpr ⟨Po.1,hr,λu hu v hv=>?_⟩,HG.2.1,λu hu v hv=>?_⟩
  ·rcases dD.mp (pr.mem_iff.mp hv)with z | z
   ·exact se (hx u hu) (hq v z)
   ·exact se (hx u hu) (hb v (dD.mpr (.inl z)))
  ·rcases dD.mp hu with hu | hu
   ·exact se (hx u hu) (hb v (dD.mpr (.inr hv)))
   ·rcases dD.mp (pr.mem_iff.mp hu)with y | y
    ·exact se (hz u y) (hd v hv)
    ·exact HG.2.2 u y v hv
 ·rw[cX,cX];refine vm _ ?_;rw[<-cX];exact xt _ pr
end TS
open L2
namespace TS
def seg(a:Array Keyed)(i n:Nat):List Keyed:=(a.toList.drop i).take n
theorem Xf(o a:Array Keyed)(i:Nat):o++a.extract i (i+0)=o:=by
 simp;exact DL _ _
theorem Xe(o a:Array Keyed)(i:Nat):o++(a.extract i i).reverse=o:=by
 simp;exact DL _ _
theorem Eg{β:Type}{M:Model}{Q:β->SortSt->Prop}{st:SortSt}{c:Prop}[Decidable c]{X Y J:StateT SortSt Sem β}(P:Prop)(h1:c->(P->wpS M A E s J Q st)->wpS M A E s X Q st)(h2:¬c->P/\Y=J)(t:P->wpS M A E s J Q st):wpS M A E s (if c then X else Y) Q st:=dU (λh=>h1 h t) λh=>by rw[(h2 h).2];exact t (h2 h).1
theorem RK{β:Type}{M:Model}{Q:β->SortSt->Prop}{st:SortSt}{c:Prop}[Decidable c]{X Y:StateT SortSt Sem β}{J:Nat->StateT SortSt Sem β}(h1:(∀v,wpS M A E s (J v) Q st)->wpS M A E s X Q st)(h2:(∀v,wpS M A E s (J v) Q st)->wpS M A E s Y Q st)(t:∀v,wpS M A E s (J v) Q st):wpS M A E s (if c then X else Y) Q st:=dU (λ_=>h1 t) λ_=>h2 t
abbrev MR(rk:Keyed->Int)(a b o:Array Keyed)(i j:Nat):Prop:=MI (λx=>- rk x) a.toList.reverse b.toList.reverse o.toList (a.size-i) (b.size-j)
abbrev UP(rk:Keyed->Int)(a b o:Array Keyed):Prop:=Up rk o.toList/\o.toList.Perm (a.toList++b.toList)
def Rf:Prop:=∀(M:Model) (A:h_) (E:f_->g_->Prop) (s:g_) (κ:mi) (U:Keyed->Prop) (rk:Keyed->Int),uK M A E s κ U rk->∀(i sa na pa sb nb pb:Nat) (st:SortSt) (Q:Bool->SortSt->Prop),kindOf st=κ->nz st=b_->(bf st)[i]?=a_ (sa,na,pa)->(bf st)[i+1]?=a_ (sb,nb,pb)->sb=sa+na->1<=na->1<=nb->sb+nb<=(arrOf st).size->(∀x∈(arrOf st).toList,U x)->Up rk (seg (arrOf st) sa na)->Up rk (seg (arrOf st) sb nb)->
 (∀(aD:SortSt) (m:List Keyed),kindOf aD=κ->nz aD=b_->bf aD=((bf st).setIfInBounds i (sa,na+nb,pa)).eraseIdxIfInBounds (i+1)->(arrOf aD).toList=(arrOf st).toList.take sa++m++(arrOf st).toList.drop (sb+nb)->Up rk m->m.Perm (seg (arrOf st) sa na++seg (arrOf st) sb nb)->Q c_ aD)->wpS M A E s (mergeAt' i) Q st
theorem Yd{γ S α β δ ε:Type}{m n:Nat}{P:S->Prop}{R:Nat->α->β->δ->ε->Prop}{G:Nat->γ->S->Prop}{f:α->β->δ->ε->γ}(h:∀w a b d e s,w<n->P s->R w a b d e->G w (f a b d e) s):∀w c s,m<=w->w<n->(P s/\∃a b d e,c=f a b d e/\R w a b d e)->G w c s:=by
 rintro w c s _ l ⟨p,a,b,d,e,rfl,r⟩;exact h _ _ _ _ _ _ l p r
theorem Yc{γ S α β δ ε κ:Type}{m n:Nat}{s0:S}{R:Nat->α->β->δ->ε->κ->Prop}{G:Nat->γ->S->Prop}{f:α->β->δ->ε->κ->γ}(h:∀w a b d e k,w<n->R w a b d e k->G w (f a b d e k) s0):∀w c s,m<=w->w<n->(s=s0/\∃a b d e k,c=f a b d e k/\R w a b d e k)->G w c s:=by
 rintro w c s _ l ⟨rfl,a,b,d,e,k,rfl,r⟩;exact h _ _ _ _ _ _ l r
theorem Yb{γ S α β δ ε κ ι:Type}{m n:Nat}{P:S->Prop}{R:Nat->α->β->δ->ε->κ->ι->Prop}{G:Nat->γ->S->Prop}{f:α->β->δ->ε->κ->ι->γ}(h:∀w a b d e k i s,w<n->P s->R w a b d e k i->G w (f a b d e k i) s):∀w c s,m<=w->w<n->(P s/\∃a b d e k i,c=f a b d e k i/\R w a b d e k i)->G w c s:=by
 rintro w c s _ l ⟨p,a,b,d,e,k,i,rfl,r⟩;exact h _ _ _ _ _ _ _ _ l p r
theorem ir{γ S ρ ο:Type}{P:S->Prop}{T:ρ->Prop}{G:γ->S->Prop}{g:ρ->ο->γ}(h:∀s r o,P s->T r->G (g r o) s):∀c s,(P s/\∃r o,c=g r o/\T r)->G c s:=by
 rintro c s ⟨p,r,o,rfl,t⟩;exact h _ _ _ p t
theorem Yg{γ S α β δ ε κ ρ ο:Type}{s0:S}{R:α->β->δ->ε->κ->Prop}{T:ρ->Prop}{G:γ->S->Prop}{f:α->β->δ->ε->κ->γ}{g:ρ->ο->γ}(h:∀a b d e k,R a b d e k->G (f a b d e k) s0)(h2:∀r o,T r->G (g r o) s0):∀c s,(s=s0/\((∃a b d e k,c=f a b d e k/\R a b d e k)\/∃r o,c=g r o/\T r))->G c s:=by
 rintro c s ⟨rfl,⟨a,b,d,e,k,rfl,r⟩ | ⟨r,o,rfl,t⟩⟩
 ·exact h _ _ _ _ _ r
 ·exact h2 _ _ t
theorem Ye{γ S α β δ ε κ ι ρ ο:Type}{P:S->Prop}{R:α->β->δ->ε->κ->ι->Prop}{T:ρ->Prop}{G:γ->S->Prop}{f:α->β->δ->ε->κ->ι->γ}{g:ρ->ο->γ}(h:∀a b d e k i s,P s->R a b d e k i->G (f a b d e k i) s)(h2:∀s r o,P s->T r->G (g r o) s):∀c s,(P s/\((∃a b d e k i,c=f a b d e k i/\R a b d e k i)\/∃r o,c=g r o/\T r))->G c s:=by
 rintro c s ⟨p,⟨a,b,d,e,k,i,rfl,r⟩ | ⟨r,o,rfl,t⟩⟩
 ·exact h _ _ _ _ _ _ _ p r
 ·exact h2 _ _ _ p t
theorem acg:∃(g:Ob) (ml mh:Yp),BK g/\(BK g->Fx ml)/\(BK g->Fx mh)/\(BK g->Fx ml->Fx mh->Rf):=by
 apply QW;apply QW;apply QW;refine⟨?a,?b,?c,?d⟩
 case d=>
  intro G ML MH M A E s κ U rk C i sa na pa sb nb pb st Q hκ hf h1 h2 es yK wY hsz hU AE AD q;have hs:(arrOf st).toList.length=(arrOf st).size:=eG;have lA:(seg (arrOf st) sa na).length=na:=by unfold seg;rw[dS,rY];lia
  have lB:(seg (arrOf st) sb nb).length=nb:=by unfold seg;rw[dS,rY];lia
  have UA:∀x∈seg (arrOf st) sa na,U x:=λx hx=>hU x (vn (xu hx));have UB:∀x∈seg (arrOf st) sb nb,U x:=λx hx=>hU x (vn (xu hx))
  have whole:(arrOf st).toList=(arrOf st).toList.take sa++(seg (arrOf st) sa na++seg (arrOf st) sb nb)++(arrOf st).toList.drop (sb+nb):=by
   unfold seg;rw[es,cX,cX];have e3:=gU nb ((arrOf st).toList.drop (sa+na));have e2:=gU na ((arrOf st).toList.drop sa);rw[pE]at e2 e3;rw[e3,e2,gU]
  obtain⟨x,lx,ex⟩:∃x l,seg (arrOf st) sb nb=x::l:=by
   cases e:seg (arrOf st) sb nb with
   | nil=>rw[e]at lB;simp at lB;lia
   | cons x l=>exact⟨x,l,rfl⟩
  have xB:∀y∈seg (arrOf st) sb nb,rk x<=rk y:=λy hy=>by
   have u:=AD;rw[ex]at hy u;rcases bw.mp hy with e | e
   ·rw[e];exact Jd _
   ·exact(rV.mp u).1 y e
  have hx:(arrOf st)[sb]?=a_ x:=by
   have:(seg (arrOf st) sb nb)[0]?=a_ x:=by rw[ex];rfl
   unfold seg at this;rw[qu,if_pos li,pB]at this;simpa using this
  obtain⟨lz,z,ez⟩:∃l z,seg (arrOf st) sa na=l++[z]:=by
   exact⟨(seg (arrOf st) sa na).dropLast,(seg (arrOf st) sa na).getLast (λe=>by rw[e]at lA;simp at lA;lia),(aad _).symm⟩
  have zA:∀y∈seg (arrOf st) sa na,rk y<=rk z:=λy hy=>by
   have u:=AE;rw[ez]at hy u;rcases dD.mp hy with e | e
   ·exact(lX.mp u).2.2 y e z (f7.mpr rfl)
   ·rw[f7.mp e];exact Jd _
  have hz:(arrOf st)[sa+na-1]?=a_ z:=by
   have:(seg (arrOf st) sa na)[na-1]?=a_ z:=by
    have:na-1=lz.length:=by rw[ez]at lA;simp at lA;lia
    rw[ez,this];simp
   unfold seg at this;rw[qu,if_pos li,pB,show sa+(na-1)=sa+na-1 by lia]at this;simpa using this
  refine aS (wpS_get ?_);simp only[bf]at h1 h2;rw[h1,h2];refine aS (afe (aS (iG hx (aS (zS G C (l:=seg (arrOf st) sa na) rfl lA hκ UA (UB x (by rw[ex];exact f9)) li AE λk hk p1 p2=>dU (λe=>?_) λe=>?_)))))
  ·have kz:k=na:=by
    have:=jf e;lia
   refine a8 (q _ _ hκ hf rfl whole ?_ (vv _));exact lX.mpr ⟨AE,AD,λu hu v hv=>se (FJ (p1 u (by rw[kz,je li];exact hu))) (xB v hv)⟩
  have nk:¬na-k=0:=λy=>e (beq_iff_eq.mpr y);have Ht:(arrOf st)[sa+k+(na-k)-1]?=a_ z:=by rw[show sa+k+(na-k)-1=sa+na-1 by lia];exact hz
  refine aS (iG Ht (aS (zS G C (l:=seg (arrOf st) sb nb) rfl lB hκ UB (UA z (by rw[ez];simp)) li AD λk2 C5 r1 r2=>dU (λe'=>?_) λe'=>?_)))
  ·have kz:=jf e';refine a8 (q _ _ hκ hf rfl whole ?_ (vv _));exact lX.mpr ⟨AE,AD,λu hu v hv=>se (zA u hu) (Fi (r2 v (by rw[kz];exact hv)))⟩
  have nk2:¬k2=0:=λy=>e' (beq_iff_eq.mpr y)
  have ea:((arrOf st).extract (sa+k) sb).toList=(seg (arrOf st) sa na).drop k:=by
   unfold seg;rw[show sb=(sa+k)+(na-k) by lia,FT,QH,pE]
  have eb:((arrOf st).extract sb (sb+k2)).toList=(seg (arrOf st) sb nb).take k2:=by
   unfold seg;rw[FT,IF,y' C5]
  have fin:∀(r:Array Keyed) (aD:SortSt),kindOf aD=kindOf st->arrOf aD=arrOf st->nz aD=nz st->bf aD=((bf st).setIfInBounds i (sa,na+nb,pa)).eraseIdxIfInBounds (i+1)->Up rk r.toList->r.toList.Perm (((arrOf st).extract (sa+k) sb).toList++((arrOf st).extract sb (sb+k2)).toList)->
    ∀eD:SortSt,kindOf eD=kindOf aD->nz eD=nz aD->bf eD=bf aD->arrOf eD=Bw (λ(a:Array Keyed) (x:Keyed×Nat)=>match x with | (p,j)=>a.setIfInBounds (sa+k+j) p) (arrOf aD) r.toList.zipIdx->Q (nz eD).isNone eD:=by
   intro r aD k1 OK k3 k4 ur pr eD s1 s2 s3 s4;rw[ea,eb]at pr
   have lr:r.toList.length=(na-k)+k2:=by
    rw[pr.length_eq,cj,rY,dS,lA,lB];lia
   have mu:=ac6 (p:=(seg (arrOf st) sa na).take k) (q:=(seg (arrOf st) sa na).drop k) (b:=(seg (arrOf st) sb nb).take k2) (d:=(seg (arrOf st) sb nb).drop k2) (x:=x) (z:=z) (by rw[gU];exact AE) (by rw[gU];exact AD) ur pr (λy hy=>FJ (p1 y hy)) (λy hy=>Fh (p2 y hy)) (by rw[gU];exact xB) (λy hy=>zA y (vn hy)) (λy hy=>Fi (r2 y hy));rw[gU,gU]at mu;rw[s2,k3,hf];refine q eD _ (s1.trans (k1.trans hκ)) (s2.trans (k3.trans hf)) (s3.trans k4) ?_ mu.1 mu.2;rw[s4,OK,ad1 (by rw[lr];lia),lr];unfold seg
   have e1:(arrOf st).toList.take (sa+k)=(arrOf st).toList.take sa++(((arrOf st).toList.drop sa).take na).take k:=by
    rw[IF,y' hk,IM]
   have e2:(arrOf st).toList.drop (sa+k+(na-k+k2))=(((arrOf st).toList.drop sb).take nb).drop k2++(arrOf st).toList.drop (sb+nb):=by
    rw[show sa+k+(na-k+k2)=sb+k2 by lia,QH,pE];have:=gU (nb-k2) ((arrOf st).toList.drop (sb+k2));rw[pE,show sb+k2+(nb-k2)=sb+nb by lia]at this;exact this.symm
   rw[e1,e2];simp only[cX]
  have Ux:∀y∈((arrOf st).extract (sa+k) sb).toList,U y:=λy hy=>by rw[ea]at hy;exact UA y (vn hy)
  have Uy:∀y∈((arrOf st).extract sb (sb+k2)).toList,U y:=λy hy=>by rw[eb]at hy;exact UB y (xu hy)
  have Yz:Up rk ((arrOf st).extract (sa+k) sb).toList:=by rw[ea];exact AE.sublist (y4 _ _)
  have Yy:Up rk ((arrOf st).extract sb (sb+k2)).toList:=by rw[eb];exact AD.sublist (Ih _ _)
  have f1:∃x l,((arrOf st).extract sb (sb+k2)).toList=x::l/\∀y∈((arrOf st).extract (sa+k) sb).toList,rk x<=rk y:=by
   refine⟨x,lx.take (k2-1),?_,λy hy=>?_⟩
   ·rw[eb,ex,show k2=(k2-1)+1 by lia,List.take_succ_cons];rfl
   ·rw[ea]at hy;exact Fh (p2 y hy)
  have f2:∃l x,((arrOf st).extract (sa+k) sb).toList=l++[x]/\∀y∈((arrOf st).extract sb (sb+k2)).toList,rk y<=rk x:=by
   refine⟨lz.drop k,z,?_,λy hy=>?_⟩
   ·rw[ea,ez,List.drop_append_of_le_length];rw[ez]at lA;simp at lA;omega
   ·rw[eb]at hy;exact Nj (r1 y hy)
  exact dU (λ_=>aS (ML M A E s κ U rk C _ _ _ _ hκ Ux Uy Yz Yy f1 f2 λr aD sm ur pr=>aS (si (aS (wpS_get (a8 (fin r aD sm.k sm.a sm.f sm.p ur pr _ rfl rfl rfl rfl))))))) λ_=>aS (MH M A E s κ U rk C _ _ _ _ hκ Ux Uy Yz Yy f1 f2 λr aD sm ur pr=>aS (si (aS (wpS_get (a8 (fin r aD sm.k sm.a sm.f sm.p ur pr _ rfl rfl rfl rfl))))))
 case a=>
  intro M A E s left key arr base n hint k0 st Q hh hk hb q;refine aS (hb hint hh _ ?_)
  by_cases h:hint<k0
  ·rw[decide_eq_true h];refine aS (Tj (T:=λo=>hint+o<k0) (mx:=n-hint) (λi l o R r1 r2 r3=>?_) (by simpa using h) li li λl o a b c d=>?_)
   ·show wpS M A E s (if o ≥ n-hint then _ else _) R st
    by_cases ho:o ≥ n-hint
    ·rw[if_pos ho];exact a8 (r1 ho)
    ·rw[if_neg ho];refine aS (hb (hint+o) li _ ?_)
     by_cases hT:hint+o<k0
     ·rw[decide_eq_true hT];exact a8 (r2 li hT)
     ·rw[decide_eq_false hT];exact a8 (r3 om hT)
   ·refine aS (U0 (k0:=k0) (λi lo hi R hn r1 r2 r3=>?_) ?_ ?_ ?_ λlo=>?_)
    ·show wpS M A E s (if lo ≥ hi then _ else _) R st
     by_cases hl:lo ≥ hi
     ·rw[if_pos hl];exact a8 (r1 hl)
     ·rw[if_neg hl];refine aS (hb (lo+(hi-lo)/2) li _ ?_)
      by_cases hT:lo+(hi-lo)/2<k0
      ·rw[decide_eq_true hT];exact a8 (r2 li hT)
      ·rw[decide_eq_false hT];exact a8 (r3 om hT)
    ·show hint+l+1<=k0;have:hint+l<k0:=a;lia
    ·show k0<=hint+min o (n-hint);rcases d with d | d
     ·lia
     ·have:¬hint+o<k0:=d;lia
    ·show hint+min o (n-hint)<=n;lia
    ·exact a8 q
  ·rw[decide_eq_false h];refine aS (Tj (T:=λo=>¬hint-o<k0) (mx:=hint+1) (λi l o R r1 r2 r3=>?_) (by simpa using h) li li λl o a b c d=>?_)
   ·show wpS M A E s (if o ≥ hint+1 then _ else _) R st
    by_cases ho:o ≥ hint+1
    ·rw[if_pos ho];exact a8 (r1 ho)
    ·rw[if_neg ho];refine aS (hb (hint-o) li _ ?_)
     by_cases hT:hint-o<k0
     ·rw[decide_eq_true hT];exact a8 (r3 li λz=>z hT)
     ·rw[decide_eq_false hT];exact a8 (r2 om hT)
   ·refine aS (U0 (k0:=k0) (λi lo hi R hn r1 r2 r3=>?_) ?_ ?_ ?_ λlo=>?_)
    ·show wpS M A E s (if lo ≥ hi then _ else _) R st
     by_cases hl:lo ≥ hi
     ·rw[if_pos hl];exact a8 (r1 hl)
     ·rw[if_neg hl];refine aS (hb (lo+(hi-lo)/2) om _ ?_)
      by_cases hT:lo+(hi-lo)/2<k0
      ·rw[decide_eq_true hT];exact a8 (r2 om hT)
      ·rw[decide_eq_false hT];exact a8 (r3 om hT)
    ·show hint+1-min o (hint+1)<=k0;rcases d with d | d
     ·omega
     ·have:hint-o<k0:=Decidable.not_not.mp d;omega
    ·show k0<=hint-l;have:¬hint-l<k0:=a;lia
    ·show hint-l<=n;lia
    ·exact a8 q
 case b=>
  intro G M A E s κ U rk C a b st Q hκ Ua Ub ha hb f1 f2 q;obtain⟨b0,OH,eb,fb⟩:=f1;obtain⟨CP,az,ea,fa⟩:=f2;have uO:a.toList.length=a.size:=eG;have uM:b.toList.length=b.size:=eG;have Zc:a.size=CP.length+1:=by rw[<-uO,ea];simp
  have lb1:b.size=OH.length+1:=by rw[<-uM,eb];simp
  have gA:∀{i},i<a.size->∃x,a[i]?=a_ x/\a.toList[i]?=a_ x/\U x:=λ{i} h=>⟨a[i],by simp[h],by simp[h],Ua _ (by simp)⟩;have gB:∀{i},i<b.size->∃x,b[i]?=a_ x/\b.toList[i]?=a_ x/\U x:=λ{i} h=>⟨b[i],by simp[h],by simp[h],Ub _ (by simp)⟩
  have dn:∀{out:Array Keyed} {ia ib},MI rk a.toList b.toList out.toList ia ib->(∀x∈a.toList.drop ia,∀y∈b.toList.drop ib,rk x<=rk y)->UP rk a b (out++a.extract ia++b.extract ib):=λ{out ia ib} h hx=>by
   have:=h.fin ha hb hx;unfold UP;rw[xv,xv,FR,FR];exact this
  have dB:∀{out:Array Keyed} {ia ib},MI rk a.toList b.toList out.toList ia ib->ib=b.size->UP rk a b (out++a.extract ia++b.extract ib):=λ{out ia ib} h e=>dn h λx _ y hy=>by
   rw[Dx li]at hy;cases hy
  have dA:∀{out:Array Keyed} {ia ib},MI rk a.toList b.toList out.toList ia ib->ia=a.size->UP rk a b (out++a.extract ia++b.extract ib):=λ{out ia ib} h e=>dn h λx hx y _=>by
   rw[Dx li]at hx;cases hx
  have lst:∀{out:Array Keyed} {ia ib},MI rk a.toList b.toList out.toList ia ib->ia+1=a.size->UP rk a b (out++b.extract ib++a.extract ia):=λ{out ia ib} h e=>by
   have ed:a.toList.drop ia=[az]:=by
    have:ia=CP.length:=li;rw[ea,this,List.drop_left]
   have:=h.swap.fin hb ha (λx hx y hy=>by
    rw[ed]at hy;rw[f7.mp hy];exact fa x (vn hx))
   unfold UP;rw[xv,xv,FR,FR];exact⟨this.1,this.2.trans rQ⟩
  refine aS (zF ?_)
  have De:b[0]?=a_ b0:=by
   have:b.toList[0]?=a_ b0:=by rw[eb];rfl
   simpa using this
  refine aS (iG De ?_)
  have m0:MI rk a.toList b.toList (#[b0]:Array Keyed).toList 0 1:=by
   refine⟨?_,?_,λx hx y hy=>?_,λx hx y hy=>?_⟩
   ·rw[eb];simp
   ·simp
   ·rw[show x=b0 by simpa using hx];exact fb y (by simpa using hy)
   ·rw[show x=b0 by simpa using hx];rw[eb]at hy hb;exact(rV.mp hb).1 y (by simpa using hy)
  have yv:Sm st st:=⟨rfl,rfl,rfl,rfl⟩;show wpS M A E s (if ((1:Nat) == b.size)=c_ then _ else _) Q st
  by_cases i6:1=b.size
  ·rw[if_pos (by simpa using i6)];have:=dB m0 i6;exact a8 (q _ _ yv this.1 this.2)
  rw[if_neg (by simpa using i6)];show wpS M A E s (if ((0:Nat)+1 == a.size)=c_ then _ else _) Q st
  by_cases vd:1=a.size
  ·rw[if_pos (by simpa using vd)];have:=lst m0 om;exact a8 (q _ _ yv this.1 this.2)
  rw[if_neg (by simpa using vd)]
  let I1:Nat->Option (Array Keyed)×Array Keyed×Nat×Nat×Nat->SortSt->Prop:=λi c aD=>Sm st aD/\∃out ia ib mg,c=(b_,out,ia,ib,mg)/\MI rk a.toList b.toList (out:Array Keyed).toList ia ib/\ia+1<a.size/\ib<b.size/\i+1<=ia+ib
  let Q1:Option (Array Keyed)×Array Keyed×Nat×Nat×Nat->SortSt->Prop:=λc aD=>Sm st aD/\∃(r:Array Keyed) (o:_),c=(a_ r,o)/\Up rk r.toList/\r.toList.Perm (a.toList++b.toList)
  refine aS (wpS_get (aS (sv (ma (I:=I1) (Q:=Q1) ?_ ?_ ⟨yv,_,_,_,_,rfl,m0,li,li,li⟩) ?_)))
  ·refine Yd λw out ia ib mg kZ hw sm r=>?_;have m1:=r.1;have h1:=r.2.1;have h2:=r.2.2.1;have h3:=r.2.2.2
   let I2:Nat->Option (Array Keyed)×Array Keyed×Nat×Nat×Nat×Nat->SortSt->Prop:=λj c aD=>aD=kZ/\∃out ia ib ac bc,c=(b_,out,ia,ib,ac,bc)/\MI rk a.toList b.toList (out:Array Keyed).toList ia ib/\ia+1<a.size/\ib<b.size/\w+1+j<=ia+ib
   let Q2:Option (Array Keyed)×Array Keyed×Nat×Nat×Nat×Nat->SortSt->Prop:=λc aD=>aD=kZ/\((∃out ia ib ac bc,c=(b_,out,ia,ib,ac,bc)/\MI rk a.toList b.toList (out:Array Keyed).toList ia ib/\ia+1<a.size/\ib<b.size/\w+2<=ia+ib)\/∃(r:Array Keyed) (o:_),c=(a_ r,o)/\Up rk r.toList/\r.toList.Perm (a.toList++b.toList))
   refine aS (sv (ma (I:=I2) (Q:=Q2) ?_ ?_ ⟨rfl,_,_,_,_,_,rfl,m1,h1,h2,om⟩) ?_)
   ·refine Yc λj out ia ib ac bc hj r=>?_;have m2:=r.1;have h1:=r.2.1;have h2:=r.2.2.1;have h3:=r.2.2.2;obtain⟨y,y1,y2,Uy⟩:=gB h2;obtain⟨x,x1,x2,Ux⟩:=gA (show ia<a.size by lia);refine aS (iG y1 (aS (iG x1 (aS (C.lt _ _ _ _ (sm.k.trans hκ) Uy Ux ?_)))))
    by_cases hl:rk y<rk x
    ·rw[decide_eq_true hl];refine aS (iG y1 ?_)
     have m3:MI rk a.toList b.toList (out.push y).toList ia (ib+1):=by
      have:=(m2.swap.one hb y2 λz hz=>se (IZ hl) (vJ ha x2 z hz)).swap;rw[qz];exact this
     show wpS M A E s (if (ib+1 == b.size)=c_ then _ else _) _ _
     by_cases e:ib+1=b.size
     ·rw[if_pos (by simpa using e)];exact a8 ⟨rfl,.inr ⟨_,_,rfl,dB m3 e⟩⟩
     rw[if_neg (by simpa using e)];show wpS M A E s (if bc+1 ≥ mg then _ else _) _ _;have p1:ib+1<b.size:=li;have p2:w+2<=ia+(ib+1):=li;have p3:w+1+(j+1)<=ia+(ib+1):=li
     by_cases e2:bc+1 ≥ mg
     ·rw[if_pos e2];exact a8 ⟨rfl,.inl ⟨_,_,_,_,_,rfl,m3,h1,p1,p2⟩⟩
     ·rw[if_neg e2];exact a8 ⟨rfl,_,_,_,_,_,rfl,m3,h1,p1,p3⟩
    ·rw[decide_eq_false hl];refine aS (iG x1 ?_)
     have m3:MI rk a.toList b.toList (out.push x).toList (ia+1) ib:=by
      have:=m2.one ha x2 (λz hz=>se (Int.not_lt.mp hl) (vJ hb y2 z hz));rw[qz];exact this
     show wpS M A E s (if (ia+1+1 == a.size)=c_ then _ else _) _ _
     by_cases e:ia+1+1=a.size
     ·rw[if_pos (by simpa using e)];exact a8 ⟨rfl,.inr ⟨_,_,rfl,lst m3 e⟩⟩
     rw[if_neg (by simpa using e)];show wpS M A E s (if ac+1 ≥ mg then _ else _) _ _;have p1:ia+1+1<a.size:=li;have p2:w+2<=ia+1+ib:=li;have p3:w+1+(j+1)<=ia+1+ib:=li
     by_cases e2:ac+1 ≥ mg
     ·rw[if_pos e2];exact a8 ⟨rfl,.inl ⟨_,_,_,_,_,rfl,m3,p1,h2,p2⟩⟩
     ·rw[if_neg e2];exact a8 ⟨rfl,_,_,_,_,_,rfl,m3,p1,h2,p3⟩
   ·rintro c eD ⟨rfl,out,ia,ib,ac,bc,rfl,m2,h1,h2,h3⟩;exact⟨rfl,.inl ⟨_,_,_,_,_,rfl,m2,h1,h2,li⟩⟩
   refine Yg (λout ia ib ac bc r=>?_) λr o g=>?_
   ·have m2:=r.1;have h1:=r.2.1;have h2:=r.2.2.1;have h3:=r.2.2.2
    let I3:Nat->Option (Array Keyed)×Array Keyed×Nat×Nat×Nat×Nat×Nat->SortSt->Prop:=λj c aD=>Sm st aD/\∃out ia ib mg ac bc,c=(b_,out,ia,ib,mg,ac,bc)/\MI rk a.toList b.toList (out:Array Keyed).toList ia ib/\ia+1<a.size/\ib<b.size/\w+2<=ia+ib
    let Q3:Option (Array Keyed)×Array Keyed×Nat×Nat×Nat×Nat×Nat->SortSt->Prop:=λc aD=>Sm st aD/\((∃out ia ib mg ac bc,c=(b_,out,ia,ib,mg,ac,bc)/\MI rk a.toList b.toList (out:Array Keyed).toList ia ib/\ia+1<a.size/\ib<b.size/\w+2<=ia+ib)\/∃(r:Array Keyed) (o:_),c=(a_ r,o)/\Up rk r.toList/\r.toList.Perm (a.toList++b.toList))
    refine aS (zF (aS (sv (ma (I:=I3) (Q:=Q3) ?_ ?_ ⟨sm,_,_,_,_,_,_,rfl,m2,h1,h2,h3⟩) ?_)))
    ·refine Yb λj out ia ib mg ac bc ja hj m8 r=>?_;have m3:=r.1;have h1:=r.2.1;have h2:=r.2.2.1;have h3:=r.2.2.2;obtain⟨y,y1,y2,Uy⟩:=gB h2;have tm:0<a.size-ia:=li;apply RK
     case h1=>
      intro T;generalize (b_,out,ia,ib,mg,ac,bc).snd.snd.snd.snd.fst-1=v;exact T v
     case h2=>exact λT=>T _
     case t=>
      intro mg2;refine aS (Ef m8 ⟨rfl,rfl,rfl,rfl⟩ λOe iO=>aS (iG y1 (aS (zS G C (l:=a.toList.drop ia) (je (by simp)) (by simp) (iO.k.trans hκ) (λx hx=>Ua x (vn hx)) Uy tm (ha.sublist (y4 _ _)) λk hk p1 p2=>?_))));have m4:=m3.add ha k (λx hx z hz=>se (FJ (p1 x hx)) (vJ hb y2 z hz));have p4:=λx hx=>Fh (p2 x (by rw[pE];exact hx));rw[<-FT,<-xv]at m4;have HD:k<=a.size-ia:=hk;apply Eg (P:=ia+k+1<a.size)
      case h1=>
       intro yN T;refine dU (λe=>?_) λe=>dU (λe'=>?_) λe'=>T ?_
       ·exact a8 ⟨iO,.inr ⟨_,_,rfl,lst m4 (jf e)⟩⟩
       ·exact a8 ⟨iO,.inr ⟨_,_,rfl,dA m4 (jf e')⟩⟩
       have n1:¬ia+k+1=a.size:=λz=>e (beq_iff_eq.mpr z);have n2:¬ia+k=a.size:=λz=>e' (beq_iff_eq.mpr z);lia
      case h2=>
       intro yN;have kz:=aaz yN;have e:out++a.extract ia (ia+k)=out:=by rw[kz];exact Xf _ _ _
       refine⟨by rw[kz];exact h1,?_⟩;rw[e,kz];rfl
      case t=>
       intro h5;refine aS (iG y1 ?_);have m6:=(m4.swap.one hb y2 p4).swap;rw[<-qz]at m6;refine dU (λe1=>?_) λe1=>?_
       ·exact a8 ⟨iO,.inr ⟨_,_,rfl,dB m6 (jf e1)⟩⟩
       have n3:¬ib+1=b.size:=λz=>e1 (beq_iff_eq.mpr z);have eL:0<b.size-(ib+1):=li;obtain⟨x,x1,x2,Ux⟩:=gA (Nat.lt_of_succ_lt h5);refine aS (iG x1 (aS (zS G C (l:=b.toList.drop (ib+1)) (je (by simp)) (by simp) (iO.k.trans hκ) (λx hx=>Ub x (vn hx)) Ux eL (hb.sublist (y4 _ _)) λk2 C5 r1 r2=>?_)));have m7:=(m6.swap.add hb k2 λz hz u hu=>se (Nj (r1 z hz)) (vJ ha x2 u hu)).swap;have r4:=λz hz=>Fi (r2 z (by rw[pE];exact hz));rw[<-FT,<-xv]at m7;have NO:k2<=b.size-(ib+1):=C5;have w5:w+2<=ia+k+ib:=li;apply Eg (P:=ib+1+k2<b.size)
       case h1=>
        intro hq T;refine dU (λe3=>?_) λe3=>T ?_
        ·exact a8 ⟨iO,.inr ⟨_,_,rfl,dB m7 (jf e3)⟩⟩
        have n4:¬ib+1+k2=b.size:=λz=>e3 (beq_iff_eq.mpr z);lia
       case h2=>
        intro hq;have kz:=aaz hq;have e:∀o:Array Keyed,o++b.extract (ib+1) (ib+1+k2)=o:=λo=>by rw[kz];exact Xf _ _ _
        refine⟨li,?_⟩;rw[e,kz]
       case t=>
        intro h8;refine aS (iG x1 ?_);have m9:=m7.one ha x2 r4;rw[<-qz]at m9;refine dU (λe4=>?_) λe4=>?_
        ·exact a8 ⟨iO,.inr ⟨_,_,rfl,lst m9 (jf e4)⟩⟩
        have h9:=nsz h5 (λz=>e4 (beq_iff_eq.mpr z));have w9:=wsz w5 h8;exact dU (λ_=>a8 ⟨iO,.inl ⟨_,_,_,_,_,_,rfl,m9,h9,h8,w9⟩⟩) λ_=>a8 ⟨iO,_,_,_,_,_,_,rfl,m9,h9,h8,w9⟩
    ·rintro c ja ⟨m8,out,ia,ib,mg,ac,bc,rfl,m3,h1,h2,h3⟩;exact⟨m8,.inl ⟨_,_,_,_,_,_,rfl,m3,h1,h2,h3⟩⟩
    refine Ye (λout ia ib mg ac bc ja m8 r=>?_) λja r o m8 g=>?_
    ·have m3:=r.1;have h1:=r.2.1;have h2:=r.2.2.1;have h3:=r.2.2.2;exact aS (Ef m8 ⟨rfl,rfl,rfl,rfl⟩ λOe iO=>a8 ⟨iO,_,_,_,_,rfl,m3,h1,h2,h3⟩)
    ·have g1:=g.1;have g2:=g.2;exact a8 ⟨m8,_,_,rfl,g1,g2⟩
   ·have g1:=g.1;have g2:=g.2;exact a8 ⟨sm,_,_,rfl,g1,g2⟩
  ·rintro c aD ⟨sm,out,ia,ib,mg,rfl,_,h1,h2,h3⟩;lia
  ·refine ir λaD r o sm g=>?_;have g1:=g.1;have g2:=g.2;exact a8 (q _ _ sm g1 g2)
 case c=>
  intro G M A E s κ U rk C a b st Q hκ Ua Ub ha hb f1 f2 q;obtain⟨b0,OH,eb,fb⟩:=f1;obtain⟨CP,az,ea,fa⟩:=f2;have uO:a.toList.length=a.size:=eG;have uM:b.toList.length=b.size:=eG;have Zc:a.size=CP.length+1:=by rw[<-uO,ea];simp
  have lb1:b.size=OH.length+1:=by rw[<-uM,eb];simp
  have vf:=V5 ha;have tG:=V5 hb
  have gA:∀{i},1<=i->i<=a.size->∃x,a[i-1]?=a_ x/\a.toList.reverse[a.size-i]?=a_ x/\U x:=λ{i} h1 h=>by
   obtain⟨x,e1,e2,e3⟩:=We a h1 h;exact⟨x,e1,e2,Ua x e3⟩
  have gB:∀{i},1<=i->i<=b.size->∃x,b[i-1]?=a_ x/\b.toList.reverse[b.size-i]?=a_ x/\U x:=λ{i} h1 h=>by
   obtain⟨x,e1,e2,e3⟩:=We b h1 h;exact⟨x,e1,e2,Ub x e3⟩
  have dn:∀{out:Array Keyed} {na nb},MR rk a b out na nb->na<=a.size->nb<=b.size->(∀x∈b.toList.take nb,∀y∈a.toList.take na,rk y<=rk x)->UP rk a b (a.extract 0 na++b.extract 0 nb++out.reverse):=λ{out na nb} h yK wY hx=>by
   have:=h.swap.fin tG vf (λx tu y hy=>by
    rw[<-uM,qG om]at tu;rw[<-uO,qG om]at hy;have:=hx x (by simpa using tu) y (by simpa using hy);show-rk x<=- rk y;lia)
   rw[<-uM,<-uO,qG om,qG om]at this;have e:(a.extract 0 na++b.extract 0 nb++out.reverse).toList=(out.toList++(b.toList.take nb).reverse++(a.toList.take na).reverse).reverse:=by simp
   unfold UP;rw[e];exact⟨Ma this.1,(xA _).trans (this.2.trans ((aba (xA _) (xA _)).trans rQ))⟩
  have dA:∀{out:Array Keyed} {na nb},MR rk a b out na nb->na=0->nb<=b.size->UP rk a b (a.extract 0 na++b.extract 0 nb++out.reverse):=λ{out na nb} h e wY=>dn h li wY λx _ y hy=>by
   rw[e]at hy;cases hy
  have dB:∀{out:Array Keyed} {na nb},MR rk a b out na nb->nb=0->na<=a.size->UP rk a b (a.extract 0 na++b.extract 0 nb++out.reverse):=λ{out na nb} h e yK=>dn h yK li λx hx y _=>by
   rw[e]at hx;cases hx
  have fst:∀{out:Array Keyed} {na nb},MR rk a b out na nb->nb=1->na<=a.size->UP rk a b (b.extract 0 nb++a.extract 0 na++out.reverse):=λ{out na nb} h e1 yK=>by
   have:=h.fin vf tG (λx tu y hy=>by
    rw[<-uM,qG li]at hy;rw[<-uO,qG om]at tu;rw[e1,eb]at hy;have Hv:y=b0:=by simpa using hy
    have:=fb x (xu (by simpa using tu));show-rk x<=- rk y;rw[Hv];lia)
   rw[<-uM,<-uO,qG om,qG om]at this;have e:(b.extract 0 nb++a.extract 0 na++out.reverse).toList=(out.toList++(a.toList.take na).reverse++(b.toList.take nb).reverse).reverse:=by simp
   unfold UP;rw[e];exact⟨Ma this.1,(xA _).trans (this.2.trans (aba (xA _) (xA _)))⟩
  refine aS (zF ?_)
  have hz:a[a.size-1]?=a_ az:=by
   have:a.toList[a.size-1]?=a_ az:=by rw[ea,Zc];simp
   simpa using this
  refine aS (iG hz ?_)
  have m0:MR rk a b (#[az]:Array Keyed) (a.size-1) b.size:=by
   unfold MR;rw[show a.size-(a.size-1)=1 by lia,xG];refine⟨?_,?_,λx hx y hy=>?_,λx hx y hy=>?_⟩
   ·rw[ea];simp
   ·simp
   ·rw[show x=az by simpa using hx];have hr:a.toList.reverse=az::CP.reverse:=by rw[ea];simp
    rw[hr]at hy vf;exact(rV.mp vf).1 y (by simpa using hy)
   ·rw[show x=az by simpa using hx];have:=fa y (by simpa using hy);show-rk az<=- rk y;lia
  have yv:Sm st st:=⟨rfl,rfl,rfl,rfl⟩;refine dU (λe=>?_) λe=>?_
  ·have:=dA m0 (jf e) (aI _);exact a8 (q _ _ yv this.1 this.2)
  have vd:¬a.size-1=0:=λz=>e (beq_iff_eq.mpr z);refine dU (λe=>?_) λe=>?_
  ·have:=fst m0 (jf e) om;exact a8 (q _ _ yv this.1 this.2)
  have i6:¬b.size=1:=λz=>e (beq_iff_eq.mpr z)
  let I4:Nat->Option (Array Keyed)×Nat×Nat×Array Keyed×Nat->SortSt->Prop:=λi c aD=>Sm st aD/\∃na nb out mg,c=(b_,na,nb,out,mg)/\MR rk a b (out:Array Keyed) na nb/\1<=na/\na<=a.size/\2<=nb/\nb<=b.size/\na+nb+i<a.size+b.size
  let Q4:Option (Array Keyed)×Nat×Nat×Array Keyed×Nat->SortSt->Prop:=λc aD=>Sm st aD/\∃(r:Array Keyed) (o:_),c=(a_ r,o)/\Up rk r.toList/\r.toList.Perm (a.toList++b.toList)
  refine aS (wpS_get (aS (sv (ma (I:=I4) (Q:=Q4) ?_ ?_ ⟨yv,_,_,_,_,rfl,m0,li,li,li,li,li⟩) ?_)))
  ·refine Yd λw na nb out mg kZ hw sm r=>?_;have m1:=r.1;have h1:=r.2.1;have h2:=r.2.2.1;have h3:=r.2.2.2.1;have h4:=r.2.2.2.2.1;have h5:=r.2.2.2.2.2
   let I5:Nat->Option (Array Keyed)×Nat×Nat×Array Keyed×Nat×Nat->SortSt->Prop:=λj c aD=>aD=kZ/\∃na nb out ac bc,c=(b_,na,nb,out,ac,bc)/\MR rk a b (out:Array Keyed) na nb/\1<=na/\na<=a.size/\2<=nb/\nb<=b.size/\na+nb+w+j<a.size+b.size
   let Q5:Option (Array Keyed)×Nat×Nat×Array Keyed×Nat×Nat->SortSt->Prop:=λc aD=>aD=kZ/\((∃na nb out ac bc,c=(b_,na,nb,out,ac,bc)/\MR rk a b (out:Array Keyed) na nb/\1<=na/\na<=a.size/\2<=nb/\nb<=b.size/\na+nb+(w+1)<a.size+b.size)\/∃(r:Array Keyed) (o:_),c=(a_ r,o)/\Up rk r.toList/\r.toList.Perm (a.toList++b.toList))
   refine aS (sv (ma (I:=I5) (Q:=Q5) ?_ ?_ ⟨rfl,_,_,_,_,_,rfl,m1,h1,h2,h3,h4,h5⟩) ?_)
   ·refine Yc λj na nb out ac bc hj r=>?_;have m2:=r.1;have h1:=r.2.1;have h2:=r.2.2.1;have h3:=r.2.2.2.1;have h4:=r.2.2.2.2.1;have h5:=r.2.2.2.2.2;obtain⟨y,y1,y2,Uy⟩:=gB (show 1<=nb by lia) h4;obtain⟨x,x1,x2,Ux⟩:=gA h1 h2;refine aS (iG y1 (aS (iG x1 (aS (C.lt _ _ _ _ (sm.k.trans hκ) Uy Ux ?_)))))
    by_cases hl:rk y<rk x
    ·rw[decide_eq_true hl];refine aS (iG x1 ?_)
     have m3:MR rk a b (out.push x) (na-1) nb:=by
      have z:=m2.one vf x2 (λz hz=>by
       have:=vJ tG y2 z hz;lia)
      rw[<-qz,show a.size-na+1=a.size-(na-1) by lia]at z;exact z
     refine dU (λe=>?_) λe=>?_
     ·exact a8 ⟨rfl,.inr ⟨_,_,rfl,dA m3 (jf e) h4⟩⟩
     have n1:¬na-1=0:=λz=>e (beq_iff_eq.mpr z);have q1:1<=na-1:=li;have q2:na-1<=a.size:=om;have q3:na-1+nb+(w+1)<a.size+b.size:=om;have q4:na-1+nb+w+(j+1)<a.size+b.size:=om;exact dU (λ_=>a8 ⟨rfl,.inl ⟨_,_,_,_,_,rfl,m3,q1,q2,h3,h4,q3⟩⟩) λ_=>a8 ⟨rfl,_,_,_,_,_,rfl,m3,q1,q2,h3,h4,q4⟩
    ·rw[decide_eq_false hl];refine aS (iG y1 ?_)
     have m3:MR rk a b (out.push y) na (nb-1):=by
      have z:=(m2.swap.one tG y2 (λz hz=>by
       have:=vJ vf x2 z hz;lia)).swap
      rw[<-qz,show b.size-nb+1=b.size-(nb-1) by lia]at z;exact z
     refine dU (λe=>?_) λe=>?_
     ·exact a8 ⟨rfl,.inr ⟨_,_,rfl,fst m3 (jf e) h2⟩⟩
     have n1:¬nb-1=1:=λz=>e (beq_iff_eq.mpr z);have q1:2<=nb-1:=li;have q2:nb-1<=b.size:=li;have q3:na+(nb-1)+(w+1)<a.size+b.size:=li;have q4:na+(nb-1)+w+(j+1)<a.size+b.size:=li;exact dU (λ_=>a8 ⟨rfl,.inl ⟨_,_,_,_,_,rfl,m3,h1,h2,q1,q2,q3⟩⟩) λ_=>a8 ⟨rfl,_,_,_,_,_,rfl,m3,h1,h2,q1,q2,q4⟩
   ·rintro c eD ⟨rfl,na,nb,out,ac,bc,rfl,m2,h1,h2,h3,h4,h5⟩;exact⟨rfl,.inl ⟨_,_,_,_,_,rfl,m2,h1,h2,h3,h4,li⟩⟩
   refine Yg (λna nb out ac bc r=>?_) λr o g=>?_
   ·have m2:=r.1;have h1:=r.2.1;have h2:=r.2.2.1;have h3:=r.2.2.2.1;have h4:=r.2.2.2.2.1;have h5:=r.2.2.2.2.2
    let I6:Nat->Option (Array Keyed)×Nat×Nat×Array Keyed×Nat×Nat×Nat->SortSt->Prop:=λj c aD=>Sm st aD/\∃na nb out mg ac bc,c=(b_,na,nb,out,mg,ac,bc)/\MR rk a b (out:Array Keyed) na nb/\1<=na/\na<=a.size/\2<=nb/\nb<=b.size/\na+nb+(w+1)<a.size+b.size
    let Q6:Option (Array Keyed)×Nat×Nat×Array Keyed×Nat×Nat×Nat->SortSt->Prop:=λc aD=>Sm st aD/\((∃na nb out mg ac bc,c=(b_,na,nb,out,mg,ac,bc)/\MR rk a b (out:Array Keyed) na nb/\1<=na/\na<=a.size/\2<=nb/\nb<=b.size/\na+nb+(w+1)<a.size+b.size)\/∃(r:Array Keyed) (o:_),c=(a_ r,o)/\Up rk r.toList/\r.toList.Perm (a.toList++b.toList))
    refine aS (zF (aS (sv (ma (I:=I6) (Q:=Q6) ?_ ?_ ⟨sm,_,_,_,_,_,_,rfl,m2,h1,h2,h3,h4,h5⟩) ?_)))
    ·refine Yb λj na nb out mg ac bc ja hj m8 r=>?_;have m3:=r.1;have h1:=r.2.1;have h2:=r.2.2.1;have h3:=r.2.2.2.1;have h4:=r.2.2.2.2.1;have h5:=r.2.2.2.2.2;obtain⟨y,y1,y2,Uy⟩:=gB (show 1<=nb by lia) h4;have tm:na-1<na:=om;have yD:(a.toList.take na).length=na:=by rw[dS];lia
     apply RK
     case h1=>
      intro T;generalize (b_,na,nb,out,mg,ac,bc).snd.snd.snd.snd.fst-1=v;exact T v
     case h2=>exact λT=>T _
     case t=>
      intro mg2;refine aS (Ef m8 ⟨rfl,rfl,rfl,rfl⟩ λOe iO=>aS (iG y1 (aS (zS G C (l:=a.toList.take na) (by rw[ze]) yD (iO.k.trans hκ) (λx hx=>Ua x (xu hx)) Uy tm (ha.sublist (Ih _ _)) λk hk p1 p2=>?_))));have HD:k<=na:=hk
      have m4:MR rk a b (out++(a.extract k na).reverse) k nb:=by
       have e9:(a.toList.reverse.drop (a.size-na)).take (na-k)=((a.toList.take na).drop k).reverse:=by rw[<-uO];exact Uq om HD
       have z:=m3.add vf (na-k) (λx hx z hz=>by
        rw[e9]at hx;have h1:=Fh (p2 x (Ir.mp hx));have h2:=vJ tG y2 z hz;show-rk x<=- rk z;lia)
       rw[e9,<-Xd,<-xv,show a.size-na+(na-k)=a.size-k by lia]at z;exact z
      have p4:∀x∈a.toList.reverse.drop (a.size-k),- rk y<=- rk x:=λx hx=>by
       rw[<-uO,qG li]at hx;have h1:=FJ (p1 x (by rw[IF,y' HD];exact Ir.mp hx));lia
      apply Eg (P:=1<=k)
      case h1=>
       intro yN T;refine dU (λe=>?_) λe=>T ?_
       ·exact a8 ⟨iO,.inr ⟨_,_,rfl,dA m4 (jf e) h4⟩⟩
       have n1:¬k=0:=λz=>e (beq_iff_eq.mpr z);lia
      case h2=>
       intro yN
       have kz:k=na:=by
        have:¬na-k > 0:=yN;lia
       have e:out++(a.extract k na).reverse=out:=by rw[kz];exact Xe _ _ _
       refine⟨li,?_⟩;rw[e,kz]
      case t=>
       intro h5a;have HF:k<=a.size:=li;refine aS (iG y1 ?_)
       have m6:MR rk a b ((out++(a.extract k na).reverse).push y) k (nb-1):=by
        have z:=(m4.swap.one tG y2 p4).swap;rw[<-qz,show b.size-nb+1=b.size-(nb-1) by lia]at z;exact z
       refine dU (λe1=>?_) λe1=>?_
       ·exact a8 ⟨iO,.inr ⟨_,_,rfl,fst m6 (jf e1) HF⟩⟩
       have n3:¬nb-1=1:=λz=>e1 (beq_iff_eq.mpr z);have eL:nb-1-1<nb-1:=om;have o7:(b.toList.take (nb-1)).length=nb-1:=by rw[dS];lia
       obtain⟨x,x1,x2,Ux⟩:=gA h5a HF;refine aS (iG x1 (aS (zS G C (l:=b.toList.take (nb-1)) (by rw[ze]) o7 (iO.k.trans hκ) (λx hx=>Ub x (xu hx)) Ux eL (hb.sublist (Ih _ _)) λk2 C5 r1 r2=>?_)));have NO:k2<=nb-1:=C5
       have m7:MR rk a b ((out++(a.extract k na).reverse).push y++(b.extract k2 (nb-1)).reverse) k k2:=by
        have e9:(b.toList.reverse.drop (b.size-(nb-1))).take (nb-1-k2)=((b.toList.take (nb-1)).drop k2).reverse:=by rw[<-uM];exact Uq li NO
        have z:=(m6.swap.add tG (nb-1-k2) (λz hz u hu=>by
         rw[e9]at hz;have h1:=Fi (r2 z (Ir.mp hz));have h2:=vJ vf x2 u hu;show-rk z<=- rk u;lia)).swap
        rw[e9,<-Xd,<-xv,show b.size-(nb-1)+(nb-1-k2)=b.size-k2 by lia]at z;exact z
       have r4:∀z∈b.toList.reverse.drop (b.size-k2),- rk x<=- rk z:=λz hz=>by
        rw[<-uM,qG li]at hz;have h1:=Nj (r1 z (by rw[IF,y' NO];exact Ir.mp hz));lia
       apply Eg (P:=2<=k2)
       case h1=>
        intro hq T;refine dU (λe3=>?_) λe3=>dU (λxp=>?_) λxp=>T ?_
        ·exact a8 ⟨iO,.inr ⟨_,_,rfl,fst m7 (jf e3) HF⟩⟩
        ·exact a8 ⟨iO,.inr ⟨_,_,rfl,dB m7 (jf xp) HF⟩⟩
        have n4:¬k2=1:=λz=>e3 (beq_iff_eq.mpr z);have n5:¬k2=0:=λz=>xp (beq_iff_eq.mpr z);lia
       case h2=>
        intro hq
        have Zd:k2=nb-1:=by
         have:¬nb-1-k2 > 0:=hq;lia
        have e:∀o:Array Keyed,o++(b.extract k2 (nb-1)).reverse=o:=λo=>by rw[Zd];exact Xe _ _ _
        refine⟨li,?_⟩;rw[e,Zd]
       case t=>
        intro ZX;have Pm:k2<=b.size:=li;refine aS (iG x1 ?_)
        have m9:MR rk a b (((out++(a.extract k na).reverse).push y++(b.extract k2 (nb-1)).reverse).push x) (k-1) k2:=by
         have z:=m7.one vf x2 r4;rw[<-qz,show a.size-k+1=a.size-(k-1) by lia]at z;exact z
        refine dU (λe4=>?_) λe4=>?_
        ·exact a8 ⟨iO,.inr ⟨_,_,rfl,dA m9 (jf e4) Pm⟩⟩
        have n9:¬k-1=0:=λz=>e4 (beq_iff_eq.mpr z);have q1:1<=k-1:=li;have q2:k-1<=a.size:=om;have q3:k-1+k2+(w+1)<a.size+b.size:=li;exact dU (λ_=>a8 ⟨iO,.inl ⟨_,_,_,_,_,_,rfl,m9,q1,q2,ZX,Pm,q3⟩⟩) λ_=>a8 ⟨iO,_,_,_,_,_,_,rfl,m9,q1,q2,ZX,Pm,q3⟩
    ·rintro c ja ⟨m8,na,nb,out,mg,ac,bc,rfl,m3,h1,h2,h3,h4,h5⟩;exact⟨m8,.inl ⟨_,_,_,_,_,_,rfl,m3,h1,h2,h3,h4,h5⟩⟩
    refine Ye (λna nb out mg ac bc ja m8 r=>?_) λja r o m8 g=>?_
    ·have m3:=r.1;have h1:=r.2.1;have h2:=r.2.2.1;have h3:=r.2.2.2.1;have h4:=r.2.2.2.2.1;have h5:=r.2.2.2.2.2;exact aS (Ef m8 ⟨rfl,rfl,rfl,rfl⟩ λOe iO=>a8 ⟨iO,_,_,_,_,rfl,m3,h1,h2,h3,h4,h5⟩)
    ·have g1:=g.1;have g2:=g.2;exact a8 ⟨m8,_,_,rfl,g1,g2⟩
   ·have g1:=g.1;have g2:=g.2;exact a8 ⟨sm,_,_,rfl,g1,g2⟩
  ·rintro c aD ⟨sm,na,nb,out,mg,rfl,_,h1,h2,h3,h4,h5⟩;lia
  ·refine ir λaD r o sm g=>?_;have g1:=g.1;have g2:=g.2;exact a8 (q _ _ sm g1 g2)
theorem acf:Rf:=by
 obtain⟨g,ml,mh,a,b,c,d⟩:=acg;exact d a (b a) (c a)
end TS
namespace TS
structure Sk(st aD:SortSt):Prop where
 k:kindOf aD=kindOf st
 p:bf aD=bf st
 f:nz aD=nz st
theorem sw2{Z:Array Keyed}{Q T:List Keyed}{x y:Keyed}(e:Z.toList=Q++y::x::T):(Z.swapIfInBounds (Q.length+1) Q.length).toList=Q++x::y::T:=by
 obtain⟨l⟩:=Z;subst e;unfold Array.swapIfInBounds;rw[dif_pos (by simp),dif_pos (by simp),Array.toList_swap];simp[List.set_append_right]
theorem Xh{xs:Array Keyed}{R:List Keyed}{x:Keyed}:∀(b Q:List Keyed),xs.toList=Q++(b++x::R)->(bubble xs (Q.length+b.length) b.length).toList=Q++x::(b++R)
 | [],Q,e=>e
 | y::b,Q,e=>by
  have h:=Xh (xs:=xs) (R:=R) (x:=x) b (Q++[y]) (by rw[e];simp);have el:(Q++[y]).length+b.length=Q.length+(y::b).length:=by simp;lia
  rw[el]at h;rw[show (y::b).length=b.length+1 from rfl,bubble_succ,show Q.length+(b.length+1)-b.length=Q.length+1 by lia];exact sw2 (h.trans (by simp))
theorem bub{xs:Array Keyed}{P m R:List Keyed}{x:Keyed}{l:Nat}(e:xs.toList=P++m++x::R)(hl:l<=m.length):(bubble xs (P.length+m.length) (m.length-l)).toList=P++(m.take l++x::m.drop l)++R:=by
 have h:=Xh (xs:=xs) (R:=R) (x:=x) (m.drop l) (P++m.take l) (by rw[e,cX,cX,<-cX (m.take l),gU]);rw[cj,dS,rY,y' hl,QM,Nat.add_sub_cancel' hl]at h;rw[h];simp
theorem wpS_ltAt{M:Model}{κ:mi}{U:Keyed->Prop}{rk:Keyed->Int}(C:uK M A E s κ U rk){i j:Nat}{x y:Keyed}{st:SortSt}{Q:Option Bool->SortSt->Prop}(hκ:kindOf st=κ)(hx:(arrOf st)[i]?=a_ x)(hy:(arrOf st)[j]?=a_ y)(Ux:U x)(Uy:U y)(q:Q (a_ (decide (rk x<rk y))) st):wpS M A E s (ltAt' i j) Q st:=by
 rw[ltAt'_eq];exact aS (wpS_get (aS (iG hx (aS (iG hy (C.lt st _ _ _ hκ Ux Uy q))))))
theorem aeJ{M:Model}{n k0:Nat}{F:Nat->Option Bool×Nat×Nat->StateT SortSt Sem (ForInStep (Option Bool×Nat×Nat))}{R:Option Bool×Nat×Nat->SortSt->Prop}{st:SortSt}
  (hF:∀i lo hi (R:ForInStep (Option Bool×Nat×Nat)->SortSt->Prop),hi<=n->(lo ≥ hi->R (.done (b_,lo,hi)) st)->(lo<hi->(lo+hi)/2<k0->R (.yield (b_,(lo+hi)/2+1,hi)) st)->(lo<hi->¬(lo+hi)/2<k0->R (.yield (b_,lo,(lo+hi)/2)) st)->wpS M A E s (F i (b_,lo,hi)) R st)
  (h:k0<=n) (q:∀hi,R (b_,k0,hi) st):wpS M A E s (forIn [:n] (b_,0,n) F) R st:=by
 refine ma (I:=λi c aD=>aD=st/\∃lo hi,c=(b_,lo,hi)/\lo<=k0/\k0<=hi/\hi<=n/\hi-lo<=n-i) ?_ ?_ ⟨rfl,0,n,rfl,li,h,li,li⟩
 ·rintro i c aD _ tE ⟨rfl,lo,hi,rfl,a,b,c,d⟩;refine hF i lo hi _ c (λh=>?_) (λh m=>⟨rfl,_,_,rfl,li,b,c,om⟩) λh m=>⟨rfl,_,_,rfl,a,li,li,om⟩;have:lo=k0:=li;subst this;exact q hi
 ·rintro c aD ⟨rfl,lo,hi,rfl,a,b,c,d⟩;have:lo=k0:=li;subst this;exact q hi
end TS
open L2
namespace TS
variable{M:Model}{A:h_}{E:f_->g_->Prop}{s:g_}{κ:mi}{U:Keyed->Prop}{rk:Keyed->Int}
theorem ahF{m:List Keyed}{x:Keyed}{l:Nat}(h:Up rk m)(h1:∀y∈m.take l,rk y<=rk x)(h2:∀y∈m.drop l,rk x<=rk y):Up rk (m.take l++x::m.drop l):=by
 have h':Up rk (m.take l++m.drop l):=by rw[gU];exact h
 have h3:=lX.mp h';refine lX.mpr (dj h3.1 (rV.mpr ⟨h2,h3.2.1⟩) λu hu v hv=>?_);rcases bw.mp hv with e | e
 ·rw[e];exact h1 u hu
 ·exact h3.2.2 u hu v e
theorem La{a:Array Keyed}{lo:Nat}:Up rk (seg a lo 1):=by
 have:(seg a lo 1).length<=1:=by unfold seg;rw[dS];lia
 cases e:seg a lo 1 with
 | nil=>exact Ik
 | cons y r=>
  rw[e]at this;cases r with
  | nil=>exact P0 _ _
  | cons z r=>exact absurd this (by simp)
theorem ah3(C:uK M A E s κ U rk){lo n ok:Nat}{st:SortSt}{Q:Bool->SortSt->Prop}(hκ:kindOf st=κ)(hU:∀x∈(arrOf st).toList,U x)(hn:lo+n<=(arrOf st).size)(h1:1<=n)(aH:ok<=n)(up:Up rk (seg (arrOf st) lo ok))
  (q:∀(aD:SortSt) (m:List Keyed),Sk st aD->(arrOf aD).toList=(arrOf st).toList.take lo++m++(arrOf st).toList.drop (lo+n)->Up rk m->m.Perm (seg (arrOf st) lo n)->Q c_ aD):wpS M A E s (binarySort' lo n ok) Q st:=by
 have hs:(arrOf st).toList.length=(arrOf st).size:=eG;have lP:((arrOf st).toList.take lo).length=lo:=by rw[dS];lia
 have sgl:∀k,k<=n->(seg (arrOf st) lo k).length=k:=λk hk=>by unfold seg;rw[dS,rY];lia
 rw[binarySort'_eq];refine aS (sv (ma (I:=λk c aD=>c=(b_,())/\Sk st aD/\∃m,(arrOf aD).toList=(arrOf st).toList.take lo++m++(arrOf st).toList.drop (lo+k)/\Up rk m/\m.Perm (seg (arrOf st) lo k)) (Q:=λc aD=>c=(b_,())/\Sk st aD/\∃m,(arrOf aD).toList=(arrOf st).toList.take lo++m++(arrOf st).toList.drop (lo+n)/\Up rk m/\m.Perm (seg (arrOf st) lo n)) ?_ ?_ ⟨rfl,⟨rfl,rfl,rfl⟩,seg (arrOf st) lo (max ok 1),?_,?_,vv _⟩) ?_)
 ·intro k c kZ HD hk ag;refine cH ag λaa sk ba=>?_;clear ag;subst aa;refine aR ba λm em um pm=>?_;have lm:m.length=k:=by rw[pm.length_eq];exact sgl k li
  obtain⟨x,hx⟩:∃x,(arrOf st).toList[lo+k]?=a_ x:=⟨_,aO li⟩;have hd:=EN hx;rw[hd]at em;have Ux:=hU x (b9 hx);have Um:=λy hy=>hU y (vn (xu (pm.mem_iff.mp hy)))
  have g1:(arrOf kZ)[lo+k]?=a_ x:=by
   have:(arrOf kZ).toList[lo+k]?=a_ x:=by
    rw[em,tL (by simp;lia),show lo+k-((arrOf st).toList.take lo++m).length=0 by rw[cj];lia];rfl
   simpa using this
  have g2:∀j (h:j<k),(arrOf kZ)[lo+j]?=a_ (m[j]' li):=λj h=>by
   have:(arrOf kZ).toList[lo+j]?=a_ (m[j]' om):=by
    rw[em,cX,tL li,vj om,lP,show lo+j-lo=j by lia];exact aO _
   simpa using this
  obtain⟨k0,yN,hp⟩:=Lu (l:=m) (p:=λy=>!decide (rk x<rk y)) (um.imp λ{u v} h=>by simp;lia);refine aS (aeJ (k0:=k0) (λi l r R hr r1 r2 r3=>?_) li λhi=>?_)
  ·refine dU (λc=>a8 (r1 c)) λc=>?_;have c':¬l ≥ r:=c;have hm:(l+r)/2<k:=li;refine aS (wpS_ltAt C (sk.k.trans hκ) g1 (g2 _ hm) Ux (Um _ (tQ _)) ?_);have e:=hp ((l+r)/2) li
   by_cases hT:(l+r)/2<k0
   ·rw[decide_eq_true hT]at e;rw[show decide (rk x<rk (m[(l+r)/2]' om))=d_ by simpa using e];exact a8 (r2 li hT)
   ·rw[decide_eq_false hT]at e;rw[show decide (rk x<rk (m[(l+r)/2]' om))=c_ by simpa using e];exact a8 (r3 om hT)
  ·refine aS ?_;rw[moveDown'_eq];refine si (a8 (dj rfl ⟨sk.k,sk.p,sk.f⟩ (cD (m.take k0++x::m.drop k0) ?_ ?_ ?_)))
   ·have:=bub em yN;rw[lP,lm]at this;show (bubble (arrOf kZ) (lo+k) (lo+k-(lo+k0))).toList=_;rw[show lo+k-(lo+k0)=k-k0 by lia,this];rfl
   ·refine ahF um (λy hy=>?_) λy hy=>?_
    ·refine oE (aan.mp hy) λi aa=>?_;refine oE aa λhi aa=>?_;subst aa;have:=hp i li;rw[decide_eq_true (show i<k0 by lia)]at this;simp at this;exact this
    ·refine oE (aao.mp hy) λi aa=>?_;refine oE aa λhi aa=>?_;subst aa;have:=hp (k0+i) li;rw[decide_eq_false (show ¬k0+i<k0 by lia)]at this;simp at this;exact IZ this
   ·have e:seg (arrOf st) lo (k+1)=seg (arrOf st) lo k++[x]:=by
     unfold seg;rw[qy,pB,hx];rfl
    rw[e];refine Qt.trans ?_;rw[gU];exact(dM.cons x pm).trans (rQ (l₁:=[x]))
 ·intro c aD ag;refine cH ag λaa sk ba=>?_;clear ag;subst aa;refine aR ba λm em um pm=>?_;rw[show max (max ok 1) n=n by lia]at em pm;exact dj rfl sk (cD m em um pm)
 ·unfold seg;rw[cX,<-pE,gU,gU]
 ·by_cases h:1<=ok
  ·rw[Nat.max_eq_left h];exact up
  ·rw[show max ok 1=1 by omega];exact La
 ·intro c aD ag;refine cH ag λaa sk ba=>?_;clear ag;subst aa;refine aR ba λm em um pm=>?_;exact a8 (q aD m sk em um pm)
end TS
open L2
namespace TS
variable{M:Model}{A:h_}{E:f_->g_->Prop}{s:g_}{κ:mi}{U:Keyed->Prop}{rk:Keyed->Int}
theorem Tc{a:Array Keyed}{lo n:Nat}{x:Keyed}(h:a.toList[lo+n]?=a_ x):seg a lo (n+1)=seg a lo n++[x]:=by
 unfold seg;rw[qy,pB,h];rfl
theorem Kj{a:Array Keyed}{lo n:Nat}{x y:Keyed}(h:Up rk (seg a lo n))(h1:1<=n)(hy:a.toList[lo+n-1]?=a_ y)(hx:a.toList[lo+n]?=a_ x)(hl:rk y<=rk x):Up rk (seg a lo (n+1)):=by
 rw[Tc hx];refine lX.mpr ⟨h,P0 _ _,λu hu v hv=>?_⟩;rw[f7.mp hv]
 have e:seg a lo n=seg a lo (n-1)++[y]:=by
  have:=Tc (a:=a) (lo:=lo) (n:=n-1) (x:=y) (by rw[show lo+(n-1)=lo+n-1 by lia];exact hy);rw[show n-1+1=n by lia]at this;exact this
 rw[e]at h hu;rcases dD.mp hu with z | z
 ·exact se ((lX.mp h).2.2 u z y (f7.mpr rfl)) hl
 ·rw[f7.mp z];exact hl
theorem TX{a:Array Keyed}{lo n0 nrem:Nat}{F:Nat->Option (Option Nat)×Nat->StateT SortSt Sem (ForInStep (Option (Option Nat)×Nat))}{R:Option (Option Nat)×Nat->SortSt->Prop}{st:SortSt}(hn:lo+nrem<=a.size)
  (hF:∀i n x y (R:ForInStep (Option (Option Nat)×Nat)->SortSt->Prop),1<=n->n<nrem->a[lo+n]?=a_ x->a[lo+n-1]?=a_ y->(rk x<rk y->R (.done (b_,n)) st)->(¬rk x<rk y->R (.yield (b_,n+1)) st)->wpS M A E s (F i (b_,n)) R st)
  (h0:1<=n0) (h1:n0<=nrem) (up:Up rk (seg a lo n0)) (q:∀n,n0<=n->n<=nrem->Up rk (seg a lo n)->(n<nrem->∃x y,a.toList[lo+n]?=a_ x/\a.toList[lo+n-1]?=a_ y/\rk x<rk y)->R (b_,n) st):wpS M A E s (forIn [n0:nrem] (b_,n0) F) R st:=by
 refine ma (I:=λi c aD=>aD=st/\c=(b_,i)/\Up rk (seg a lo i)) ?_ ?_ ⟨rfl,rfl,up⟩
 ·rintro i c aD hi tE ⟨rfl,rfl,u⟩;have hs:a.toList.length=a.size:=eG;obtain⟨x,hx⟩:∃x,a.toList[lo+i]?=a_ x:=⟨_,aO li⟩;obtain⟨y,hy⟩:∃y,a.toList[lo+i-1]?=a_ y:=⟨_,aO li⟩;exact hF i i x y _ li tE (by simpa using hx) (by simpa using hy) (λh=>q i hi li u λ_=>⟨x,y,hx,hy,h⟩) λh=>⟨rfl,rfl,Kj u li hy hx li⟩
 ·rintro c aD ⟨rfl,rfl,u⟩;rw[show max n0 nrem=nrem by lia]at u ⊢;exact q nrem h1 (aI _) u λh=>absurd h (jS _)
theorem ady{a:Array Keyed}{lo nrem:Nat}{F:Nat->Option (Option Nat)×Nat×Nat->StateT SortSt Sem (ForInStep (Option (Option Nat)×Nat×Nat))}{R:Option (Option Nat)×Nat×Nat->SortSt->Prop}{st:SortSt}(hn:lo+nrem<=a.size)
  (hF:∀i n x y (R:ForInStep (Option (Option Nat)×Nat×Nat)->SortSt->Prop),1<=n->n<nrem->a[lo+n]?=a_ x->a[lo+n-1]?=a_ y->(rk x<rk y->R (.yield (b_,n+1,0)) st)->(¬rk x<rk y->R (.done (b_,n,0)) st)->wpS M A E s (F i (b_,n,0)) R st)
  (h1:2<=nrem) (up:Up (λx=>- rk x) (seg a lo 2)) (q:∀n,2<=n->n<=nrem->Up (λx=>- rk x) (seg a lo n)->R (b_,n,0) st):wpS M A E s (forIn [2:nrem] (b_,2,0) F) R st:=by
 refine ma (I:=λi c aD=>aD=st/\c=(b_,i,0)/\Up (λx=>- rk x) (seg a lo i)) ?_ ?_ ⟨rfl,rfl,up⟩
 ·rintro i c aD hi tE ⟨rfl,rfl,u⟩;have hs:a.toList.length=a.size:=eG;obtain⟨x,hx⟩:∃x,a.toList[lo+i]?=a_ x:=⟨_,aO li⟩;obtain⟨y,hy⟩:∃y,a.toList[lo+i-1]?=a_ y:=⟨_,aO li⟩;exact hF i i x y _ li tE (by simpa using hx) (by simpa using hy) (λh=>⟨rfl,rfl,Kj u li hy hx (by show-rk y<=- rk x;lia)⟩) λh=>q i hi li u
 ·rintro c aD ⟨rfl,rfl,u⟩;rw[show max 2 nrem=nrem by lia]at u ⊢;exact q nrem h1 (aI _) u
theorem mir{xs:Array Keyed}{lo n:Nat}(h:lo+n<=xs.size):(mirror xs lo (lo+n) ((lo+n-lo)/2)).toList=xs.toList.take lo++(seg xs lo n).reverse++xs.toList.drop (lo+n):=by
 have hs:xs.toList.length=xs.size:=eG;have lP:(xs.toList.take lo).length=lo:=by rw[dS];lia
 have lS:(seg xs lo n).length=n:=by unfold seg;rw[dS,rY];lia
 apply A9;intro i;rw[A5,getElem?_mirror_all h]
 by_cases c1:i<lo
 ·rw[if_neg li,cX,vj li,qu,if_pos c1];simp
 by_cases c2:i<lo+n
 ·rw[if_pos li,cX,tL li,vj (by rw[yY];lia),lP,aaD li,lS];unfold seg;rw[qu,if_pos om,pB,show lo+(n-1-(i-lo))=lo+(lo+n)-1-i by lia];simp
 ·rw[if_neg li,tL (by rw[cj,yY];lia),cj,yY,lP,lS,pB,show lo+n+(i-(lo+n))=i by lia];simp
end TS
open L2
namespace TS
variable{M:Model}{A:h_}{E:f_->g_->Prop}{s:g_}{κ:mi}{U:Keyed->Prop}{rk:Keyed->Int}
def Xn(rk:Keyed->Int)(l:List Keyed):Prop:=∀(i j:Nat) (x y:Keyed),i≠j->l[i]?=a_ x->l[j]?=a_ y->rk x≠rk y
theorem aff{lo j:Nat}{st:SortSt}{Q:PUnit->SortSt->Prop}(q:Q ⟨⟩ (setArr st (mirror (arrOf st) lo j ((j-lo)/2)))):wpS M A E s (reverseSlice' lo j) Q st:=by
 rw[reverseSlice'_eq];exact si q
theorem ag1(C:uK M A E s κ U rk){lo nrem:Nat}{st:SortSt}{Q:Option Nat->SortSt->Prop}(hκ:kindOf st=κ)(hU:∀x∈(arrOf st).toList,U x)(hn:lo+nrem<=(arrOf st).size)(h1:1<=nrem)(D:Xn rk (arrOf st).toList)
  (q:∀(aD:SortSt) (m:List Keyed) (k:Nat),Sk st aD->1<=k->k<=nrem->(arrOf aD).toList=(arrOf st).toList.take lo++m++(arrOf st).toList.drop (lo+k)->Up rk m->m.Perm (seg (arrOf st) lo k)->Q (a_ k) aD):wpS M A E s (countRun' lo nrem) Q st:=by
 have hs:(arrOf st).toList.length=(arrOf st).size:=eG
 have whole:∀n,(arrOf st).toList=(arrOf st).toList.take lo++seg (arrOf st) lo n++(arrOf st).toList.drop (lo+n):=λn=>by
  unfold seg;rw[cX,<-pE,gU,gU]
 have UU:∀{i x},(arrOf st)[i]?=a_ x->U x:=λ{i x} h=>hU x (b9 (i:=i) (by simpa using h));rw[countRun'_eq];refine aS (TX (rk:=rk) (a:=arrOf st) (lo:=lo) hn (λi n x y R yL uY hx hy r1 r2=>?_) (aI 1) h1 La λn b1 b2 u l=>?_)
 ·refine aS (wpS_ltAt C hκ hx hy (UU hx) (UU hy) ?_)
  by_cases hT:rk x<rk y
  ·rw[decide_eq_true hT];exact a8 (r1 hT)
  ·rw[decide_eq_false hT];exact a8 (r2 hT)
 ·refine dU (λe=>a8 (q st _ n ⟨rfl,rfl,rfl⟩ b1 b2 (whole n) u (vv _))) λe=>?_
  have dJ:n<nrem:=by
   have:¬n=nrem:=λz=>e (beq_iff_eq.mpr z);lia
  obtain⟨x,y,hx,hy,AJ⟩:=l dJ;refine dU (λe1=>?_) λe1=>?_
  ·have pA:n > 1:=e1;obtain⟨z,hz⟩:∃z,(arrOf st).toList[lo]?=a_ z:=⟨_,aO li⟩;have Ht:(arrOf st)[lo]?=a_ z:=by simpa using hz
   have Hv:(arrOf st)[lo+n-1]?=a_ y:=by simpa using hy
   refine aS (wpS_ltAt C hκ Ht Hv (UU Ht) (UU Hv) ?_)
   have hle:rk z<=rk y:=by
    have z0:(seg (arrOf st) lo n)[0]?=a_ z:=by unfold seg;rw[qu,if_pos li,pB];exact hz
    have yn:(seg (arrOf st) lo n)[n-1]?=a_ y:=by unfold seg;rw[qu,if_pos om,pB,show lo+(n-1)=lo+n-1 by lia];exact hy
    obtain⟨a1,a2⟩:=dy.mp z0;obtain⟨a3,a4⟩:=dy.mp yn;have:=jd.mp u 0 (n-1) a1 a3 om;rw[a2,a4]at this;exact this
   have fZ:=D lo (lo+n-1) z y om hz hy;rw[decide_eq_true (show rk z<rk y by lia)];exact a8 (q st _ n ⟨rfl,rfl,rfl⟩ b1 b2 (whole n) u (vv _))
  have en:n=1:=by
   have:¬n > 1:=e1;lia
  subst en;refine aS (zF ?_);have u2:Up (λx=>- rk x) (seg (arrOf st) lo 2):=Kj (n:=1) La (aI 1) hy hx (by show-rk y<=- rk x;lia);refine aS (ady (rk:=rk) (a:=arrOf st) (lo:=lo) hn (λi n x y R yL uY hx hy r1 r2=>?_) li u2 λn c1 c2 u3=>?_)
  ·refine aS (wpS_ltAt C hκ hx hy (UU hx) (UU hy) ?_)
   by_cases hT:rk x<rk y
   ·rw[decide_eq_true hT];exact a8 (r1 hT)
   ·rw[decide_eq_false hT];refine aS (wpS_ltAt C hκ hy hx (UU hy) (UU hx) ?_);have fZ:=D (lo+n) (lo+n-1) x y om (by simpa using hx) (by simpa using hy);rw[decide_eq_true (show rk y<rk x by lia)];exact a8 (r2 hT)
  ·refine aS (aff ?_);have em:=mir (xs:=arrOf st) (lo:=lo) (n:=n) li;have sz:(mirror (arrOf st) lo (lo+n) ((lo+n-lo)/2)).size=(arrOf st).size:=mirror_size _ _ _ _;have lP:((arrOf st).toList.take lo).length=lo:=by rw[dS];omega
   have lS:∀k,k<=nrem->(seg (arrOf st) lo k).length=k:=λk hk=>by unfold seg;rw[dS,rY];lia
   generalize mirror (arrOf st) lo (lo+n) ((lo+n-lo)/2)=a2 at em sz ⊢
   have ge:∀k,n<=k->k<=nrem->a2.toList=(arrOf st).toList.take lo++seg a2 lo k++(arrOf st).toList.drop (lo+k)/\(seg a2 lo k).Perm (seg (arrOf st) lo k):=λk k1 k2=>by
    have e1:a2.toList.drop lo=(seg (arrOf st) lo n).reverse++(arrOf st).toList.drop (lo+n):=by
     rw[em,cX,Qu,Dx li,lP,xG];rfl
    have e2:seg a2 lo k=(seg (arrOf st) lo n).reverse++((arrOf st).toList.drop (lo+n)).take (k-n):=by
     unfold seg at e1 ⊢;rw[e1,Qs];have:=lS n om;unfold seg at this;rw[yY,this,je (by rw[yY,this];omega)]
    have e3:seg (arrOf st) lo k=seg (arrOf st) lo n++((arrOf st).toList.drop (lo+n)).take (k-n):=by
     unfold seg;rw[show k=n+(k-n) by omega,IM,pE,show n+(k-n)-n=k-n by omega]
    constructor
    ·rw[em,e2];have:=gU (k-n) ((arrOf st).toList.drop (lo+n));rw[pE,show lo+n+(k-n)=lo+k by omega]at this;rw[cX,cX,cX,this]
    ·rw[e2,e3];exact xt _ (xA _)
   have un:Up rk (seg a2 lo n):=by
    have e2:seg a2 lo n=(seg (arrOf st) lo n).reverse:=by
     unfold seg at *;rw[em,cX,Qu,Dx li,lP,xG];have:=lS n om;rw[zc,ze,Qs,yY,this,xG,QF,il,je (by rw[yY,this];lia)]
    rw[e2];exact Ma u3
   have U2:∀{i x},a2[i]?=a_ x->U x:=λ{i x} h=>by
    have hm:x∈a2.toList:=b9 (i:=i) (by simpa using h)
    have hp:a2.toList.Perm (arrOf st).toList:=by
     rw[em]
     conv=>rhs;rw[whole n]
     exact xt _ (vm _ (xA _))
    exact hU x (hp.mem_iff.mp hm)
   refine aS (TX (rk:=rk) (a:=a2) (lo:=lo) (n0:=n) li (λi n x y R yL uY hx hy r1 r2=>?_) (show 1<=n by lia) c2 un λk k1 k2 u _=>?_)
   ·refine aS (wpS_ltAt C hκ hx hy (U2 hx) (U2 hy) ?_)
    by_cases hT:rk x<rk y
    ·rw[decide_eq_true hT];exact a8 (r1 hT)
    ·rw[decide_eq_false hT];exact a8 (r2 hT)
   ·have:=ge k k1 k2;exact a8 (q _ _ k ⟨rfl,rfl,rfl⟩ (c7 (show 1<=n by lia) k1) k2 this.1 u this.2)
end TS
open L2
namespace TS
variable{M:Model}{A:h_}{E:f_->g_->Prop}{s:g_}{κ:mi}{U:Keyed->Prop}{rk:Keyed->Int}
def Runs(rk:Keyed->Int)(a:Array Keyed):List (Nat×Nat×Nat)->Nat->Nat->Prop
 | [],i,j=>i=j
 | (b,n,_)::l,i,j=>b=i/\1<=n/\Up rk (seg a i n)/\Runs rk a l (i+n) j
theorem Runs.le{a:Array Keyed}:∀{l:List (Nat×Nat×Nat)} {i j:Nat},Runs rk a l i j->i+l.length<=j
 | [],i,j,h=>by
  have:i=j:=h;simp;lia
 | (b,n,_)::l,i,j,⟨_,h1,_,h⟩=>by
  have:=h.le;simp;lia
theorem Runs.app{a:Array Keyed}:∀{l l':List (Nat×Nat×Nat)} {i j:Nat},Runs rk a (l++l') i j↔∃k,Runs rk a l i k/\Runs rk a l' k j
 | [],l',i,j=>⟨λh=>⟨i,rfl,h⟩,λ⟨k,e,h⟩=>by
   have:i=k:=e;subst this;exact h⟩
 | (b,n,p)::l,l',i,j=>by
  constructor
  ·intro ag;refine nL ag λh1 h2 h3 h4=>?_;refine aw (Runs.app.mp h4) λk h5 h6=>?_;exact au k ⟨h1,h2,h3,h5⟩ h6
  ·intro ag;refine aw ag λk aa h6=>?_;refine nL aa λh1 h2 h3 h5=>?_;exact qX h1 h2 h3 (Runs.app.mpr ⟨k,h5,h6⟩)
theorem Runs.same{a a':Array Keyed}:∀{l:List (Nat×Nat×Nat)} {i j:Nat},Runs rk a l i j->(∀x n,i<=x->x+n<=j->seg a' x n=seg a x n)->Runs rk a' l i j
 | [],i,j,h,_=>h
 | (b,n,_)::l,i,j,⟨h1,h2,h3,h4⟩,g=>by
  have:=h4.le;refine qX h1 h2 ?_ (h4.same λx m hx hm=>g x m li hm);rw[g i n (aI _) li];exact h3
theorem Runs.pw{a:Array Keyed}:∀{l l':List (Nat×Nat×Nat)} {i j:Nat},l.map (λx=>(x.1,x.2.1))=l'.map (λx=>(x.1,x.2.1))->Runs rk a l i j->Runs rk a l' i j
 | [],[],i,j,_,h=>h
 | [],_::_,_,_,e,_=>by cases e
 | _::_,[],_,_,e,_=>by cases e
 | (b,n,p)::l,(b',n',p')::l',i,j,e,⟨h1,h2,h3,h4⟩=>by
  rw[fh,fh]at e;have e1:=(abz e).1;have e2:=(abz e).2;have eb:b=b':=congrArg Prod.fst e1;have en:n=n':=congrArg Prod.snd e1;subst eb en;exact qX h1 h2 h3 (h4.pw e2)
theorem Vm{a a':Array Keyed}{x n:Nat}(h:∀t,x<=t->t<x+n->a'.toList[t]?=a.toList[t]?):seg a' x n=seg a x n:=by
 unfold seg;apply A9;intro i;rw[qu,qu]
 by_cases c:i<n
 ·rw[if_pos c,if_pos c,pB,pB];exact h _ li li
 ·rw[if_neg c,if_neg c]
structure oW(a a':Array Keyed)(m:List Keyed)(i n:Nat):Prop where
 e:a'.toList=a.toList.take i++m++a.toList.drop (i+n)
 p:m.Perm (seg a i n)
 h:i+n<=a.size
section
variable{a a':Array Keyed}{m:List Keyed}{i n:Nat}
theorem oW.len(x:oW a a' m i n):m.length=n:=by
 have hs:a.toList.length=a.size:=eG;have:=x.h;rw[x.p.length_eq];unfold seg;rw[dS,rY];lia
theorem oW.lo(x:oW a a' m i n){t k:Nat}(h:t+k<=i):seg a' t k=seg a t k:=Vm λj h1 h2=>by
 have hs:a.toList.length=a.size:=eG;have:=x.h;rw[x.e,cX,vj (by rw[dS];lia),qu,if_pos li]
theorem oW.hi(x:oW a a' m i n){t k:Nat}(h:i+n<=t):seg a' t k=seg a t k:=Vm λj h1 h2=>by
 have hs:a.toList.length=a.size:=eG;have:=x.h;have lm:=x.len;have lP:(a.toList.take i).length=i:=by rw[dS];lia
 rw[x.e,tL (by rw[cj];lia),cj,lP,lm,pB,show i+n+(j-(i+n))=j by lia]
theorem oW.at(x:oW a a' m i n):seg a' i n=m:=by
 have hs:a.toList.length=a.size:=eG;have:=x.h;have lm:=x.len;have lP:(a.toList.take i).length=i:=by rw[dS];lia
 unfold seg;rw[x.e,cX,Qu,Dx li,lP,xG,zc,ze,Qs,lm,xG,QF,il,je li]
theorem oW.perm(x:oW a a' m i n):a'.toList.Perm a.toList:=by
 have w:a.toList=a.toList.take i++seg a i n++a.toList.drop (i+n):=by
  unfold seg;rw[cX,<-pE,gU,gU]
 rw[x.e]
 conv=>rhs;rw[w]
 exact xt _ (vm _ x.p)
end
theorem agw{l:List Keyed}(h:(l.map rk).Nodup):Xn rk l:=by
 intro i j x y nh hx hy e;refine oE (dy.mp hx) λa1 a2=>?_;refine oE (dy.mp hy) λb1 b2=>?_;have p:=jd.mp h;rcases aaP nh with c | c
 ·refine p i j (by simpa using a1) (by simpa using b1) c ?_;rw[xC,xC,a2,b2,e]
 ·refine p j i (by simpa using b1) (by simpa using a1) c ?_;rw[xC,xC,a2,b2,e]
structure G(rk:Keyed->Int)(κ:mi)(a0:List Keyed)(st:SortSt)(lo:Nat):Prop where
 k:kindOf st=κ
 f:nz st=b_
 p:(arrOf st).toList.Perm a0
 r:Runs rk (arrOf st) (bf st).toList 0 lo
 h:lo<=a0.length
theorem G.size{a0:List Keyed}{st:SortSt}{lo:Nat}(g:G rk κ a0 st lo):(arrOf st).size=a0.length:=by rw[<-eG,g.p.length_eq]
theorem G.merge(C:uK M A E s κ U rk){a0:List Keyed}(hU:∀x∈a0,U x){st:SortSt}{lo i:Nat}{Q:Bool->SortSt->Prop}(g:G rk κ a0 st lo)(hi:i+1<(bf st).size)(q:∀aD,G rk κ a0 aD lo->(bf aD).size+1=(bf st).size->(∀x n,lo<=x->seg (arrOf aD) x n=seg (arrOf st) x n)->Q c_ aD):wpS M A E s (mergeAt' i) Q st:=by
 have hl:(bf st).toList.length=(bf st).size:=eG;have hs:=g.size
 have split:(bf st).toList=(bf st).toList.take i++(bf st).toList[i]::(bf st).toList[i+1]::(bf st).toList.drop (i+2):=by
  rw[<-HU,<-HU,gU]
 have e1:(bf st).toList[i]?=a_ ((bf st).toList[i]):=aO _;have e2:(bf st).toList[i+1]?=a_ ((bf st).toList[i+1]):=aO _;have r:=g.r;rw[split]at r;generalize (bf st).toList[i]=P1 at e1 r split;generalize (bf st).toList[i+1]=P2 at e2 r split;obtain⟨sa,na,pa⟩:=P1;obtain⟨sb,nb,pb⟩:=P2;obtain⟨t,r1,h1,h2,h3,h4,h5,h6,r2⟩:=Runs.app.mp r;subst h1;subst h4;have hle:=r2.le;have am5:=r1.le;have gh:=g.h;refine acf M A E s κ U rk C i sa na pa (sa+na) nb pb st Q g.k g.f (by simpa using e1) (by simpa using e2) rfl h2 h5 li (λx hx=>hU x (g.p.mem_iff.mp hx)) h3 h6 λaD m k1 k2 k3 k4 k5 k6=>?_
 have sg:seg (arrOf st) sa (na+nb)=seg (arrOf st) sa na++seg (arrOf st) (sa+na) nb:=by
  unfold seg;rw[IM,pE]
 have mx:oW (arrOf st) (arrOf aD) m sa (na+nb):=⟨by rw[k4,QM],by rw[sg];exact k6,li⟩
 have ep:(bf aD).toList=(bf st).toList.take i++(sa,na+nb,pa)::(bf st).toList.drop (i+2):=by
  rw[k3];have lt:((bf st).toList.take i).length=i:=by rw[dS];lia
  have:(((bf st).setIfInBounds i (sa,na+nb,pa)).eraseIdxIfInBounds (i+1)).toList=((bf st).toList.set i (sa,na+nb,pa)).eraseIdx (i+1):=by
   simp
  rw[this,split];generalize (bf st).toList.take i=l1 at lt;generalize (bf st).toList.drop (i+2)=l2;subst lt;simp;rw[List.eraseIdx_append_of_length_le li];simp
 refine q aD ⟨k1,k2,mx.perm.trans g.p,?_,g.h⟩ ?_ λx n hx=>mx.hi li
 ·rw[ep];refine Runs.app.mpr (dX sa (r1.same λx n _ hx=>mx.lo hx) rfl li (by rw[mx.at];exact k5) ?_);rw[<-QM];exact r2.same λx n hx _=>mx.hi li
 ·rw[<-eG,ep,<-eG];simp;lia
end TS
open L2
namespace TS
variable{M:Model}{A:h_}{E:f_->g_->Prop}{s:g_}{κ:mi}{U:Keyed->Prop}{rk:Keyed->Int}
theorem Uw(p:Array (Nat×Nat×Nat))(i pw:Nat):((p.modify i λx=>(x.1,x.2.1,pw)).toList.map λx=>(x.1,x.2.1))=p.toList.map λx=>(x.1,x.2.1):=by
 apply A9;intro j;rw[dq,dq,A5,A5,Array.getElem?_modify]
 by_cases e:i=j
 ·rw[if_pos e];cases p[j]? with
  | none=>rfl
  | some x=>rfl
 ·rw[if_neg e]
theorem ahB{c:Prop}[Decidable c]{a b n:Nat}(h1:a+1<n)(h2:b+1<n):(if c then a else b)+1<n:=by
 by_cases h:c
 ·rw[if_pos h];exact h1
 ·rw[if_neg h];exact h2
theorem afo(C:uK M A E s κ U rk){a0:List Keyed}(hU:∀x∈a0,U x)(nd:(a0.map rk).Nodup){st:SortSt}{Q:Unit->SortSt->Prop}(hκ:kindOf st=κ)(hf:nz st=b_)(hp:bf st=#[])(ha:(arrOf st).toList=a0)
  (q:∀aD,kindOf aD=κ->nz aD=b_->Up rk (arrOf aD).toList->(arrOf aD).toList.Perm a0->Q () aD):wpS M A E s sortRuns' Q st:=by
 have sz:(arrOf st).size=a0.length:=by rw[<-eG,ha]
 rw[sortRuns'_eq];refine aS (wpS_get (aS (sv (ma (I:=λi c aD=>∃lo,c=(b_,lo)/\G rk κ a0 aD lo/\i<=lo) (Q:=λc aD=>c=(b_,a0.length)/\G rk κ a0 aD a0.length) ?_ ?_ ⟨0,rfl,⟨hκ,hf,by rw[ha],by rw[hp];rfl,bg _⟩,aI _⟩) ?_)))
 ·intro i c kZ _ hi ag;refine aR ag λlo aa g lg=>?_;clear ag;subst aa;have s1z:=g.size;have gh:=g.h;refine dU (λe=>?_) λe=>?_
  ·have:lo=a0.length:=by
    have:lo ≥ (arrOf st).size:=e;lia
   subst this;exact a8 ⟨rfl,g⟩
  have dJ:lo<a0.length:=by
   have:¬lo ≥ (arrOf st).size:=e;lia
  have e1:(arrOf st).size-lo=a0.length-lo:=li;have U1:=λx hx=>hU x (g.p.mem_iff.mp hx);have D1:=agw ((g.p.map rk).nodup_iff.mpr nd);refine aS (ag1 C (lo:=lo) (nrem:=(arrOf st).size-lo) g.k U1 li li D1 λeD m k sk k1 k2 em um pm=>?_);have mx:oW (arrOf kZ) (arrOf eD) m lo k:=⟨em,pm,li⟩;have g2:G rk κ a0 eD lo:=⟨sk.k.trans g.k,sk.f.trans g.f,mx.perm.trans g.p,by rw[sk.p];exact g.r.same λx n _ hx=>mx.lo hx,g.h⟩;have u2:Up rk (seg (arrOf eD) lo k):=by rw[mx.at];exact um
  have OK:lo+k<=a0.length:=li;refine dU (λe2=>?_) λe2=>?_
  ·refine aS (zF ?_);have s2z:=g2.size
   have f1:1<=min ((arrOf st).size-lo) (minRun' (arrOf st).size (arrOf st).size 0):=by
    have:k<minRun' (arrOf st).size (arrOf st).size 0:=e2;omega
   have f2:lo+min ((arrOf st).size-lo) (minRun' (arrOf st).size (arrOf st).size 0)<=a0.length:=li
   have f3:k<=min ((arrOf st).size-lo) (minRun' (arrOf st).size (arrOf st).size 0):=by
    have:k<minRun' (arrOf st).size (arrOf st).size 0:=e2;omega
   refine aS (ah3 C (lo:=lo) (n:=min ((arrOf st).size-lo) (minRun' (arrOf st).size (arrOf st).size 0)) (ok:=k) g2.k (λx hx=>hU x (g2.p.mem_iff.mp hx)) li f1 f3 u2 λja m3 Of Z6 um3 YS=>dU (λz=>absurd z qc) λ_=>?_);generalize min ((arrOf st).size-lo) (minRun' (arrOf st).size (arrOf st).size 0)=N3 at f1 f2 f3 Z6 YS ⊢;have OD:oW (arrOf eD) (arrOf ja) m3 lo N3:=⟨Z6,YS,li⟩;have gS:G rk κ a0 ja lo:=⟨Of.k.trans g2.k,Of.f.trans g2.f,OD.perm.trans g2.p,by rw[Of.p];exact g2.r.same λx n _ hx=>OD.lo hx,g2.h⟩;have uS:Up rk (seg (arrOf ja) lo N3):=by rw[OD.at];exact um3
   have n1:=f1;have n2:=f2;refine aS (wpS_get ?_);cases hb:(bf ja).back? with
   | none=>
    refine aS (si (a8 (cD (lo+N3) rfl ⟨gS.k,gS.f,gS.p,?_,n2⟩ li)));show Runs rk (arrOf ja) ((bf ja).push (lo,N3,0)).toList 0 (lo+N3);rw[qz];exact Runs.app.mpr (dX lo gS.r rfl n1 uS rfl)
   | some P=>
    obtain⟨s1,m1,pw1⟩:=P;refine aS (sv (ma (I:=λ_ c aD=>c=(b_,())/\G rk κ a0 aD lo/\Up rk (seg (arrOf aD) lo N3)) (Q:=λc aD=>c=(b_,())/\G rk κ a0 aD lo/\Up rk (seg (arrOf aD) lo N3)) ?_ ?_ ⟨rfl,gS,uS⟩) ?_)
    ·intro j c cQ _ _ ag;refine cH ag λaa g5 u5=>?_;clear ag;subst aa;refine aS (wpS_get ?_)
     by_cases jt:(bf cQ).size > 1
     ·obtain⟨X,hX⟩:∃X,(bf cQ)[(bf cQ).size-2]?=a_ X:=⟨(bf cQ)[(bf cQ).size-2],by simp⟩;obtain⟨x1,x2,x3⟩:=X;have hm:(if (bf cQ).size > 1 then (bf cQ)[(bf cQ).size-2]? else b_)=a_ (x1,x2,x3):=by rw[if_pos jt,hX]
      dsimp only;rw[hm];exact dU (λ_=>a8 ⟨rfl,g5,u5⟩) λ_=>aS (g5.merge C hU (i:=(bf cQ).size-2) li λst6 g6 _ w6=>dU (λz=>absurd z qc) λ_=>a8 (dj rfl g6 (by rw[w6 lo N3 (aI _)];exact u5)))
     ·have hm:(if (bf cQ).size > 1 then (bf cQ)[(bf cQ).size-2]? else b_)=none:=by rw[if_neg jt]
      dsimp only;rw[hm];exact a8 (dj rfl g5 u5)
    ·rintro c cQ h;exact h
    ·intro c cQ ag;refine cH ag λaa g5 u5=>?_;clear ag;subst aa;refine aS (si ?_)
     have g6:∀pw,G rk κ a0 (setPending cQ ((bf cQ).modify ((bf cQ).size-1) λx=>(x.1,x.2.1,pw))) lo:=λpw=>⟨g5.k,g5.f,g5.p,by
      refine g5.r.pw ?_;show _=((bf cQ).modify ((bf cQ).size-1) λx=>(x.1,x.2.1,pw)).toList.map _;exact(Uw _ _ _).symm,g5.h⟩
     refine aS (si (a8 (cD (lo+N3) rfl ⟨g5.k,g5.f,g5.p,?_,n2⟩ om)));have r7:=(g6 (power' (arrOf st).size (2*s1+m1) (2*s1+m1+m1+N3) (arrOf st).size)).r;show Runs rk (arrOf cQ) (Array.push _ (lo,N3,0)).toList 0 (lo+N3);rw[qz];exact Runs.app.mpr (dX lo r7 rfl n1 u5 rfl)
  ·have gS:=g2;have uS:=u2;have n1:=k1;have n2:=OK;refine aS (wpS_get ?_);cases hb:(bf eD).back? with
   | none=>
    refine aS (si (a8 (cD (lo+k) rfl ⟨gS.k,gS.f,gS.p,?_,n2⟩ li)));show Runs rk (arrOf eD) ((bf eD).push (lo,k,0)).toList 0 (lo+k);rw[qz];exact Runs.app.mpr (dX lo gS.r rfl n1 uS rfl)
   | some P=>
    obtain⟨s1,m1,pw1⟩:=P;refine aS (sv (ma (I:=λ_ c aD=>c=(b_,())/\G rk κ a0 aD lo/\Up rk (seg (arrOf aD) lo k)) (Q:=λc aD=>c=(b_,())/\G rk κ a0 aD lo/\Up rk (seg (arrOf aD) lo k)) ?_ ?_ ⟨rfl,gS,uS⟩) ?_)
    ·intro j c cQ _ _ ag;refine cH ag λaa g5 u5=>?_;clear ag;subst aa;refine aS (wpS_get ?_)
     by_cases jt:(bf cQ).size > 1
     ·obtain⟨X,hX⟩:∃X,(bf cQ)[(bf cQ).size-2]?=a_ X:=⟨(bf cQ)[(bf cQ).size-2],by simp⟩;obtain⟨x1,x2,x3⟩:=X;have hm:(if (bf cQ).size > 1 then (bf cQ)[(bf cQ).size-2]? else b_)=a_ (x1,x2,x3):=by rw[if_pos jt,hX]
      dsimp only;rw[hm];exact dU (λ_=>a8 ⟨rfl,g5,u5⟩) λ_=>aS (g5.merge C hU (i:=(bf cQ).size-2) li λst6 g6 _ w6=>dU (λz=>absurd z qc) λ_=>a8 (dj rfl g6 (by rw[w6 lo k (aI _)];exact u5)))
     ·have hm:(if (bf cQ).size > 1 then (bf cQ)[(bf cQ).size-2]? else b_)=none:=by rw[if_neg jt]
      dsimp only;rw[hm];exact a8 (dj rfl g5 u5)
    ·rintro c cQ h;exact h
    ·intro c cQ ag;refine cH ag λaa g5 u5=>?_;clear ag;subst aa;refine aS (si ?_)
     have g6:∀pw,G rk κ a0 (setPending cQ ((bf cQ).modify ((bf cQ).size-1) λx=>(x.1,x.2.1,pw))) lo:=λpw=>⟨g5.k,g5.f,g5.p,by
      refine g5.r.pw ?_;show _=((bf cQ).modify ((bf cQ).size-1) λx=>(x.1,x.2.1,pw)).toList.map _;exact(Uw _ _ _).symm,g5.h⟩
     refine aS (si (a8 (cD (lo+k) rfl ⟨g5.k,g5.f,g5.p,?_,n2⟩ om)));have r7:=(g6 (power' (arrOf st).size (2*s1+m1) (2*s1+m1+m1+k) (arrOf st).size)).r;show Runs rk (arrOf cQ) (Array.push _ (lo,k,0)).toList 0 (lo+k);rw[qz];exact Runs.app.mpr (dX lo r7 rfl n1 u5 rfl)
 ·intro c kZ ag;refine aR ag λlo aa g lg=>?_;clear ag;subst aa;have gh:=g.h
  have:lo=a0.length:=by
   have:max 0 (arrOf st).size<=lo:=lg;lia
  subst this;exact⟨rfl,g⟩
 ·intro c kZ ag;refine oA ag λaa g=>?_;clear ag;subst aa;have hle:=g.r.le;have AR:(bf kZ).toList.length=(bf kZ).size:=eG;refine aS (sv (ma (I:=λi c aD=>c=(b_,())/\G rk κ a0 aD a0.length/\((bf aD).size<=1\/(bf aD).size+i<=a0.length)) (Q:=λc aD=>c=(b_,())/\G rk κ a0 aD a0.length/\(bf aD).size<=1) ?_ ?_ ⟨rfl,g,.inr li⟩) ?_)
  ·intro i c eD _ hi ag;refine cH ag λaa g2 h2=>?_;clear ag;subst aa;refine aS (wpS_get (dU (λe=>a8 ⟨rfl,g2,e⟩) λe=>?_));have e':=e;exact aS (g2.merge C hU (ahB om li) λja g3 w3 _=>dU (λz=>absurd z qc) λ_=>a8 (dj rfl g3 (.inr li)))
  ·intro c eD ag;refine cH ag λaa g2 h2=>?_;clear ag;subst aa;refine dj rfl g2 ?_;rcases h2 with h2 | h2
   ·exact h2
   ·lia
  ·intro c eD ag;refine cH ag λaa g2 h2=>?_;clear ag;subst aa;refine a8 (q eD g2.k g2.f ?_ g2.p);have s2z:=g2.size;have r:=g2.r;have hl:(bf eD).toList.length=(bf eD).size:=eG
   have full:seg (arrOf eD) 0 a0.length=(arrOf eD).toList:=by
    unfold seg;rw[ze,je (by rw[eG];lia)]
   match hq:(bf eD).toList with
   | []=>
    rw[hq]at r;have:0=a0.length:=r;have:(arrOf eD).toList=[]:=List.eq_nil_of_length_eq_zero (by rw[eG];lia);rw[this];exact Ik
   | [(b,n,p)]=>
    rw[hq]at r;refine nL r λ_ _ u e=>?_;have e':0+n=a0.length:=e;rw[<-full,<-e',zr];exact u
   | _::_::l=>
    rw[hq]at hl;simp at hl;lia
end TS
open PySem.W L2
namespace TS
variable{P:l_}{w:k_}{A:h_}{E:f_->g_->Prop}{s:g_}{κ:mi}{vs:List f_}{r:Nat->Int}
open Classical in
def ix(vs:List f_)(v:f_):Nat:=if h:∃i,i<vs.length/\vs[i]?=a_ v then h.choose else 0
theorem Fo{i:Nat}(nd:vs.Nodup)(h:vs[i]?=a_ v):ix vs v=i:=by
 obtain⟨hi,e⟩:=dy.mp h;have ex:∃i,i<vs.length/\vs[i]?=a_ v:=⟨i,hi,h⟩;unfold ix;rw[dif_pos ex];have hc:=ex.choose_spec;generalize ex.choose=j at hc;obtain⟨hj,e'⟩:=dy.mp hc.2;rcases y3 i j with z | z | z
 ·exact absurd (e.trans e'.symm) (jd.mp nd i j hi hj z)
 ·exact z.symm
 ·exact absurd (e'.trans e.symm) (jd.mp nd j i hj hi z)
theorem ah1(nd:vs.Nodup)(ask:∀i j (C:Bool->g_->Prop),i<vs.length->j<vs.length->C (decide (r i<r j)) s->kas_ask P w A κ vs i j C s):uK (model P w) A E s κ (λx=>x.1∈vs) (λx=>r (ix vs x.1)):=⟨λst x y Q hκ hx hy q=>by
 obtain⟨i,hi,ei⟩:=rS hx;obtain⟨j,hj,ej⟩:=rS hy;have Z8:vs[i]?=a_ x.1:=by rw[aO hi,ei]
 have Z7:vs[j]?=a_ y.1:=by rw[aO hj,ej]
 have a:=ask i j (λb s'=>s'=s/\b=decide (r i<r j)) hi hj ⟨rfl,rfl⟩;unfold kas_ask at a;rw[kC,kC,Z8,Z7]at a;rw[lt'_eq];refine aS (wpS_get (aS (wpS_lift (Bh ?_))));rw[hκ];refine gf a (λb s' h=>⟨h.1,?_⟩) λ_ _ z=>z.elim;rw[h.2];rw[Fo nd Z8,Fo nd Z7]at q;exact a8 q⟩
theorem adO(nd:vs.Nodup)(inj:∀i j,i<vs.length->j<vs.length->r i=r j->i=j)(ask:∀i j (C:Bool->g_->Prop),i<vs.length->j<vs.length->C (decide (r i<r j)) s->kas_ask P w A κ vs i j C s){Q:Unit×SortSt->g_->Prop}
  (q:∀(st:SortSt) (p:Array Nat),L2.qU vs.length p->L2.LY r p vs.length->(arrOf st).map (·.2)=(p.toList.map λi=>vs.getD i iE).toArray->nz st=b_->Q ((),st) s) :
  wpAny (model P w) A (sortRuns'.run (Jo κ (vs.toArray.zip vs.toArray) #[] 7 b_)) Q E s:=by
 have ez:(arrOf (Jo κ (vs.toArray.zip vs.toArray) #[] 7 b_)).toList=vs.zip vs:=by
  show (vs.toArray.zip vs.toArray).toList=vs.zip vs;rw[abb]
 have em:(vs.zip vs).map (λx=>ix vs x.1)=List.range vs.length:=by
  apply A9;intro i;rw[dq]
  by_cases c:i<vs.length
  ·rw[List.getElem?_range c,aO (by simpa using c),Ba];simp only[DK];rw[Fo nd (aO c)]
  ·rw[Ia (by simpa using c),Ia (by simpa using c)];rfl
 have nd2:((vs.zip vs).map λx=>r (ix vs x.1)).Nodup:=by
  have:((vs.zip vs).map λx=>r (ix vs x.1))=(List.range vs.length).map r:=by rw[<-em,tT];rfl
  rw[this];refine Ii.mpr ((DF (n:=vs.length)).imp_of_mem ?_);intro a b ha hb fZ e;exact fZ (inj a b (lZ.mp ha) (lZ.mp hb) e)
 have key:=afo (E:=E) (ah1 (E:=E) nd ask) (a0:=vs.zip vs) (λx hx=>(Bd hx).1) nd2 (st:=Jo κ (vs.toArray.zip vs.toArray) #[] 7 b_) (Q:=λ_ st=>Q ((),st) s) rfl rfl rfl ez (λst k1 k2 up pm=>by
  have pr:((arrOf st).toList.map λx=>ix vs x.1).Perm (List.range vs.length):=by rw[<-em];exact pm.map _
  have mx:L2.qU vs.length ((arrOf st).toList.map λx=>ix vs x.1).toArray:=HR.mpr pr;refine q st _ mx (λi j nh hj=>?_) ?_ k2
  ·have hl:(arrOf st).toList.length=vs.length:=by rw[pm.length_eq];simp
   have fZ:=mx.ne (show i<vs.length by lia) hj (eM nh);have lI:=mx.lt (show i<vs.length by omega);have lj:=mx.lt hj;have u:=jd.mp up i j li li nh
   have gi:∀t (ht:t<vs.length),(((arrOf st).toList.map λx=>ix vs x.1).toArray).getD t 0=ix vs ((arrOf st).toList[t]' li).1:=λt ht=>by
    have:t<((arrOf st).toList.map λx=>ix vs x.1).toArray.size:=by simp at hl ⊢;lia
    rw[D6,dif_pos this];simp
   unfold L2.rk;rw[gi i li,gi j hj]at fZ ⊢;rw[gi i om]at lI;rw[gi j hj]at lj;exact Int.lt_iff_le_and_ne.mpr ⟨u,λe=>fZ (inj _ _ lI lj e)⟩
  ·apply Qx.mp;rw[abc,tT];refine Qf λx hx=>?_;have hm:=pm.mem_iff.mp hx;obtain⟨t,ht,e⟩:=rS hm;have Zx:t<vs.length:=by simpa using ht
   rw[Ba]at e;show x.2=vs.getD (ix vs x.1) iE;rw[<-e];dsimp only;rw[Fo nd (aO Zx),kC,aO Zx];rfl)
 exact gf key (λa s' h=>by rw[h.1];exact h.2) λ_ _ z=>z
end TS
open PySem.W
namespace TS
theorem acD{P:l_}{w:k_}{n:Nat}{R:PySem.Fin->g_->Prop}{κ:mi}{r:Nat->Int}(ho:s.heap.get? a=a_ (seqObj "list" vs.toArray n))(h1:2<=vs.length)(line:vs.length<=cq)(nd:vs.Nodup)(inj:∀i j,i<vs.length->j<vs.length->r i=r j->i=j)
  (hk:∀s':g_,(∀b o,b≠a->s.heap.get? b=a_ o->s'.heap.get? b=a_ o)->(∀Q:mi->g_->Prop,Q κ s'->wpAny (model P w) A (keyKind' vs.toArray) Q (λ_ _=>False) s')/\∀i j (C:Bool->g_->Prop),i<vs.length->j<vs.length->C (decide (r i<r j)) s'->kas_ask P w A κ vs i j C s')
  (k:∀h' e (p:Array Nat),L2.qU vs.length p->L2.LY r p vs.length->(∀b o,b≠a->s.heap.get? b=a_ o->h'.get? b=a_ o)->h'.get? a=a_ (seqObj "list" (p.toList.map λi=>vs.getD i iE).toArray e)->R (.done (.ret .none)) { s with heap:=h' }) :
  wpAny (model P w) A (Builtin.«list.sort» ⟨[.ref a],[]⟩) R E s:=by
 have la:=cx ho;have hn:¬vs.toArray.size<2:=by rw[dH];lia
 have zs:vs.toArray.size<=cq:=by rw[dH];exact line
 obtain⟨e1,q1⟩:∃e1,(s.heap.update a (ow λ_=>(#[]:Array f_))).get? a=a_ (seqObj "list" #[] e1):=⟨_,DI ho λ_=>#[]⟩;rw[list_sort_plain];refine aq (listItems_at ho rfl (aq (IK ho rfl (aq (Jc q1 rfl (aq (QD (aq (II (lE ?_) (bg _))) (by simpa using zs))))) zs (bg _))));have q3:=bo (seqObj "list" #[] 0) (bo (seqObj "tuple" vs.toArray 0) q1);have kp:∀b o,b≠a->s.heap.get? b=a_ o->(((s.heap.update a (ow λ_=>(#[]:Array f_))).push (seqObj "tuple" vs.toArray 0)).push (seqObj "list" #[] 0)).get? b=a_ o:=λb o hb e=>bo _ (bo _ (by rw[Dy _ _ _ _ hb];exact e));dsimp only;rw[if_neg hn,if_neg hn];have hq:=hk { s with heap:=((s.heap.update a (ow λ_=>(#[]:Array f_))).push (seqObj "tuple" vs.toArray 0)).push (seqObj "list" #[] 0) } kp;refine aq (gf (hq.1 _ ?_) (λ_ _ z=>z) λ_ _ z=>z.elim);refine aq (adO nd inj hq.2 λst p mx ri eo ef=>?_);dsimp only;rw[eo];have lp:(p.toList.map λi=>vs.getD i iE).toArray.size=vs.length:=by rw[dH,aP,eG,mx.size]
 refine aq (Jc q3 rfl (aq (IK q3 rfl ?_ (bg _) (c7 (by rw[lp];exact line) (jv _)))));rw[ef];rw[if_neg (by simp)];refine aV (k _ _ p mx ri (λb o hb e=>?_) (DI q3 λ_=>(p.toList.map λi=>vs.getD i iE).toArray));rw[Dy _ _ _ _ hb];exact kp b o hb e
end TS
namespace L2
open PySem.W
section
variable{X:Cx}{p_:List (e_×Obj)}{σ:St}{H:Hp}{s:g_}
structure ak5(P:l_)(w:k_)(L:e_)(h:j_)(vs:List f_)(r:Nat->Int):Prop where
 line:vs.length<=cq
 nd:vs.Nodup
 inj:∀i j,i<vs.length->j<vs.length->r i=r j->i=j
 ask:2<=vs.length->∃κ,∀(A:h_) (s':g_),(∀b o,b≠L->h.get? b=a_ o->s'.heap.get? b=a_ o)->
  (∀Q:mi->g_->Prop,Q κ s'->wpAny (model P w) A (keyKind' vs.toArray) Q (λ_ _=>False) s')/\
  ∀i j (C:Bool->g_->Prop),i<vs.length->j<vs.length->C (decide (r i<r j)) s'->kas_ask P w A κ vs i j C s'
theorem abX(alV:wpAny (model X.prog X.w) X.A.in1 (collect x) (λvs s1=>∃ys r,Inv X p_ σ H s1/\Vals ys vs/\ak5 X.prog X.w X.env.locals s1.heap vs r/\∀l zs,H l=b_->Fb ys r zs->Q (.ref l) (upd H l (.lst zs))) X.xe s) :
  wpAny (model X.prog X.w) X.A (call (.builtin "sorted") [x]) (EP X p_ σ Q) X.xe s:=by
 refine Calls.call_function_entry kind_sorted plain_sorted entry_sorted (args_sorted1 _) ?_;unfold Builtin.«sorted»;refine aq (aV (a:=()) (aq (gf alV (λvs s1 hq=>?_) λ_ _ z=>z)));obtain⟨ys,r,I,rv,S,q⟩:=hq;have hlen:=rv.length;have line:=S.line;refine aq (II ?_ line);obtain⟨kx,g,d,tk,os⟩:=s1;dsimp only at I S ⊢;have q0:(kx.push (seqObj "list" vs.toArray 0)).get? kx.objs.size=a_ (seqObj "list" vs.toArray 0):=gw _ rfl;obtain⟨m,F0⟩:=I.fr
 have fin:∀(h2:j_) (c:Nat) (zs:List V) (out:List f_),h2.Ns X.env.locals m->(∀b o,b≠X.env.locals->kx.get? b=a_ o->h2.get? b=a_ o)->h2.get? kx.objs.size=a_ (seqObj "list" out.toArray c)->
   Vals zs out->zs.length<=cq->Fb ys r zs->EP X p_ σ Q (.ref kx.objs.size) ⟨h2,g,d,tk,os⟩:=λh2 c zs out n2 k2 e2 v2 l2 so=>by
  have hn:H kx.objs.size=none:=I.aH.fresh (aI _);have f:=I.iz (b:=kx.objs.size) (aI _) hn;have J:=Inv.regrown (s:=⟨kx,g,d,tk,os⟩) (t':=tk) (d':=d) I F0.ns n2 k2;exact⟨.ref kx.objs.size,_,Inv.adopt (o:=.lst zs) J hn I.sz f.2.1 f.2.2.2.2.1 f.2.2.2.2.2 ⟨l2,out,c,v2,e2⟩,rfl,q _ _ hn so⟩
 refine aq (lE (y6 slot_list_sort ⟨_,q0,rfl⟩ entry_list_sort ?_ (args_list_sort _)));have kp:∀b o,kx.get? b=a_ o->(kx.push (seqObj "list" vs.toArray 0)).get? b=a_ o:=λb o e=>bo _ e;have ne:∀b o,kx.get? b=a_ o->b≠kx.objs.size:=λb o z=>eM (cx z)
 have YX:∀h':j_,(∀b o,b≠kx.objs.size->(kx.push (seqObj "list" vs.toArray 0)).get? b=a_ o->h'.get? b=a_ o)->h'.Ns X.env.locals m:=λh' k'=>by
  obtain⟨o,es,ep,z,rr⟩:=F0.ns;exact⟨o,es,ep,k' _ _ (ne _ _ z) (kp _ _ z),rr⟩
 by_cases h2:vs.length<2
 ·exact abY (s:=⟨kx.push (seqObj "list" vs.toArray 0),g,d,tk,os⟩) q0 h2 λh' e k' e'=>⟨_,rfl,aV ⟨_,rfl,fin h' e ys vs (YX h' k') (λb o _ z=>k' b o (ne b o z) (kp b o z)) e' rv li ⟨(List.range ys.length).toArray,Array.Perm.refl _,λi j nh hj=>absurd nh li,(ab4 ys).symm⟩⟩⟩
 ·have h3:2<=vs.length:=li;obtain⟨κ,hκ⟩:=S.ask h3;refine TS.acD (s:=⟨kx.push (seqObj "list" vs.toArray 0),g,d,tk,os⟩) q0 h3 line S.nd S.inj (λs' kk=>hκ _ s' λb o _ z=>kk b o (ne b o z) (kp b o z)) λh' e p mx ri k' e'=>⟨_,rfl,aV ⟨_,rfl,fin h' e (p.toList.map λi=>ys.getD i .aG) _ (YX h' k') (λb o _ z=>k' b o (ne b o z) (kp b o z)) e' (RM rv _) ?_ ⟨p,by rw[hlen];exact mx,by rw[hlen];exact ri,rfl⟩⟩⟩;rw[aP,Jv mx];exact line
end
section
variable{P:l_}{w:k_}{A:h_}{E:f_->g_->Prop}{s:g_}{Q:Bool->g_->Prop}
theorem ai7{a b:Int}{t u:Tok}(q:Q (decide (a<b)) s):wpAny (model P w) A (oneLt' d_ (ip a t) (ip b u)) Q E s:=by
 rw[oneLt'_eq];dsimp only;rw[if_neg qc];refine aq (PyProof.Rows.lt_int (?_:wpAny _ _ _ _ _ _):wpAny (model P w) A (jx .Lt (.int a t) (.int b u)) _ E s);exact qw q
theorem ai6{t u:Tok}(q:Q (decide (a.cps.toList<b.cps.toList)) s):wpAny (model P w) A (oneLt' d_ (sq a t) (sq b u)) Q E s:=by
 rw[oneLt'_eq];dsimp only;rw[if_neg qc];refine aq (PyProof.Rows.lt_str (?_:wpAny _ _ _ _ _ _):wpAny (model P w) A (jx .Lt (.str a t) (.str b u)) _ E s);exact qw q
def iZ(x y:Int×Int×Str):Bool:=if x.1=y.1 then (if x.2.1=y.2.1 then (if x.2.2=y.2.2 then d_ else decide (x.2.2.cps.toList<y.2.2.cps.toList)) else decide (x.2.1<y.2.1)) else decide (x.1<y.1)
theorem akW{x y:Int×Int×Str}{t1 t2 t3 u1 u2 u3:Tok}(q:Q (iZ x y) s):KatLex P w A c_ (decide (3<3)) Q ([ip x.1 t1,ip x.2.1 t2,sq x.2.2 t3].zip [ip y.1 u1,ip y.2.1 u2,sq y.2.2 u3]) 0 s:=by
 unfold iZ at q;refine Ex (Im ?_)
 by_cases e1:x.1=y.1
 ·rw[if_pos e1]at q;rw[show (x.1 == y.1)=c_ by simpa using e1];refine kat_yes (Ex (Im ?_))
  by_cases e2:x.2.1=y.2.1
  ·rw[if_pos e2]at q;rw[show (x.2.1 == y.2.1)=c_ by simpa using e2];refine kat_yes (Ex (wpAny_eqBool_str ?_))
   by_cases e3:x.2.2=y.2.2
   ·rw[if_pos e3]at q;rw[decide_eq_true e3];exact kat_yes (kat_nil q)
   ·rw[if_neg e3]at q;rw[decide_eq_false e3];exact kat_no (ai6 q)
  ·rw[if_neg e2]at q;rw[show (x.2.1 == y.2.1)=d_ by simpa using e2];exact kat_no (ai7 q)
 ·rw[if_neg e1]at q;rw[show (x.1 == y.1)=d_ by simpa using e1];exact kat_no (oneLt_int q)
end
theorem agQ{a b:Str}(h:a.cps.toList=b.cps.toList):a=b:=by
 cases a;cases b
 congr 1
 exact Qx.mp h
theorem age(x:Int×Int×Str):iZ x x=false:=by
 unfold iZ;rw[if_pos rfl,if_pos rfl,if_pos rfl]
theorem KO{x y:Int×Int×Str}:iZ x y=c_↔x.1<y.1\/(x.1=y.1/\(x.2.1<y.2.1\/(x.2.1=y.2.1/\x.2.2.cps.toList<y.2.2.cps.toList))):=by
 unfold iZ
 by_cases e1:x.1=y.1
 ·rw[if_pos e1]
  by_cases e2:x.2.1=y.2.1
  ·rw[if_pos e2]
   by_cases e3:x.2.2=y.2.2
   ·rw[if_pos e3];constructor
    ·intro h;cases h
    ·rintro(h | ⟨_,h | ⟨_,h⟩⟩)
     ·lia
     ·lia
     ·rw[e3]at h;exact absurd h (List.lt_irrefl _)
   ·rw[if_neg e3];constructor
    ·intro h;exact .inr ⟨e1,.inr ⟨e2,of_decide_eq_true h⟩⟩
    ·rintro(h | ⟨_,h | ⟨_,h⟩⟩)
     ·omega
     ·omega
     ·exact decide_eq_true h
  ·rw[if_neg e2];constructor
   ·intro h;exact .inr ⟨e1,.inl (of_decide_eq_true h)⟩
   ·rintro(h | ⟨_,h | ⟨h,_⟩⟩)
    ·omega
    ·exact decide_eq_true h
    ·exact absurd h e2
 ·rw[if_neg e1];constructor
  ·intro h;exact .inl (of_decide_eq_true h)
  ·rintro(h | ⟨h,_⟩)
   ·exact decide_eq_true h
   ·exact absurd h e1
theorem aht{x y z:Int×Int×Str}(h:iZ x y=c_)(g:iZ y z=c_):iZ x z=true:=by
 rw[KO]at *;rcases h with h | ⟨h1,h | ⟨h2,h⟩⟩ <;> rcases g with g | ⟨g1,g | ⟨g2,g⟩⟩
 ·exact .inl li
 ·exact .inl li
 ·exact .inl om
 ·exact .inl li
 ·exact .inr ⟨li,.inl li⟩
 ·exact .inr ⟨om,.inl li⟩
 ·exact .inl om
 ·exact .inr ⟨om,.inl li⟩
 ·exact .inr ⟨om,.inr ⟨li,List.lt_trans h g⟩⟩
theorem UE{x y:Int×Int×Str}(h:x≠y):iZ x y=c_\/iZ y x=true:=by
 rw[KO,KO];rcases aa1 x.1 y.1 with a | a | a
 ·exact .inl (.inl a)
 ·rcases aa1 x.2.1 y.2.1 with b | b | b
  ·exact .inl (.inr ⟨a,.inl b⟩)
  ·by_cases c:x.2.2.cps.toList<y.2.2.cps.toList
   ·exact .inl (.inr ⟨a,.inr ⟨b,c⟩⟩)
   ·by_cases d:y.2.2.cps.toList<x.2.2.cps.toList
    ·exact .inr (.inr ⟨a.symm,.inr ⟨b.symm,d⟩⟩)
    ·exact absurd (t6 a (t6 b (agQ (List.le_antisymm d c)))) h
  ·exact .inr (.inr ⟨a.symm,.inl b⟩)
 ·exact .inr (.inl a)
theorem ah0{α:Type}{p q:α->Bool}:∀{l:List α},(∀x∈l,p x=c_->q x=c_)->l.countP p<=l.countP q:=λh=>List.countP_mono_left h
theorem VW{α:Type}{p q:α->Bool}{a:α}:∀{l:List α},(∀x,p x=c_->q x=c_)->a∈l->p a=d_->q a=c_->l.countP p<l.countP q
 | [],_,h,_,_=>by cases h
 | x::l,h,ha,h1,h2=>by
  rw[aa',aa'];have hl:l.countP p<=l.countP q:=ah0 λx _=>h x;rcases bw.mp ha with e | e
  ·rw[<-e,h1,h2];simp;lia
  ·have:=VW h e h1 h2
   have:(if p x=c_ then 1 else 0)<=(if q x=c_ then 1 else 0):=by
    by_cases c:p x=c_
    ·rw[if_pos c,if_pos (h x c)];exact aI _
    ·rw[if_neg c];exact bg _
   lia
def vZ(ts:List (Int×Int×Str))(x:Int×Int×Str):Int:=(ts.countP λy=>iZ y x:Nat)
theorem El{ts:List (Int×Int×Str)}{x y:Int×Int×Str}(hx:x∈ts)(hy:y∈ts):decide (vZ ts x<vZ ts y)=iZ x y:=by
 have key:∀{x y},x∈ts->iZ x y=c_->vZ ts x<vZ ts y:=λ{x y} hx h=>by
  unfold vZ;exact Int.ofNat_lt.mpr (VW (λz hz=>aht hz h) hx (age x) h)
 cases e:iZ x y with
 | true=>exact decide_eq_true (key hx e)
 | false=>
  by_cases c:x=y
  ·rw[c];exact decide_eq_false (Int.lt_irrefl _)
  ·rcases UE c with z | z
   ·rw[e]at z;cases z
   ·exact decide_eq_false λh=>absurd (key hy z) li
theorem acH{ts:List (Int×Int×Str)}{x y:Int×Int×Str}(hx:x∈ts)(hy:y∈ts)(h:vZ ts x=vZ ts y):x=y:=by
 by_cases c:x=y
 ·exact c
 ·rcases UE c with z | z
  ·have:=El hx hy;rw[z]at this;have:=of_decide_eq_true this;lia
  ·have:=El hy hx;rw[z]at this;have:=of_decide_eq_true this;lia
end L2
namespace TS
theorem ae4{α:Type}{l:List α}{i:Nat}{x:α}(h:l[i]?=a_ x):l.drop i=x::l.drop (i+1):=by
 obtain⟨hi,e⟩:=dy.mp h;rw[HU hi,e]
end TS
namespace L2
open PySem.W
section
variable{X:Cx}{p_:List (e_×Obj)}{σ:St}{H:Hp}{s:g_}
theorem ae0{P:l_}{w:k_}{Q:Bool->g_->Prop}(h:Q c_ s):wpAny (model P w) A (eqBool v v) Q E s:=lE (wpAny_ite_split (λ_=>aq (Bs (aV h))) λz=>absurd (beq_self_eq_true v) z)
theorem RV{r f:Nat->Int}{W:Nat->List f_->Prop}(I:Inv X p_ σ H s)(hl:av X.K H p xs)(hz:xs.length<cq)
  (hW:∀i,i<xs.length->∃a ys,xs[i]?=a_ (.ref a)/\aJ X.K H a ys/\∀us,Vals ys us->W i us) (h0:∀i us,W i us->∃t rest,us=ip (f i) t::rest) (same:∀i j us,i<xs.length->j<xs.length->W i us->W j us->i=j) (inj:∀i j,i<xs.length->j<xs.length->r i=r j->i=j)
  (lex:∀i j us vs A s' (C:Bool->g_->Prop),i<xs.length->j<xs.length->W i us->W j vs->(i=j->us=vs)->C (decide (r i<r j)) s'->KatLex X.prog X.w A c_ (decide (us.length<vs.length)) C (us.zip vs) 0 s')
  (q:∀l zs,H l=b_->Fb xs r zs->Q (.ref l) (upd H l (.lst zs))):wpAny (model X.prog X.w) X.A (call (.builtin "sorted") [.ref p]) (EP X p_ σ Q) X.xe s:=by
 obtain⟨ar,rv,pl,_⟩:=I.list hl;have hlen:=rv.length;refine abX (H:=H) (collect_list pl.isList ?_ li)
 have kp:∀b o,s.heap.get? b=a_ o->((s.heap.push (seqObj "list" #[] 0)).update s.heap.objs.size (ow (· ++ ar.toArray))).get? b=a_ o:=λb o e=>by
  rw[Dy _ _ _ _ (eM (cx e))];exact bo _ e
 have tup:∀i,i<xs.length->∃a o vs n,ar[i]?=a_ (.ref a)/\s.heap.get? a=a_ o/\o.cls=.type "tuple"/\o.data=.seq vs n/\W i vs.toList:=λi hi=>by
  obtain⟨a,ys,e1,e2,e3⟩:=hW i hi;obtain⟨vs,rv2,⟨o,eo,co,n,do_⟩,_⟩:=I.tuple e2;obtain⟨u,eu,ru⟩:=rv.get e1;cases ru;exact⟨a,o,_,n,eu,eo,co,do_,by simpa using e3 _ rv2⟩
 refine⟨xs,r,I.kept kp,rv,⟨om,?_,λi j hi hj=>inj i j li li,λh2=>?_⟩,q⟩
 ·rw[List.nodup_iff_pairwise_ne,jd];intro i j hi hj nh e;obtain⟨a,o,vs,n,a1,a2,a3,a4,a5⟩:=tup i om;obtain⟨a',o',nZ,n',b1,b2,b3,b4,b5⟩:=tup j om;rw[aO hi]at a1;rw[aO hj,<-e,dr a1]at b1;cases b1;rw[b2]at a2;cases a2;rw[a4]at b4;cases b4;have:=same i j _ om om a5 b5;lia
 ·refine⟨tuples' c_,λA s' k=>?_⟩
  have at':∀i,i<xs.length->∃a o vs n,ar[i]?=a_ (.ref a)/\s'.heap.get? a=a_ o/\o.cls=.type "tuple"/\o.data=.seq vs n/\W i vs.toList:=λi hi=>by
   obtain⟨a,o,vs,n,e1,e2,e3,e4,e5⟩:=tup i hi;refine⟨a,o,vs,n,e1,k _ _ (λz=>?_) (kp _ _ e2),e3,e4,e5⟩;obtain⟨m,F⟩:=I.fr;obtain⟨o',es,ep,e',d',_⟩:=F.ns;rw[z,e']at e2;cases e2;rw[d']at e4;cases e4
  constructor
  ·intro Q' hQ
   have kt:∀m,m<=xs.length->∃fs:List f_,fs.length=m/\KatTups s'.heap (ar.drop (xs.length-m)) fs/\∀v∈fs,∃i t,v=ip i t:=λm=>by
    induction m with
    | zero=>
     intro _;refine⟨[],rfl,?_,λv hv=>nomatch hv⟩;rw[List.drop_of_length_le li];exact .nil
    | succ m ih=>
     intro hm;obtain⟨fs,h1,h2,h3⟩:=ih li;obtain⟨a,o,vs,n,e1,e2,e3,e4,e5⟩:=at' (xs.length-(m+1)) om;obtain⟨t,rest,e6⟩:=h0 _ _ e5;rw[TS.ae4 e1,show xs.length-(m+1)+1=xs.length-m by lia];refine⟨_::fs,by rw[iT,h1],.cons e2 e3 e4 (f:=ip (f (xs.length-(m+1))) t) (by rw[<-A5,e6];rfl) h2,λv hv=>?_⟩;rcases bw.mp hv with z | z
     ·exact⟨_,_,z⟩
     ·exact h3 v z
   obtain⟨fs,h1,h2,h3⟩:=kt xs.length (aI _);rw[xG,ze]at h2;refine kat_kind (T:=.type "int") h2 li (λv hv=>?_) qc (by rw[show (pH "int" != pH "tuple")=c_ by decide];exact hQ);obtain⟨i,t,e⟩:=h3 v hv;rw[e];exact abS _ _ _ _
  ·intro i j C hi hj c;obtain⟨a,o,vs,n,e1,e2,e3,e4,e5⟩:=at' i om;obtain⟨a',o',nZ,n',pA,qq,xp,Pz,e5'⟩:=at' j om;unfold kas_ask;rw[kC,kC,e1,pA];refine kat_lt e2 e4 qq Pz ?_;rw[<-eG,<-eG];refine lex i j _ _ A s' C om om e5 e5' (λz=>?_) c;subst z;rw[e1]at pA;cases pA;rw[e2]at qq;cases qq;rw[e4]at Pz;cases Pz;rfl
end
section
variable{X:Cx}
def ag2(K:u_):List V->Hp->VK->Prop:=λxs H Q=>∃(p:e_) (ps:List (Int×V)),xs=[.ref p]/\av K H p (ps.map (·.2))/\ps.length<64/\(∀q∈ps,∃a ys,q.2=.ref a/\aJ K H a (.int q.1::ys))/\(ps.map (·.1)).Nodup/\
 ∀l qs,H l=b_->dM qs ps->qs.Pairwise (λa b=>a.1<b.1)->Q (.ref l) (upd H l (.lst (qs.map (·.2))))
theorem Ts{P:l_}{w:k_}{C:Bool->g_->Prop}(c:C d_ s):∀(us:List f_) (i:Nat),KatLex P w A c_ d_ C (us.zip us) i s
 | [],_=>c
 | _::us,i=>Ex (ae0 (kat_yes (Ts c us (i+1))))
theorem abE:lK X (.builtin "sorted") (ag2 X.K):=by
 intro p_ s σ H xs us Q I r h;obtain⟨p,ps,rfl,hl,h64,ht,nd,q⟩:=h;obtain⟨u,rfl,rx⟩:=vals1 r;cases rx;have rF:(ps.map (·.2)).length=ps.length:=aP _
 have inj:∀i j,i<(ps.map (·.2)).length->j<(ps.map (·.2)).length->(ps.map (·.1)).getD i 0=(ps.map (·.1)).getD j 0->i=j:=λi j hi hj e=>by
  rw[rF]at hi hj;have e':(ps.map (·.1))[i]'(by simpa using hi)=(ps.map (·.1))[j]'(by simpa using hj):=by simpa[hi,hj]using e
  rcases y3 i j with z | z | z
  ·exact absurd e' (jd.mp nd i j _ _ z)
  ·exact z
  ·exact absurd e'.symm (jd.mp nd j i _ _ z)
 refine RV (r:=λi=>(ps.map (·.1)).getD i 0) (f:=λi=>(ps.map (·.1)).getD i 0) (W:=λi us=>∃t rest,us=ip ((ps.map (·.1)).getD i 0) t::rest) I hl (by rw[rF,gG];lia) (λi hi=>?_) (λi us h=>h) (λi j us hi hj h1 h2=>?_) inj (λi j us vs A s' C hi hj h1 h2 hs c=>?_) λl zs hn so=>?_
 ·rw[rF]at hi;obtain⟨a,ys,e1,e2⟩:=ht _ (tQ hi);refine⟨a,_,by simp[hi,e1],e2,λus v=>?_⟩;cases v with
  | cons ra rr=>
   obtain⟨t,rfl⟩:=ra;exact⟨t,_,by simp[hi];rfl⟩
 ·obtain⟨t,rest,rfl⟩:=h1;obtain⟨t',aka,e⟩:=h2;injection e with e _
  injection e with e _
  exact inj i j hi hj e
 ·by_cases z:i=j
  ·have e:=hs z;subst z e;rw[decide_eq_false (jS _)];rw[decide_eq_false (Int.lt_irrefl _)]at c;exact Ts c us 0
  ·obtain⟨t,rest,rfl⟩:=h1;obtain⟨t',aka,rfl⟩:=h2;refine Ex (Im ?_);rw[show ((ps.map (·.1)).getD i 0 == (ps.map (·.1)).getD j 0)=d_ by simpa using λe=>z (inj i j hi hj (by simpa using e))];exact kat_no (oneLt_int c)
 ·obtain⟨qs,g,pw,rfl⟩:=abA so;exact q l qs hn g pw
abbrev T3:=Int×Int×Str
def Vr(K:u_):List V->Hp->VK->Prop:=λxs H Q=>∃(p:e_) (ps:List (e_×T3)),xs=[.ref p]/\av K H p (ps.map λx=>.ref x.1)/\ps.length<cq/\(∀q∈ps,aJ K H q.1 [.int q.2.1,.int q.2.2.1,.str q.2.2.2])/\(ps.map (·.2)).Nodup/\
 ∀l qs,H l=b_->dM qs ps->qs.Pairwise (λa b=>iZ a.2 b.2=c_)->Q (.ref l) (upd H l (.lst (qs.map λx=>.ref x.1)))
theorem QS:lK X (.builtin "sorted") (Vr X.K):=by
 intro p_ s σ H xs us Q I r h;obtain⟨p,ps,rfl,hl,tm,ht,nd,q⟩:=h;obtain⟨u,rfl,rx⟩:=vals1 r;cases rx
 let ts:List T3:=ps.map (·.2)
 have rF:(ps.map λx=>V.ref x.1).length=ps.length:=aP _
 have td:∀{i} (hi:i<ps.length),ts.getD i (0,0,"")=ps[i].2:=λ{i} hi=>by
  show (ps.map (·.2)).getD i ((0,0,""):T3)=ps[i].2;simp[hi]
 have mem:∀{i},i<ps.length->ts.getD i (0,0,"")∈ts:=λ{i} hi=>by
  rw[td hi];exact jT.mpr ⟨_,tQ hi,rfl⟩
 have same:∀i j,i<ps.length->j<ps.length->ts.getD i (0,0,"")=ts.getD j (0,0,"")->i=j:=λi j hi hj e=>by
  rw[td hi,td hj]at e;have e':(ps.map (·.2))[i]'(by simpa using hi)=(ps.map (·.2))[j]'(by simpa using hj):=by simpa using e
  rcases y3 i j with z | z | z
  ·exact absurd e' (jd.mp nd i j _ _ z)
  ·exact z
  ·exact absurd e'.symm (jd.mp nd j i _ _ z)
 refine RV (r:=λi=>vZ ts (ts.getD i (0,0,""))) (f:=λi=>(ts.getD i (0,0,"")).1) (W:=λi us=>∃t1 t2 t3,us=[ip (ts.getD i (0,0,"")).1 t1,ip (ts.getD i (0,0,"")).2.1 t2,sq (ts.getD i (0,0,"")).2.2 t3]) I hl (by rw[rF];exact tm) (λi hi=>?_) (λi us h=>?_) (λi j us hi hj h1 h2=>?_) (λi j hi hj e=>?_) (λi j us vs A s' C hi hj h1 h2 _ c=>?_) λl zs hn so=>?_
 ·rw[rF]at hi;refine⟨ps[i].1,_,by simp[hi],ht _ (tQ hi),λus v=>?_⟩;cases v with
  | cons ra rr=>
   cases rr with
   | cons rb rr=>
    cases rr with
    | cons rc rr=>
     cases rr;obtain⟨t1,rfl⟩:=ra;obtain⟨t2,rfl⟩:=rb;obtain⟨t3,rfl⟩:=rc;exact⟨t1,t2,t3,by rw[td hi]⟩
 ·obtain⟨t1,t2,t3,rfl⟩:=h;exact⟨_,_,rfl⟩
 ·rw[rF]at hi hj;obtain⟨t1,t2,t3,rfl⟩:=h1;obtain⟨u1,u2,u3,e⟩:=h2;simp only[abh,ip.injEq,sq.injEq]at e;exact same i j hi hj (t6 e.1.1 (t6 e.2.1.1 e.2.2.1.1))
 ·rw[rF]at hi hj;exact same i j hi hj (acH (mem hi) (mem hj) e)
 ·rw[rF]at hi hj;obtain⟨t1,t2,t3,rfl⟩:=h1;obtain⟨u1,u2,u3,rfl⟩:=h2;refine akW ?_;rw[El (mem hi) (mem hj)]at c;exact c
 ·obtain⟨pp,g,ri,rfl⟩:=so;rw[aP]at g ri;have amO:=Jv g;have gp:=HR.mp g
  have lt:∀i∈pp.toList,i<ps.length:=λi hi=>by
   have:=gp.mem_iff.mp hi;simpa using this
  have er:(List.range ps.length).map (λi=>ps.getD i (0,(0,0,"")))=ps:=by
   apply Iv
   ·simp
   ·intro i h1 h2;simp[h2]
  have pq:(pp.toList.map λi=>ps.getD i (0,(0,0,""))).Perm ps:=by
   have:=gp.map λi=>ps.getD i (0,(0,0,""));simp only[aaN]at this;rw[er]at this;exact this
  have e1:(pp.toList.map λi=>(ps.map λx=>V.ref x.1).getD i .aG)=(pp.toList.map λi=>ps.getD i (0,(0,0,""))).map λx=>V.ref x.1:=by
   rw[tT];refine Qf λi hi=>?_;have:=lt i hi;simp[this]
  rw[e1];refine q l _ hn pq ?_;rw[jd];intro i j hi hj nh;rw[aP]at hi hj;have c:=ri i j nh li;unfold rk at c;dsimp only at c;have hsz:=g.size;have e:∀k (hk:k<pp.size),pp.getD k 0=pp.toList[k]'(by rw[eG];exact hk):=λk hk=>by simp[D6,hk]
  rw[e i om,e j om]at c;have li:=lt _ (tQ (l:=pp.toList) (n:=i) om);have lj:=lt _ (tQ (l:=pp.toList) (n:=j) om);rw[xC,xC];have f1:∀k (hk:k<ps.length),ps.getD k (0,(0,0,""))=ps[k]:=λk hk=>by simp[hk]
  have d:=El (mem li) (mem lj);rw[decide_eq_true c,td li,td lj]at d;rw[f1 _ li,f1 _ lj];exact d.symm
end
end L2
namespace TL
open L2 L3
theorem TF{α:Type}{qv:Nat->List α}{m:Nat}:∀n:Nat,(∀i,i<n->(qv i).length<=m)->((List.range n).flatMap qv).length<=n*m
 | 0,_=>by simp
 | n+1,h=>by
  rw[lD,vp,cj];have h1:=TF n λi hi=>h i li;have h2:=h n (DE n);simp only[Qq,aa9,il];rw[Bk];lia
theorem Bn{α β:Type}{F:α->β->Prop}:∀{l:List α} {r:List β} {i:Nat} {x:α},Paired F l r->l[i]?=a_ x->∃y,r[i]?=a_ y/\F x y
 | _,_,_,_,.nil,e=>by simp at e
 | _,_,0,_,.cons h _,e=>by simp at e;subst e;exact⟨_,rfl,h⟩
 | _,_,i+1,x,.cons _ t,e=>by
  exact aw (Bn (i:=i) t (by simpa using e)) λy h1 h2=>au y (by simpa using h1) h2
theorem ak2(x y z:V):mJ [x,y,z] b_ (a_ 2)=[x,y]:=rfl
section
variable{P:l_}{w:k_}{K:u_}{mg:Str->Option f_}{base:j_}
def LZ(H:Hp)(v:V)(e:Ent):Prop:=∃p,v=.ref p/\H p=a_ (.tup [.int e.n,.int e.num])
def S2(C:e_):Sp:=λvs H Q _=>∃a kd tn es q qr,vs=[.ref a]/\dP H a C kd tn es q qr/\es.length<64/\
 ∀H' l us,ak H H'->H l=b_->H' l=a_ (.lst us)->Paired (LZ H') us es->Q (.ref l) H'
theorem Js:bp ["self","waiting","queue"] zLd (aW JV):=bJ
theorem Wj:(["turn","setting"]:List Str).Nodup:=dk
theorem ab7(F:aY K "listed" "Tray.listed" JV f fd)(B:BT mg)(cT:mz K C):ay P w K mg base aB 1 f fd zLd (S2 C):=by
 refine F.ok Js λaM A _ s H vs Q E hr h=>?_
 ·refine jh h λa kd tn es q aa=>dY aa λqr aa T hz k=>?_;subst aa
  refine let R1:TS:=_;let R2:TS:=_;let R3:TS:=_;⟨_,aE (cU (i:=1) Js.nd rfl (aX rfl) (fk af)) (pR R3 (aE (jY kE rfl (zO (bz (pv 0) rfl)) (cG (i:=2) Js.nd rfl (aX rfl)) (pR R1 (aF (dE (ke m_ PySem.F.slot_list_extend PySem.F.type_list_extend Ea (pv 1) (ae (pv 2) af)))))) (pR R2 (aF (bj (jA (N:=["turn","setting"]) (idx:=[]) rfl (ee.of (by kernel_rfl)) (zx (bg _) (bg _)) (zO (bG abE rfl B.sorted boot_sorted (ae (pv 1) af)))
    (λ_ _ _ _=>qL rfl (iV (cG (i:=0) Wj rfl (aX rfl) (.inr rfl)) (iV (cG (i:=1) Wj rfl (aX rfl) (.inr rfl)) qH)))
    (λ_ _ _ _=>jW) λ_ _ _ _=>zH (aiJ K) (pv 1) zM (zL aA))))))),?_⟩
  refine eP (id T.obj) λdx fs ea e1 e2 e3 em el=>?_;have hl:=T.len
  obtain⟨qv,OQ⟩:∃qv:Nat->List V,∀i (hi:i<qr.length),H qr[i]=a_ (.lst (qv i))/\Paired (kj H) (qv i) (cw es i):=by
   refine⟨λi=>match H (qr.getD i 0)with | some (.lst vs)=>vs | _=>[],λi hi=>aw (T.kn i _ (aO hi)) λvs h1 h2=>?_⟩;have eg:qr.getD i 0=qr[i]:=by simp[hi]
   dsimp only;rw[eg,h1];exact⟨rfl,h2⟩
  refine⟨qc,λlw nw=>?_⟩;have s0:ak H (upd H lw (.lst [])):=aN (ak.refl _) nw;have naw:=cg ea nw;have nqw:=cg T.qs nw;refine au _ rfl (dZ a C dx fs (kJ _ rfl (by rw[ao naw];exact ea) cT.cl cT.vP e3 ⟨q,rfl,⟨_,av.of (by rw[ao nqw];exact T.qs)⟩,?_⟩))
  let W1:IV:=λi σ H'=>∃qx,σ=[a_ (.ref a),a_ (.ref lw),qx]/\ak H H'/\H' lw=a_ (.lst ((List.range i).flatMap qv))
  refine aeU (xs:=qr.map V.ref) W1 ⟨b_,rfl,s0,by rw[ax];rfl⟩ ?_ ?_ ?_
  ·rintro i σ H' _ ⟨qx,rfl,sm,_⟩;exact av.of (sm _ _ T.qs)
  ·rintro i x σ H' hx ⟨qx,rfl,sm,hw⟩;rw[dq]at hx;refine aw (xr.mp hx) λb hb aa=>?_;subst aa;refine oE (dy.mp hb) λhi eb=>?_;refine oA (OQ i hi) λh1 h2=>?_;rw[eb]at h1;have lq:=r_ h2;have lq2:=KG es i
   have fl:=TF (qv:=qv) (m:=64) i λj hj=>by
    have:=r_ (OQ j li).2;have:=KG es j;lia
   refine vr rfl ⟨.inl ⟨rfl,_,av.of hw⟩,⟨_,rfl,lw,b,_,_,rfl,rfl,hw,sm _ _ h1,?_,⟨_,rfl,λc o e=>?_,?_⟩⟩⟩
   ·rw[gG];lia
   ·rw[ao (cg e nw)];exact sm _ _ e
   ·rw[ax,lD,vp];simp
  ·rintro σ H' ⟨qx,rfl,sm,hw⟩;rw[aP,hl]at hw;have rp:=Q7 qv (cw es) 12 λi hi=>(OQ i wg).2;have hL:=Q0 T.wf.nm;have ll:=hL.length_eq;have lr:=r_ rp;refine oA (zip_parts rp) λz1 z2=>?_;have YG:Paired (kj H') ((List.range 12).flatMap qv) ((List.range 12).flatMap (cw es)):=xR (λ_ _ y=>y.keep (F:=[]) λb xs e=>sm _ _ e) rp;refine vr rfl (⟨lw,((((List.range 12).flatMap qv).zip ((List.range 12).flatMap (cw es))).map λz=>(z.2.t,z.1)),rfl,(av.of (by rw[z1];exact hw)),(by rw[aP,DM];omega),(λy hy=>aR (Jf YG y hy) λe _ et aa=>dv aa λp st ep h1 h2=>fq p ([.ref st]) ep (aJ.of (by rw[et];exact h1))),(by rw[z2];exact abK T.wf hL),(λls qs hn hp ha=>?_)⟩)
   ·have rs:=abH T.wf hL YG hp ha;have s1:ak H' (upd H' ls (.lst (qs.map (·.2)))):=aN (ak.refl _) hn;generalize yP:upd H' ls (.lst (qs.map (·.2)))=H1 at s1;have pj:H1 ls=a_ (.lst (qs.map (·.2))):=by rw[<-yP];exact ax
    have lqs:=r_ rs;refine cD ls rfl ⟨_,av.of pj⟩ ?_;generalize hW:qs.map (·.2)=us at pj rs lqs;refine iH (n:=es.length) (λi ys H2=>ak H1 H2/\Paired (LZ H2) ys (es.take i)) (by rw[gG];exact w5) ⟨ak.refl _,by rw[QF];exact .nil⟩ ?_ ?_ ?_ ?_ ?_
    ·rintro i ys H2 ⟨_,r2⟩;rw[r_ r2,dS];exact xl
    ·rintro i ys H2 hi ⟨s2,_⟩;exact fq us (us[i]'wg) (av.of (s2 _ _ pj)) (aO wg)
    ·rintro ys H2 ⟨s2,_⟩;exact au us (av.of (s2 _ _ pj)) li
    ·rintro i ys H2 hi ⟨s2,r2⟩ y H3 ⟨eH,hy⟩;subst eH;have uU:=hy us (av.of (s2 _ _ pj));refine aw (Bn rs uU) λe he aa=>dv aa λp st aa h1 h2=>?_;subst aa;have g1:=s2 _ _ (s1 _ _ h1);have g2:=s2 _ _ (s1 _ _ h2);refine⟨p,⟨_,rfl,aJ.of g1,rfl,_,_,rfl,_,_,rfl,rfl,?_⟩⟩;dsimp only[oK];rw[if_pos rfl];refine vr rfl (au 2 rfl ⟨st,⟨_,rfl,aJ.of g2,by show ¬(HT.cF 3 0 b_=0/\HT.cF 3 3 (a_ 2)=3);decide,λr ik=>?_⟩⟩);have s3:ak H3 (upd H3 r (.tup (mJ [.int e.n,.int e.num,.int e.d] b_ (a_ 2)))):=aN (ak.refl _) ik;refine⟨s2.trans s3,?_⟩;rw[qy,he];exact Jg (xR (λ_ _ ⟨p,q1,q2⟩=>⟨p,q1,s3 _ _ q2⟩) r2) (au r rfl (by rw[ax,ak2]))
    ·rintro ys H2 ⟨s2,r2⟩;rw[List.take_length]at r2;have ly:=r_ r2;refine⟨by rw[gG];lia,λlr nr=>?_⟩;have s3:ak H2 (upd H2 lr (.lst ys)):=aN (ak.refl _) nr;refine k _ lr ys (sm.trans (s1.trans (s2.trans s3))) ?_ ax (xR (λ_ _ ⟨p,q1,q2⟩=>⟨p,q1,s3 _ _ q2⟩) r2);cases e:H lr with
     | none=>rfl
     | some o=>rw[s2 _ _ (s1 _ _ (sm _ _ e))]at nr;cases nr
end
end TL
namespace L4
open PySem.Builtin PySem.Builtin.Str
abbrev Tl:=Str×List Nat
inductive fU (sz:Nat):Tl->Prop
 | put (r m:Nat):r<4->m<10^60->fU sz ("put",[r,m])
 | add (r o:Nat):r<4->o<4->fU sz ("add",[r,o])
 | set (n r:Nat):n<12->r<4->fU sz ("set",[n,r])
 | look (r n:Nat):r<4->n<12->fU sz ("look",[r,n])
 | swap (r n:Nat):r<4->n<12->fU sz ("swap",[r,n])
 | clear:fU sz ("clear",[])
 | skip (r q:Nat):r<4->q<=sz->q<=120->fU sz ("skip",[r,q])
theorem fU.len{sz:Nat}{t:Tl}(g:fU sz t):t.2.length<=2:=by cases g <;> simp
abbrev Pt:=List Tl
structure Ac(ps:List Pt):Prop where
 ne:1<=ps.length
 le:ps.length<=4
 part:∀p∈ps,p.length<=120/\∀t∈p,fU p.length t
end L4
namespace L2
section
variable{X:Cx}
end
section
variable{X:Cx}{CX:nY}{k:Nat}{E:XK}{m:Str}{pos apos:Pos}{e o:Expr}{es:List Expr}{ta:TE}{t:TA}
end
theorem aeP:plainId jm=true:=dk
theorem agn:builtinKind jm=a_ Manifest.AttrKind.slot:=by kernel_rfl
theorem aeO:splitId jm=a_ ("BaseException","__getattribute__"):=by kernel_rfl
theorem agp(a b:f_):argsOk jm { pos:=[a,b] }:=by kernel_rfl
theorem ago(self:f_):bindSpecial (.builtin jm) self=pure (.builtin jm,[self]):=by kernel_rfl
theorem aeQ:entryFor table jm=a_ Builtin.«object.__getattribute__»:=by kernel_rfl
end L2
namespace L2
open L3
section
variable{prog:l_}{w:k_}{A:h_}{E:f_->g_->Prop}{s:g_}{K:u_}{x C:e_}{ox:Obj}{od:Option Obj}{name:Str}{tk:Tok}
theorem UL{fill expr:Bool}(X:K.In s.heap)(I:D_ s.heap x ox C od)(O2:w_ K (.ref C) (gc "__getattribute__")=a_ (a_ (.builtin jm)))(OZ:w_ K (.ref C) (gc "__getattr__")=a_ b_)
  (rJ:A_ K C (.type "BaseException")=a_ c_)
  (h:wpAny (model prog w) A.in1 (Builtin.«object.__getattribute__» { pos:=[.ref x,.str name tk] }) (λfin s'=>∃v,fin=BD (Flow.ret v)/\wpAny (model prog w) A (handedOut v) Q E s') (λ_ _=>False) s) :
  wpAny (model prog w) A (getAttrBy (.ref x) (.str name tk) fill expr) Q E s:=by
 have L0:=W.InstAt.type (M:=model prog w) I;have L1:=W.looks_findIn (M:=model prog w) X O2;have L2:=W.looks_findIn (M:=model prog w) X OZ;unfold getAttrBy;refine lE (aq (L0.here (aq (L1.here ?_))));show wpAny (model prog w) A (if (onTheHeap (.ref C)&&(zg jm == zg "object.__getattribute__"))=c_ then _ else getAttrByItsOwn (.ref x) (.str name tk) (.ref C) (.builtin jm) fill expr) Q E s
 have e1:(onTheHeap (.ref C)&&(zg jm == zg "object.__getattribute__"))=false:=by
  show (c_&&(zg jm == zg "object.__getattribute__"))=d_;decide +kernel
 rw[e1,if_neg eI];unfold getAttrByItsOwn;refine aq (L2.here (aq (Bh (lE ?_))))
 have ec:callGetattribute (.ref x) (.str name tk) (.builtin jm) expr=boundAndCalled (.builtin jm) (.ref x) (.str name tk):=by
  unfold callGetattribute;rw[if_neg (by cases expr <;> decide)]
 rw[ec];unfold boundAndCalled;rw[ago];refine aq (aV ?_);show wpAny (model prog w) A (call (.builtin jm) [.ref x,.str name tk]) _ _ s;have sub:s_ (model prog w) s.heap (Bu (.ref x) (.type "BaseException")) true:=W.Looks.andThen (W.InstAt.type I) (W.looks_mroIn X rJ);have h5:=agp (.ref x) (.str name tk);refine tW (Qb aeP aeQ (gf (@W.check_slot (model prog w) A.in1 (λ_ _=>False) s jm "BaseException" "__getattribute__" (.ref x) [.str name tk] [] (λ_ s₁=>s₁=s) agn aeO sub h5 rfl) (λ_ s1 e=>?_) λ_ _ z=>iF z));subst e;refine gf h (λfin s' z=>?_) λ_ _ z=>iF z;obtain⟨v,e,z⟩:=z;subst e;exact z
theorem UM{Q:f_->g_->Prop}{r:HX}(X:K.In s.heap)(I:D_ s.heap x ox C od)(hf:W.findObj K C od name=a_ r)
  (h:wpAny (model prog w) A (match r with
    | amF v=>ret v
    | amG g a=>PV g a (.ref x) (.ref C)
    | amE=>unsupported "no") (λfin s'=>∃v,fin=BD (Flow.ret v)/\Q v s') (λ_ _=>False) s) (hr:r≠.missing) :
  wpAny (model prog w) A (Builtin.«object.__getattribute__» { pos:=[.ref x,.str name tk] }) (λfin s'=>∃v,fin=BD (Flow.ret v)/\Q v s') (λ_ _=>False) s:=by
 have L0:=W.InstAt.type (M:=model prog w) I;have L1:=W.looks_find (M:=model prog w) X I hf;refine aq (aV (aq (aV (aq (L0.here (aq (L1.here ?_)))))));cases r with
 | value v=>exact h
 | bind g a=>exact h
 | missing=>exact absurd rfl hr
end
theorem ag8:classOwn (pH "ValueError") (gc "__setattr__")=pure none:=by kernel_rfl
theorem aiQ:classOwn (pH "Exception") (gc "__setattr__")=pure none:=by kernel_rfl
theorem ag9:classOwn (pH "BaseException") (gc "__setattr__")=pure none:=by kernel_rfl
theorem QR:∀{l:List f_},t8 l=c_->∃as:List e_,l=as.map cI++wy
 | [],h=>by cases h
 | v::r,h=>by
  cases v with
  | ref a=>
   exact oE (QR (l:=r) h) λas e=>⟨a::as,by rw[e];rfl⟩
  | type a=>
   have h':(a == "ValueError" && (r == [.type "Exception",.type "BaseException",.type "object"]))=true:=h;rw[jR]at h';refine⟨[],?_⟩;rw[jf h'.1,jf h'.2];rfl
  | _=>cases h
theorem Rm(self:f_):∀as:List e_,Jm self (gc "__setattr__") (as.map cI++wy)=pure ()
 | []=>by
  have e:=W.refuse_only self (l:=[.type "object"]) rfl;show Jm self (gc "__setattr__") [.type "ValueError",.type "Exception",.type "BaseException",.type "object"]=pure ();unfold Jm at e ⊢;simp only[zd,ag8,aiQ,ag9,pure_bind,Option.isSome_none,DB,if_false]at e ⊢;exact e
 | a::as=>by
  have e:=Rm self as;rw[fh,Qv];unfold Jm at e ⊢;rw[zd];simp only[pure_bind];exact e
section
variable{prog:l_}{w:k_}{A:h_}{K:u_}{C x:e_}{s:g_}{ox:Obj}{od:Option Obj}{name:Str}{tk:Tok}{v:f_}
theorem acN{R:Result->g_->Prop}{cd:ClassData}(X:K.In s.heap)(I:D_ s.heap x ox C od)(hc:W.clsIn K C=a_ cd)(ho:t8 cd.mro=c_)(ha:w_ K (.ref C) name=a_ b_)
  (h:wpAny (model prog w) A.in1 (amD (.ref x) (.ref C) (.str name tk) name v d_) (λfin s'=>match fin with | BD f=>R (SR f) s' | Fin.again c'=>c'.quiet=c_/\codeAny (model prog w) A c' R s') (λe s'=>R (Ja e) s') s) :
  codeAny (model prog w) A (Code.call (.builtin "object.__setattr__") { pos:=[.ref x,.str name tk,v] }) R s:=by
 have SF:=F.store_object;refine oE (QR ho) λas em=>?_;have ne:cd.mro.isEmpty=false:=by rw[em];cases as <;> rfl
 have hob:cd.mro.contains (.type "object")=true:=by rw[em,List.contains_eq_mem];exact decide_eq_true (f6 _ (by simp))
 have sub:s_ (model prog w) s.heap (Bu (.ref x) (.type "object")) true:=W.Looks.andThen (W.InstAt.type I) (W.looks_mroIn X (by
  unfold A_;rw[hc,Io,if_neg (by rw[ne];exact eI),hob]))
 have hm:s_ (model prog w) s.heap (mroOf (.ref C)) cd.mro:=W.Looks.andThen (W.looks_clsIn X hc) W.Looks.now;have h1:=SF.slot.plain;have h2:=SF.entry;have h3:=SF.kind;have h4:=SF.split;have h5:=SF.args (.ref x) (.str name tk) v
 have goal:wpAny (model prog w) A.in1 (Builtin.«object.__setattr__» { pos:=[cI x,sq name tk,v] })
   (λfin s'=>match fin with | BD f=>R (SR f) s' | Fin.again c'=>c'.quiet=c_/\codeAny (model prog w) A c' R s') (λe s'=>R (Ja e) s') s:=by
  rw[W.osa_eq,refuse_eq];refine aq (aq (W.Looks.here (W.InstAt.type I) (aq (W.Looks.here hm ?_))));rw[em,Rm];exact aV (aq (W.Looks.here (W.InstAt.type I) (aq (W.Looks.here (W.looks_findIn X ha) (aq (aV h))))))
 refine Qb h1 h2 ?_;exact @W.check_slot (model prog w) A.in1 (λe s'=>R (Ja e) s') s "object.__setattr__" "object" "__setattr__" (.ref x) [.str name tk,v] [] (λ_ s₁=>wpAny (model prog w) A.in1 (Builtin.«object.__setattr__» { pos:=[cI x,sq name tk,v] }) (λfin s'=>match fin with | BD f=>R (SR f) s' | Fin.again c'=>c'.quiet=c_/\codeAny (model prog w) A c' R s') (λe s'=>R (Ja e) s') s₁) h3 h4 sub h5 goal
theorem adQ{vs:Array f_}{sl:Array (Option f_)}{cd:ClassData}{Q:Unit->g_->Prop}(X:K.In s.heap)(hx:s.heap.get? x=a_ ⟨.ref C,b_,.fields vs,sl⟩)
  (hs:w_ K (.ref C) "__setattr__" = a_ (a_ (.builtin "object.__setattr__"))) (hc:W.clsIn K C=a_ cd) (ho:t8 cd.mro=c_) (hd:cd.hasDict=c_) (ha:w_ K (.ref C) name=a_ b_)
  (h:∀h',h'.get? x=a_ ⟨.ref C,a_ s.heap.objs.size,.fields vs,sl⟩->h'.Ns1 s.heap.objs.size (λy=>if y=name then a_ v else b_)->(∀b o,b≠x->s.heap.get? b=a_ o->h'.get? b=a_ o)->Q () { s with heap:=h',toks:=s.toks+2 }) :
  wpAny (model prog w) A (setAttr (.ref x) name v) Q E s:=by
 have J:D_ s.heap x ⟨.ref C,b_,.fields vs,sl⟩ C none:=⟨hx,rfl,rfl,nu⟩;have nx:x≠s.heap.objs.size:=eM (cx hx);refine W.set_plain X J hs (acN (s:={ s with toks:=s.toks+1 }) X J hc ho ha (aq (aV (aq (aq (QE hx (aq (W.Looks.here (s:={ s with toks:=s.toks+1 }) (W.looks_clsIn X hc) ?_))))))));rw[hd];refine aq (wpAny_alloc (aq ?_));have x1:(s.heap.push { cls:=.type "dict",data:=.dict #[] }).get? x=a_ ⟨.ref C,b_,.fields vs,sl⟩:=bo _ hx;refine wpAny_update x1 (aV (a:=a_ s.heap.objs.size) (aq (aV (aq ?_))));have d1:(s.heap.push { cls:=.type "dict",data:=.dict #[] }).get? s.heap.objs.size=a_ { cls:=.type "dict",data:=.dict #[] }:=gw _ rfl;generalize OY:(s.heap.push { cls:=.type "dict",data:=.dict #[] }).update x (λo=>{ cls:=o.cls,dict:=a_ s.heap.objs.size,data:=o.data,slots:=o.slots })=h1;have x2:h1.get? x=a_ ⟨.ref C,a_ s.heap.objs.size,.fields vs,sl⟩:=by rw[<-OY];exact A4 _ x1 rfl
 have d2:h1.get? s.heap.objs.size=a_ { cls:=.type "dict",data:=.dict #[] }:=by rw[<-OY,vk _ _ nx];exact d1
 have n2:h1.Ns1 s.heap.objs.size (λ_=>b_):=⟨_,_,_,d2,rfl,λe he=>absurd he (by simp),Ik,λ_=>rfl⟩;refine wpAny_nsSet1 (s:={ s with heap:=h1,toks:=s.toks+1 }) n2 λh' uY rE=>?_;have wi:PySem.Within (λ_:Str=>(b_:Option f_)) []:=λg hg=>absurd rfl hg;refine iY (uY.count (PySem.Within.cons name v wi)) λoD esD epD OS O8 Pd=>aq (wpAny_lookBehind OS (by rw[O8];exact pastItsLine_dict (c7 Pd (by show 1<=cq+1;decide))) (aV (h _ ((rE.2 _ nx).trans x2) uY λb o nb e=>?_)));have nd:b≠s.heap.objs.size:=eM (cx e);rw[rE.2 _ nd];show h1.get? b=a_ o;rw[<-OY,vk _ _ (dW nb)];exact bo _ e
theorem agm{vs:Array f_}{sl:Array (Option f_)}{mA:Str->Option f_}{expr:Bool}(X:K.In s.heap)(hx:s.heap.get? x=a_ ⟨.ref C,a_ dx,.fields vs,sl⟩)
  (hn:s.heap.Ns1 dx mA) (O2:w_ K (.ref C) (gc "__getattribute__")=a_ (a_ (.builtin jm))) (OZ:w_ K (.ref C) (gc "__getattr__")=a_ b_) (rJ:A_ K C (.type "BaseException")=a_ c_)
  (hh:F_ K C=c_) (ha:w_ K (.ref C) name=a_ b_) (hv:mA name=a_ v) (OL:W.handedIn v=c_) (h:Q v { s with toks:=s.toks+1 }) :
  wpAny (model prog w) A (getAttr (.ref x) name expr) Q E s:=by
 refine aw (Sj hn) λod ho1 hl=>?_;have J:D_ s.heap x ⟨.ref C,a_ dx,.fields vs,sl⟩ C (a_ od):=⟨hx,rfl,rfl,ho1⟩;have hf:=W.findObj_own hh ha rfl (show W.lookIn name od=a_ (a_ v) by rw[hl,hv]);unfold getAttr;refine aq (wpAny_mkText (UL (s:={ s with toks:=s.toks+1 }) X J O2 OZ rJ (UM (s:={ s with toks:=s.toks+1 }) (r:=.value v) X J hf (aV ⟨v,rfl,W.handed_on OL h⟩) (by intro z;cases z))))
end
def Fw(K:u_)(C:e_):Prop:=LX K C wy "ValueError.__new__" = c_
theorem Fw.at{K:u_}(x:Fw K C)(X:K.In h):∃oi,sX h C oi:=by
 unfold Fw LX at x
 split at x
 ·rename_i dd cd sl ho
  split at x
  ·rename_i C' bm k0 k1 k2 k3 n k5 hm hs
   simp only[jR,beq_iff_eq,aa3]at x;refine oA x λaa aH=>oA aa λaa ht=>oA aa λaa Cq=>oA aa λe1 e2=>?_;subst e1 e2;obtain⟨nm,bs,mro,ns,qn,hd,sn,sub,ab,col,del⟩:=cd;dsimp only at hm Cq aH;subst hm Cq
   have OO:sl=#[k0,k1,k2,k3,a_ (.builtin "ValueError.__new__"),k5]:=by
    obtain⟨l⟩:=sl;exact congrArg Ey hs
   subst OO;exact⟨_,⟨nm,qn,ns,bs,bm,hd,sn,sub,ab,col,dd,k0,k1,k2,k3,k5,_,X _ _ ho,.of_isNs (W.isNs_of_in X aH),rfl,W.tail_of_in X ht⟩⟩
  ·cases x
 ·cases x
section
variable{prog:l_}{w:k_}{A:h_}{E:f_->g_->Prop}{h:j_}{g:Array GenState}{d:Drawn}{t:Nat}{os:OsState}{C f:e_}
theorem adp{Q:Fin->g_->Prop}{oi:Option f_}(x:sX h C oi)(hz:us.length<=cq)
  (hl:∀h',(∀b o,h.get? b=a_ o->h'.get? b=a_ o)->s_ (model prog w) h' (D4 (.ref C) "__init__") (a_ (.ref f)))
  (hb:∀h' self,(∀b o,h.get? b=a_ o->h'.get? b=a_ o)->s_ (model prog w) h' (bindSpecial (.ref f) self) (.ref f,[self]))
  (hq:wpAny (model prog w) A (call (.ref f) (.ref (h.objs.size+1)::us)) (λv s'=>v=.none/\Q (.done (.ret (.ref (h.objs.size+1)))) s') E ⟨(h.push (Cg us)).push (newX C h.objs.size),g,d,t,os⟩) :
  wpAny (model prog w) A (Builtin.«type.__call__» ⟨.ref C::us,[]⟩) Q E ⟨h,g,d,t,os⟩:=by
 refine qC x λnm q N bs bm wH sn sub ab col aa=>DZ aa λdd k0 k1 k2 k3 k5 mN hC hN hi T=>?_;have Fv:=PySem.F.excBase_ValueError
 repeat (first | (with_reducible refine vq hC ?_) | (with_reducible refine wpAny_madeBy_exc hC ?_) | wp_step)
 refine aal (Ie _ Fv.quiet) (wpAny_check_new_subU Fv rfl T hC (codeAny_exc_new_subU Fv rfl Fv T hC ?_ hz));show wpAny _ _ _ _ _ _;have kk:∀b o,h.get? b=a_ o->((h.push { cls:=.type "tuple",data:=.seq us.toArray }).push { cls:=.ref C,data:=.fields #[.ref h.objs.size,.none,.none,.none,.bool d_,.none] }).get? b=a_ o:=λb o z=>bo _ (bo _ z);have c1:=kk _ _ hC;have ge:((h.push { cls:=.type "tuple",data:=.seq us.toArray }).push { cls:=.ref C,data:=.fields #[.ref h.objs.size,.none,.none,.none,.bool d_,.none] }).get? (h.objs.size+1)=a_ { cls:=.ref C,data:=.fields #[.ref h.objs.size,.none,.none,.none,.bool d_,.none] }:=by heap_get
 have cc:(cI C::bm).contains (.ref C)=true:=by simp
 unfold Bu
 repeat (first | (with_reducible refine vq ge ?_) | (with_reducible refine Qd c1 ?_;rw[cc]) | wp_step)
 show wpAny _ _ (D4 (.ref C) _) _ _ _;refine(hl _ kk).at (lE (aq ((hb _ _ kk).at (aq (gf hq (λv s' z=>?_) λ_ _ y=>y)))));obtain⟨e,z⟩:=z;subst e;exact aV (aV z)
theorem adq{oi:Option f_}(x:sX h C oi)(hz:us.length<=cq)
  (hl:∀h',(∀b o,h.get? b=a_ o->h'.get? b=a_ o)->s_ (model prog w) h' (D4 (.ref C) "__init__") (a_ (.ref f)))
  (hb:∀h' self,(∀b o,h.get? b=a_ o->h'.get? b=a_ o)->s_ (model prog w) h' (bindSpecial (.ref f) self) (.ref f,[self]))
  (hq:wpAny (model prog w) (A.under (Code.builtin "type.__call__" ⟨.ref C::us,[]⟩)) (call (.ref f) (.ref (h.objs.size+1)::us)) (λv s'=>v=.none/\Q (.ref (h.objs.size+1)) s') E ⟨(h.push (Cg us)).push (newX C h.objs.size),g,d,t,os⟩) :
  wpAny (model prog w) A (call (.ref C) us) Q E ⟨h,g,d,t,os⟩:=by
 refine qC (id x) λnm q N bs bm wH sn sub ab col aa=>jh aa λdd k0 k1 k2 k3 aa=>bX aa λk5 mN hC r=>?_;have f1:=tc_lookup;have f2:=tc_bind (.ref C);have hT:(⟨h,g,d,t,os⟩:g_).TypeIs (.ref C) "type":=⟨_,hC,rfl⟩;refine tW (codeAny_of_tree ?_);show wpAny _ _ (callAny (.ref C) _) _ _ _
 repeat (any_goals (first | assumption | (with_reducible refine vq hC ?_) | wp_step))
 exact⟨rfl,aau (Ie _ dk) entry_typeCall (aak hC (adp x hz hl hb hq))⟩
end
def qY(d:e_)(fs:List (Str×V)):HO:=.ext λh=>fs.length<=1000/\∃mA,h.Ns1 d mA/\(∀f,jn (fs.lookup f) (mA f))/\PySem.Within mA (fs.map (·.1))
theorem agF{P:l_}{w:k_}{fs:List (Str×V)}{mA:Str->Option f_}(l:fs.length<=1000)(n:h.Ns1 d mA)(r:∀f,jn (fs.lookup f) (mA f))(wi:PySem.Within mA (fs.map (·.1))):fo P w H h d (qY d fs):=by
 exact dj ⟨l,mA,n,r,wi⟩ (pQ n λo _ _ e _=>⟨o,e⟩) λh1 h2 ⟨l,m,n,r⟩ k=>⟨l,m,pQ n λo es ep e c=>⟨o,es,ep,(k _ e),c⟩,r⟩
def oS(ea:e_)(c:f_)(dd:Option e_)(vs:Array f_):HO:=.ext λh=>∃o,h.get? ea=a_ o/\o.cls=c/\o.dict=dd/\o.data=.fields vs
theorem VP{P:l_}{w:k_}{dd:Option e_}{vs:Array f_}{sl:Array (Option f_)}(e:h.get? ea=a_ ⟨c,dd,.fields vs,sl⟩):fo P w H h ea (oS ea c dd vs):=
 ⟨⟨_,e,rfl,rfl,rfl⟩,⟨_,e⟩,λ_ _ ⟨o,e,r⟩ k=>⟨o,k o e,r⟩⟩
def del(H:Hp)(a:e_):Hp:=λb=>if b=a then b_ else H b
theorem ae6:del H a a=none:=by unfold del;rw[if_pos rfl]
theorem xV(h:b≠a):del H a b=H b:=by unfold del;rw[if_neg h]
theorem ae5{o:HO}(h:del H a b=a_ o):b≠a/\H b=a_ o:=by
 unfold del at h
 split at h
 ·cases h
 ·rename_i n;exact⟨n,h⟩
theorem Er(h:H b=b_):del H a b=none:=by
 unfold del
 split
 ·rfl
 ·exact h
theorem Inv.del{X:Cx}{φ:j_->Prop}(I:Inv X p_ σ H s)(e:H a=a_ (.ext φ)):Inv X p_ σ (del H a) s:=by
 refine⟨I.ok,I.os,I.bare,⟨I.base.keep,I.base.slot,λb o q n hx=>Er (I.base.free b o q n hx),I.base.there,λb xs q=>?_,λb o u q=>?_,λb ps q=>?_⟩,I.loc,I.cell,Er I.free,λx c q=>Er (I.jF x c q),λp hp=>?_,λb u q=>?_,I.len⟩
 ·have z:=I.base.pX b xs q;rw[xV (gj z e (by intro y;cases y))];exact z
 ·have z:=I.base.oO b o u q;rw[xV (gj z e (by intro y;cases y))];exact z
 ·exact oE (I.base.oJ b ps q) λm z=>⟨m,by rw[xV (gj z e (by intro y;cases y))];exact z⟩
 ·exact cH (I.pin p hp) λz1 z2 z3=>dj z1 (Er z2) z3
 ·refine oA (ae5 q) λnb q=>(I.aH b u q).pY (λ_ _ _ z=>z) (λc z=>?_) λc xs z=>?_
  ·rw[xV (gj z e (by intro y;cases y))];exact z
  ·rw[xV (gj z e (by intro y;cases y))];exact z
structure XF(K:u_)(C:e_):Prop where
 sa:w_ K (.ref C) "__setattr__" = a_ (a_ (.builtin "object.__setattr__"))
 cd:∃cd,W.clsIn K C=a_ cd/\t8 cd.mro=c_/\cd.hasDict=c_
 ga:w_ K (.ref C) (gc "__getattribute__")=a_ (a_ (.builtin jm))
 gt:w_ K (.ref C) (gc "__getattr__")=a_ b_
 be:A_ K C (.type "BaseException")=a_ c_
theorem XF.hd{K:u_}(x:XF K C):F_ K C=true:=by
 refine aR x.cd λcd h1 _ h2=>?_;unfold F_;rw[h1];exact h2
section
variable{X:Cx}{p_:List (e_×Obj)}{σ:St}{H:Hp}{s:g_}{a C d:e_}{fs:List (Str×V)}{f:Str}{v:V}{A:h_}{E:f_->g_->Prop}
theorem VQ{P:l_}{w:k_}{dd:Option e_}{vs:Array f_}(ok:eW P w H h)(e:H a=a_ (oS a c dd vs)):∃sl,h.get? a=a_ ⟨c,dd,.fields vs,sl⟩:=by
 refine oA (ok a _ e) λaa _=>dY aa λo q hc hd hv=>?_;obtain⟨c',d',dt,sl⟩:=o;dsimp only at hc hd hv;subst hc hd hv;exact⟨sl,q⟩
theorem VR{P:l_}{w:k_}{dd:Option e_}(ok:eW P w H h)(e:H a=a_ (rj a c dd)):∃vs sl,h.get? a=a_ ⟨c,dd,.fields vs,sl⟩:=by
 refine oA (ok a _ e) λaa _=>jD aa λo vs q hc hd hv=>?_;obtain⟨c',d',dt,sl⟩:=o;dsimp only at hc hd hv;subst hc hd hv;exact lR vs sl q
theorem Va{P:l_}{w:k_}(ok:eW P w H h)(e:H d=a_ (qY d fs)):fs.length<=1000/\∃mA,h.Ns1 d mA/\(∀f,jn (fs.lookup f) (mA f))/\PySem.Within mA (fs.map (·.1)):=(ok d _ e).1
theorem agl{b:Bool}(I:Inv X p_ σ H s)(e:H a=a_ (rj a (.ref C) (a_ d)))(ed:H d=a_ (qY d fs))(c:XF X.K C)(n:bu X.K C f)(l:fs.lookup f=a_ v)
  (h:∀u s',Inv X p_ σ H s'->RelV v u->Q u s'):wpAny (model X.prog X.w) A (getAttr (.ref a) f b) Q E s:=by
 refine As (VR I.aH e) λvs sl hx=>oA (Va I.aH ed) λ_ aa=>aR aa λmA hn r _=>?_;obtain⟨u,hu,ru⟩:=jn.some_of (v:=v) (o:=mA f) (by rw[<-l];exact r f);exact agm I.dm hx hn c.ga c.gt c.be c.hd n hu (Sr ru) (h u _ (I.tok _) ru)
theorem adP{Q:Unit->g_->Prop}(I:Inv X p_ σ H s){vs:Array f_}(e:H a=a_ (oS a (.ref C) b_ vs))(c:XF X.K C)(n:bu X.K C f)(ry:RelV y u)
  (h:∀d s',H d=b_->Inv X p_ σ (upd (upd H a (oS a (.ref C) (a_ d) vs)) d (qY d [(f,y)])) s'->Q () s'):wpAny (model X.prog X.w) A (setAttr (.ref a) f u) Q E s:=by
 refine oE (VQ I.aH e) λsl hx=>aR c.cd λcd h1 h2 h3=>adQ I.dm hx c.sa h1 h2 h3 n λh' x' n' k=>h s.heap.objs.size _ (I.aH.fresh (aI _)) ?_
 have I1:Inv X p_ σ (upd H a (oS a (.ref C) (a_ s.heap.objs.size) vs)) { s with heap:=h',toks:=s.toks+2 }:=
  I.write (x:=a) (e:=a) (by rw[e];exact nu) (.inl rfl) (λb q hb z=>k b q hb z) ⟨_,x'⟩ (VP x')
 have hn:upd H a (oS a (.ref C) (a_ s.heap.objs.size) vs) s.heap.objs.size=none:=by
  rw[ao (vx (cx hx))];exact I.aH.fresh (aI _)
 have fp:=I.iz (aI _) hn;refine I1.adopt hn I.sz fp.2.1 fp.2.2.2.2.1 fp.2.2.2.2.2 (agF (by show 1<=1000;decide) n' (λg=>?_) λg hg=>?_)
 ·show jn (([(f,y)]:List (Str×V)).lookup g) (if g=f then a_ u else b_)
  by_cases q:g=f
  ·rw[if_pos q,q,yW];exact ry
  ·rw[if_neg q,lY,beq_eq_false_iff_ne.mpr q];exact nu
 ·by_cases q:g=f
  ·rw[q];exact f7.mpr rfl
  ·exact absurd (if_neg q) hg
end
def V7(K:u_)(ta:TE)(f:Str):TE:=λσ H Q=>ta σ H λx H1=>∃a C d fs v,x=.ref a/\H1 a=a_ (rj a (.ref C) (a_ d))/\H1 d=a_ (qY d fs)/\XF K C/\bu K C f/\fs.lookup f=a_ v/\Q v H1
def agZ(K:u_)(ta tv:TE)(f:Str):TS:=λD σ H=>tv σ H λy H1=>ta σ H1 λx H2=>∃a C vs,x=.ref a/\H2 a=a_ (oS a (.ref C) b_ vs)/\XF K C/\bu K C f/\
 ∀d,H2 d=b_->D.nx σ (upd (upd H2 a (oS a (.ref C) (a_ d) vs)) d (qY d [(f,y)]))
section
variable{X:Cx}{o e value:Expr}{f:Str}{pos pos':Pos}{ta tv:TE}
theorem afL(ha:PE X e ta)(hb:xD e f X.env (eval e X.env)=eval e X.env):PE X (.Attribute e f pos) (V7 X.K ta f):=by
 intro p_ s σ H Q I h;refine U3 hb (aU (ha p_ s σ H _ I h) λu s1 zq=>dv zq λx H1 I1 rx zq=>jh zq λa C d fs v zq=>qM zq λex ea ed c n zq=>oA zq λl q=>?_);subst ex;obtain rfl:u=cI a:=rx;exact agl I1 ea ed c n l λu s2 I2 ru=>(dw v H1 I2 ru q)
theorem ad5(ha:PE X o ta)(hv:PE X value tv)(hs:By value (a_ (.Attribute o f pos')) pos.line X.env=pure d_):PS X (.Assign [.Attribute o f pos'] value pos) (agZ X.K ta tv f):=by
 intro p_ s σ H D I h;refine aab (NZ (hv p_ s σ H _ I h) λu s1 y H1 I1 ry q=>aU (ha p_ s1 σ H1 _ I1 q) λov s2 zq=>?_) hs;refine dv zq λx H2 I2 rx zq=>Nl zq λa C vs zq=>xX zq λex ea c n q2=>?_;subst ex;obtain rfl:ov=cI a:=rx;exact adP I2 ea c n ry λd s3 hd I3=>(fq σ _ I3 (q2 d hd))
end
structure N9(K:u_)(C f:e_):Prop where
 exc:Fw K C
 init:w_ K (.ref C) "__init__" = a_ (a_ (.ref f))
 fn:PySem.W.isFn K (.ref f)=c_
 kp:x_ K (.ref C)=c_
abbrev LS(t:e_):Array Value:=#[.ref t,.none,.none,.none,.bool d_,.none]
def afk(C:e_)(sp:Sp)(W:WX)(t:TA):TS:=λ_ σ H=>t σ H λvs H1=>vs.length<=cq/\∀ea ta,H1 ea=b_->sp (.ref ea::vs) (upd H1 ea (oS ea (.ref C) b_ (LS ta)))
 (λr H2=>r=.aG/\∃dd,H2 ea=a_ (oS ea (.ref C) dd (LS ta))/\W σ (.ref C) dd (del H2 ea)) (λ_ _ _=>False)
section
variable{X:Cx}{W:WX}{k:Nat}{C f:e_}{fd:jz}{ps:List Str}{sp:Sp}{x:Str}{np ie pos:Pos}{e:Expr}{es:List Expr}{t:TA}{P:l_}{w:k_}
theorem acI(hc:X.calm=c_)(hL:wd X W)(xc:N9 X.K C f)(F:ay P w X.K X.mg X.base aB k f fd ps sp)(hr:eV (k+1) X.A)(hb:Binds X.K fd ps [])(hg:Gl X x)(hm:X.mg x=a_ (.ref C))(ha:PA X (e::es) t)
  (hP:X.prog=P:=by rfl) (hw:X.w=w:=by rfl) (jQ:(x == ("__debug__" : Str))=false:=by decide)
  (he:cJ (e::es) X.env=(d_,eval e X.env)::cJ es X.env:=by rfl) (ff:(backTo ie (cJ es X.env)).any (·.1)=false:=by rfl) :
  PS X (.Raise (a_ (.Call (.Name x np) (e::es) [] ie)) b_ pos) (afk C sp W t):=by
 subst hP hw;intro p_ s σ H D I h;rw[arm_exec_Raise];refine aq (zf (Rn (C:=C) (I.ok.hd hc) (aq (gf ?_ (λv s3 z=>aq (zf (aV z))) λ_ _ y=>y))));refine xw (ua I hg hm ?_ jQ);refine G_ (h₀:=X.base) I.ok.mod.qf xc.kp (Aq (ha ie p_ s σ H _ I h) λus s1 vs H1 I1 r zq=>oA zq λhz q=>⟨I1.dm,?_⟩) he ff;refine oE (xc.exc.at I1.dm) λoi xa=>?_;obtain⟨h1,g1,d1,t1,YU⟩:=s1;have qf:∀h':j_,(∀b o,h1.get? b=a_ o->h'.get? b=a_ o)->X.K.In h':=λh' k a o z=>k a o (I1.dm a o z);refine adq (f:=f) xa (by rw[zc,<-r.length];exact hz) (λh' k=>PySem.W.looks_findIn (qf h' k) xc.init) (λh' self k=>PySem.W.bind_fn (qf h' k) self (beq_iff_eq.mp xc.fn)) ?_;rw[zc];have fr:H1 (h1.objs.size+1)=none:=I1.aH.fresh (jv _);have q1:=q (h1.objs.size+1) h1.objs.size fr;have ge:((h1.push (Cg us)).push (newX C h1.objs.size)).get? (h1.objs.size+1)=a_ (newX C h1.objs.size):=by heap_get
 have I2:Inv X p_ σ (upd H1 (h1.objs.size+1) (oS (h1.objs.size+1) (.ref C) b_ (LS h1.objs.size))) ⟨(h1.push (Cg us)).push (newX C h1.objs.size),g1,d1,t1,YU⟩:=
  I1.laid (t':=t1) (h':=(h1.push (Cg us)).push (newX C h1.objs.size)) (λb o z=>bo _ (bo _ z)) (jv _) (VP ge)
 have r2:Vals (V.ref (h1.objs.size+1)::vs) (cI (h1.objs.size+1)::us):=.cons rfl r
 have hl:(cI (h1.objs.size+1)::us++[]).length=ps.length:=by
  have e:=r2.length;rw[F.len _ _ _ _ q1]at e;rw[il];exact e.symm
 have xn:=hb _ (cI (h1.objs.size+1)::us) I2.dm hl;rw[il]at xn;refine tW (zo (F.run _ X.stack _ _ ⟨cI (h1.objs.size+1)::us,[]⟩ (cI (h1.objs.size+1)::us) _ _ _ (hr.make C us []) (I2.FU.make C us []) xn r2 q1) λr s' pf=>?_);cases r with
 | error e=>exact(show False from pf).elim
 | ok fl=>
  cases fl with
  | next=>exact iF pf
  | brk=>exact iF pf
  | cont=>exact iF pf
  | ret u=>
   refine jD (I2.after pf) λv H' I3 rv ev aa=>aw aa λdd e3 q3=>?_;subst ev;refine oE (VQ I3.aH e3) λsl hx=>oE (xc.exc.at I3.dm) λoi' xa'=>⟨rv,⟨_,_,_,_,⟨_,rfl,xa',hx,rfl,rfl,rfl,rfl,hL _ _ _ _ _ _ _ (tb:=b_) ⟨I3.del e3,⟨⟨_,_,_,hx,rfl,rfl,rfl,rfl,rfl,λ_=>rfl⟩,λT z=>by cases z⟩,I1.iz (jv _) ae6,λT z=>by cases z⟩ q3⟩⟩⟩
end
end L2
namespace L2
open PySem.W L3
theorem abp{K:Frag}{od:Option Obj}(hc:(clsIn K C).isSome=c_)(ha:findIn K (.ref C) name=a_ (a_ a))(hn:specialIn K a (gc "__get__")=a_ (a_ g))(ht:takesIn K a=a_ c_) :
  findObj K C od name=a_ (.bind g a):=by
 refine oE (PX.mp hc) λcd gv=>?_;unfold findObj;rw[gv,ha];simp only[Io];rw[hn];simp only[Io];rw[ht];simp only[Io]
structure GG(K:Frag)(D:e_):Prop where
 ga:findIn K (.ref D) (gc "__getattribute__")=a_ (a_ (.builtin jm))
 gn:findIn K (.ref D) (gc "__getattr__")=a_ b_
 be:mroIn K D (.type "BaseException")=a_ c_
 hd:hasDictIn K D=c_
 cl:findIn K (.ref D) (gc "__class__")=a_ (a_ (.builtin "object.__class__"))
 gt:specialIn K (.builtin "object.__class__") (gc "__get__")=a_ (a_ (.builtin "getset_descriptor.__get__"))
 tk:takesIn K (.builtin "object.__class__")=a_ c_
 mr:mroIn K D (.type "object")=a_ c_
theorem ack{w:k_}{K:Frag}{od:Option Obj}{Q:Option f_->g_->Prop}(c:GG K D)(X:K.In s.heap)(I:InstAt s.heap x ox D od)
  (h:Q (a_ (.ref D)) { s with toks:=s.toks+1 }):wpAny (model prog w) A (getAttr? (.ref x) (gc "__class__")) Q E s:=by
 have hf:=abp (od:=od) (by obtain⟨cd,hc,_⟩:=any_some c.hd;rw[hc];rfl) c.cl c.gt c.tk;unfold getAttr? getAttrBy?;refine aq (wpAny_mkText (aq (Bh (UL (s:={ s with toks:=s.toks+1 }) (fill:=d_) (expr:=d_) X I c.ga c.gn c.be (UM (s:={ s with toks:=s.toks+1 }) X I hf ?_ (by intro z;cases z))))));show wpAny (model prog w) A.in1 (PV (.builtin "getset_descriptor.__get__") (.builtin "object.__class__") (.ref x) (.ref D)) _ _ _;unfold PV;exact aq (lE (tW (class_get (s:={ s with toks:=s.toks+1 }) X I c.mr (aV (au _ rfl (handed_on rfl (aV h)))))))
theorem aeD{K:Frag}{od:Option Obj}(c:GG K D):KitX K (.ref x) (.ref D) (λh=>InstAt h x ox D od):=
 {ty:=λ_ _ _ I=>InstAt.type I
  it:=λM h X _=>by
   refine aw (any_some c.hd) λcd hc _=>?_;unfold clsIn at hc
   split at hc
   ·rename_i oc dd cd' sl ho
    intro A' Q' E' s' k q;exact aq (QE (k D _ (X D _ ho)) (aV q))
   ·cases hc
  ne:=λh tp dd ar n sl X jL=>by
   refine aw (any_some c.hd) λcd hc _=>?_;unfold clsIn at hc
   split at hc
   ·rename_i oc dd' cd' CI ho
    rw[Bool.eq_false_iff];intro q;have e:=cI.inj (beq_iff_eq.mp q);subst e;rw[X _ _ ho]at jL;cases jL
   ·cases hc
  ca:=λX I q=>ack c X I q }
def Wg(K:Frag):List V->Hp->VK->Prop:=λxs H Q=>∃ea D dd cl cv b,xs=[.ref ea,cl]/\H ea=a_ (rj ea (.ref D) dd)/\(∀d,dd=a_ d->∃fs,H d=a_ (qY d fs))/\GG K D/\Nx cl=a_ cv/\kitOne K (.ref D) cv=a_ b/\Q (.bl b) H
theorem adD{X:Cx}:lK X (.builtin "isinstance") (Wg X.K):=by
 intro p_ s σ H xs us Q I r h;refine qD h λea D dd cl cv b e he hd c aa=>cH aa λhc hk q=>?_;subst e;cases r with
 | cons r1 r2=>
  cases r2 with
  | cons r2 r3=>
   cases r3;cases TQ hc r2;cases r1;refine As (VR I.aH he) λvs sl hx=>?_
   have J:∃od,InstAt s.heap ea ⟨.ref D,dd,.fields vs,sl⟩ D od:=by
    cases dd with
    | none=>exact⟨b_,hx,rfl,rfl,nu⟩
    | some d=>
     exact oE (hd d rfl) λfs hd=>oA (Va I.aH hd) λ_ aa=>aw aa λmA aa _=>pQ aa λo es ep eo _=>⟨a_ o,⟨hx,rfl,rfl,eo⟩⟩
   exact oE J λod J=>kia_one (aeD c) I.dm J hk (λz=>nomatch z) λtk=>(dw (.bl b) H (I.tok tk) rfl q)
theorem LR{X:Cx}(K:Frag)(h:X.K=K:=by rfl):lK X (.builtin "isinstance") (Wg K):=by subst h;exact adD
end L2
namespace L2
open PySem.W
section
variable{X:Cx}
end
end L2
namespace L2
theorem BV{J:It}{n:Nat}{g:TG}{tb:TS}{D:Ends}{σ:St}{H:Hp}(Pv:Nat->St->Hp->Prop)(h0:Pv 0 σ H)(AU:∀i σ H,i<n->Pv i σ H->J.go i H)(dh:∀σ H,Pv n σ H->J.stop n H)
  (hs:∀i σ H,i<n->Pv i σ H->∀x H',J.wI i H x H'->g x σ H' λσ2 H2=>tb { D with nx:=Pv (i+1),ct:=Pv (i+1),bk:=D.nx } σ2 H2) (hd:∀σ H,Pv n σ H->D.nx σ H) :
  ∃W:Nat->Nat->St->Hp->Prop,(∃m,W 0 m σ H)/\∀i m σ H,W i m σ H->
   (J.stop i H/\D.nx σ H)\/(J.go i H/\∃N:St->Hp->Prop,(∀σ' H',N σ' H'->∃m',m'<m/\W (i+1) m' σ' H')/\∀x H',J.wI i H x H'->g x σ H' λσ2 H2=>tb { D with nx:=N,ct:=N,bk:=D.nx } σ2 H2):=by
 refine⟨λi m σ H=>m=n-i/\i<=n/\Pv i σ H,⟨n,by simp,bg _,h0⟩,?_⟩;intro i m σ H ag;refine cH ag λaa hi p=>?_;clear ag;subst aa
 by_cases dJ:i<n
 ·exact .inr ⟨AU i σ H dJ p,⟨Pv (i+1),λσ' H' p'=>⟨n-(i+1),om,rfl,dJ,p'⟩,hs i σ H dJ p⟩⟩
 ·have e:i=n:=li;subst e;exact .inl ⟨dh σ H p,hd σ H p⟩
end L2
namespace TL
open PySem.SeqAt L2 L3
structure VX(K:u_)(c cE:e_):Prop where
 xc:XC K c
 self:y_ K (.ref c) (.ref c)=a_ c_
 base:y_ K (.ref c) (.type "BaseException")=a_ c_
 te:v_ K (.ref c) (.ref cE)=a_ c_
 ve:v_ K (.ref c) (.type "ValueError")=a_ c_
end TL
namespace L2
section
variable{X:Cx}
end
section
variable{κ:Type}[DecidableEq κ]
def jl(aL:List (κ×V))(k:κ):Option V:=(aL.find? λkv=>decide (kv.1=k)).map (·.2)
def putK(aL:List (κ×V))(k:κ)(v:V):List (κ×V):=
 if (aL.any λkv=>decide (kv.1=k))=c_ then aL.map (λkv=>if kv.1=k then (kv.1,v) else kv) else aL++[(k,v)]
theorem sr{p:κ×V}{r:List (κ×V)}{k:κ}(e:p.1=k):jl (p::r) k=a_ p.2:=by simp[jl,List.find?_cons,e]
theorem su{p:κ×V}{r:List (κ×V)}{k:κ}(e:¬p.1=k):jl (p::r) k=jl r k:=by simp[jl,List.find?_cons,e]
theorem Eh(k:κ):∀aL:List (κ×V),(aL.any λkv=>decide (kv.1=k))=(jl aL k).isSome
 | []=>rfl
 | p::r=>by
  rw[xE]
  by_cases e:p.1=k
  ·simp only[sr e,decide_eq_true e,Bool.true_or,Option.isSome_some]
  ·rw[su e,decide_eq_false e,Bool.false_or];exact Eh k r
theorem SV(k j:κ)(y:V):∀aL:List (κ×V),jl (aL.map λkv=>if kv.1=k then (kv.1,y) else kv) j=(jl aL j).map λx=>if j=k then y else x
 | []=>rfl
 | p::r=>by
  have ih:=SV k j y r;rw[fh]
  by_cases h:p.1=k
  ·rw[if_pos h]
   by_cases e:p.1=j
   ·rw[sr (p:=(p.1,y)) e,sr e,DK,if_pos (e.symm.trans h)]
   ·rw[su (p:=(p.1,y)) e,su e,ih]
  ·rw[if_neg h]
   by_cases e:p.1=j
   ·rw[sr (p:=p) e,sr e,DK,if_neg λz=>h (e.trans z)]
   ·rw[su (p:=p) e,su e,ih]
theorem RO(k j:κ)(y:V):∀aL:List (κ×V),jl aL k=b_->jl (aL++[(k,y)]) j=if j=k then a_ y else jl aL j
 | [],_=>by
  by_cases e:k=j
  ·rw[if_pos e.symm];exact sr (p:=(k,y)) e
  ·rw[if_neg λz=>e z.symm];exact su (p:=(k,y)) e
 | p::r,hn=>by
  rw[Qv];have hk:¬p.1=k:=λz=>by rw[sr z]at hn;cases hn
  rw[su hk]at hn;have ih:=RO k j y r hn
  by_cases e:p.1=j
  ·rw[sr e,sr e,if_neg λz=>hk (e.trans z)]
  ·rw[su e,su e,ih]
theorem adM(aL:List (κ×V))(k j:κ)(y:V):jl (putK aL k y) j=if j=k then a_ y else jl aL j:=by
 unfold putK
 by_cases a:(aL.any λkv=>decide (kv.1=k))=c_
 ·rw[if_pos a,SV];rw[Eh]at a
  by_cases e:j=k
  ·obtain⟨x,hx⟩:=PX.mp a;rw[if_pos e,e,hx,DK,if_pos rfl]
  ·rw[if_neg e];cases jl aL j with
   | none=>rfl
   | some x=>rw[DK,if_neg e]
 ·rw[if_neg a];refine RO k j y aL ?_;rw[Eh]at a;cases q:jl aL k with
  | none=>rfl
  | some x=>rw[q]at a;exact(a rfl).elim
theorem Q8(aL:List (κ×V))(k:κ)(v:V):(putK aL k v).length<=aL.length+1:=by
 unfold putK
 split
 ·rw[aP];omega
 ·rw[cj,iT,List.length_nil];omega
theorem jn.adg{o:Option V}{u:Option f_}(r:jn o u):o.isSome=u.isSome:=by
 cases o with
 | none=>cases u with
  | none=>rfl
  | some _=>exact(show False from r).elim
 | some _=>cases u with
  | none=>exact(show False from r).elim
  | some _=>rfl
theorem jn.getD{o:Option V}{u:Option f_}(r:jn o u)(rd:RelV d d'):RelV (o.getD d) (u.getD d'):=by
 cases o with
 | none=>cases u with
  | none=>exact rd
  | some _=>exact(show False from r).elim
 | some _=>cases u with
  | none=>exact(show False from r).elim
  | some _=>exact r
end
theorem aja{P:l_}{w:k_}{k:Key}(r:RelV (kV k) u):(t9 P w).is k u=true:=by
 cases k with
 | some i=>obtain⟨t,e⟩:=(show ∃t,u=ip i t from r);subst e;exact abL P w i t
 | none=>cases (show u=iE from r);rfl
theorem Sn{P:l_}{w:k_}:∀{ks:List Key} {us:List f_},Vals (ks.map kV) us->ItemsAre (t9 P w) ks us
 | [],_,r=>by rw[IY]at r;cases r;exact .nil
 | k::ks,_,r=>by
  rw[fh]at r;cases r with
  | cons h t=>exact .cons (aja h) (Sn t)
abbrev KT(H:Hp):List (List Key×V)->List (List Key×e_×f_)->Prop:=Paired λp q=>p.1=q.1/\H q.2.1=a_ (.tup (p.1.map kV))/\RelV p.2 q.2.2
theorem KT.val{aL:List (List Key×V)}{xs:List (List Key×e_×f_)}(r:KT H aL xs)(k:List Key):jn (jl aL k) ((atKey xs k).map (·.2)):=by
 induction r with
 | nil=>exact nu
 | @cons p q ps qs h t ih=>
  obtain⟨h1,_,h2⟩:=h
  by_cases e:p.1=k
  ·have e':q.1=k:=h1.symm.trans e;have b:atKey (q::qs) k=a_ q.2:=by simp[atKey,List.find?_cons,e']
   rw[sr e,b];exact h2
  ·have e':¬q.1=k:=λz=>e (h1.trans z);have b:atKey (q::qs) k=atKey qs k:=by simp[atKey,List.find?_cons,e']
   rw[su e,b];exact ih
theorem KT.akK{aL:List (List Key×V)}{xs:List (List Key×e_×f_)}(r:KT H aL xs)(k:List Key)(ry:RelV y u) :
  KT H (aL.map λkv=>if kv.1=k then (kv.1,y) else kv) (xs.map (putAt k u)):=by
 induction r with
 | nil=>exact .nil
 | @cons p q ps qs h t ih=>
  rw[fh,fh];refine .cons ?_ ih;obtain⟨h1,h2,h3⟩:=h;unfold putAt
  by_cases e:p.1=k
  ·rw[if_pos e,if_pos (h1.symm.trans e)];exact⟨h1,h2,ry⟩
  ·rw[if_neg e,if_neg λz=>e (h1.trans z)];exact⟨h1,h2,h3⟩
theorem KT.put{aL:List (List Key×V)}{xs:List (List Key×e_×f_)}(r:KT H aL xs)(k:List Key)(hb:H b=a_ (.tup (k.map kV)))(ry:RelV y u) :
  KT H (putK aL k y) (storedH xs k b u):=by
 have e:(aL.any λkv=>decide (kv.1=k))=(atKey xs k).isSome:=by
  rw[Eh,(r.val k).adg,Option.isSome_map]
 unfold putK storedH;rw[e]
 by_cases q:(atKey xs k).isSome=c_
 ·rw[if_pos q,if_pos q];exact r.akK k ry
 ·rw[if_neg q,if_neg q];exact Paired.snoc r ⟨rfl,hb,ry⟩
theorem KT.keeps{aL:List (List Key×V)}{xs:List (List Key×e_×f_)}(r:KT H aL xs)(ht:∀b ys,H b=a_ (.tup ys)->H' b=a_ (.tup ys)):KT H' aL xs:=
 Paired.cZ r λ_ _ z=>⟨z.1,ht _ _ z.2.1,z.2.2⟩
section
variable{P:l_}{w:k_}{H:Hp}{h:j_}{a:e_}
theorem LM{ks:List Key}(ok:eW P w H h)(e:H a=a_ (.tup (ks.map kV))):(Ee (t9 P w)).is h ks a:=by
 obtain⟨_,ar,r,o,h1,h2,n,h3⟩:=(show fo P w H h a (.tup (ks.map kV)) from ok a _ e);exact⟨o,ar.toArray,n,h1,h2,h3,by simpa using Sn r⟩
theorem ME{aL:List (List Key×V)}(ok:eW P w H h)(e:H a=a_ (.dT aL)):aL.length<=cq/\(a == Bt)=d_/\
  ∃xs,KT H aL xs/\h.DictOfH (Ee (t9 P w)) a xs:=by
 obtain⟨z,y,xs,r,o,es,ep,h1,h2,h3,h4,h5⟩:=(show fo P w H h a (.dT aL) from ok a _ e);refine⟨z,y,xs,r,o,es,ep,h1,h2,h3,h4,λx hx=>?_,h5⟩
 have all:∀{l:List (List Key×V)} {m:List (List Key×e_×f_)},KT H l m->∀x∈m,(Ee (t9 P w)).is h x.1 x.2.1:=by
  intro l m q
  induction q with
  | nil=>intro x hx;exact nomatch hx
  | @cons p q ps qs hq t ih=>
   intro x hx;rcases bw.mp hx with e | hx
   ·subst e;exact LM ok (by rw[<-hq.1];exact hq.2.1)
   ·exact ih x hx
 exact all r x hx
end
def Co(H:Hp)(a:e_)(y:V)(r:Option V):Prop:=∃aL k b,H a=a_ (.dT aL)/\y=.ref b/\H b=a_ (.tup (k.map kV))/\r=jl aL k
def Xo(H:Hp)(a:e_)(y v:V)(H':Hp):Prop:=∃aL k b,H a=a_ (.dT aL)/\y=.ref b/\H b=a_ (.tup (k.map kV))/\aL.length<cq/\H'=upd H a (.dT (putK aL k v))
theorem Co.t{aL:List (List Key×V)}{k:List Key}(e:H a=a_ (.dT aL))(eb:H b=a_ (.tup (k.map kV))):Co H a (.ref b) (jl aL k):=⟨aL,k,b,e,rfl,eb,rfl⟩
section
variable{X:Cx}{p_:List (e_×Obj)}{σ:St}{H:Hp}{s:g_}{a:e_}{y v:V}{u r:f_}{o:Option V}{A:h_}{E:f_->g_->Prop}
theorem Inv.big(I:Inv X p_ σ H s):Bt<s.heap.objs.size:=by
 have h:eY<s.heap.objs.size:=(I.mod.glob.keeps I.bk).lt;exact DV qc h
theorem agx{t':Nat}{ob:HO}(I:Inv X p_ σ H s)(mu:Cy (H a))(hs:tU a s.heap h')(he:∃q,h'.get? a=a_ q)(new:fo X.prog X.w (upd H a ob) h' a ob) :
  Inv X p_ σ (upd H a ob) { s with heap:=h',toks:=t' }:=
 I.write (x:=a) (e:=a) mu (.inl rfl) (λb q hb z=>(hs.2 b hb).trans z) he new
theorem adz{Q:Unit->g_->Prop}(hu:A.units+1<cLine)(I:Inv X p_ σ H s)(g:Xo H a y v H')(ry:RelV y u)(rv:RelV v r)(h:∀s',Inv X p_ σ H' s'->Q () s') :
  wpAny (model X.prog X.w) A (setItem (.ref a) u r) Q E s:=by
 obtain⟨aL,k,b,e,ey,eb,l,eH⟩:=g;subst ey eH;cases (show u=cI b from ry);obtain⟨z,hd,xs,rel,dd⟩:=ME I.aH e;have hz:xs.length<=cq:=by rw[<-r_ rel];exact z
 have hl:(putK aL k v).length<=cq:=by have:=Q8 aL k v;omega
 refine wpAny_setItem_heap (hsz:=hz) (tupleKind_room_in1 hu) (LM I.aH eb) dd λh' dd' hs=>h _ ?_;obtain⟨q,es,ep,hq,h2,h3,h4,_,h5⟩:=dd';refine agx I (by rw[e];exact nu) hs ⟨q,hq⟩ ⟨hl,hd,_,(rel.put k eb rv).keeps λc ys ec=>?_,q,es,ep,hq,h2,h3,h4,h5⟩;rw[ao (gj ec e (λz=>nomatch z))];exact ec
end
section
variable{X:Cx}{p_:List (e_×Obj)}{σ:St}{H:Hp}{s:g_}{a:e_}{aL:List (Key×V)}{k:Key}{u:f_}{A:h_}{E:f_->g_->Prop}
end
def aiN(td ty tv:TE):TS:=λD σ H=>tv σ H λv H1=>td σ H1 λx H2=>ty σ H2 λy H3=>∃a H4,x=.ref a/\Xo H3 a y v H4/\D.nx σ H4
section
variable{X:Cx}{o i e value:Expr}{pos pos' Cp:Pos}{td ty tv:TE}
theorem afJ(hu:X.A.units+1<cLine)(ho:PE X o td)(hi:PE X i ty)(hv:PE X value tv)(hs:By value (a_ (.Subscript o i pos')) pos.line X.env=pure d_) :
  PS X (.Assign [.Subscript o i pos'] value pos) (aiN td ty tv):=by
 intro p_ s σ H D I h;refine wpAny_Assign_Subscript (aU (hv p_ s σ H _ I h) λr s1 ⟨v,H1,I1,rv,q1⟩=>aU (ho p_ s1 σ H1 _ I1 q1) λu s2 ⟨x,H2,I2,rx,q2⟩=>aU (hi p_ s2 σ H2 _ I2 q2) λiv s3 ⟨y,H3,I3,ry,a,H4,ex,g,q3⟩=>?_) hs;subst ex;obtain rfl:u=cI a:=rx;exact adz hu I3 g ry rv λs4 I4=>⟨σ,H4,I4,q3⟩
end
theorem ae2{P:l_}{w:k_}(h:j_)(hb:Bt<h.objs.size):fo P w H (h.push { cls:=.type "dict",data:=.dict #[] }) h.objs.size (.dT []):=
 ⟨bg _,beq_eq_false_iff_ne.mpr (dW (eM hb)),[],.nil,_,#[],0,gw _ rfl,⟨rfl,rfl,rfl⟩,rfl,rfl,QG⟩
def agM:TE:=λ_ H Q=>∀p,H p=b_->Q (.ref p) (upd H p (.dT []))
section
variable{X:Cx}{pos:Pos}
theorem ad8:PE X (.Dict [] [] pos) agM:=λp_ s σ H Q I h=>
 wpAny_Dict_empty ⟨.ref s.heap.objs.size,_,I.laid (a:=s.heap.objs.size) (o:=.dT []) (t':=s.toks) (λ_ _ q=>bo _ q) (aI _) (ae2 s.heap I.big),rfl,h _ (I.aH.fresh (aI _))⟩
end
structure M1(X:Cx)(o:Expr)(m:Str)(apos:Pos)(e:Expr)(ie:Pos):Prop where
 base:xD o m X.env (eval o X.env)=eval o X.env
 m5:((backTo ie (cJ [e] X.env)).all (λx=>!x.1)&&(BC ie (Bo [] X.env)).all (λx=>x.1.isSome)
  && decide (([e]:List Expr).length+([]:List Keyword).length+(if ([]:List Keyword).isEmpty then 0 else 1)<30))=c_
 line:(apos.endLine == ie.line)=c_
 trees:backTo ie (cJ [e] X.env)=[(d_,eval e X.env)]
def Yt(H:Hp)(a:e_):Prop:=∃aL,H a=a_ (.dT aL)
theorem ahD{X:Cx}(I:Inv X p_ σ H s)(d:Yt H a) :
  s.TypeIs (.ref a) "dict"/\(∀b,cI a=.ref b->∃ob,s.heap.get? b=a_ ob/\ob.dict=b_)/\(a == Bt)=false:=by
 obtain⟨aL,e⟩:=d;obtain⟨_,hd,xs,_,dd⟩:=ME I.aH e;refine⟨dd.typeIs,λb q=>?_,hd⟩;cases q;obtain⟨ob,_,_,h1,h2,_⟩:=dd;exact⟨ob,h1,h2.2.1⟩
 
section
variable{X:Cx}{p_:List (e_×Obj)}{σ:St}{H:Hp}{s:g_}{a:e_}{y d:V}{u r:f_}{o:Option V}{A:h_}{E:f_->g_->Prop}
theorem ahZ(hu:A.units+1<cLine)(I:Inv X p_ σ H s)(g:Co H a y o)(ry:RelV y u)(h:∀w' s',Inv X p_ σ H s'->RelV (o.getD .aG) w'->Q w' s') :
  wpAny (model X.prog X.w) A (call (.builtin "dict.get") [.ref a,u]) Q E s:=by
 obtain⟨aL,k,b,e,ey,eb,l⟩:=g;subst ey;cases (show u=cI b from ry);obtain⟨z,hd,xs,rel,dd⟩:=ME I.aH e;refine call_meetsIn PySem.F.slot_dict_get dd.typeIs PySem.F.entry_dict_get (PySem.F.args_dict_get_2 _ _) (meetsH_dict_get (Ee (t9 X.prog X.w)) a b hd) ⟨tupleKind_room_in1 hu,k,xs,LM I.aH eb,dd,h _ _ (I.tok _) ?_⟩;rw[l];exact(rel.val k).getD rfl
end
def agN(td ty:TE):TE:=λσ H Q=>td σ H λx H1=>∃a,x=.ref a/\Yt H1 a/\ty σ H1 λy H2=>∃o,Co H2 a y o/\Q (o.getD .aG) H2
section
variable{X:Cx}{o e f:Expr}{apos ie:Pos}{td ty tx:TE}
theorem ad9(hu:X.A.units+1<cLine)(ho:PE X o td)(he:PE X e ty)(m:M1 X o "get" apos e ie):PE X (.Call (.Attribute o "get" apos) [e] [] ie) (agN td ty):=by
 intro p_ s σ H Q I h;refine wpAny_Call_method m.base m.m5 m.line PySem.F.plainAttrs_dict PySem.F.slot_dict_get PySem.F.type_dict_get (aU (ho p_ s σ H _ I h) λu s1 ⟨x,H1,I1,rx,a,ex,d,q1⟩=>?_);subst ex;obtain rfl:u=cI a:=rx;obtain⟨t1,t2,_⟩:=ahD I1 d;refine⟨t1,t2,?_⟩;rw[m.trees];refine P8 rfl (aaI (aaT (aU (he p_ s1 σ H1 _ I1 q1) λiv s2 ⟨y,H2,I2,ry,ov,g,q2⟩=>aa2 ?_)));exact ahZ hu I2 g ry λw' s3 I3 uQ=>⟨_,H2,I3,uQ,q2⟩
end
section
variable{X:Cx}{p_:List (e_×Obj)}{σ:St}{H:Hp}{s:g_}{a:e_}{aL:List (Key×V)}{A:h_}{E:f_->g_->Prop}
end
section
variable{X:Cx}{p_:List (e_×Obj)}{σ:St}{H:Hp}{s:g_}{a:e_}{y:V}{u:f_}{A:h_}{E:f_->g_->Prop}
end
end L2
namespace L2
open PySem.SeqAt
section
variable{X:Cx}
def Wf(K:u_):List V->Hp->VK->Prop:=λxs H Q=>∃(p:e_) (ns:List Int),xs=[.ref p]/\av K H p (ns.map V.int)/\∀n,Q (.int n) H
theorem adB(hc:X.calm=c_):lK X (.builtin "sum") (Wf X.K):=by
 intro p_ s σ H xs us Q I r h;refine dv h λp ns e hq q=>?_;subst e;refine aw (vals1 r) λu aa rx=>?_;subst aa;cases rx;refine aR (I.list hq) λar rv pl hz=>?_;obtain⟨xs,hx⟩:=(intsAre_of rv).allInts.items;have hl:=pl.isList;rw[hx]at hl;exact sum_intListG (show X.A.handled=b_ from I.ok.hd hc) hl λh' tk t' k=>⟨.int _,H,I.kept k,⟨t',rfl⟩,q _⟩
def ag4:V->List V->Hp->VK->Prop:=λx vs H Q=>∃(l:e_) (ns:List Int) (k:Int),x=.ref l/\vs=[.int k]/\H l=a_ (.lst (ns.map V.int))/\k∈ns/\Q (.int (ns.idxOf k:Nat)) H
theorem aeu:Cz X "list.index" ag4:=by
 intro p_ s σ H x vs v us Q I rx rv h;obtain⟨l,ns,k,rfl,rfl,hH,hk,q⟩:=h;cases rx;obtain⟨u,rfl,⟨t,rfl⟩⟩:=rv.one;obtain⟨z,ar,n,r,hl,e⟩:=I.qW hH;have hi:=intsAre_of r;have hj:=aat.mpr hk;have hlen:=hi.length;have hz:=gG;rw[aP]at z;refine zy F.slot_list_index ⟨_,e,rfl⟩ F.entry_list_index (F.args_list_index_2 _ _) (SeqAt.list_indexAt l ar.toArray n _ _ (.int k t) (isInt k) (ns.idxOf k) (by rw[dH];omega) om ?_ λm hm dJ=>?_) ⟨e,λy hy=>MeetsSeq.EqGives.at (eq_isInt k t hi y (by simpa using hy)) _ _,⟨.int _,H,I.tok _,⟨_,rfl⟩,q⟩⟩
 ·rw[aaG,isInt_at k hi _ om hj,List.getElem_idxOf hj];exact beq_self_eq_true k
 ·rw[aaG,isInt_at k hi m (by simpa using hm) om];exact ne_of_lt_idxOf dJ om
end
end L2
namespace TL
open PySem.SeqAt L2 L3 L4
variable{P:l_}{w:k_}{K:u_}{mg:Str->Option f_}{base:j_}
def tv(t:Tl):List V:=.str t.1::t.2.map λ(n:Nat)=>V.int (n:Int)
def vW(H:Hp)(v:V)(t:Tl):Prop:=∃a,v=.ref a/\H a=a_ (.tup (tv t))
def IsPart(H:Hp)(v:V)(p:Pt):Prop:=∃a vs,v=.ref a/\H a=a_ (.tup vs)/\Paired (vW H) vs p
def vX(H:Hp)(v:V)(ps:List Pt):Prop:=∃a vs,v=.ref a/\H a=a_ (.tup vs)/\Paired (IsPart H) vs ps
theorem vW.keep{t:Tl}(k:∀b xs,H b=a_ (.tup xs)->H' b=a_ (.tup xs))(h:vW H v t):vW H' v t:=by
 exact aw h λa e h=>au a e (k _ _ h)
theorem IsPart.keep(k:∀b xs,H b=a_ (.tup xs)->H' b=a_ (.tup xs))(h:IsPart H v p):IsPart H' v p:=by
 exact dv h λa vs e h r=>dw a vs e (k _ _ h) (Paired.cZ r λ_ _ q=>q.keep k)
theorem vX.keep(k:∀b xs,H b=a_ (.tup xs)->H' b=a_ (.tup xs))(h:vX H v p):vX H' v p:=by
 exact dv h λa vs e h r=>dw a vs e (k _ _ h) (Paired.cZ r λ_ _ q=>q.keep k)
def Nb(b:Bool):Sp:=λvs H Q _=>∃a,vs=[.ref a]/\Q (.bl b) H
theorem afy:bp zLd zLd (aW EX):=bJ
theorem ab1:bp zLd zLd (aW D9):=bJ
theorem abI:bp zLd zLd (aW D3):=bJ
theorem BB(F:aY K "empties" "Step.empties" EX f fd):ay P w K mg base aB 1 f fd zLd (Nb d_):=by
 refine F.ok afy λaM A _ s H vs Q E hr h=>?_
 ·refine aw h λa aa k=>?_;clear h;subst aa;exact sU (aF (bj sE)) k
theorem abJ(F:aY K "empties" "Swap.empties" D9 f fd):ay P w K mg base aB 1 f fd zLd (Nb c_):=by
 refine F.ok ab1 λaM A _ s H vs Q E hr h=>?_
 ·refine aw h λa aa k=>?_;clear h;subst aa;exact sU (aF (bj sE)) k
theorem abC(F:aY K "empties" "Clear.empties" D3 f fd):ay P w K mg base aB 1 f fd zLd (Nb c_):=by
 refine F.ok abI λaM A _ s H vs Q E hr h=>?_
 ·refine aw h λa aa k=>?_;clear h;subst aa;exact sU (aF (bj sE)) k
structure C6(K:u_)(c:e_)(t:a9)(NW NX NV M0 MY MZ:Bool):Prop where
 cl:w_ K (.ref c) "__class__" = a_ (a_ (.builtin "object.__class__"))
 mr:A_ K c (.type "object")=a_ c_
 akS:v_ K (.ref c) (.ref t.mQ)=a_ NW
 akT:v_ K (.ref c) (.ref t.mU)=a_ NX
 akR:v_ K (.ref c) (.ref t.kM)=a_ NV
 aiV:v_ K (.ref c) (.ref t.lJ)=a_ M0
 aiU:v_ K (.ref c) (.ref t.lH)=a_ MY
 Wi:v_ K (.ref c) (.ref t.kh)=a_ MZ
structure oX where
 (Aw WD WE:e_)
 (Nr LU LV:jz)
structure yf(K:u_)(mg:Str->Option f_)(t:a9)(u:oX):Prop where
 st:ui K mg t
 Cf:aY K "empties" "Step.empties" EX u.Aw u.Nr
 yq:Binds K u.Nr zLd []
 ahI:aY K "empties" "Swap.empties" D9 u.WD u.LU
 MK:Binds K u.LU zLd []
 ahM:aY K "empties" "Clear.empties" D3 u.WE u.LV
 MM:Binds K u.LV zLd []
 gt:W.specialIn K (.builtin "object.__class__") "__get__" = a_ (a_ (.builtin "getset_descriptor.__get__"))
 tk:W.takesIn K (.builtin "object.__class__")=a_ c_
 ajl:Meth K t.mQ "empties" u.Aw
 ajm:Meth K t.mU "empties" u.Aw
 ajk:Meth K t.kM "empties" u.Aw
 ahW:Meth K t.lJ "empties" u.Aw
 ahU:Meth K t.lH "empties" u.WD
 agv:Meth K t.ug "empties" u.WE
 ahV:Meth K t.kh "empties" u.Aw
 Nn:C6 K t.mQ t c_ d_ d_ d_ d_ d_
 Np:C6 K t.mU t d_ c_ d_ d_ d_ d_
 Nm:C6 K t.kM t d_ d_ c_ d_ d_ d_
 Mw:C6 K t.lJ t d_ d_ d_ c_ d_ d_
 Mt:C6 K t.lH t d_ d_ d_ d_ c_ d_
 LN:C6 K t.ug t d_ d_ d_ d_ d_ d_
 Mu:C6 K t.kh t d_ d_ d_ d_ d_ c_
def sJ(t:a9)(H:Hp)(v:V)(s:Tl):Prop:=∃z a dx,v=.ref z/\H z=a_ (.ins (eA t s.1) dx (gJ (.ref a) s.1 (s.2.map λ(n:Nat)=>V.int (n:Int))))
theorem sJ.keep{t:a9}(k:∀b C dx fs,H b=a_ (.ins C dx fs)->v=.ref b->H' b=a_ (.ins C dx fs))(h:sJ t H v s):sJ t H' v s:=by
 exact pQ h λz a dx e1 h=>⟨z,a,dx,e1,(k _ _ _ _ h e1)⟩
theorem BI(m:Str)(h:∀f∈(["number","reg","parts","other","name","place"]:List Str),m≠f)(v:V)(x:Str)(ps:List V):(gJ v x ps).lookup m=none:=by
 have h1:=h "number" (by simp);have h2:=h "reg" (by simp);have h3:=h "parts" (by simp);have h4:=h "other" (by simp);have h5:=h "name" (by simp);have h6:=h "place" (by simp);unfold gJ
 repeat (first | (split;(simp only[gd,if_neg h1,if_neg h2,if_neg h3,if_neg h4,if_neg h5,if_neg h6];rfl)) | (simp only[gd,if_neg h1,if_neg h2,if_neg h3,if_neg h4,if_neg h5,if_neg h6];rfl))
def sF(s:Tl):Bool:=decide (s.1 = "swap")||decide (s.1 = "clear")
theorem KW(t:a9):eA t "put" = t.mQ:=by kernel_rfl
theorem aeF(ns:List Nat):sF ("put",ns)=false:=by show (decide (("put" : Str) = "swap")||decide (("put" : Str) = "clear"))=_;decide +kernel
theorem KY(t:a9):eA t "add" = t.mU:=by kernel_rfl
theorem aeG(ns:List Nat):sF ("add",ns)=false:=by show (decide (("add" : Str) = "swap")||decide (("add" : Str) = "clear"))=_;decide +kernel
theorem KU(t:a9):eA t "set" = t.kM:=by kernel_rfl
theorem aeE(ns:List Nat):sF ("set",ns)=false:=by show (decide (("set" : Str) = "swap")||decide (("set" : Str) = "clear"))=_;decide +kernel
theorem Ke(t:a9):eA t "look" = t.lJ:=by kernel_rfl
theorem adb(ns:List Nat):sF ("look",ns)=false:=by show (decide (("look" : Str) = "swap")||decide (("look" : Str) = "clear"))=_;decide +kernel
theorem Kc(t:a9):eA t "swap" = t.lH:=by kernel_rfl
theorem ac'(ns:List Nat):sF ("swap",ns)=true:=by show (decide (("swap" : Str) = "swap")||decide (("swap" : Str) = "clear"))=_;decide +kernel
theorem SJ(t:a9):eA t "clear" = t.ug:=by kernel_rfl
theorem acm(ns:List Nat):sF ("clear",ns)=true:=by show (decide (("clear" : Str) = "swap")||decide (("clear" : Str) = "clear"))=_;decide +kernel
theorem Kd(t:a9):eA t "skip" = t.kh:=by kernel_rfl
theorem ada(ns:List Nat):sF ("skip",ns)=false:=by show (decide (("skip" : Str) = "swap")||decide (("skip" : Str) = "clear"))=_;decide +kernel
theorem ahT{t:a9}(T:yf K mg t u){sz:Nat}(g:fU sz s)(hz:H z=a_ (.ins (eA t s.1) dx (gJ (.ref a) s.1 (s.2.map λ(n:Nat)=>V.int (n:Int))))) :
  ∃C f fd pn sp,H z=a_ (.ins C dx (gJ (.ref a) s.1 (s.2.map λ(n:Nat)=>V.int (n:Int))))/\eX K C/\Meth K C "empties" f/\ay P w K mg base aB 1 f fd pn sp/\Binds K fd pn []/\∀(Q:VK) (E:XK),Q (.bl (sF s)) H->sp [.ref z] H Q E:=by
 cases g with
 | put r m h1 h2=>
  rw[aeF];have hz:H z=a_ (.ins (eA t "put") dx _):=hz;rw[KW]at hz;exact⟨_,_,_,_,_,hz,T.st.x6,T.ajl,(BB T.Cf),T.yq,(λQ E q=>⟨z,rfl,q⟩)⟩
 | add r m h1 h2=>
  rw[aeG];have hz:H z=a_ (.ins (eA t "add") dx _):=hz;rw[KY]at hz;exact⟨_,_,_,_,_,hz,T.st.v8,T.ajm,(BB T.Cf),T.yq,(λQ E q=>⟨z,rfl,q⟩)⟩
 | set r m h1 h2=>
  rw[aeE];have hz:H z=a_ (.ins (eA t "set") dx _):=hz;rw[KU]at hz;exact⟨_,_,_,_,_,hz,T.st.uq,T.ajk,(BB T.Cf),T.yq,(λQ E q=>⟨z,rfl,q⟩)⟩
 | look r m h1 h2=>
  rw[adb];have hz:H z=a_ (.ins (eA t "look") dx _):=hz;rw[Ke]at hz;exact⟨_,_,_,_,_,hz,T.st.uf,T.ahW,(BB T.Cf),T.yq,(λQ E q=>⟨z,rfl,q⟩)⟩
 | swap r m h1 h2=>
  rw[ac'];have hz:H z=a_ (.ins (eA t "swap") dx _):=hz;rw[Kc]at hz;exact⟨_,_,_,_,_,hz,T.st.sC,T.ahU,(abJ T.ahI),T.MK,(λQ E q=>⟨z,rfl,q⟩)⟩
 | clear=>
  rw[acm];have hz:H z=a_ (.ins (eA t "clear") dx _):=hz;rw[SJ]at hz;exact⟨_,_,_,_,_,hz,T.st.BJ,T.agv,(abC T.ahM),T.MM,(λQ E q=>⟨z,rfl,q⟩)⟩
 | skip r m h1 h2 h3=>
  rw[ada];have hz:H z=a_ (.ins (eA t "skip") dx _):=hz;rw[Kd]at hz;exact⟨_,_,_,_,_,hz,T.st.vV,T.ahV,(BB T.Cf),T.yq,(λQ E q=>⟨z,rfl,q⟩)⟩
theorem LO{t:a9}(T:yf K mg t u){sz:Nat}(g:fU sz s)(hz:H z=a_ (.ins (eA t s.1) dx (gJ (.ref a) s.1 (s.2.map λ(n:Nat)=>V.int (n:Int))))) :
  ∃C:e_,iL K H (.ref z) (.ref C)/\C6 K C t (decide (s.1 = "put")) (decide (s.1 = "add")) (decide (s.1 = "set")) (decide (s.1 = "look")) (decide (s.1 = "swap")) (decide (s.1 = "skip")):=by
 cases g with
 | put r m h1 h2=>
  have hz:H z=a_ (.ins (eA t "put") dx _):=hz;rw[KW]at hz;exact au _ (iL.ins hz T.st.x6 T.Nn.cl T.gt T.tk T.Nn.mr) T.Nn
 | add r m h1 h2=>
  have hz:H z=a_ (.ins (eA t "add") dx _):=hz;rw[KY]at hz;exact au _ (iL.ins hz T.st.v8 T.Np.cl T.gt T.tk T.Np.mr) T.Np
 | set r m h1 h2=>
  have hz:H z=a_ (.ins (eA t "set") dx _):=hz;rw[KU]at hz;exact au _ (iL.ins hz T.st.uq T.Nm.cl T.gt T.tk T.Nm.mr) T.Nm
 | look r m h1 h2=>
  have hz:H z=a_ (.ins (eA t "look") dx _):=hz;rw[Ke]at hz;exact au _ (iL.ins hz T.st.uf T.Mw.cl T.gt T.tk T.Mw.mr) T.Mw
 | swap r m h1 h2=>
  have hz:H z=a_ (.ins (eA t "swap") dx _):=hz;rw[Kc]at hz;exact au _ (iL.ins hz T.st.sC T.Mt.cl T.gt T.tk T.Mt.mr) T.Mt
 | clear=>
  have hz:H z=a_ (.ins (eA t "clear") dx _):=hz;rw[SJ]at hz;exact au _ (iL.ins hz T.st.BJ T.LN.cl T.gt T.tk T.LN.mr) T.LN
 | skip r m h1 h2 h3=>
  have hz:H z=a_ (.ins (eA t "skip") dx _):=hz;rw[Kd]at hz;exact au _ (iL.ins hz T.st.vV T.Mu.cl T.gt T.tk T.Mu.mr) T.Mu
structure Act where
 (k:Str) (c n:Nat) (got gave seen:Option Int)
def oV:Option Int->V
 | none=>.aG
 | some i=>.int i
def FY(a:Act):List V:=[.str a.k,.int (a.c:Nat),.int (a.n:Nat),oV a.got,oV a.gave,oV a.seen]
def kl(H:Hp)(v:V)(a:Act):Prop:=∃p,v=.ref p/\H p=a_ (.tup (FY a))
structure Ck where
 (pl ct:Nat) (rg:List Int) (tn:Int) (es:List Ent)
structure Mc where
 (kd:Str) (ps:List Pt) (ck:List Ck) (bd:List Int) (ac:List Act) (ov:List (List Int))
structure MA where
 (lt:e_) (ts:List (e_×e_×List e_)) (pg st pl ct rg:e_) (rs:List e_) (ce ac cm:e_) (cs:List e_)
def VH:List Str:=["at_end","may_do","carries","moves","do","do_step","do_set","do_look","do_swap","carry","come","on_board","settle","ended","where","steps_done","registers","waiting","board","deeds","deeds_done","deed_at","over","twin"]
structure wz(fs:List (Str×V))(A:MA)(S:Mc):Prop where
 iw:fs.lookup ("trays" : Str)=a_ (.ref A.lt)
 program:fs.lookup ("program" : Str)=a_ (.ref A.pg)
 kind:fs.lookup ("kind" : Str)=a_ (.str S.kd)
 steps:fs.lookup ("steps" : Str)=a_ (.ref A.st)
 places:fs.lookup ("places" : Str)=a_ (.ref A.pl)
 counts:fs.lookup ("counts" : Str)=a_ (.ref A.ct)
 fX:fs.lookup ("regs" : Str)=a_ (.ref A.rg)
 cells:fs.lookup ("cells" : Str)=a_ (.ref A.ce)
 i8:fs.lookup ("acts" : Str)=a_ (.ref A.ac)
 mw:fs.lookup ("comers" : Str)=a_ (.ref A.cm)
 ms:∀m∈VH,fs.lookup m=b_
 m5:fs.length<=20
abbrev Yl(CT:e_)(kd:Str)(H:Hp)(x:e_×e_×List e_)(k:Ck):Prop:=dP H x.1 CT kd k.tn k.es x.2.1 x.2.2
def zU(t:a9)(H:Hp)(v:V)(p:Pt):Prop:=∃b us,v=.ref b/\H b=a_ (.tup us)/\Paired (sJ t H) us p
structure bb(t:a9)(C CT:e_)(H:Hp)(m:e_)(A:MA)(S:Mc):Prop where
 obj:∃dx fs,H m=a_ (.ins C dx fs)/\wz fs A S
 lt:H A.lt=a_ (.lst (A.ts.map λx=>V.ref x.1))
 ts:Paired (Yl CT S.kd H) A.ts S.ck
 pg:vX H (.ref A.pg) S.ps
 st:∃vs,H A.st=a_ (.tup vs)/\Paired (zU t H) vs S.ps
 pl:H A.pl=a_ (.lst (S.ck.map λk=>V.int (k.pl:Nat)))
 ct:H A.ct=a_ (.lst (S.ck.map λk=>V.int (k.ct:Nat)))
 rg:H A.rg=a_ (.lst (A.rs.map V.ref))
 rs:Paired (λa (k:Ck)=>H a=a_ (.lst (k.rg.map V.int))) A.rs S.ck
 ce:H A.ce=a_ (.lst (S.bd.map V.int))
 ac:∃vs,H A.ac=a_ (.lst vs)/\Paired (kl H) vs S.ac
 cm:H A.cm=a_ (.lst (A.cs.map V.ref))
 cs:Paired (λa (o:List Int)=>H a=a_ (.lst (o.map V.int))) A.cs S.ov
structure km(lab:e_->Nat)(m:e_)(A:MA):Prop where
 m:lab m=2
 lt:lab A.lt=4
 pl:lab A.pl=6
 ct:lab A.ct=8
 rg:lab A.rg=10
 ce:lab A.ce=12
 ac:lab A.ac=14
 cm:lab A.cm=16
 rs:∀i a,A.rs[i]?=a_ a->lab a=24+6*i
 cs:∀i a,A.cs[i]?=a_ a->lab a=26+6*i
 ts:∀i x,A.ts[i]?=a_ x->∀b∈x.1::x.2.1::x.2.2,lab b=28+6*i
inductive c9 (m:e_) (A:MA):e_->Prop
 | m:c9 m A m
 | lt:c9 m A A.lt
 | pl:c9 m A A.pl
 | ct:c9 m A A.ct
 | rg:c9 m A A.rg
 | ce:c9 m A A.ce
 | ac:c9 m A A.ac
 | cm:c9 m A A.cm
 | rs {a:e_}:a∈A.rs->c9 m A a
 | cs {a:e_}:a∈A.cs->c9 m A a
 | ts {x:e_×e_×List e_} {b:e_}:x∈A.ts->b∈x.1::x.2.1::x.2.2->c9 m A b
structure aZ(F:e_->Prop)(H H':Hp):Prop where
 k:∀b o,¬F b->(∀ps,o≠.fu ps)->H b=a_ o->H' b=a_ o
 t:∀b,H' b=b_->H b=b_
theorem aZ.of{F:e_->Prop}(s:ak H H'):aZ F H H':=⟨λb o _ _ e=>s b o e,λb h=>s.free h⟩
theorem aZ.refl{F:e_->Prop}(H:Hp):aZ F H H:=⟨λ_ _ _ _ e=>e,λ_ h=>h⟩
theorem aZ.trans{F:e_->Prop}(a:aZ F H H1)(b:aZ F H1 H2):aZ F H H2:=⟨λc o h1 h2 e=>b.k c o h1 h2 (a.k c o h1 h2 e),λc h=>a.t c (b.t c h)⟩
theorem aZ.mono{F G:e_->Prop}(a:aZ F H H')(h:∀b,F b->G b):aZ G H H':=⟨λc o h1 h2 e=>a.k c o (λz=>h1 (h c z)) h2 e,a.t⟩
theorem aZ.N2{G:e_->Prop}(a:gQ F H H')(h:∀b∈F,G b):aZ G H H':=⟨λc o h1 h2 e=>a.k c o (λz=>h1 (h c z)) h2 e,a.t⟩
theorem aZ.upd{F:e_->Prop}{o:HO}(h:F x):aZ F H (upd H x o):=⟨λb q n _ e=>by rw[ao λz=>n (by rw[z];exact h)];exact e,λb e=>by
 by_cases z:b=x
 ·rw[z,ax]at e;cases e
 ·rwa[ao z]at e⟩
theorem gQ.ofA{tn:Int}(k:Fy (a::q::qr) H H')(T:dP H' a C kd tn es q qr):gQ (a::q::qr) H H':=
 ⟨λc o h1 _ e=>k c o h1 e,λc h=>by
  by_cases z:c∈a::q::qr
  ·refine oE (T.there c z) λo e=>?_;rw[e]at h;cases h
  ·cases e:H c with
   | none=>rfl
   | some o=>rw[k c o z e]at h;cases h⟩
def uI:e_->Prop:=λ_=>False
theorem iD{α β:Type}{F:α->β->Prop}{G:α->β->Prop}:∀{l:List α} {r:List β},Paired F l r->(∀(i:Nat) a b,l[i]?=a_ a->r[i]?=a_ b->F a b->G a b)->Paired G l r
 | _,_,.nil,_=>.nil
 | _,_,.cons h t,k=>.cons (k 0 _ _ rfl rfl h) (iD t λi a b e1 e2 q=>k (i+1) a b (by simpa using e1) (by simpa using e2) q)
theorem zU.keep{t:a9}(kt:∀b xs,H b=a_ (.tup xs)->H' b=a_ (.tup xs))(ki:∀b C dx fs,H b=a_ (.ins C dx fs)->(∃x ps v,C=eA t x/\fs=gJ v x ps)->H' b=a_ (.ins C dx fs))(h:zU t H v p):zU t H' v p:=by
 exact dv h λb us e h1 h2=>dw b us e (kt _ _ h1) (Paired.cZ h2 λv s q=>pQ q λz a dx e1 q=>⟨z,a,dx,e1,(ki _ _ _ _ q (lR _ _ (au _ rfl rfl)))⟩)
theorem kl.keep(k:∀b xs,H b=a_ (.tup xs)->H' b=a_ (.tup xs))(h:kl H v a):kl H' v a:=by
 exact aw h λp e h=>au p e (k _ _ h)
theorem vy{α β:Type}{F:α->β->Prop}:∀{l:List α} {r:List β} {i:Nat} {y:β},Paired F l r->r[i]?=a_ y->∃x,l[i]?=a_ x/\F x y
 | _,_,_,_,.nil,e=>by simp at e
 | _,_,0,_,.cons h _,e=>by simp at e;subst e;exact⟨_,rfl,h⟩
 | _,_,i+1,x,.cons _ t,e=>by
  exact aw (vy (i:=i) t (by simpa using e)) λy h1 h2=>au y (by simpa using h1) h2
theorem vz{α β:Type}{F:α->β->Prop}{l':List α}{r':List β}(h':Paired F l' r'):∀{l:List α} {r:List β},Paired F l r->Paired F (l++l') (r++r')
 | _,_,.nil=>h'
 | _,_,.cons g t=>.cons g (vz h' t)
theorem sf{α β:Type}{F:α->β->Prop}:∀{l:List α} {m:List β} {b:α},Paired F l m->b∈l->∃y,y∈m/\F b y
 | _,_,_,.nil,h=>by simp at h
 | _,_,_,.cons h t,e=>by
  rcases bw.mp e with z | z
  ·subst z;exact⟨_,by simp,h⟩
  ·exact aw (sf t z) λy hy q=>au y (eE _ hy) q
theorem bb.keep{t:a9}(M:bb t C CT H m A S)(k:∀b,c9 m A b->∀o,H b=a_ o->H' b=a_ o)(kt:∀b xs,H b=a_ (.tup xs)->H' b=a_ (.tup xs))(ki:∀b C dx fs,H b=a_ (.ins C dx fs)->H' b=a_ (.ins C dx fs)):bb t C CT H' m A S:=by
 obtain⟨⟨dx,fs,h1,h2⟩,lt,ts,pg,⟨vs,s1,s2⟩,pl,ct,rg,rs,ce,⟨us,a1,a2⟩,cm,cs⟩:=M;exact⟨⟨dx,fs,k _ .m _ h1,h2⟩,k _ .lt _ lt,iD ts λi x c hx _ q=>q.keep (λb hb o e=>k b (.ts (b9 hx) hb) o e) kt,pg.keep kt,⟨vs,kt _ _ s1,Paired.cZ s2 λ_ _ q=>q.keep kt λb C dx fs e _=>ki b C dx fs e⟩,k _ .pl _ pl,k _ .ct _ ct,k _ .rg _ rg,iD rs λi x c hx _ q=>k x (.rs (b9 hx)) _ q,k _ .ce _ ce,⟨us,k _ .ac _ a1,Paired.cZ a2 λ_ _ q=>q.keep kt⟩,k _ .cm _ cm,iD cs λi x c hx _ q=>k x (.cs (b9 hx)) _ q⟩
theorem bb.Ms{t:a9}{F:e_->Prop}(M:bb t C CT H m A S)(k:aZ F H H')(hF:∀b,F b->¬c9 m A b/\∀o,H b=a_ o->∃xs,o=.lst xs):bb t C CT H' m A S:=by
 have nt:∀b o,c9 m A b->H b=a_ o->∀ps,o≠.fu ps:=by
  intro b o hb e ps z;subst z;cases hb with
  | m=>obtain⟨dx,fs,h,_⟩:=M.obj;rw[h]at e;cases e
  | lt=>rw[M.lt]at e;cases e
  | pl=>rw[M.pl]at e;cases e
  | ct=>rw[M.ct]at e;cases e
  | rg=>rw[M.rg]at e;cases e
  | ce=>rw[M.ce]at e;cases e
  | ac=>obtain⟨vs,h,_⟩:=M.ac;rw[h]at e;cases e
  | cm=>rw[M.cm]at e;cases e
  | rs h=>
   refine aw (sf M.rs h) λc _ q=>?_;rw[q]at e;cases e
  | cs h=>
   refine aw (sf M.cs h) λc _ q=>?_;rw[q]at e;cases e
  | ts h h2=>
   refine aw (sf M.ts h) λc _ q=>?_;rcases q.kinds _ h2 _ e with ⟨_,_,_,z⟩ | ⟨_,z⟩ <;> cases z
 refine M.keep (λb hb o e=>k.k b o (λz=>(hF b z).1 hb) (nt b o hb e) e) (λb xs e=>k.k b _ (λz=>?_) (λps z=>by cases z) e) λb C dx fs e=>k.k b _ (λz=>?_) (λps z=>by cases z) e
 ·refine oE ((hF b z).2 _ e) λys q=>?_;cases q
 ·refine oE ((hF b z).2 _ e) λys q=>?_;cases q
theorem bb.same{t:a9}(M:bb t C CT H m A S)(s:ak H H'):bb t C CT H' m A S:=M.keep (λb _ o e=>s b o e) (λb xs e=>s b _ e) λb C dx fs e=>s b _ e
theorem bb.uk{t:a9}(M:bb t C CT H m A S)(k:aZ uI H H'):bb t C CT H' m A S:=M.Ms k λb z=>z.elim
structure gm(K:u_)(C:e_):Prop where
 cl:eX K C
 iw:bu K C "trays"
 program:bu K C "program"
 kind:bu K C "kind"
 steps:bu K C "steps"
 places:bu K C "places"
 counts:bu K C "counts"
 fX:bu K C "regs"
 cells:bu K C "cells"
 i8:bu K C "acts"
 mw:bu K C "comers"
theorem jE{α:Type}{f:α->V}{r:List α}{c:Nat}{k:α}(h:r[c]?=a_ k):iB (r.map f) (c:Int)=a_ (f k):=cR (by rw[dq,h];rfl)
theorem Bq{l:List (e_×e_×List e_)}{c:Nat}{x:e_×e_×List e_}(h:l[c]?=a_ x):iB (l.map λx=>V.ref x.1) (c:Int)=a_ (.ref x.1):=jE (f:=λx:e_×e_×List e_=>V.ref x.1) h
structure i0(S:Mc):Prop where
 good:Ac S.ps
 len:S.ck.length=S.ps.length
 bd:S.bd.length=12
 ov:S.ov.length=12
 rg:∀k∈S.ck,k.rg.length=4
 pl:∀(c:Nat) k p,S.ck[c]?=a_ k->S.ps[c]?=a_ p->k.pl<=p.length
 ac:S.ac.length<=15000
 es:∀k∈S.ck,k.es.length<=S.ac.length
section
variable{t:a9}{C CT:e_}{H:Hp}{m:e_}{A:MA}{S:Mc}
theorem bb.we(M:bb t C CT H m A S){c:Nat}(h:S.ck[c]?=a_ k):∃x,A.ts[c]?=a_ x/\Yl CT S.kd H x k:=vy M.ts h
theorem bb.fX(M:bb t C CT H m A S){c:Nat}(h:S.ck[c]?=a_ k):∃a,A.rs[c]?=a_ a/\H a=a_ (.lst (k.rg.map V.int)):=vy (F:=λa (k:Ck)=>H a=a_ (.lst (k.rg.map V.int))) M.rs h
theorem bb.over(M:bb t C CT H m A S){n:Nat}(h:S.ov[n]?=a_ o):∃a,A.cs[n]?=a_ a/\H a=a_ (.lst (o.map V.int)):=vy (F:=λa (o:List Int)=>H a=a_ (.lst (o.map V.int))) M.cs h
theorem bb.part(M:bb t C CT H m A S){c:Nat}(h:S.ps[c]?=a_ p):∃vs b us,H A.st=a_ (.tup vs)/\vs[c]?=a_ (.ref b)/\H b=a_ (.tup us)/\Paired (sJ t H) us p:=by
 refine aw M.st λvs h1 h2=>aw (vy h2 h) λv hv aa=>dv aa λb us aa h3 h4=>?_;subst aa;exact⟨vs,b,us,h1,hv,h3,h4⟩
end
section
variable{t:a9}{C CT:e_}
def Uh(t:a9)(C CT:e_):Sp:=λvs H Q _=>∃m A S c k p,vs=[.ref m,.int (c:Nat)]/\bb t C CT H m A S/\S.ck[c]?=a_ k/\S.ps[c]?=a_ p/\p.length<=1000/\Q (.bl (decide (k.pl=p.length))) H
theorem afB:bp zLb zLb (aW Lq):=bJ
theorem xT(a b:Nat):decide (V.int (a:Int)=V.int (b:Int))=decide (a=b):=decide_eq_decide.mpr ⟨λz=>by injection z with z;lia,λz=>by rw[z]⟩
theorem aep(F:aY K "at_end" "Machine.at_end" Lq f fd)(dQ:mg "len" = b_)(cM:gm K C):ay P w K mg base aB 1 f fd zLb (Uh t C CT):=by
 refine F.ok afB λaM A _ s H vs Q E hr h=>?_
 ·refine qD h λm A S c k p aa M hk hp ba=>?_;subst aa;refine oA ba λhl q=>sU (aF (bj (EH eJ (aT cY (bz (pv 0) rfl) (pv 1)) (bG fj rfl dQ q_ (ae (aT de (bz (pv 0) rfl) (pv 1)) af)) (bQ _)))) (bX (id M.obj) λdx fs hm G=>iY (M.part hp) λvs b us h1 h2 aa=>oA aa λh3 h4=>vF rfl hm cM.cl cM.places G.places (vr rfl (rL (av.of M.pl) (jE (f:=λk:Ck=>V.int (k.pl:Nat)) hk) (vF rfl hm cM.cl cM.steps G.steps (vr rfl (rT (v:=.ref b) (aJ.of h1) (cR h2) (oC b us rfl (.inr (aJ.of h3)) rfl ?_)))))));rw[r_ h4,xT];exact q
def BF(t:a9)(C CT:e_):Sp:=λvs H Q _=>∃m A S,vs=[.ref m]/\bb t C CT H m A S/\∀l ws,H l=b_->Paired (kl H) ws S.ac->Q (.ref l) (upd H l (.lst ws))
theorem afz:bp zLd zLd (aW Ln):=bJ
theorem aen(F:aY K "deeds" "Machine.deeds" Ln f fd)(pj:mg "list" = b_)(cM:gm K C):ay P w K mg base aB 1 f fd zLd (BF t C CT):=by
 refine F.ok afz λaM A _ s H vs Q E hr h=>?_
 ·refine iY h λm A S aa M q=>?_;clear h;subst aa;exact sU (aF (bj (xK QT rfl pj boot_list (ae (bz (pv 0) rfl) af)))) (bX (id M.obj) λdx fs hm G=>aw M.ac λws h1 h2=>vF rfl hm cM.cl cM.i8 G.i8 ⟨A.ac,⟨_,rfl,.inl (av.of h1),λl hl=>q l ws hl h2⟩⟩)
def ES(t:a9)(C CT:e_):Sp:=λvs H Q _=>∃m A S n o,vs=[.ref m,.int (n:Nat)]/\bb t C CT H m A S/\S.ov[n]?=a_ o/\∀l,H l=b_->Q (.ref l) (upd H l (.lst (o.map V.int)))
theorem agU:bp zLc zLc (aW Mj):=bJ
theorem afX(F:aY K "over" "Machine.over" Mj f fd)(pj:mg "list" = b_)(cM:gm K C):ay P w K mg base aB 1 f fd zLc (ES t C CT):=by
 refine F.ok agU λaM A _ s H vs Q E hr h=>?_
 ·refine jh h λm A S n o aa=>nL aa λaa M hn q=>?_;subst aa;exact sU (aF (bj (xK QT rfl pj boot_list (ae (aT cY (bz (pv 0) rfl) (pv 1)) af)))) (bX (id M.obj) λdx fs hm G=>aw (M.over hn) λa ha qo=>vF rfl hm cM.cl cM.mw G.mw (vr rfl (rL (v:=.ref a) (av.of M.cm) (jE ha) ⟨a,⟨_,rfl,.inl (av.of qo),q⟩⟩)))
def Jp(t:a9)(C CT:e_):Sp:=λvs H Q _=>∃m A S c k,vs=[.ref m,.int (c:Nat)]/\bb t C CT H m A S/\S.ck[c]?=a_ k/\k.es.length<64/\∀H' l us,ak H H'->H l=b_->H' l=a_ (.lst us)->Paired (LZ H') us k.es->Q (.ref l) H'
theorem acF:bp zLb zLb (aW JU):=bJ
theorem ab6(F:aY K "waiting" "Machine.waiting" JU f fd)(cM:gm K C)(cT:mz K CT)(GL:ay P w K mg base aB 1 fL Dq zLd (S2 CT))(bL:Binds K Dq zLd [])(mL:Meth K CT "listed" fL):ay P w K mg base aB 2 f fd zLb (Jp t C CT):=by
 refine F.ok acF λaM A _ s H vs Q E hr h=>?_
 ·refine jh h λm A S c k aa=>xX aa λaa M hk hl q=>?_;subst aa;exact sU (aF (bj (nv (aT cY (bz (pv 0) rfl) (pv 1)) cT.cl mL GL hr bL .nil a7))) (bX (id M.obj) λdx fs hm G=>aw (M.we hk) λx hx T=>eP (id T.obj) λvi rO ea e1 e2 e3 em el=>vF rfl hm cM.cl cM.iw G.iw (vr rfl (rL (v:=.ref x.1) (av.of M.lt) (Bq hx) (rM ea (em _ dk) (⟨x.1,_,_,_,_,(kL _ rfl T hl q)⟩)))))
end
theorem ig{a b c m:Nat}(l:a<b:=by decide):a≠b+m*c:=λh=>jS a (gx l (h ▸ Iq b (m*c)))
theorem qe{a b c m:Nat}(l:a<b:=by decide):b+m*c≠a:=λe=>ig (l:=l) e.symm
theorem wJ{a b i c m:Nat}(l:a%m≠b%m:=by decide):a+m*i≠b+m*c:=λh=>l (by rw[<-aam a m i,h,aam])
theorem Au{a b i c:Nat}(h:i≠c:=by with_reducible assumption):a+(b+1)*i≠a+(b+1)*c:=λe=>h (Nat.eq_of_mul_eq_mul_left (DU b) (Nat.add_left_cancel e))
theorem gr{a b:Nat}(n:a≠b:=by decide):a≠b:=n
theorem bZ{p q a b:Nat}(e1:p=a)(e2:q=b)(n:a≠b):p≠q:=λh=>n (e1.symm.trans (h.trans e2))
theorem qZ{p q a:Nat}(e1:p=a)(n:a≠q):p≠q:=λh=>n (e1.symm.trans h)
theorem bU{lab:e_->Nat}(h:lab a≠lab b):a≠b:=λe=>h (by rw[e])
theorem zl{α β:Type}{f:α->β}{r:List α}{c:Nat}{k k':α}(h:r[c]?=a_ k)(e:f k'=f k):(r.set c k').map f=r.map f:=by
 rw[DX,e];refine oE (dy.mp h) λhc hk=>?_;rw[<-hk]
 exact A9 λi=>by
  rw[List.getElem?_set]
  split
  ·rename_i hi
   subst hi
   split
   ·rw[dq,aO hc];rfl
   ·rename_i hn;rw[aP]at hn;exact absurd hc hn
  ·rfl
theorem xJ{α β:Type}{F:α->β->Prop}{b':β}:∀{l:List α} {r:List β} {c:Nat} {b:β},Paired F l r->r[c]?=a_ b->(∀a,l[c]?=a_ a->F a b->F a b')->Paired F l (r.set c b')
 | _,_,_,_,.nil,_,_=>.nil
 | _,_,0,b,.cons h t,e,k=>by
  simp only[List.getElem?_cons_zero,Qo]at e;subst e;exact .cons (k _ rfl h) t
 | _,_,c+1,b,.cons h t,e,k=>by
  rw[aaw]at e;exact .cons h (xJ t e λa ha=>k a (by simpa using ha))
theorem DY{α β:Type}{F G:α->β->Prop}{b':β}:∀{l:List α} {r:List β} {c:Nat},Paired F l r->(∀i a b,i≠c->l[i]?=a_ a->r[i]?=a_ b->F a b->G a b)->(∀a b,l[c]?=a_ a->r[c]?=a_ b->F a b->G a b')->Paired G l (r.set c b')
 | _,_,_,.nil,_,_=>.nil
 | _,_,0,.cons h t,k,k'=>by
  refine .cons (k' _ _ rfl rfl h) (iD t λi a b e1 e2 q=>k (i+1) a b li (by simpa using e1) (by simpa using e2) q)
 | _,_,c+1,.cons h t,k,k'=>by
  refine .cons (k 0 _ _ li rfl rfl h) (DY t (λi a b hi e1 e2 q=>k (i+1) a b li (by simpa using e1) (by simpa using e2) q) λa b e1 e2 q=>k' a b (by simpa using e1) (by simpa using e2) q)
theorem qB{α β:Type}{F:α->β->Prop}{a:α}{b:β}:∀{l:List α} {r:List β},Paired F l r->F a b->Paired F (l++[a]) (r++[b])
 | _,_,.nil,h=>.cons h .nil
 | _,_,.cons g t,h=>.cons g (qB t h)
section
variable{t:a9}{C CT:e_}{H:Hp}{m:e_}{A:MA}{S:Mc}{lab:e_->Nat}
theorem oB{o:HO}(hx:H x=a_ (.lst xs)):∀b ys,H b=a_ (.tup ys)->upd H x o b=a_ (.tup ys):=λb ys e=>by rw[ao (gj e hx (by intro z;cases z))];exact e
theorem zJ{o:HO}(hx:H x=a_ (.lst xs)):∀b C dx fs,H b=a_ (.ins C dx fs)->upd H x o b=a_ (.ins C dx fs):=λb C dx fs e=>by rw[ao (gj e hx (by intro z;cases z))];exact e
theorem KQ{PT x:e_}{o:HO}(hx:H x=a_ (.lst xs))(h:dg PT pos q H):dg PT pos q (upd H x o):=
 Br (F:=[x]) h (λb o' n e=>by rw[ao λz=>n (by rw[z];exact f7.mpr rfl)];exact e) λb hb o' e=>by rw[f7.mp hb,hx]at e;cases e;exact .inr ⟨_,rfl⟩
theorem aix(M:bb t C CT H m A S)(L:km lab m A){c:Nat}(hk:S.ck[c]?=a_ k)(v:Nat):bb t C CT (upd H A.pl (.lst ((S.ck.map λk=>V.int (k.pl:Nat)).set c (.int (v:Nat))))) m A { S with ck:=S.ck.set c { k with pl:=v } }:=by
 obtain⟨⟨dx,fs,h1,h2⟩,lt,ts,pg,⟨vs,s1,s2⟩,pl,ct,rg,rs,ce,⟨us,a1,a2⟩,cm,cs⟩:=M;have bq:=L.pl;have kt:=oB (o:=.lst ((S.ck.map λk=>V.int (k.pl:Nat)).set c (.int (v:Nat)))) pl;have ki:=zJ (o:=.lst ((S.ck.map λk=>V.int (k.pl:Nat)).set c (.int (v:Nat)))) pl;have h2:wz fs A { S with ck:=S.ck.set c { k with pl:=v } }:=⟨h2.iw,h2.program,h2.kind,h2.steps,h2.places,h2.counts,h2.fX,h2.cells,h2.i8,h2.mw,h2.ms,h2.m5⟩
 exact⟨⟨dx,fs,(ao (bU (lab:=lab) (bZ L.m bq gr))).trans h1,h2⟩,(ao (bU (lab:=lab) (bZ L.lt bq gr))).trans lt,xJ (iD ts λi x c hx _ q=>dP.keep q (λb hb o e=>(ao (bU (lab:=lab) (bZ (L.ts i x hx b hb) bq qe))).trans e) kt) hk λa _ q=>q,pg.keep kt,⟨vs,kt _ _ s1,Paired.cZ s2 λ_ _ q=>q.keep kt λb C dx fs e _=>ki b C dx fs e⟩,by
   show upd H _ _ A.pl=a_ (.lst ((S.ck.set c { k with pl:=v }).map λk=>V.int (k.pl:Nat)));rw[ax,DX],by
   show upd H _ _ A.ct=a_ (.lst ((S.ck.set c { k with pl:=v }).map λk=>V.int (k.ct:Nat)));rw[zl (f:=λk:Ck=>V.int (k.ct:Nat)) (k':={ k with pl:=v }) hk rfl];exact(ao (bU (lab:=lab) (bZ L.ct bq gr))).trans ct,(ao (bU (lab:=lab) (bZ L.rg bq gr))).trans rg,xJ (iD rs λi x c hx _ q=>(ao (bU (lab:=lab) (bZ (L.rs i x hx) bq qe))).trans q) hk λa _ q=>q,(ao (bU (lab:=lab) (bZ L.ce bq gr))).trans ce,⟨us,(ao (bU (lab:=lab) (bZ L.ac bq gr))).trans a1,Paired.cZ a2 λ_ _ q=>q.keep kt⟩,(ao (bU (lab:=lab) (bZ L.cm bq gr))).trans cm,iD cs λi x c hx _ q=>(ao (bU (lab:=lab) (bZ (L.cs i x hx) bq qe))).trans q⟩
theorem aiz(M:bb t C CT H m A S)(L:km lab m A){c:Nat}(hk:S.ck[c]?=a_ k)(v:Nat):bb t C CT (upd H A.ct (.lst ((S.ck.map λk=>V.int (k.ct:Nat)).set c (.int (v:Nat))))) m A { S with ck:=S.ck.set c { k with ct:=v } }:=by
 obtain⟨⟨dx,fs,h1,h2⟩,lt,ts,pg,⟨vs,s1,s2⟩,pl,ct,rg,rs,ce,⟨us,a1,a2⟩,cm,cs⟩:=M;have bq:=L.ct;have kt:=oB (o:=.lst ((S.ck.map λk=>V.int (k.ct:Nat)).set c (.int (v:Nat)))) ct;have ki:=zJ (o:=.lst ((S.ck.map λk=>V.int (k.ct:Nat)).set c (.int (v:Nat)))) ct;have h2:wz fs A { S with ck:=S.ck.set c { k with ct:=v } }:=⟨h2.iw,h2.program,h2.kind,h2.steps,h2.places,h2.counts,h2.fX,h2.cells,h2.i8,h2.mw,h2.ms,h2.m5⟩
 exact⟨⟨dx,fs,(ao (bU (lab:=lab) (bZ L.m bq gr))).trans h1,h2⟩,(ao (bU (lab:=lab) (bZ L.lt bq gr))).trans lt,xJ (iD ts λi x c hx _ q=>dP.keep q (λb hb o e=>(ao (bU (lab:=lab) (bZ (L.ts i x hx b hb) bq qe))).trans e) kt) hk λa _ q=>q,pg.keep kt,⟨vs,kt _ _ s1,Paired.cZ s2 λ_ _ q=>q.keep kt λb C dx fs e _=>ki b C dx fs e⟩,by
   show upd H _ _ A.pl=a_ (.lst ((S.ck.set c { k with ct:=v }).map λk=>V.int (k.pl:Nat)));rw[zl (f:=λk:Ck=>V.int (k.pl:Nat)) (k':={ k with ct:=v }) hk rfl];exact(ao (bU (lab:=lab) (bZ L.pl bq gr))).trans pl,by
   show upd H _ _ A.ct=a_ (.lst ((S.ck.set c { k with ct:=v }).map λk=>V.int (k.ct:Nat)));rw[ax,DX],(ao (bU (lab:=lab) (bZ L.rg bq gr))).trans rg,xJ (iD rs λi x c hx _ q=>(ao (bU (lab:=lab) (bZ (L.rs i x hx) bq qe))).trans q) hk λa _ q=>q,(ao (bU (lab:=lab) (bZ L.ce bq gr))).trans ce,⟨us,(ao (bU (lab:=lab) (bZ L.ac bq gr))).trans a1,Paired.cZ a2 λ_ _ q=>q.keep kt⟩,(ao (bU (lab:=lab) (bZ L.cm bq gr))).trans cm,iD cs λi x c hx _ q=>(ao (bU (lab:=lab) (bZ (L.cs i x hx) bq qe))).trans q⟩
theorem Fc(M:bb t C CT H m A S)(L:km lab m A){c:Nat}(hk:S.ck[c]?=a_ k)(ha:A.rs[c]?=a_ a)(r:Nat)(v:Int):bb t C CT (upd H a (.lst ((k.rg.map V.int).set r (.int v)))) m A { S with ck:=S.ck.set c { k with rg:=k.rg.set r v } }:=by
 obtain⟨⟨dx,fs,h1,h2⟩,lt,ts,pg,⟨vs,s1,s2⟩,pl,ct,rg,rs,ce,⟨us,a1,a2⟩,cm,cs⟩:=M
 have jM:H a=a_ (.lst (k.rg.map V.int)):=by
  refine aw (Bn rs ha) λk2 e2 q=>?_;rw[hk]at e2;cases e2;exact q
 have bq:=L.rs c a ha;have kt:=oB (o:=.lst ((k.rg.map V.int).set r (.int v))) jM;have ki:=zJ (o:=.lst ((k.rg.map V.int).set r (.int v))) jM;have h2:wz fs A { S with ck:=S.ck.set c { k with rg:=k.rg.set r v } }:=⟨h2.iw,h2.program,h2.kind,h2.steps,h2.places,h2.counts,h2.fX,h2.cells,h2.i8,h2.mw,h2.ms,h2.m5⟩
 exact⟨⟨dx,fs,(ao (bU (lab:=lab) (bZ L.m bq ig))).trans h1,h2⟩,(ao (bU (lab:=lab) (bZ L.lt bq ig))).trans lt,xJ (iD ts λi x c hx _ q=>dP.keep q (λb hb o e=>(ao (bU (lab:=lab) (bZ (L.ts i x hx b hb) bq wJ))).trans e) kt) hk λa _ q=>q,pg.keep kt,⟨vs,kt _ _ s1,Paired.cZ s2 λ_ _ q=>q.keep kt λb C dx fs e _=>ki b C dx fs e⟩,by
   show upd H _ _ A.pl=a_ (.lst ((S.ck.set c { k with rg:=k.rg.set r v }).map λk=>V.int (k.pl:Nat)));rw[zl (f:=λk:Ck=>V.int (k.pl:Nat)) (k':={ k with rg:=k.rg.set r v }) hk rfl];exact(ao (bU (lab:=lab) (bZ L.pl bq ig))).trans pl,by
   show upd H _ _ A.ct=a_ (.lst ((S.ck.set c { k with rg:=k.rg.set r v }).map λk=>V.int (k.ct:Nat)));rw[zl (f:=λk:Ck=>V.int (k.ct:Nat)) (k':={ k with rg:=k.rg.set r v }) hk rfl];exact(ao (bU (lab:=lab) (bZ L.ct bq ig))).trans ct,(ao (bU (lab:=lab) (bZ L.rg bq ig))).trans rg,DY rs (λi x b hi hx _ q=>(ao (bU (lab:=lab) (bZ (L.rs i x hx) bq Au))).trans q) λx b hx hb q=>by
   rw[ha]at hx;cases hx;show upd H a _ a=a_ (.lst ((k.rg.set r v).map V.int));rw[ax,DX],(ao (bU (lab:=lab) (bZ L.ce bq ig))).trans ce,⟨us,(ao (bU (lab:=lab) (bZ L.ac bq ig))).trans a1,Paired.cZ a2 λ_ _ q=>q.keep kt⟩,(ao (bU (lab:=lab) (bZ L.cm bq ig))).trans cm,iD cs λi x c hx _ q=>(ao (bU (lab:=lab) (bZ (L.cs i x hx) bq wJ))).trans q⟩
theorem aiA(M:bb t C CT H m A S)(L:km lab m A)(n:Nat)(v:Int):bb t C CT (upd H A.ce (.lst ((S.bd.map V.int).set n (.int v)))) m A { S with bd:=S.bd.set n v }:=by
 obtain⟨⟨dx,fs,h1,h2⟩,lt,ts,pg,⟨vs,s1,s2⟩,pl,ct,rg,rs,ce,⟨us,a1,a2⟩,cm,cs⟩:=M;have bq:=L.ce;have kt:=oB (o:=.lst ((S.bd.map V.int).set n (.int v))) ce;have ki:=zJ (o:=.lst ((S.bd.map V.int).set n (.int v))) ce;have h2:wz fs A { S with bd:=S.bd.set n v }:=⟨h2.iw,h2.program,h2.kind,h2.steps,h2.places,h2.counts,h2.fX,h2.cells,h2.i8,h2.mw,h2.ms,h2.m5⟩
 exact⟨⟨dx,fs,(ao (bU (lab:=lab) (bZ L.m bq gr))).trans h1,h2⟩,(ao (bU (lab:=lab) (bZ L.lt bq gr))).trans lt,iD ts λi x c hx _ q=>dP.keep q (λb hb o e=>(ao (bU (lab:=lab) (bZ (L.ts i x hx b hb) bq qe))).trans e) kt,pg.keep kt,⟨vs,kt _ _ s1,Paired.cZ s2 λ_ _ q=>q.keep kt λb C dx fs e _=>ki b C dx fs e⟩,(ao (bU (lab:=lab) (bZ L.pl bq gr))).trans pl,(ao (bU (lab:=lab) (bZ L.ct bq gr))).trans ct,(ao (bU (lab:=lab) (bZ L.rg bq gr))).trans rg,iD rs λi x c hx _ q=>(ao (bU (lab:=lab) (bZ (L.rs i x hx) bq qe))).trans q,by
   show upd H _ _ A.ce=a_ (.lst ((S.bd.set n v).map V.int));rw[ax,DX],⟨us,(ao (bU (lab:=lab) (bZ L.ac bq gr))).trans a1,Paired.cZ a2 λ_ _ q=>q.keep kt⟩,(ao (bU (lab:=lab) (bZ L.cm bq gr))).trans cm,iD cs λi x c hx _ q=>(ao (bU (lab:=lab) (bZ (L.cs i x hx) bq qe))).trans q⟩
theorem Mb(M:bb t C CT H m A S)(L:km lab m A){ws:List V}(hw:H A.ac=a_ (.lst ws))(hx:kl H x a):bb t C CT (upd H A.ac (.lst (ws++[x]))) m A { S with ac:=S.ac++[a] }:=by
 obtain⟨⟨dx,fs,h1,h2⟩,lt,ts,pg,⟨vs,s1,s2⟩,pl,ct,rg,rs,ce,⟨us,a1,a2⟩,cm,cs⟩:=M;obtain rfl:ws=us:=by rw[hw]at a1;cases a1;rfl
 have bq:=L.ac;have kt:=oB (o:=.lst (ws++[x])) hw;have ki:=zJ (o:=.lst (ws++[x])) hw;have h2:wz fs A { S with ac:=S.ac++[a] }:=⟨h2.iw,h2.program,h2.kind,h2.steps,h2.places,h2.counts,h2.fX,h2.cells,h2.i8,h2.mw,h2.ms,h2.m5⟩;exact⟨⟨dx,fs,(ao (bU (lab:=lab) (bZ L.m bq gr))).trans h1,h2⟩,(ao (bU (lab:=lab) (bZ L.lt bq gr))).trans lt,iD ts λi x c hx _ q=>dP.keep q (λb hb o e=>(ao (bU (lab:=lab) (bZ (L.ts i x hx b hb) bq qe))).trans e) kt,pg.keep kt,⟨vs,kt _ _ s1,Paired.cZ s2 λ_ _ q=>q.keep kt λb C dx fs e _=>ki b C dx fs e⟩,(ao (bU (lab:=lab) (bZ L.pl bq gr))).trans pl,(ao (bU (lab:=lab) (bZ L.ct bq gr))).trans ct,(ao (bU (lab:=lab) (bZ L.rg bq gr))).trans rg,iD rs λi x c hx _ q=>(ao (bU (lab:=lab) (bZ (L.rs i x hx) bq qe))).trans q,(ao (bU (lab:=lab) (bZ L.ce bq gr))).trans ce,⟨ws++[x],ax,qB (Paired.cZ a2 λ_ _ q=>q.keep kt) (hx.keep kt)⟩,(ao (bU (lab:=lab) (bZ L.cm bq gr))).trans cm,iD cs λi x c hx _ q=>(ao (bU (lab:=lab) (bZ (L.cs i x hx) bq qe))).trans q⟩
theorem aiy(M:bb t C CT H m A S)(L:km lab m A){n:Nat}(hn:S.ov[n]?=a_ ov)(ha:A.cs[n]?=a_ a)(d:Int):bb t C CT (upd H a (.lst (ov.map V.int++[.int d]))) m A { S with ov:=S.ov.set n (ov++[d]) }:=by
 obtain⟨⟨dx,fs,h1,h2⟩,lt,ts,pg,⟨vs,s1,s2⟩,pl,ct,rg,rs,ce,⟨us,a1,a2⟩,cm,cs⟩:=M
 have qo:H a=a_ (.lst (ov.map V.int)):=by
  refine aw (Bn cs ha) λo2 e2 q=>?_;rw[hn]at e2;cases e2;exact q
 have bq:=L.cs n a ha;have kt:=oB (o:=.lst (ov.map V.int++[.int d])) qo;have ki:=zJ (o:=.lst (ov.map V.int++[.int d])) qo;have h2:wz fs A { S with ov:=S.ov.set n (ov++[d]) }:=⟨h2.iw,h2.program,h2.kind,h2.steps,h2.places,h2.counts,h2.fX,h2.cells,h2.i8,h2.mw,h2.ms,h2.m5⟩
 exact⟨⟨dx,fs,(ao (bU (lab:=lab) (bZ L.m bq ig))).trans h1,h2⟩,(ao (bU (lab:=lab) (bZ L.lt bq ig))).trans lt,iD ts λi x c hx _ q=>dP.keep q (λb hb o e=>(ao (bU (lab:=lab) (bZ (L.ts i x hx b hb) bq wJ))).trans e) kt,pg.keep kt,⟨vs,kt _ _ s1,Paired.cZ s2 λ_ _ q=>q.keep kt λb C dx fs e _=>ki b C dx fs e⟩,(ao (bU (lab:=lab) (bZ L.pl bq ig))).trans pl,(ao (bU (lab:=lab) (bZ L.ct bq ig))).trans ct,(ao (bU (lab:=lab) (bZ L.rg bq ig))).trans rg,iD rs λi x c hx _ q=>(ao (bU (lab:=lab) (bZ (L.rs i x hx) bq wJ))).trans q,(ao (bU (lab:=lab) (bZ L.ce bq ig))).trans ce,⟨us,(ao (bU (lab:=lab) (bZ L.ac bq ig))).trans a1,Paired.cZ a2 λ_ _ q=>q.keep kt⟩,(ao (bU (lab:=lab) (bZ L.cm bq ig))).trans cm,DY cs (λi x b hi hx _ q=>(ao (bU (lab:=lab) (bZ (L.cs i x hx) bq Au))).trans q) λx b hx hb q=>by
   rw[ha]at hx;cases hx;rw[ax,gy];rfl⟩
theorem V4{c:Nat}{x:e_×e_×List e_}{tn:Int}(M:bb t C CT H m A S)(L:km lab m A)(hk:S.ck[c]?=a_ k)(hx:A.ts[c]?=a_ x)(kp:gQ (x.1::x.2.1::x.2.2) H H')(T:dP H' x.1 CT S.kd tn es x.2.1 x.2.2) :
  bb t C CT H' m A { S with ck:=S.ck.set c { k with tn:=tn,es:=es } }:=by
 obtain⟨⟨dx,fs,h1,h2⟩,lt,ts,pg,⟨vs,s1,s2⟩,pl,ct,rg,rs,ce,⟨us,a1,a2⟩,cm,cs⟩:=M;refine aw (Bn ts hx) λk0 e0 T0=>?_;rw[hk]at e0;cases e0;have bq:=L.ts c x hx;have out:∀b o,lab b≠28+6*c->(∀ps,o≠.fu ps)->H b=a_ o->H' b=a_ o:=λb o n z e=>kp.k b o (λhb=>n (bq b hb)) z e;have kt:∀b ys,H b=a_ (.tup ys)->H' b=a_ (.tup ys):=λb ys e=>kp.k b _ (λhb=>by rcases T0.kinds b hb _ e with ⟨_,_,_,z⟩ | ⟨_,z⟩ <;> cases z) (λps z=>by cases z) e
 have ki:∀b C dx fs,H b=a_ (.ins C dx fs)->(∃x ps v,C=eA t x/\fs=gJ v x ps)->H' b=a_ (.ins C dx fs):=λb C dx fs e hs=>kp.k b _ (λhb=>by
  refine pQ hs λx' ps v _ aa=>?_;clear hs;subst aa;rcases bw.mp hb with z | z
  ·refine dv T0.obj λDu oo e' tD _=>?_;rw[z,e']at e;cases e;rw[BI "kind" dk]at tD;cases tD
  ·rcases bw.mp z with z | z
   ·rw[z,T0.qs]at e;cases e
   ·refine oE (rS z) λi oY=>oE oY λhi ez=>?_;obtain⟨nZ,e',_⟩:=T0.kn i b (by rw[<-ez];exact aO hi);rw[e']at e;cases e) (λps z=>by cases z) e
 have nl:∀ys:List V,∀ps,HO.lst ys≠.fu ps:=λys ps z=>by cases z
 have h2:wz fs A { S with ck:=S.ck.set c { k with tn:=tn,es:=es } }:=⟨h2.iw,h2.program,h2.kind,h2.steps,h2.places,h2.counts,h2.fX,h2.cells,h2.i8,h2.mw,h2.ms,h2.m5⟩;refine⟨⟨dx,fs,out _ _ (qZ L.m ig) (λps z=>by cases z) h1,h2⟩,out _ _ (qZ L.lt ig) (nl _) lt,?_,pg.keep kt,⟨vs,kt _ _ s1,Paired.cZ s2 λ_ _ q=>q.keep kt ki⟩,?_,?_,out _ _ (qZ L.rg ig) (nl _) rg,?_,out _ _ (qZ L.ce ig) (nl _) ce,⟨us,out _ _ (qZ L.ac ig) (nl _) a1,Paired.cZ a2 λ_ _ q=>q.keep kt⟩,out _ _ (qZ L.cm ig) (nl _) cm,iD cs λi y b hy _ q=>out _ _ (qZ (L.cs i y hy) wJ) (nl _) q⟩
 ·refine DY ts (λi y b hi hy _ q=>dP.keep q (λb' tG o e=>out b' o (qZ (L.ts i y hy b' tG) Au) (λps z=>?_) e) kt) λy b hy hb q=>?_
  ·rcases q.kinds b' tG _ e with ⟨_,_,_,w⟩ | ⟨_,w⟩ <;> (rw[z]at w;cases w)
  ·rw[hx]at hy;cases hy;exact T
 ·show H' A.pl=a_ (.lst ((S.ck.set c { k with tn:=tn,es:=es }).map λk=>V.int (k.pl:Nat)));rw[zl (f:=λk:Ck=>V.int (k.pl:Nat)) (k':={ k with tn:=tn,es:=es }) hk rfl];exact out _ _ (qZ L.pl ig) (nl _) pl
 ·show H' A.ct=a_ (.lst ((S.ck.set c { k with tn:=tn,es:=es }).map λk=>V.int (k.ct:Nat)));rw[zl (f:=λk:Ck=>V.int (k.ct:Nat)) (k':={ k with tn:=tn,es:=es }) hk rfl];exact out _ _ (qZ L.ct ig) (nl _) ct
 ·exact xJ (iD rs λi y b hy _ q=>out _ _ (qZ (L.rs i y hy) wJ) (nl _) q) hk λa _ q=>q
end
abbrev Mv:=Str×List Int
def nU(mv:Mv):List V:=.str mv.1::mv.2.map V.int
def jH(H:Hp)(v:V)(mv:Mv):Prop:=∃p,v=.ref p/\H p=a_ (.tup (nU mv))
theorem jH.keep(k:∀b xs,H b=a_ (.tup xs)->H' b=a_ (.tup xs))(h:jH H v mv):jH H' v mv:=by
 exact aw h λp e h=>au p e (k _ _ h)
theorem aZ.tup{F:e_->Prop}(k:aZ F H H')(h:∀b,F b->∀xs,H b≠a_ (.tup xs)):∀b xs,H b=a_ (.tup xs)->H' b=a_ (.tup xs):=λb xs e=>k.k b _ (λz=>h b z xs e) (λps z=>by cases z) e
theorem aZ.FD(k:aZ uI H H'):∀b xs,H b=a_ (.tup xs)->H' b=a_ (.tup xs):=k.tup λb z=>z.elim
theorem aZ.wq(k:aZ uI H H')(e:H b=a_ (.lst xs)):H' b=a_ (.lst xs):=k.k b _ (λz=>z) (λps z=>by cases z) e
def sM(k:Ck)(p:Pt):Bool:=match p[k.pl]? with
 | none=>d_
 | some s=>decide (k.es=[]) || !sF s
def B9(kd:Str)(x:Ck×Nat):List Mv:=(iq kd x.1.es).map λn=>(("carry" : Str),[(x.2:Int),n])
def wx(kd:Str)(l:List (Ck×Nat)):List Mv:=l.flatMap (B9 kd)
def jV(S:Mc):List Mv:=wx S.kd S.ck.zipIdx
def yc(S:Mc)(c:Nat):Bool:=match S.ck[c]?,S.ps[c]? with
 | some k,a_ p=>sM k p
 | _,_=>d_
def wt(S:Mc)(n:Nat):List Mv:=((List.range n).filter (yc S)).map λ(c:Nat)=>(("do" : Str),[(c:Int)])
def pL(S:Mc):List Mv:=wt S S.ck.length++jV S
theorem Ry(kd:Str)(es:List Ent):(iq kd es).length<=12:=by
 unfold iq
 split
 ·cases es.head? <;> simp
 ·unfold my;rw[aP];exact c7 (yX _ _) (by rw[rW];exact aI _)
theorem Kf(kd:Str):∀l:List (Ck×Nat),(wx kd l).length<=12*l.length
 | []=>by simp[wx]
 | x::l=>by
  have h:=Kf kd l;unfold wx at h ⊢;rw[Qq,cj,iT];have h2:(B9 kd x).length<=12:=by unfold B9;rw[aP];exact Ry _ _
  lia
section
variable{t:a9}{C CT:e_}{u:oX}
def T8(t:a9)(C CT:e_):Sp:=λvs H Q _=>∃m A S c k p,vs=[.ref m,.int (c:Nat)]/\bb t C CT H m A S/\S.ck[c]?=a_ k/\S.ps[c]?=a_ p/\p.length<=1000/\k.pl<=p.length/\(∀s∈p,∃sz,fU sz s)/\∀H',ak H H'->Q (.bl (sM k p)) H'
theorem Uk:bp zLe zLb (aW Lj):=bJ
theorem aeh(F:aY K "may_do" "Machine.may_do" Lj f fd)(cM:gm K C)(cT:mz K CT)(O:yf K mg t u)
  (GA:ay P w K mg base aB 1 fA AY zLb (Uh t C CT)) (bA:Binds K AY zLb []) (mA:Meth K C "at_end" fA)
  (GE:ay P w K mg base aB 1 fE fdE zLd (Ue CT)) (bE:Binds K fdE zLd []) (mE:Meth K CT "is_empty" fE):ay P w K mg base aB 2 f fd zLb (T8 t C CT):=by
 refine F.ok Uk λaM A _ s H vs Q E hr h=>?_
 ·refine qD h λm A S c k p aa M hk hp ba=>?_;subst aa;refine nL ba λhl hle hg q=>?_;refine let R1:TS:=_;let R2:TS:=_;⟨_,aE (cC (gH (iW (pv 0) cM.cl mA GA hr bA .nil a7 (ae (pv 1) af))) (aF (bj sE)) cO) (pR R2 (aE (cU (i:=2) Uk.nd rfl (aX rfl) (aT de (aT de (bz (pv 0) rfl) (pv 1)) (aT cY (bz (pv 0) rfl) (pv 1)))) (pR R1 (aF (bj (aiP (nv (aT cY (bz (pv 0) rfl) (pv 1)) cT.cl mE GE hr bE .nil a7) (EY (Lw (ad7 (k:=1) (CX:=aB) (E:=E0) (P:=P) (w:=w) (K:=K) (mg:=mg) (base:=base) (pv 2) hr a7))))))))),?_⟩
  refine bX (id M.obj) λdx fs hm G=>aw (M.we hk) λx hx T=>eP (id T.obj) λvi rO ea e1 e2 e3 em el=>iY (M.part hp) λvs b us h1 h2 aa=>oA aa λh3 h4=>vM rfl hm (G.ms _ dk) (vr rfl (⟨m,A,S,c,k,p,rfl,M,hk,hp,hl,(tk (cu (λhe=>?_) λhe=>?_))⟩))
  ·have e:sM k p=false:=by unfold sM;rw[Ia li]
   have q:=q H (ak.refl H);rw[e]at q;exact q
  have dJ:k.pl<p.length:=li;have hs:p[k.pl]?=a_ p[k.pl]:=aO dJ;refine aw (vy h4 hs) λv hv aa=>pQ aa λz a dz aa hz=>?_;subst aa;refine oE (hg _ (tQ dJ)) λsz gs=>au _ rfl (dZ m C dx fs (kJ _ rfl hm cM.cl cM.steps G.steps (vr rfl (rT (v:=.ref b) (aJ.of h1) (cR h2) (vF rfl hm cM.cl cM.places G.places (vr rfl (rL (av.of M.pl) (jE (f:=λk:Ck=>V.int (k.pl:Nat)) hk) (rT (v:=.ref z) (aJ.of h3) (cR hv) (au _ rfl (dZ m C dx fs (kJ _ rfl hm cM.cl cM.iw G.iw (vr rfl (rL (v:=.ref x.1) (av.of M.lt) (Bq hx) (rM ea (em _ dk) (⟨x.1,_,_,_,_,(cD _ rfl T λH1 s1=>(tk (cu (λhe=>?_) λhe=>?_)))⟩)))))))))))))))
  ·have e:sM k p=true:=by unfold sM;rw[hs];show (decide (k.es=[])||_)=c_;rw[decide_eq_true he];rfl
   have q:=q H1 s1;rw[e]at q;exact q
  ·have e:sM k p=!sF p[k.pl]:=by unfold sM;rw[hs];show (decide (k.es=[])||_)=_;rw[decide_eq_false he];rfl
   have q:=q H1 s1;rw[e]at q;have no:=BI "empties" dk (.ref a) p[k.pl].1 (p[k.pl].2.map λ(n:Nat)=>V.int (n:Int));exact Jb (ahT (P:=P) (w:=w) (base:=base) (mg:=mg) O gs (s1 _ _ hz)) λC1 f1 fd1 pn sp hc cl me G1 bi q1=>au _ rfl (⟨z,C1,dz,_,f1,fd1,pn,sp,rfl,hc,no,cl,me,G1,⟨bi,(q1 _ _ ⟨_,rfl,q⟩)⟩⟩)
def Jr(t:a9)(C CT PT:e_):Sp:=λvs H Q _=>∃m A S,vs=[.ref m]/\bb t C CT H m A S/\S.ck.length<=4/\dg PT LP LQ H/\∀H' l vs,aZ uI H H'->dg PT LP LQ H'->H l=b_->H' l=a_ (.lst vs)->Paired (jH H') vs (jV S)->Q (.ref l) H'
theorem D8:bp ["self","found","clerk","tray"] zLd (aW JZ):=bJ
theorem ai1:(["clerk","name"]:List Str).Nodup:=dk
theorem aca{f fF PT:e_}(F:aY K "carries" "Machine.carries" JZ f fd)(cM:gm K C)(cT:mz K CT)(tF:mg "enumerate" = b_)
  (GF:ay P w K mg base aB 2 fF xo zLd (JN CT PT)) (bF:Binds K xo zLd []) (mF:Meth K CT "fronts" fF):ay P w K mg base aB 3 f fd zLd (Jr t C CT PT):=by
 refine F.ok D8 λaM A _ s H vs Q E hr h=>?_
 ·obtain⟨m,A,S,aa,M,h4,hL,q⟩:=h;subst aa
  refine let R1:TS:=_;let R2:TS:=_;⟨_,aE (cU (i:=1) D8.nd rfl (aX rfl) (fk af)) (pR R2 (aE (jY kE rfl (xQ (b:=c_) rfl tF (ae (bz (pv 0) rfl) af)) (qL rfl (iV (cG (i:=2) D8.nd rfl (qQ rfl)) (iV (cG (i:=3) D8.nd rfl (aX rfl)) qH))) (pR R1 (aF (dE (ke m_ PySem.F.slot_list_extend PySem.F.type_list_extend Ea (pv 1) (ae (jA (N:=["clerk","name"]) (idx:=[2]) rfl (ee.of (by kernel_rfl)) (jU (aI _))
     (zO (nv (pv 3) cT.cl mF GF hr bF .nil a7)) (λ_ _ _ _=>cG (i:=1) ai1 rfl (aX rfl) (.inr rfl)) (λ_ _ _ _=>jW) λ_ _ _ _=>hV (ae di (ae (pv 0) (ae (pv 1) af)))) af))))))
   (aF (bj (pv 1))))),?_⟩
  refine bX (id M.obj) λdx fs hm G=>⟨qc,λlw nw=>?_⟩;have s0:ak H (upd H lw (.lst [])):=aN (ak.refl _) nw;have hlen:=r_ M.ts;have rF:(A.ts.map λx=>V.ref x.1).length=A.ts.length:=aP _;refine vF rfl (s0 _ _ hm) cM.cl cM.iw G.iw ⟨A.lt,⟨_,rfl,av.of (s0 _ _ M.lt),?_⟩⟩
  let W1:IV:=λi σ H'=>i<=A.ts.length/\∃c y vs,σ=[a_ (.ref m),a_ (.ref lw),c,y]/\aZ uI H H'/\dg PT LP LQ H'/\H' lw=a_ (.lst vs)/\Paired (jH H') vs (wx S.kd (S.ck.zipIdx.take i))
  refine BV (n:=A.ts.length) W1 ⟨bg _,b_,b_,[],rfl,aZ.of s0,lF hL s0,ax,.nil⟩ ?_ ?_ ?_ ?_
  ·rintro i σ H' hi ⟨_,_,_,_,_,kp,_,_,_⟩;exact fq _ (V.ref A.ts[i].1) (av.of (kp.wq M.lt)) (by rw[dq,aO hi];rfl)
  ·rintro σ H' ⟨_,_,_,_,_,kp,_,_,_⟩;exact au _ (av.of (kp.wq M.lt)) (by rw[rF];exact aI _)
  ·rintro i σ H1 hi ⟨_,c,y,vs,rfl,kp,rK,hw,yG⟩ z H2 ⟨r,x,ik,ez,eH,gu⟩;subst ez;subst eH;have AK:=gu _ (av.of (kp.wq M.lt));rw[dq,aO hi]at AK;cases AK;have s2:ak H1 (upd H1 r (.tup [.int i,.ref A.ts[i].1])):=aN (ak.refl _) ik;have uV:=s2 _ _ hw;have XA:=Paired.cZ yG λ_ _ q=>jH.keep (λb xs e=>s2 _ _ e) q;have qp:=lF rK s2;have Zz:upd H1 r (.tup [.int i,.ref A.ts[i].1]) r=a_ (.tup [.int i,.ref A.ts[i].1]):=ax;generalize upd H1 r (.tup [.int i,.ref A.ts[i].1])=H2 at s2 uV XA qp Zz ⊢;have tj:=kp.trans (aZ.of s2);have M2:=M.uk tj;have ZM:=wf;refine aw (M2.we (aO ZM)) λx' tu T=>?_;rw[aO hi]at tu;cases tu;refine eP (id T.obj) λvi rO ea e1 e2 e3 em el=>⟨r,⟨_,rfl,aJ.of Zz,rfl,.int i,[.ref A.ts[i].1],rfl,.ref A.ts[i].1,[],rfl,rfl,vr rfl ⟨.inl ⟨rfl,_,av.of uV⟩,⟨_,rfl,_,vi,rO,rfl,ea,em _ dk,_,_,_,_,_,_,rfl,T,qp,λH3 lf k3 vg nf hf=>?_⟩⟩⟩⟩;have OJ:aZ uI H2 H3:=aZ.N2 k3 λb hb=>nomatch hb;refine cD lf rfl ⟨_,av.of hf⟩ ?_;have ZL:=Ry S.kd S.ck[i].es;refine iH (n:=(iq S.kd S.ck[i].es).length) (λj ys H4=>j<=(iq S.kd S.ck[i].es).length/\ak H3 H4/\Paired (jH H4) ys (((iq S.kd S.ck[i].es).take j).map λn=>(("carry" : Str),[(i:Int),n]))) (eO (gz w4)) (dj (bg _) (ak.refl _) .nil) ?_ ?_ ?_ ?_ ?_
   ·rintro j ys H4 ⟨_,_,e⟩;rw[r_ e,aP,dS];exact xl
   ·rintro j ys H4 hj ⟨_,s4,_⟩;exact fq _ (V.int (iq S.kd S.ck[i].es)[j]) (av.of (s4 _ _ hf)) (by rw[dq,aO hj];rfl)
   ·rintro ys H4 ⟨_,s4,_⟩;exact au _ (av.of (s4 _ _ hf)) (by rw[aP];exact aI _)
   ·rintro j ys H4 hj ⟨_,s4,e⟩ v H5 ⟨eH,hv1⟩;subst eH;have hv:=hv1 _ (av.of (s4 _ _ hf));rw[dq,aO hj]at hv;cases hv;refine au _ rfl (vr rfl ⟨(sl (n:=3)),(λtp ht=>⟨hj,aN s4 ht,?_⟩)⟩);rw[qy,aO hj,gy];exact qB (Paired.cZ e λ_ _ q=>q.keep λb xs e=>aN (ak.refl _) ht _ _ e) (au tp rfl ax)
   ·rintro ys H4 ⟨_,s4,e⟩;rw[je (aI _)]at e;refine⟨by rw[r_ e,aP];exact eO (gz li),λrl gF=>?_⟩;have s5:=aN (o:=.lst ys) s4 gF;have yF:=s5 _ _ (OJ.wq uV);have cl:=Kf S.kd (S.ck.zipIdx.take i);rw[dS]at cl;have hvl:=r_ yG;refine⟨lw,rl,vs,ys,rfl,rfl,yF,ax,?_,hi,(lR _ _ (dX _ rfl ?_ ?_ ax ?_))⟩
    ·rw[hvl,r_ e,aP];exact eO (gz li)
    ·have kk:=OJ.trans (aZ.of s5);refine⟨λb o nb nt eb=>?_,λb eb=>(tj.trans kk).t b ?_⟩
     ·have:b≠lw:=cg eb nw;rw[ao this];exact(tj.trans kk).k b o nb nt eb
     ·by_cases z:b=lw
      ·rw[z,ax]at eb;cases eb
      ·rwa[ao z]at eb
    ·exact KQ yF (lF vg s5)
    ·have et:S.ck.zipIdx.take (i+1)=S.ck.zipIdx.take i++[(S.ck[i],i)]:=by
      rw[qy,List.getElem?_zipIdx,aO ZM];simp
     rw[et];unfold wx;rw[vp,Qq,aa9,il];have Ze:∀b xs,upd H4 rl (.lst ys) b=a_ (.tup xs)->upd (upd H4 rl (.lst ys)) lw (.lst (vs++ys)) b=a_ (.tup xs):=λb xs e=>by rw[ao (gj e yF (by intro z;cases z))];exact e
     exact vz (Paired.cZ e λ_ _ q=>q.keep λb xs e=>Ze b xs (aN (ak.refl _) gF _ _ e)) (Paired.cZ XA λ_ _ q=>(q.keep OJ.FD).keep λb xs e=>Ze b xs (s5 _ _ e))
  ·rintro σ H1 ⟨_,c,y,vs,rfl,kp,rK,hw,yG⟩;rw[je (by rw[aaR];lia)]at yG;exact vr rfl (q H1 lw vs kp rK nw hw yG)
end
theorem BW{P:l_}{w:k_}{K:u_}{mg:Str->Option f_}{base:j_}{k:Nat}{sp:Sp}(F:ay P w K mg base (iN P w) k f fd ps sp):ay P w K mg base aB k f fd ps (λvs H Q _=>sp vs H Q λ_ _ _=>False):=
 ⟨λvs H Q E h=>F.len vs H Q _ h,λA outer s H args us vs Q E hr e0 hb hv hs=>zo (F.run A outer s H args us vs Q (λ_ _ _=>False) hr e0 hb hv hs) λr s' h=>by
  cases r with
  | error e=>
   exact Jb h λea c dd T H' _ _ _ _ _ aa=>qM aa λ_ _ _ _ _ q=>q.elim
  | ok fl=>cases fl <;> exact h⟩
def KL(H H':Hp):Prop:=∀b o,(∀xs,o≠.lst xs)->H b=a_ o->H' b=a_ o
theorem KL.trans(a:KL H H1)(b:KL H1 H2):KL H H2:=λc o n e=>b c o n (a c o n e)
theorem KL.of(s:ak H H'):KL H H':=λb o _ e=>s b o e
theorem KL.upd{o:HO}(hx:H x=a_ (.lst xs)):KL H (upd H x o):=λb q n e=>by
 rw[ao λz=>?_]
 ·exact e
 ·rw[z,hx]at e;cases e;exact n _ rfl
theorem KL.lam(k:KL H H'){PT:e_}(h:dg PT pos q H):dg PT pos q H':=by
 refine aw h λps hP hc=>au ps (k _ _ (λxs z=>by cases z) hP) ?_;rcases hc with e | ⟨c,e,hc⟩
 ·exact .inl e
 ·exact .inr (au c e (k _ _ (λxs z=>by unfold Ay at z;cases z) hc))
theorem KL.tup(k:KL H H'):∀b xs,H b=a_ (.tup xs)->H' b=a_ (.tup xs):=λb xs e=>k b _ (λys z=>by cases z) e
def qK(S:Mc)(n:Nat)(num d:Int):Mc:={ S with bd:=S.bd.set n num,ov:=S.ov.set n (S.ov.getD n []++[d]) }
def ji(S:Mc)(c n:Nat):Mc:=match S.ck[c]? with
 | none=>S
 | some k=>match (cw k.es n).head? with
  | none=>S
  | some e=>qK { S with ck:=S.ck.set c { k with es:=jk k.es n } } n e.num e.d
def BY(S:Mc)(n:Nat):List V:=[.int (n:Nat),.int (S.bd.getD n 0),oV (S.ov.getD n []).getLast?]
theorem jX{α:Type}{l:List α}{n:Nat}{x d:α}(h:l[n]?=a_ x):l.getD n d=x:=by rw[kC,h];rfl
section
variable{t:a9}{C CT:e_}{u:oX}
def Le(t:a9)(C CT:e_):Sp:=λvs H Q _=>∃m A S st n num d lab,vs=[.ref m,.ref st]/\bb t C CT H m A S/\km lab m A/\H st=a_ (.tup [.int (n:Nat),.int num,.int d])/\n<12/\S.bd.length=12/\S.ov.length=12/\(∀o∈S.ov,o.length<=16000)/\
 ∀H',bb t C CT H' m A (qK S n num d)->aZ (c9 m A) H H'->KL H H'->Q .aG H'
theorem Vq:bp ["self","setting","name"] zLr (aW Mo):=bJ
theorem xY{n j:Nat}(h:j<n):q8 n (j:Int)=a_ j:=by
 unfold q8
 first | (rw[if_pos om];simp;done) | (simp;exact w0)
theorem af1(F:aY K "come" "Machine.come" Mo f fd)(cM:gm K C):ay P w K mg base aB 1 f fd zLr (Le t C CT):=by
 refine F.ok Vq λaM A _ s H vs Q E hr h=>?_
 ·refine jh h λm A S st n aa=>iY aa λnum d lab aa M ba=>?_;subst aa;refine qM ba λL dh hn hb ho aa=>oA aa λng q=>?_;refine let R1:TS:=_;let R2:TS:=_;⟨_,aE (cU (i:=2) Vq.nd rfl (aX rfl) (aT de (pv 1) aA)) (pR R2 (aE (zX (aT de (pv 1) aA) (zY (bz (pv 0) rfl) (pv 2) set_list)) (pR R1 (aF (dE (ke m_ n_ o_ pI (aT cY (bz (pv 0) rfl) (pv 2)) (ae (aT de (pv 1) aA) af))))))),?_⟩
  refine bX (id M.obj) λdx fs hm G=>iA (j:=0) rfl dh rfl (iA (j:=1) rfl dh rfl (vF rfl hm cM.cl cM.cells G.cells (vr rfl (⟨A.ce,_,_,n,rfl,rfl,M.ce,(xY (by rw[aP,hb];exact hn)),?_⟩))));have M1:=aiA M L n num;have k1:aZ (c9 m A) H (upd H A.ce (.lst ((S.bd.map V.int).set n (.int num)))):=aZ.upd .ce;have l1:KL H (upd H A.ce (.lst ((S.bd.map V.int).set n (.int num)))):=KL.upd M.ce;generalize upd H A.ce (.lst ((S.bd.map V.int).set n (.int num)))=H1 at M1 k1 l1 ⊢;refine bX (id M1.obj) λxq tH tw G1=>?_;have ky:S.ov[n]?=a_ (S.ov[n]'wg):=aO wg;refine aw (M1.over ky) λa ha qo=>au _ rfl (dZ m C xq tH (kJ _ rfl tw cM.cl cM.mw G1.mw (vr rfl (rL (v:=.ref a) (av.of M1.cm) (jE ha) ⟨.inl ⟨rfl,_,av.of qo⟩,(iA (j:=2) rfl ((l1.tup _ _ dh)) rfl ?_)⟩))));have wX:=ng _ (b9 ky);refine lR a _ (dX _ rfl rfl qo (by rw[aP,gG];exact wb) ?_);have M2:=aiy M1 L ky ha d;refine q _ ?_ (k1.trans (aZ.upd (.cs (b9 ha)))) (l1.trans (KL.upd qo));unfold qK;rw[jX ky];exact M2
def Jq(t:a9)(C CT:e_):Sp:=λvs H Q _=>∃m A S n,vs=[.ref m,.int (n:Nat)]/\bb t C CT H m A S/\n<12/\S.bd.length=12/\S.ov.length=12/\∀tp,H tp=b_->Q (.ref tp) (upd H tp (.tup (BY S n)))
theorem RZ:bp ["self","name","comers"] zLc (aW JY):=bJ
theorem ab'(F:aY K "on_board" "Machine.on_board" JY f fd)(cM:gm K C)(dQ:mg "len" = b_):ay P w K mg base aB 1 f fd zLc (Jq t C CT):=by
 refine F.ok RZ λaM A _ s H vs Q E hr h=>?_
 ·obtain⟨m,A,S,n,aa,M,hn,hb,ho,q⟩:=h;subst aa;refine let R1:TS:=_;⟨_,aE (cU (i:=2) RZ.nd rfl (aX rfl) (aT cY (bz (pv 0) rfl) (pv 1))) (pR R1 (aF (bj (hV (ae (pv 1) (ae (aT cY (bz (pv 0) rfl) (pv 1)) (ae (J3 (cb eJ (bG fj rfl dQ q_ (ae (pv 2) af)) aA (bQ _)) nB (aT cY (pv 2) (B2 BM aA))) af))))))),?_⟩
  refine bX (id M.obj) λdx fs hm G=>?_;have ky:S.ov[n]?=a_ (S.ov[n]'wg):=aO wg;have wY:S.bd[n]?=a_ (S.bd[n]'wg):=aO wg;refine aw (M.over ky) λa ha qo=>?_
  have q':∀v,oV (S.ov[n]'wg).getLast?=v->∀tp,H tp=b_->Q (.ref tp) (upd H tp (.tup [.int (n:Nat),.int (S.bd[n]'wg),v])):=λv hv tp ht=>by
   have q:=q tp ht;unfold BY at q;rw[jX ky,jX wY,hv]at q;exact q
  generalize S.ov[n]'wg=o at ky qo q';refine vF rfl hm cM.cl cM.mw G.mw (vr rfl (rL (v:=.ref a) (av.of M.cm) (jE ha) (au _ rfl (vF rfl hm cM.cl cM.cells G.cells (vr rfl (rL (av.of M.ce) (jE wY) (vr rfl ⟨a,⟨_,rfl,.inl (av.of qo),rfl,_,rfl,cu (λz=>?_) λz=>?_⟩⟩)))))))
  ·have e0:o=[]:=by
    have z':=z;injection z' with z'
    rw[aP]at z';exact tO.mp om
   subst e0;exact⟨(sl (n:=3)),q' .aG rfl⟩
  ·have fZ:o≠[]:=λe=>z (by rw[e];rfl);obtain⟨o',d,rfl⟩:∃o' d,o=o'++[d]:=⟨o.dropLast,o.getLast fZ,(aad fZ).symm⟩;refine vr rfl (au _ rfl (rL (v:=.int d) (av.of qo) (by rw[gy];exact TV _ _) ⟨(sl (n:=3)),(q' (.int d) ?_)⟩));rw[List.getLast?_append];rfl
end
theorem i0.bounds{S:Mc}(w:i0 S){c:Nat}{k:Ck}(h:S.ck[c]?=a_ k):k.es.length<=15000:=c7 (w.es k (b9 h)) w.ac
def AB(S:Mc):Prop:=∀o∈S.ov,o.length<=16000
theorem Ro{es:List Ent}{n:Nat}{e:Ent}(h:(cw es n).head?=a_ e):e.n=(n:Int):=by
 have hm:=aaC h;unfold cw at hm;have:=(pC.mp hm).2;simpa using this
def iK(S:Mc)(a:Act):Mc:={ S with ac:=S.ac++[a] }
def ye(S:Mc)(c n:Nat)(k:Ck)(g:Int):Mc:={ S with ck:=S.ck.set c { k with tn:=k.tn+1,es:=k.es++[⟨k.tn,n,g,S.ac.length⟩] } }
def setM(S:Mc)(c n r:Nat):Mc:=match S.ck[c]? with
 | none=>S
 | some k=>
  let g:=k.rg.getD r 0
  let S':=iK (ye S c n k g) ⟨"set",c,n,b_,a_ g,b_⟩
  if S.kd = "none" then ji S' c n else S'
def iJ(S:Mc)(c r:Nat)(v:Int):Mc:=match S.ck[c]? with
 | none=>S
 | some k=>{ S with ck:=S.ck.set c { k with rg:=k.rg.set r v } }
def du(S:Mc)(k:Ck)(n:Nat):Int×Option Int:=match zR k.es n with
 | some e=>(e.num,a_ e.d)
 | none=>(S.bd.getD n 0,(S.ov.getD n []).getLast?)
def pS(S:Mc)(c r n:Nat):Mc:=match S.ck[c]? with
 | none=>S
 | some k=>iJ (iK S ⟨"look",c,n,a_ (du S k n).1,b_,(du S k n).2⟩) c r (du S k n).1
def qR(S:Mc)(c r n:Nat):Mc:=match S.ck[c]? with
 | none=>S
 | some k=>
  let g:=k.rg.getD r 0
  iJ (iK (qK S n g S.ac.length) ⟨"swap",c,n,a_ (S.bd.getD n 0),a_ g,(S.ov.getD n []).getLast?⟩) c r (S.bd.getD n 0)
section
variable{t:a9}{C CT:e_}{u:oX}
def Ko(t:a9)(C CT PT:e_):Sp:=λvs H Q _=>∃m A S c k n lab,vs=[.ref m,.int (c:Nat),.int (n:Nat)]/\bb t C CT H m A S/\km lab m A/\dg PT LP LQ H/\S.ck[c]?=a_ k/\(n:Int)∈iq S.kd k.es/\n<12/\S.bd.length=12/\S.ov.length=12/\AB S/\
 ∀H',bb t C CT H' m A (ji S c n)->aZ (c9 m A) H H'->dg PT LP LQ H'->Q .aG H'
theorem afA:bp zLj zLj (aW Lo):=bJ
theorem aeo{f fT fC PT lL:e_}{fd Dm pk:jz}(F:aY K "carry" "Machine.carry" Lo f fd)(cM:gm K C)(cT:mz K CT)
  (GT:ay P w K mg base (iN P w) 3 fT Dm zLc (Vg CT PT lL)) (bT:Binds K Dm zLc []) (mT:Meth K CT "take" fT)
  (GC:ay P w K mg base aB 1 fC pk zLr (Le t C CT)) (bC:Binds K pk zLr []) (mC:Meth K C "come" fC):ay P w K mg base aB 4 f fd zLj (Ko t C CT PT):=by
 have PJ:=BW GT;refine F.ok afA λaM A _ s H vs Q E hr h=>?_
 ·obtain⟨m,A,S,c,k,n,lab,aa,M,L,ba⟩:=h;subst aa;refine qM ba λhL hk hf hn hb aa=>cH aa λho ng q=>?_;have oh:=hr.mono (show 1<=3 by decide);refine sU (aF (dE (iW (pv 0) cM.cl mC GC oh bC .nil a7 (ae (iW (aT cY (bz (pv 0) rfl) (pv 1)) cT.cl mT PJ hr bT .nil a7 (ae (pv 2) af)) af)))) (bX (id M.obj) λdx fs hm G=>aw (M.we hk) λx hx T=>eP (id T.obj) λvi rO ea e1 e2 e3 em el=>vM rfl hm (G.ms _ dk) (vF rfl hm cM.cl cM.iw G.iw (vr rfl (rL (v:=.ref x.1) (av.of M.lt) (Bq hx) (rM ea (em _ dk) (vr rfl (⟨x.1,n,_,_,_,_,(dX _ rfl T hL (λ_ H1 e st he T1 k1 rK dh=>?_) λz=>absurd hf z)⟩)))))));rw[lC]at he;have en:=Ro he;rw[en]at dh;have M1:=V4 M L hk hx k1 T1;refine⟨m,A,_,st,n,e.num,e.d,lab,rfl,M1,L,dh,hn,hb,(dj ho ng λH2 M2 k2 l2=>q H2 ?_ ((aZ.N2 k1 λb hb=>.ts (b9 hx) hb).trans k2) (l2.lam rK))⟩;unfold ji;rw[hk];dsimp only;rw[he];exact M2
theorem ags(a:e_)(n r:Nat):gJ (.ref a) "set" ([n,r].map λ(n:Nat)=>V.int (n:Int))=aQ "reg" (.int (r:Nat)) (aQ "name" (.int (n:Nat)) (aQ "parts" (.ref a) [])):=by kernel_rfl
theorem acx{es:List Ent}{n:Nat}{e:Ent}(hn:n<12)(he:e.n=(n:Int)):(n:Int)∈my (es++[e]):=by
 refine zD.mpr (cD n hn rfl λz=>?_);rw[Ut,if_pos he]at z;simp at z
def Ug(t:a9)(C CT PT:e_):Sp:=λvs H Q _=>∃m A S c k z dz a n r lab,vs=[.ref m,.int (c:Nat),.ref z]/\bb t C CT H m A S/\km lab m A/\i0 S/\AB S/\dg PT LP LQ H/\S.ck[c]?=a_ k/\H z=a_ (.ins t.kM dz (gJ (.ref a) "set" ([n,r].map λ(n:Nat)=>V.int (n:Int))))/\n<12/\r<4/\
 ∀H',bb t C CT H' m A (setM S c n r)->aZ (c9 m A) H H'->dg PT LP LQ H'->Q .aG H'
theorem Ul:bp ["self","clerk","step","gave"] zLe (aW Lm):=bJ
theorem aem{f fA fC PT:e_}{fd AY pk:jz}(F:aY K "do_set" "Machine.do_set" Lm f fd)(cM:gm K C)(cT:mz K CT)(dQ:mg "len" = b_)(ST:ui K mg t)
  (GA:ay P w K mg base aB 1 fA AY zLi (Wd CT)) (bA:Binds K AY zLi []) (mA:Meth K CT "add" fA)
  (GC:ay P w K mg base aB 4 fC pk zLj (Ko t C CT PT)) (bC:Binds K pk zLj []) (mC:Meth K C "carry" fC):ay P w K mg base aB 5 f fd zLe (Ug t C CT PT):=by
 refine F.ok Ul λaM A _ s H vs Q E hr h=>?_
 ·refine qC h λm A S c k z dz a n r aa=>Lz aa λlab aa M L W ba=>?_;subst aa;refine qM ba λng hL hk hz hn aa=>oA aa λqj q=>?_;have oh:=hr.mono (show 1<=4 by decide);refine let R1:TS:=_;let R2:TS:=_;let R3:TS:=_;let R4:TS:=_;⟨_,aE (cU (i:=3) Ul.nd rfl (aX rfl) (aT cY (aT cY (bz (pv 0) rfl) (pv 1)) (bz (pv 2) rfl))) (pR R4 (aE (dE (iW (aT cY (bz (pv 0) rfl) (pv 1)) cT.cl mA GA oh bA .nil a7 (ae (bz (pv 2) rfl) (ae (pv 3) (ae (bG fj rfl dQ q_ (ae (bz (pv 0) rfl) af)) af))))) (pR R3 (aE (dE (ke m_ n_ o_ pI (bz (pv 0) rfl) (ae (hV (ae di (ae (pv 1) (ae (bz (pv 2) rfl) (ae nB (ae (pv 3) (ae nB af))))))) af))) (pR R2 (aF (cC (cb eJ (bz (pv 0) rfl) di (bQ _)) (pR R1 (aF (dE (iW (pv 0) cM.cl mC GC hr bC .nil a7 (ae (pv 1) (ae (bz (pv 2) rfl) af)))))) cO))))))),?_⟩
  rw[ags]at hz;refine bX (id M.obj) λdx fs hm G=>aw (M.fX hk) λra jM gF=>aw (M.we hk) λx hx T=>eP (id T.obj) λvi rO ea e1 e2 e3 em el=>aw M.ac λws dR k8=>?_;have og:=r_ k8;have XQ:=W.ac;have alS:=W.bounds hk;have dI:=W.rg k (b9 hk)
  have OG:∀(nm:Str),(aQ "reg" (.int (r:Nat)) (aQ "name" (.int (n:Nat)) (aQ "parts" (.ref a) []))).lookup nm=if nm = "reg" then a_ (.int (r:Nat)) else if nm = "name" then a_ (.int (n:Nat)) else if nm = "parts" then a_ (.ref a) else none:=λnm=>by
   rw[gd,gd,gd];rfl
  have lr:(aQ "reg" (.int (r:Nat)) (aQ "name" (.int (n:Nat)) (aQ "parts" (.ref a) []))).lookup ("reg" : Str)=a_ (V.int (r:Nat)):=by rw[OG,if_pos rfl]
  have ln:(aQ "reg" (.int (r:Nat)) (aQ "name" (.int (n:Nat)) (aQ "parts" (.ref a) []))).lookup ("name" : Str)=a_ (V.int (n:Nat)):=by rw[OG,if_neg dk,if_pos rfl]
  have hg:k.rg[r]?=a_ (k.rg[r]'wg):=aO wg;have eg:k.rg.getD r 0=k.rg[r]'wg:=jX hg;refine vF rfl hm cM.cl cM.fX G.fX (vr rfl (rL (v:=.ref ra) (av.of M.rg) (jE jM) (vF rfl hz ST.uq ST.Wo lr (rL (av.of gF) (jE hg) ?_))));generalize hgv:k.rg[r]'wg=g at eg;refine au _ rfl (dZ m C dx fs (kJ _ rfl hm cM.cl cM.iw G.iw (vr rfl (rL (v:=.ref x.1) (av.of M.lt) (Bq hx) (rM ea (em _ dk) (vF rfl hz ST.uq ST.Fl ln (vr rfl (vF rfl hm cM.cl cM.i8 G.i8 (dw A.ac ws rfl (.inl (av.of dR)) (⟨x.1,n,g,_,_,_,_,_,(kJ _ rfl T li li w4 λH1 T1 k1=>?_)⟩))))))))));have kf:=gQ.ofA k1 T1;have M1:=V4 M L hk hx kf T1;have ew:((ws.length:Nat):Int)=((S.ac.length:Nat):Int):=by rw[og]
  rw[ew]at M1 T1
  have eL:H1 z=a_ (.ins t.kM dz (aQ "reg" (.int (r:Nat)) (aQ "name" (.int (n:Nat)) (aQ "parts" (.ref a) [])))):=k1 _ _ (λzb=>by
   rcases bw.mp zb with y | y
   ·rw[y,ea]at hz;cases hz;rw[OG,if_neg dk,if_neg dk,if_neg dk]at e1;cases e1
   ·rcases T.kinds z zb _ hz with ⟨_,_,_,_⟩ | ⟨_,y2⟩
    ·rcases bw.mp y with y | y
     ·rw[y,T.qs]at hz;cases hz
     ·refine oE (rS y) λi oY=>oE oY λhi ez=>?_;obtain⟨nZ,e',_⟩:=T.kn i z (by rw[<-ez];exact aO hi);rw[e']at hz;cases hz
    ·cases y2) hz
  have rK:=Br hL k1 T.kinds;have kp1:aZ (c9 m A) H H1:=aZ.N2 kf λb hb=>.ts (b9 hx) hb;refine bX (id M1.obj) λxq tH tw G1=>aw M1.ac λG0 Gf alm=>au _ rfl (dZ m C xq tH (⟨_,rfl,tw,cM.cl,cM.i8,G1.i8,(.inl ⟨rfl,_,av.of Gf⟩),(au _ rfl (vF rfl eL ST.uq ST.Fl ln (vr rfl ⟨(sl (n:=6)),(λtp ht=>?_)⟩)))⟩));have s2:=aN (o:=.tup [.str "set",.int (c:Nat),.int (n:Nat),.aG,.int g,.aG]) (ak.refl H1) ht;have alo:=r_ alm;refine kI A.ac G0 (.ref tp) rfl rfl (s2 _ _ Gf) (by rw[alo,gG];show S.ac.length<_;exact wb) ?_;have M2:=Mb (M1.same s2) L (s2 _ _ Gf) (x:=.ref tp) (a:=⟨"set",c,n,b_,a_ g,b_⟩) ⟨tp,rfl,ax⟩;have tj:aZ (c9 m A) H (upd (upd H1 tp (.tup [.str "set",.int (c:Nat),.int (n:Nat),.aG,.int g,.aG])) A.ac (.lst (G0++[.ref tp]))):=kp1.trans ((aZ.of s2).trans (aZ.upd .ac));have l2:KL H1 (upd (upd H1 tp (.tup [.str "set",.int (c:Nat),.int (n:Nat),.aG,.int g,.aG])) A.ac (.lst (G0++[.ref tp]))):=(KL.of s2).trans (KL.upd (s2 _ _ Gf));have qp:=l2.lam rK;have o7:=l2 _ _ (λxs z=>by cases z) eL;generalize upd (upd H1 tp (.tup [.str "set",.int (c:Nat),.int (n:Nat),.aG,.int g,.aG])) A.ac (.lst (G0++[.ref tp]))=H2 at M2 tj l2 qp o7 ⊢;refine bX (id M2.obj) λyS rh lV G3=>?_
  have eS:setM S c n r=if S.kd = "none" then ji (iK (ye S c n k g) ⟨"set",c,n,b_,a_ g,b_⟩) c n else iK (ye S c n k g) ⟨"set",c,n,b_,a_ g,b_⟩:=by
   unfold setM;rw[hk];dsimp only;rw[eg]
  rw[eS]at q;refine au _ rfl (dZ m C yS rh (kJ _ rfl lV cM.cl cM.kind G3.kind ⟨rfl,⟨_,rfl,cu (λtD=>?_) λtD=>?_⟩⟩))
  ·have Ao:S.kd = "none":=FG tD;rw[if_pos Ao]at q;have vc:c<S.ck.length:=(dy.mp hk).1;refine vM rfl lV (G3.ms _ dk) (vr rfl (vF rfl o7 ST.uq ST.Fl ln (⟨m,A,(iK (ye S c n k g) ⟨"set",c,n,b_,a_ g,b_⟩),c,({ k with tn:=k.tn+1,es:=k.es++[⟨k.tn,n,g,S.ac.length⟩] }),n,lab,rfl,M2,L,qp,?_,?_,hn,(qX W.bd W.ov ng λH3 M3 k3 vg=>q H3 M3 (tj.trans k3) vg)⟩)))
   ·show (S.ck.set c _)[c]?=a_ _;rw[lu vc]
   ·show (n:Int)∈iq S.kd (k.es++[⟨k.tn,n,g,S.ac.length⟩]);unfold iq;rw[Ao,if_neg dk];exact acx hn rfl
  ·have Ao:¬S.kd = "none":=λe=>tD (by rw[e]);rw[if_neg Ao]at q;exact q H2 M2 tj qp
end
theorem i0.four(w:i0 S):S.ck.length<=4:=by rw[w.len];exact w.good.le
theorem i0.part(w:i0 S){c:Nat}(h:S.ck[c]?=a_ k):∃p,S.ps[c]?=a_ p/\p.length<=120/\k.pl<=p.length/\∀s∈p,fU p.length s:=by
 refine oE (dy.mp h) λhc _=>?_;have hp:S.ps[c]?=a_ (S.ps[c]'(by rw[<-w.len];exact hc)):=aO _;exact oA (w.good.part _ (b9 hp)) λg1 g2=>kL _ hp g1 (w.pl c k _ h hp) g2
theorem UC{c:Nat}(h:S.ck[c]?=a_ k)(h':S.ps[c]?=a_ p):yc S c=sM k p:=by unfold yc;rw[h,h']
theorem TM(S:Mc)(n:Nat):(wt S n).length<=n:=by
 unfold wt;rw[aP];exact c7 (yX _ _) (by rw[rW];exact aI _)
theorem adw(S:Mc)(n:Nat):wt S (n+1)=wt S n++(if yc S n=c_ then [(("do" : Str),[(n:Int)])] else []):=by
 unfold wt;rw[lD,yZ,gy]
 congr 1
 cases h:yc S n with
 | true=>simp[List.filter,h]
 | false=>simp[List.filter,h]
theorem aiX:(zLb:List Str).Nodup:=dk
section
variable{t:a9}{C CT:e_}{u:oX}
def Kn(t:a9)(C CT PT:e_):Sp:=λvs H Q _=>∃m A S,vs=[.ref m]/\bb t C CT H m A S/\i0 S/\dg PT LP LQ H/\∀H' l vs,aZ uI H H'->dg PT LP LQ H'->H l=b_->H' l=a_ (.lst vs)->Paired (jH H') vs (pL S)->Q (.ref l) H'
theorem adU:bp zLd zLd (aW Kw):=bJ
theorem acY{f fY fC PT:e_}(F:aY K "moves" "Machine.moves" Kw f fd)(cM:gm K C)(dQ:mg "len" = b_)(dI:mg "range" = b_)
  (GY:ay P w K mg base aB 2 fY fdY zLb (T8 t C CT)) (bY:Binds K fdY zLb []) (mY:Meth K C "may_do" fY)
  (GC:ay P w K mg base aB 3 fC pk zLd (Jr t C CT PT)) (bC:Binds K pk zLd []) (mC:Meth K C "carries" fC):ay P w K mg base aB 4 f fd zLd (Kn t C CT PT):=by
 refine F.ok adU λaM A _ s H vs Q E hr h=>?_
 ·obtain⟨m,A,S,aa,M,W,hL,q⟩:=h;subst aa;have jr:=hr.mono (show 2<=3 by decide)
  refine⟨_,aF (bj (bh BR (jA (N:=["self","clerk"]) (idx:=[0]) rfl (ee.of (by kernel_rfl)) (jU (aI _)) (kG rfl dI (ae (bG fj rfl dQ q_ (ae (bz (pv 0) rfl) af)) af))
   (λ_ _ _ _=>cG (i:=1) aiX rfl (aX rfl) (.inr rfl)) (λ_ _ _ _=>zK (gH (iW (pv 0) cM.cl mY GY jr bY .nil a7 (ae (pv 1) af)))) λ_ _ _ _=>hV (ae di (ae (pv 1) af)))
   (nv (pv 0) cM.cl mC GC hr bC .nil a7))),?_⟩
  refine bX (id M.obj) λdx fs hm G=>?_;have hlen:=r_ M.ts;have h4:=W.four;refine vF rfl hm cM.cl cM.iw G.iw ⟨A.lt,⟨_,rfl,.inl (av.of M.lt),_,rfl,by rw[aP];lia,by rw[aP];lia,?_⟩⟩;have en:(((A.ts.map λx=>V.ref x.1).length:Int)).toNat=S.ck.length:=by rw[aP];lia
  rw[en];refine iH (n:=S.ck.length) (λi ys H'=>i<=S.ck.length/\ak H H'/\Paired (jH H') ys (wt S i)) (eO (gz w4)) (dj (bg _) (ak.refl _) .nil) ?_ ?_ ?_ ?_ ?_
  ·rintro i ys H' ⟨_,_,e⟩;rw[r_ e];exact TM S i
  ·rintro i ys H' hi _;exact hi
  ·rintro ys H' _;exact aI _
  ·rintro i ys H1 hi ⟨_,s1,e⟩ x H2 ⟨eH,ex⟩;subst eH;subst ex;have hk:S.ck[i]?=a_ S.ck[i]:=aO hi;refine dY (W.part hk) λp hp kx uX hp3=>vM rfl (s1 _ _ hm) (G.ms _ dk) (vr rfl (⟨m,A,S,i,_,p,?_,(M.same s1),hk,hp,w4,uX,(λs hs=>⟨_,hp3 s hs⟩),(λH3 s3=>(au _ rfl ?_))⟩))
   ·show [V.ref m,V.int (0+(i:Int))]=_;rw[ou]
   rw[adw,UC hk hp];refine Nq (λhb=>?_) λhb=>?_
   ·refine vr rfl ⟨(sl (n:=2)),(λtp ht=>⟨hi,s1.trans (aN s3 ht),?_⟩)⟩;rw[hb,if_pos rfl];refine qB (Paired.cZ e λ_ _ q=>q.keep λb xs e=>aN s3 ht _ _ e) (au tp rfl ?_);rw[ax];show a_ (HO.tup [.str "do",V.int (0+(i:Int))])=_;rw[ou];rfl
   ·refine dj hi (s1.trans s3) ?_;rw[hb,if_neg eI,il];exact Paired.cZ e λ_ _ q=>q.keep λb xs e=>s3 _ _ e
  ·rintro ys H1 ⟨_,s1,e⟩;have hd:=TM S S.ck.length;refine⟨by rw[r_ e];exact eO (gz li),λr ik=>?_⟩;have s2:=aN (o:=.lst ys) s1 ik;refine vM rfl (s2 _ _ hm) (G.ms _ dk) (kI m A S rfl (M.same s2) h4 (lF hL s2) λH3 lc us k3 vg nc hc dC=>?_);have cl:=Kf S.kd S.ck.zipIdx;rw[aaR]at cl;have jK:=r_ dC
   have am3:us.length<=48:=by
    rw[jK];unfold jV;lia
   refine md r lc ys us rfl rfl (k3.wq ax) hc ?_ λl3 n3=>?_
   ·rw[r_ e];exact eO (gz li)
   have k4:aZ uI H (upd H3 l3 (.lst (ys++us))):=((aZ.of s2).trans k3).trans (aZ.of (aN (ak.refl _) n3));have hn:=((aZ.of s2).trans k3).t l3 n3;refine q _ l3 _ k4 (lF vg (aN (ak.refl _) n3)) hn ax ?_;unfold pL;have kt:∀b xs,H3 b=a_ (.tup xs)->upd H3 l3 (.lst (ys++us)) b=a_ (.tup xs):=λb xs e=>aN (ak.refl _) n3 _ _ e;exact vz (Paired.cZ dC λ_ _ q=>q.keep kt) (Paired.cZ e λ_ _ q=>(q.keep λb xs e=>k3.FD _ _ (aN (ak.refl _) ik _ _ e)).keep kt)
end
end TL
namespace L2
open PySem.SeqAt
theorem aeN{X:Cx}:Xj X (λx y H Q=>∃p xs,∃i:Nat,∃v,x=.ref p/\y=.int (i:Nat)/\H p=a_ (.lst xs)/\xs[i]?=a_ v/\Q v H):=by
 intro p_ s σ H o i ov iv Q I r1 r2 h;refine nC h λp xs j z aa ba=>?_;clear h;subst aa;refine nL ba λaa hq he q=>?_;clear ba;subst aa;cases r1;refine oE r2 λt aa=>?_;clear r2;subst aa;refine aR (I.list (av.of hq)) λar r pl hz=>aw (r.get he) λw ew uQ=>?_;have hl:=r.length;have hn:=BS;have hj:j<xs.length:=(dy.mp he).1;exact wpAny_getItem_list pl.isList li li (by rw[lC];simpa using ew) ⟨z,H,I,uQ,q⟩
end L2
namespace TL
open PySem.SeqAt L2 L3 L4
theorem agt(a:e_)(r n:Nat):gJ (.ref a) "put" ([r,n].map λ(n:Nat)=>V.int (n:Int))=aQ "number" (.int (n:Nat)) (aQ "reg" (.int (r:Nat)) (aQ "parts" (.ref a) [])):=by kernel_rfl
theorem agu(a:e_)(r n:Nat):gJ (.ref a) "add" ([r,n].map λ(n:Nat)=>V.int (n:Int))=aQ "other" (.int (n:Nat)) (aQ "reg" (.int (r:Nat)) (aQ "parts" (.ref a) [])):=by kernel_rfl
theorem aeW(a:e_)(r n:Nat):gJ (.ref a) "skip" ([r,n].map λ(n:Nat)=>V.int (n:Int))=aQ "place" (.int (n:Nat)) (aQ "reg" (.int (r:Nat)) (aQ "parts" (.ref a) [])):=by kernel_rfl
theorem LJ{x y:Str}{v u:V}{a:e_}:(aQ x v (aQ y u (aQ "parts" (.ref a) []))).lookup x=a_ v:=by rw[gd,if_pos rfl]
theorem E4{x y:Str}{v u:V}{a:e_}(h:y≠x):(aQ x v (aQ y u (aQ "parts" (.ref a) []))).lookup y=a_ u:=by rw[gd,if_neg h,gd,if_pos rfl]
def jC(s:Tl)(rg:List Int)(pl:Nat):Nat:=if s.1 = "skip"/\rg.getD (s.2.getD 0 0) 0=0 then s.2.getD 1 0 else pl+1
def cV(S:Mc)(c:Nat)(s:Tl):Mc:=
 if s.1 = "put" then iJ S c (s.2.getD 0 0) (s.2.getD 1 0:Nat)
 else if s.1 = "add" then (match S.ck[c]? with
  | none=>S
  | some k=>iJ S c (s.2.getD 0 0) ((k.rg.getD (s.2.getD 0 0) 0+k.rg.getD (s.2.getD 1 0) 0)%mZ))
 else if s.1 = "set" then setM S c (s.2.getD 0 0) (s.2.getD 1 0)
 else if s.1 = "look" then pS S c (s.2.getD 0 0) (s.2.getD 1 0)
 else if s.1 = "swap" then qR S c (s.2.getD 0 0) (s.2.getD 1 0)
 else S
def sQ(S:Mc)(c:Nat)(s:Tl):Mc:=match S.ck[c]? with
 | none=>S
 | some k=>{ S with ck:=S.ck.set c { k with pl:=jC s k.rg k.pl,ct:=k.ct+1 } }
def rm(S:Mc)(c:Nat):Mc:=match S.ck[c]?,S.ps[c]? with
 | some k,a_ p=>(match p[k.pl]? with
  | some s=>sQ (cV S c s) c s
  | none=>S)
 | _,_=>S
section
variable{t:a9}{C CT:e_}{H:Hp}{m:e_}{A:MA}{S:Mc}
theorem bb.afn(M:bb t C CT H m A S){z cz dz a:e_}{x:Str}{ps:List V}(hz:H z=a_ (.ins cz dz (gJ (.ref a) x ps))):¬c9 m A z:=by
 intro hb;cases hb with
 | m=>
  refine bX M.obj λdx fs h G=>?_;rw[h]at hz;cases hz;have e:=G.iw;rw[BI "trays" dk]at e;cases e
 | lt=>rw[M.lt]at hz;cases hz
 | pl=>rw[M.pl]at hz;cases hz
 | ct=>rw[M.ct]at hz;cases hz
 | rg=>rw[M.rg]at hz;cases hz
 | ce=>rw[M.ce]at hz;cases hz
 | ac=>obtain⟨vs,h,_⟩:=M.ac;rw[h]at hz;cases hz
 | cm=>rw[M.cm]at hz;cases hz
 | rs h=>
  refine aw (sf M.rs h) λc _ q=>?_;rw[q]at hz;cases hz
 | cs h=>
  refine aw (sf M.cs h) λc _ q=>?_;rw[q]at hz;cases hz
 | ts h h2=>
  refine aw (sf M.ts h) λc _ T=>eP (id T.obj) λvi rO ea e1 e2 e3 em el=>?_;rcases bw.mp h2 with y | y
  ·rw[y,ea]at hz;cases hz;rw[BI _ dk]at e1;cases e1
  ·rcases bw.mp y with y | y
   ·rw[y,T.qs]at hz;cases hz
   ·refine oE (rS y) λi oY=>oE oY λhi ez=>?_;obtain⟨nZ,e',_⟩:=T.kn i z (by rw[<-ez];exact aO hi);rw[e']at hz;cases hz
end
section
variable{P:l_}{w:k_}{K:u_}{mg:Str->Option f_}{base:j_}{t:a9}{C CT:e_}{u:oX}
def QI(t:a9):Sp:=λvs H Q _=>∃z a dz s sz ra rg,∃pl:Nat,vs=[.ref z,.int (pl:Nat),.ref ra]/\H z=a_ (.ins (eA t s.1) dz (gJ (.ref a) s.1 (s.2.map λ(n:Nat)=>V.int (n:Int))))/\fU sz s/\H ra=a_ (.lst (rg.map V.int))/\rg.length=4/\Q (.int (jC s rg pl:Nat)) H
theorem abn:bp zLn zLn (aW IQ):=bJ
theorem abi{f:e_}{fd:jz}(F:aY K "place_behind" "place_behind" IQ f fd)(O:yf K mg t u):ay P w K mg base aB 1 f fd zLn (QI t):=by
 refine F.ok abn λaM A _ s H vs Q E hr h=>?_
 ·refine jh h λz a dz s sz aa=>iY aa λra rg pl aa hz ba=>?_;subst aa;refine nL ba λg jM gF q=>?_;refine let R1:TS:=_;let R2:TS:=_;⟨_,aE (cC (PW.pt (pw_and (gH (bG jy rfl O.st.bl.jI iU (ae (pv 0) (ae (fQ (v:=.ref t.kh) rfl O.st.LG rfl) af)))) (pw_and1 (cb eJ (aT cY (pv 2) (bz (pv 0) rfl)) aA (bQ _))))) (pR R1 (aF (bj (bz (pv 0) rfl)))) cO) (pR R2 (aF (bj (bh iX (pv 1) aA)))),?_⟩
  refine aw (LO O g hz) λD ty c6=>vr rfl (dZ _ (.ref t.kh) _ (.ref t.kh) (dX _ rfl ty rfl c6.Wi (tk (cu (λhs=>?_) λhs=>?_))))
  ·cases g with
   | skip r p h1 h2 h3=>
    have hz:H z=a_ (.ins (eA t "skip") dz (gJ (.ref a) "skip" ([r,p].map λ(n:Nat)=>V.int (n:Int)))):=hz;rw[Kd,aeW]at hz;have hg:rg[r]?=a_ (rg[r]'wg):=aO wg;have eg:rg.getD r 0=rg[r]'wg:=jX hg;refine vr rfl (vF rfl hz O.st.vV O.st.VB (E4 dk) (rL (av.of jM) (jE hg) ⟨rfl,⟨_,rfl,cu (λh0=>?_) λh0=>?_⟩⟩))
    ·have e:jC ("skip",[r,p]) rg pl=p:=by
      unfold jC;rw[if_pos ⟨rfl,by show rg.getD r 0=0;rw[eg];injection h0⟩];rfl
     rw[e]at q;exact vF rfl hz O.st.vV O.st.LD LJ q
    ·have e:jC ("skip",[r,p]) rg pl=pl+1:=by
      unfold jC;rw[if_neg λh=>h0 (by have:=h.2;rw[<-show rg.getD r 0=rg[r]'wg from eg];show V.int (rg.getD r 0)=_;rw[show rg.getD r 0=0 from this])]
     rw[e]at q;exact au _ rfl ⟨_,⟨_,rfl,rfl,q⟩⟩
   | put=>exact absurd (show ("put" : Str) = "skip" from hs) dk
   | add=>exact absurd (show ("add" : Str) = "skip" from hs) dk
   | set=>exact absurd (show ("set" : Str) = "skip" from hs) dk
   | look=>exact absurd (show ("look" : Str) = "skip" from hs) dk
   | swap=>exact absurd (show ("swap" : Str) = "skip" from hs) dk
   | clear=>exact absurd (show ("clear" : Str) = "skip" from hs) dk
  ·have e:jC s rg pl=pl+1:=by
    unfold jC;rw[if_neg λh=>hs h.1]
   rw[e]at q;exact au _ rfl ⟨_,⟨_,rfl,rfl,q⟩⟩
end
end TL
namespace L2
theorem fJ.W9{X:Cx}{ss:List Stmt}{t t':TS}(h:fJ X ss t)(hi:∀D σ H,t' D σ H->t D σ H):fJ X ss t':=λp_ s σ H D I q=>h p_ s σ H D I (hi D σ H q)
end L2
namespace TL
open PySem.SeqAt L2 L3 L4
variable{P:l_}{w:k_}{K:u_}{mg:Str->Option f_}{base:j_}
theorem TC(a:e_)(r n:Nat):gJ (.ref a) "look" ([r,n].map λ(n:Nat)=>V.int (n:Int))=aQ "name" (.int (n:Nat)) (aQ "reg" (.int (r:Nat)) (aQ "parts" (.ref a) [])):=by kernel_rfl
theorem aeV(a:e_)(r n:Nat):gJ (.ref a) "swap" ([r,n].map λ(n:Nat)=>V.int (n:Int))=aQ "name" (.int (n:Nat)) (aQ "reg" (.int (r:Nat)) (aQ "parts" (.ref a) [])):=by kernel_rfl
theorem zQ(n r:Nat)(a:e_):(aQ "name" (.int (n:Nat)) (aQ "reg" (.int (r:Nat)) (aQ "parts" (.ref a) []))).lookup ("name" : Str)=a_ (V.int (n:Nat)):=by rw[gd,if_pos rfl]
theorem LK(n r:Nat)(a:e_):(aQ "name" (.int (n:Nat)) (aQ "reg" (.int (r:Nat)) (aQ "parts" (.ref a) []))).lookup ("reg" : Str)=a_ (V.int (r:Nat)):=by rw[gd,if_neg dk,gd,if_pos rfl]
section
variable{t:a9}{C CT:e_}{u:oX}
def S7(t:a9)(C CT:e_):Sp:=λvs H Q _=>∃m A S c k z dz a r n lab,vs=[.ref m,.int (c:Nat),.ref z]/\bb t C CT H m A S/\km lab m A/\i0 S/\S.ck[c]?=a_ k/\H z=a_ (.ins t.lJ dz (gJ (.ref a) "look" ([r,n].map λ(n:Nat)=>V.int (n:Int))))/\r<4/\n<12/\
 ∀H',bb t C CT H' m A (pS S c r n)->aZ (c9 m A) H H'->KL H H'->Q .aG H'
theorem JS:bp ["self","clerk","step","setting"] zLe (aW Kz):=bJ
theorem ac4(F:aY K "do_look" "Machine.do_look" Kz f fd)(cM:gm K C)(cT:mz K CT)(ST:ui K mg t)
  (GL:ay P w K mg base aB 1 fL Dq zLc (S3 CT)) (bL:Binds K Dq zLc []) (mL:Meth K CT "latest" fL)
  (GB:ay P w K mg base aB 1 fB kX zLc (Jq t C CT)) (bB:Binds K kX zLc []) (mB:Meth K C "on_board" fB):ay P w K mg base aB 2 f fd zLe (S7 t C CT):=by
 refine F.ok JS λaM A _ s H vs Q E hr h=>?_
 ·refine qC h λm A S c k z dz a r n aa=>Lz aa λlab aa M L W ba=>?_;subst aa;obtain⟨hk,hz,qj,hn,q⟩:=ba;refine let R1:TS:=_;let R2:TS:=_;let R3:TS:=_;let R4:TS:=_;⟨_,aE (cU (i:=3) JS.nd rfl (aX rfl) (iW (aT cY (bz (pv 0) rfl) (pv 1)) cT.cl mL GL hr bL .nil a7 (ae (bz (pv 2) rfl) af))) (pR R4 (aE (cC (cb Ly (pv 3) nB (bQ _)) (pR R1 (aF (cU (i:=3) JS.nd rfl (aX rfl) (iW (pv 0) cM.cl mB GB hr bB .nil a7 (ae (bz (pv 2) rfl) af))))) cO) (fJ.W9 (t':=λD σ H1=>∃st x,σ=[a_ (.ref m),a_ (.int (c:Nat)),a_ (.ref z),a_ (.ref st)]/\H1 st=a_ (.tup [x,.int (du S k n).1,oV (du S k n).2])/\ak H H1/\∀σ' H',bb t C CT H' m A (pS S c r n)->aZ (c9 m A) H H'->KL H H'->D.nx σ' H') (pR R3 (aE (dE (ke m_ n_ o_ pI (bz (pv 0) rfl) (ae (hV (ae di (ae (pv 1) (ae (bz (pv 2) rfl) (ae (aT de (pv 3) aA) (ae nB (ae (aT de (pv 3) aA) af))))))) af))) (pR R2 (aF (zX (aT de (pv 3) aA) (zY (aT cY (bz (pv 0) rfl) (pv 1)) (bz (pv 2) rfl) set_list)))))) ?tl))),?_⟩
  case tl=>
   rintro D σ H1 ⟨st,x,rfl,dh,s1,q⟩;rw[TC]at hz;have M1:=M.same s1;refine bX (id M1.obj) λdx fs hm G=>aw M1.ac λws dR k8=>?_;have eL:=s1 _ _ hz;refine vF rfl hm cM.cl cM.i8 G.i8 ⟨.inl ⟨rfl,_,av.of dR⟩,au _ rfl (vF rfl eL ST.uf ST.E3 (zQ n r a) (iA (j:=1) rfl dh rfl (iA (j:=2) rfl dh rfl ⟨(sl (n:=6)),(λtp ht=>?_)⟩)))⟩;have s2:=aN (o:=.tup [.str "look",.int (c:Nat),.int (n:Nat),.int (du S k n).1,.aG,oV (du S k n).2]) (ak.refl H1) ht;have og:=r_ k8;have XQ:=W.ac;refine kI A.ac ws (.ref tp) rfl rfl (s2 _ _ dR) (by rw[og,gG];exact wb) ?_;have M2:=Mb (M1.same s2) L (s2 _ _ dR) (x:=.ref tp) (a:=⟨"look",c,n,a_ (du S k n).1,b_,(du S k n).2⟩) ⟨tp,rfl,ax⟩;have tj:aZ (c9 m A) H (upd (upd H1 tp (.tup [.str "look",.int (c:Nat),.int (n:Nat),.int (du S k n).1,.aG,oV (du S k n).2])) A.ac (.lst (ws++[.ref tp]))):=(aZ.of s1).trans ((aZ.of s2).trans (aZ.upd .ac));have l2:KL H1 (upd (upd H1 tp (.tup [.str "look",.int (c:Nat),.int (n:Nat),.int (du S k n).1,.aG,oV (du S k n).2])) A.ac (.lst (ws++[.ref tp]))):=(KL.of s2).trans (KL.upd (s2 _ _ dR));have o7:=l2 _ _ (λxs z=>by cases z) eL;have Am:=l2.tup _ _ dh;generalize upd (upd H1 tp (.tup [.str "look",.int (c:Nat),.int (n:Nat),.int (du S k n).1,.aG,oV (du S k n).2])) A.ac (.lst (ws++[.ref tp]))=H2 at M2 tj l2 o7 Am ⊢;refine bX (id M2.obj) λyS rh lV G3=>aw (M2.fX (k:=k) hk) λra jM gF=>?_;have dI:=W.rg k (b9 hk);refine iA (j:=1) rfl Am rfl (vF rfl lV cM.cl cM.fX G3.fX (vr rfl (rL (v:=.ref ra) (av.of M2.rg) (jE jM) (vF rfl o7 ST.uf ST.VC (LK n r a) (⟨ra,_,_,r,rfl,rfl,gF,(xY (by rw[aP,dI];exact qj)),?_⟩)))));have M3:=Fc M2 L (k:=k) hk jM r (du S k n).1;refine q _ _ ?_ (tj.trans (aZ.upd (.rs (b9 jM)))) ((KL.of s1).trans (l2.trans (KL.upd gF)))
   have e:pS S c r n={ (iK S ⟨"look",c,n,a_ (du S k n).1,b_,(du S k n).2⟩)with ck:=S.ck.set c { k with rg:=k.rg.set r (du S k n).1 } }:=by
    unfold pS;rw[hk];dsimp only;unfold iJ;rw[show (iK S ⟨"look",c,n,a_ (du S k n).1,b_,(du S k n).2⟩).ck[c]?=a_ k from hk];rfl
   rw[e];exact M3
  refine bX (id M.obj) λdx fs hm G=>aw (M.we hk) λx hx T=>eP (id T.obj) λvi rO ea e1 e2 e3 em el=>?_;have alS:=W.bounds hk;have tm:=hz;rw[TC]at tm;refine vF rfl hm cM.cl cM.iw G.iw (vr rfl (rL (v:=.ref x.1) (av.of M.lt) (Bq hx) (rM ea (em _ dk) (vF rfl tm ST.uf ST.E3 (zQ n r a) (⟨x.1,n,_,_,_,_,(⟨_,rfl,T,li,li,w4,(λky=>?_),(λe st he dh=>?_)⟩)⟩)))))
  ·rw[lC]at ky;refine au _ rfl ⟨rfl,⟨_,rfl,cu (λ_=>?_) λy=>absurd rfl y⟩⟩;refine vM rfl hm (G.ms _ dk) (vF rfl tm ST.uf ST.E3 (zQ n r a) (md m A S n rfl M hn W.bd W.ov λtp ht=>?_));have es:du S k n=(S.bd.getD n 0,(S.ov.getD n []).getLast?):=by unfold du;rw[ky]
   refine oC tp (.int (n:Nat)) rfl ?_ (aN (ak.refl H) ht) λσ' H' h1 h2 h3=>q H' h1 h2 h3;rw[ax,es];rfl
  ·rw[lC]at he;refine au _ rfl ⟨rfl,⟨_,rfl,cu (λy=>by cases y) λ_=>?_⟩⟩;have es:du S k n=(e.num,a_ e.d):=by unfold du;rw[he]
   exact oC st (.int e.n) rfl (by rw[es];exact dh) (ak.refl H) λσ' H' h1 h2 h3=>q H' h1 h2 h3
def S5(t:a9)(C CT:e_):Sp:=λvs H Q _=>∃m A S c k z dz a r n lab,vs=[.ref m,.int (c:Nat),.ref z]/\bb t C CT H m A S/\km lab m A/\i0 S/\AB S/\S.ck[c]?=a_ k/\H z=a_ (.ins t.lH dz (gJ (.ref a) "swap" ([r,n].map λ(n:Nat)=>V.int (n:Int))))/\r<4/\n<12/\
 ∀H',bb t C CT H' m A (qR S c r n)->aZ (c9 m A) H H'->KL H H'->Q .aG H'
theorem JQ:bp ["self","clerk","step","gave","setting"] zLe (aW Kx):=bJ
theorem acZ(F:aY K "do_swap" "Machine.do_swap" Kx f fd)(cM:gm K C)(ST:ui K mg t)(dQ:mg "len" = b_)
  (GB:ay P w K mg base aB 1 fB kX zLc (Jq t C CT)) (bB:Binds K kX zLc []) (mB:Meth K C "on_board" fB)
  (GC:ay P w K mg base aB 1 fC pk zLr (Le t C CT)) (bC:Binds K pk zLr []) (mC:Meth K C "come" fC):ay P w K mg base aB 2 f fd zLe (S5 t C CT):=by
 refine F.ok JQ λaM A _ s H vs Q E hr h=>?_
 ·refine qC h λm A S c k z dz a r n aa=>Lz aa λlab aa M L W ba=>?_;subst aa;refine qM ba λng hk hz qj hn q=>?_;refine let R1:TS:=_;let R2:TS:=_;let R3:TS:=_;let R4:TS:=_;⟨_,aE (cU (i:=3) JQ.nd rfl (aX rfl) (aT cY (aT cY (bz (pv 0) rfl) (pv 1)) (bz (pv 2) rfl))) (pR R4 (aE (cU (i:=4) JQ.nd rfl (aX rfl) (iW (pv 0) cM.cl mB GB hr bB .nil a7 (ae (bz (pv 2) rfl) af))) (pR R3 (aE (dE (iW (pv 0) cM.cl mC GC hr bC .nil a7 (ae (hV (ae (bz (pv 2) rfl) (ae (pv 3) (ae (bG fj rfl dQ q_ (ae (bz (pv 0) rfl) af)) af)))) af))) (pR R2 (aE (dE (ke m_ n_ o_ pI (bz (pv 0) rfl) (ae (hV (ae di (ae (pv 1) (ae (bz (pv 2) rfl) (ae (aT de (pv 4) aA) (ae (pv 3) (ae (aT de (pv 4) aA) af))))))) af))) (pR R1 (aF (zX (aT de (pv 4) aA) (zY (aT cY (bz (pv 0) rfl) (pv 1)) (bz (pv 2) rfl) set_list)))))))))),?_⟩
  rw[aeV]at hz;refine bX (id M.obj) λdx fs hm G=>aw (M.fX hk) λra jM gF=>?_;have dI:=W.rg k (b9 hk);have hg:k.rg[r]?=a_ (k.rg[r]'wg):=aO wg;have eg:k.rg.getD r 0=k.rg[r]'wg:=jX hg;refine vF rfl hm cM.cl cM.fX G.fX (vr rfl (rL (v:=.ref ra) (av.of M.rg) (jE jM) (vF rfl hz ST.sC ST.LF (LK n r a) (rL (av.of gF) (jE hg) ?_))));generalize k.rg[r]'wg=g at eg;refine vM rfl hm (G.ms _ dk) (vF rfl hz ST.sC ST.E2 (zQ n r a) (md m A S n rfl M hn W.bd W.ov λst alu=>?_));have s1:=aN (o:=.tup (BY S n)) (ak.refl H) alu;have dh:upd H st (.tup (BY S n)) st=a_ (.tup [.int (n:Nat),.int (S.bd.getD n 0),oV (S.ov.getD n []).getLast?]):=ax;have M1:=M.same s1;generalize upd H st (.tup (BY S n))=H1 at s1 dh M1 ⊢;refine aw M1.ac λws dR k8=>?_;have og:=r_ k8;have XQ:=W.ac;refine vM rfl (s1 _ _ hm) (G.ms _ dk) (vF rfl (s1 _ _ hz) ST.sC ST.E2 (zQ n r a) (vr rfl (vF rfl (s1 _ _ hm) cM.cl cM.i8 G.i8 (oC A.ac ws rfl (.inl (av.of dR)) (sl (n:=3)) λtp ht=>?_))));have s2:=aN (o:=.tup [.int (n:Nat),.int g,.int (ws.length:Nat)]) (ak.refl H1) ht;refine⟨m,A,S,tp,n,g,(ws.length:Nat),lab,rfl,(M1.same s2),L,ax,hn,W.bd,(dj W.ov ng λH2 M2 k2 l2=>?_)⟩;have OI:=(KL.of s2).trans l2;have o7:=OI _ _ (λxs z=>by cases z) (s1 _ _ hz);have Am:=OI.tup _ _ dh;refine bX (id M2.obj) λyS rh lV G3=>aw M2.ac λCF Ge kN=>?_;have aln:CF.length=S.ac.length:=r_ kN;refine au _ rfl (dZ m C yS rh (⟨_,rfl,lV,cM.cl,cM.i8,G3.i8,(.inl ⟨rfl,_,av.of Ge⟩),(au _ rfl (vF rfl o7 ST.sC ST.E2 (zQ n r a) (iA (j:=1) rfl Am rfl (vr rfl (iA (j:=2) rfl Am rfl ⟨(sl (n:=6)),(λtq hq=>?_)⟩)))))⟩));have s3:=aN (o:=.tup [.str "swap",.int (c:Nat),.int (n:Nat),.int (S.bd.getD n 0),.int g,oV (S.ov.getD n []).getLast?]) (ak.refl H2) hq;refine kI A.ac CF (.ref tq) rfl rfl (s3 _ _ Ge) (by rw[aln,gG];exact wb) ?_;have M3:=Mb (M2.same s3) L (s3 _ _ Ge) (x:=.ref tq) (a:=⟨"swap",c,n,a_ (S.bd.getD n 0),a_ g,(S.ov.getD n []).getLast?⟩) ⟨tq,rfl,ax⟩;have Zh:aZ (c9 m A) H (upd (upd H2 tq (.tup [.str "swap",.int (c:Nat),.int (n:Nat),.int (S.bd.getD n 0),.int g,oV (S.ov.getD n []).getLast?])) A.ac (.lst (CF++[.ref tq]))):=((aZ.of s1).trans ((aZ.of s2).trans k2)).trans ((aZ.of s3).trans (aZ.upd .ac));have l3:KL H2 (upd (upd H2 tq (.tup [.str "swap",.int (c:Nat),.int (n:Nat),.int (S.bd.getD n 0),.int g,oV (S.ov.getD n []).getLast?])) A.ac (.lst (CF++[.ref tq]))):=(KL.of s3).trans (KL.upd (s3 _ _ Ge));have Hs:=l3 _ _ (λxs z=>by cases z) o7;have XB:=l3.tup _ _ Am;generalize upd (upd H2 tq (.tup [.str "swap",.int (c:Nat),.int (n:Nat),.int (S.bd.getD n 0),.int g,oV (S.ov.getD n []).getLast?])) A.ac (.lst (CF++[.ref tq]))=H3 at M3 Zh l3 Hs XB ⊢;refine bX (id M3.obj) λdx4 Z3 AO G4=>aw (M3.fX (k:=k) hk) λYH NH XD=>iA (j:=1) rfl XB rfl (vF rfl AO cM.cl cM.fX G4.fX (vr rfl (rL (v:=.ref YH) (av.of M3.rg) (jE NH) (vF rfl Hs ST.sC ST.LF (LK n r a) (⟨YH,_,_,r,rfl,rfl,XD,(xY (by rw[aP,dI];exact qj)),?_⟩)))));have M4:=Fc M3 L (k:=k) hk NH r (S.bd.getD n 0);refine q _ ?_ (Zh.trans (aZ.upd (.rs (b9 NH)))) ((KL.of s1).trans (OI.trans (l3.trans (KL.upd XD))))
  have e:qR S c r n={ (iK (qK S n g (ws.length:Nat)) ⟨"swap",c,n,a_ (S.bd.getD n 0),a_ g,(S.ov.getD n []).getLast?⟩)with ck:=S.ck.set c { k with rg:=k.rg.set r (S.bd.getD n 0) } }:=by
   unfold qR;rw[hk];dsimp only;rw[eg,og];unfold iJ;rw[show (iK (qK S n g (S.ac.length:Nat)) ⟨"swap",c,n,a_ (S.bd.getD n 0),a_ g,(S.ov.getD n []).getLast?⟩).ck[c]?=a_ k from hk];rfl
  rw[e];exact M4
end
section
variable{S:Mc}{c:Nat}{k:Ck}
structure Xm(S S':Mc)(c:Nat)(k k':Ck):Prop where
 at':S'.ck[c]?=a_ k'
 pl:k'.pl=k.pl
 ct:k'.ct=k.ct
 rg:k'.rg.length=k.rg.length
theorem EG{r:Nat}{v:Int}(hk:S.ck[c]?=a_ k):Xm S (iJ S c r v) c k { k with rg:=k.rg.set r v }:=by
 have e:iJ S c r v={ S with ck:=S.ck.set c { k with rg:=k.rg.set r v } }:=by unfold iJ;rw[hk]
 rw[e];exact⟨lu (dy.mp hk).1,rfl,rfl,pD⟩
theorem ahX{sz:Nat}(g:fU sz s)(hk:S.ck[c]?=a_ k):∃k',Xm S (cV S c s) c k k':=by
 have hc:c<S.ck.length:=(dy.mp hk).1;cases g with
 | put r n h1 h2=>exact⟨_,EG hk⟩
 | add r o h1 h2=>
  have e:cV S c ("add",[r,o])=iJ S c r ((k.rg.getD r 0+k.rg.getD o 0)%mZ):=by
   unfold cV;rw[if_neg (show ¬("add" : Str) = "put" from dk),if_pos rfl,hk];rfl
  rw[e];exact⟨_,EG hk⟩
 | set n r h1 h2=>
  have e:cV S c ("set",[n,r])=setM S c n r:=by kernel_rfl
  rw[e];unfold setM;rw[hk];dsimp only
  split
  ·unfold ji;rw[show (iK (ye S c n k (k.rg.getD r 0)) ⟨"set",c,n,b_,a_ (k.rg.getD r 0),b_⟩).ck[c]?=a_ { k with tn:=k.tn+1,es:=k.es++[⟨k.tn,n,k.rg.getD r 0,S.ac.length⟩] } from lu hc];dsimp only
   split
   ·exact⟨_,⟨lu hc,rfl,rfl,rfl⟩⟩
   ·exact⟨{ k with tn:=k.tn+1,es:=jk (k.es++[⟨k.tn,n,k.rg.getD r 0,S.ac.length⟩]) n },⟨lu (by show c<(S.ck.set c _).length;rw[pD];exact hc),rfl,rfl,rfl⟩⟩
  ·exact⟨_,⟨lu hc,rfl,rfl,rfl⟩⟩
 | look r n h1 h2=>
  have e:cV S c ("look",[r,n])=iJ (iK S ⟨"look",c,n,a_ (du S k n).1,b_,(du S k n).2⟩) c r (du S k n).1:=by
   unfold cV;rw[if_neg (show ¬("look" : Str) = "put" from dk),if_neg (show ¬("look" : Str) = "add" from dk),if_neg (show ¬("look" : Str) = "set" from dk),if_pos rfl];show pS S c r n=_;unfold pS;rw[hk]
  rw[e];have r:=EG (S:=iK S ⟨"look",c,n,a_ (du S k n).1,b_,(du S k n).2⟩) (r:=r) (v:=(du S k n).1) hk;exact⟨_,⟨r.at',r.pl,r.ct,r.rg⟩⟩
 | swap r n h1 h2=>
  have e:cV S c ("swap",[r,n])=iJ (iK (qK S n (k.rg.getD r 0) S.ac.length) ⟨"swap",c,n,a_ (S.bd.getD n 0),a_ (k.rg.getD r 0),(S.ov.getD n []).getLast?⟩) c r (S.bd.getD n 0):=by
   unfold cV;rw[if_neg (show ¬("swap" : Str) = "put" from dk),if_neg (show ¬("swap" : Str) = "add" from dk),if_neg (show ¬("swap" : Str) = "set" from dk),if_neg (show ¬("swap" : Str) = "look" from dk),if_pos rfl];show qR S c r n=_;unfold qR;rw[hk]
  rw[e];have r:=EG (S:=iK (qK S n (k.rg.getD r 0) S.ac.length) ⟨"swap",c,n,a_ (S.bd.getD n 0),a_ (k.rg.getD r 0),(S.ov.getD n []).getLast?⟩) (r:=r) (v:=(S.bd.getD n 0)) hk;exact⟨_,⟨r.at',r.pl,r.ct,r.rg⟩⟩
 | clear=>
  have e:cV S c ("clear",[])=S:=by kernel_rfl
  rw[e];exact⟨k,⟨hk,rfl,rfl,rfl⟩⟩
 | skip r q h1 h2 h3=>
  have e:cV S c ("skip",[r,q])=S:=by kernel_rfl
  rw[e];exact⟨k,⟨hk,rfl,rfl,rfl⟩⟩
end
section
variable{t:a9}{C CT:e_}{u:oX}
def S6(t:a9)(C CT PT:e_):Sp:=λvs H Q _=>∃m A S c k p s sz lab,vs=[.ref m,.int (c:Nat)]/\bb t C CT H m A S/\km lab m A/\i0 S/\AB S/\dg PT LP LQ H/\S.ck[c]?=a_ k/\S.ps[c]?=a_ p/\p[k.pl]?=a_ s/\fU sz s/\
 ∀H',bb t C CT H' m A (rm S c)->aZ (c9 m A) H H'->dg PT LP LQ H'->Q .aG H'
theorem JR:bp ["self","clerk","step","regs"] zLb (aW Ky):=bJ
theorem Ls{c r:Nat}{v:Int}(hk:S.ck[c]?=a_ k):iJ S c r v={ S with ck:=S.ck.set c { k with rg:=k.rg.set r v } }:=by unfold iJ;rw[hk]
theorem ac0{f fP fS fL fW PT:e_}(F:aY K "do_step" "Machine.do_step" Ky f fd)(cM:gm K C)(O:yf K mg t u)
  (GP:ay P w K mg base aB 1 fP Pw zLn (QI t)) (kP:x_ K (.ref fP)=c_) (bP:Binds K Pw zLn []) (mP:mg "place_behind" = a_ (.ref fP))
  (GS:ay P w K mg base aB 5 fS kU zLe (Ug t C CT PT)) (bS:Binds K kU zLe []) (mS:Meth K C "do_set" fS)
  (GL:ay P w K mg base aB 2 fL Dq zLe (S7 t C CT)) (bL:Binds K Dq zLe []) (mL:Meth K C "do_look" fL)
  (GW:ay P w K mg base aB 2 fW kr zLe (S5 t C CT)) (bW:Binds K kr zLe []) (mW:Meth K C "do_swap" fW):ay P w K mg base aB 6 f fd zLb (S6 t C CT PT):=by
 refine aw O.st.cn.top λuT mT rT=>F.ok JR λaM A _ s H vs Q E hr h=>?_
 ·refine jh h λm A S c k aa=>nC aa λp st sz lab aa ba=>?_;subst aa;refine qM ba λM L W ng hL aa=>xX aa λhk hp hs g q=>?_;have oh:=hr.mono (show 1<=5 by decide);have jr:=hr.mono (show 2<=5 by decide);refine aw (M.fX hk) λra jM gF=>?_;have dI:=W.rg k (b9 hk);refine iY (M.part hp) λvs b us h1 h2 aa=>oA aa λh3 h4=>aw (vy h4 hs) λv hv aa=>pQ aa λz a dz aa hz=>?_;subst aa;have alB:=M.afn hz
  have HE:rm S c=sQ (cV S c st) c st:=by
   unfold rm;rw[hk,hp];dsimp only;rw[hs]
  refine let R1:TS:=_;let R2:TS:=_;let R3:TS:=_;let R4:TS:=_;let R5:TS:=_;let R6:TS:=_;let R7:TS:=_;let R8:TS:=_;let R9:TS:=_;let jc:TS:=_;let tJ:TS:=_;let yV:TS:=_;let yU:TS:=_;⟨_,aE (cU (i:=2) JR.nd rfl (aX rfl) (aT de (aT de (bz (pv 0) rfl) (pv 1)) (aT cY (bz (pv 0) rfl) (pv 1)))) (pR yU (aE (cU (i:=3) JR.nd rfl (aX rfl) (aT cY (bz (pv 0) rfl) (pv 1))) (pR yV (aE (cC (gH (bG jy rfl O.st.bl.jI iU (ae (pv 2) (ae (fQ (v:=.ref t.mQ) rfl O.st.Wv rfl) af)))) (pR R1 (aF (zX (bz (pv 2) rfl) (zY (pv 3) (bz (pv 2) rfl) set_list)))) (pR R9 (aF (cC (gH (bG jy rfl O.st.bl.jI iU (ae (pv 2) (ae (fQ (v:=.ref t.mU) rfl O.st.Ww rfl) af)))) (pR R2 (aF (zX (bh iI (bh iX (aT cY (pv 3) (bz (pv 2) rfl)) (aT cY (pv 3) (bz (pv 2) rfl))) (fQ rfl mT rT)) (zY (pv 3) (bz (pv 2) rfl) set_list)))) (pR R8 (aF (cC (gH (bG jy rfl O.st.bl.jI iU (ae (pv 2) (ae (fQ (v:=.ref t.kM) rfl O.st.Wu rfl) af)))) (pR R3 (aF (dE (iW (pv 0) cM.cl mS GS hr bS .nil a7 (ae (pv 1) (ae (pv 2) af)))))) (pR R7 (aF (cC (gH (bG jy rfl O.st.bl.jI iU (ae (pv 2) (ae (fQ (v:=.ref t.lJ) rfl O.st.VG rfl) af)))) (pR R4 (aF (dE (iW (pv 0) cM.cl mL GL jr bL .nil a7 (ae (pv 1) (ae (pv 2) af)))))) (pR R6 (aF (cC (gH (bG jy rfl O.st.bl.jI iU (ae (pv 2) (ae (fQ (v:=.ref t.lH) rfl O.st.VF rfl) af)))) (pR R5 (aF (dE (iW (pv 0) cM.cl mW GW jr bW .nil a7 (ae (pv 1) (ae (pv 2) af))))))
         cO)))))))))))))
   (fJ.W9 (t':=λD σ H1=>σ=[a_ (.ref m),a_ (.int (c:Nat)),a_ (.ref z),a_ (.ref ra)]/\bb t C CT H1 m A (cV S c st)/\aZ (c9 m A) H H1/\dg PT LP LQ H1/\∀σ' H',bb t C CT H' m A (rm S c)->aZ (c9 m A) H H'->dg PT LP LQ H'->D.nx σ' H') (pR tJ (aE (zX (dN GP oh rfl mP kP bP .nil a7 (ae (pv 2) (ae (aT cY (bz (pv 0) rfl) (pv 1)) (ae (pv 3) af)))) (zY (bz (pv 0) rfl) (pv 1) set_list)) (pR jc (aF (afK (bz (pv 0) rfl) (pv 1) aeN aA ahE set_list))))) ?tl))))),?_⟩
  case tl=>
   rintro D σ H1 ⟨rfl,M1,k1,rK,q⟩;refine oE (ahX g hk) λk' ef=>bX (id M1.obj) λdx fs hm G=>?_;have eL:=k1.k z _ alB (λps y=>by cases y) hz;refine aw (M1.fX ef.at') λYI XE alx=>?_;have era:YI=ra:=by rw[jM]at XE;exact(dr XE).symm
   subst era;have hc:c<(cV S c st).ck.length:=(dy.mp ef.at').1;refine vr rfl (vF rfl hm cM.cl cM.places G.places (vr rfl (rL (av.of M1.pl) (jE (f:=λk:Ck=>V.int (k.pl:Nat)) ef.at') (vr rfl (⟨z,a,dz,st,sz,YI,k'.rg,k'.pl,rfl,eL,g,alx,(by rw[ef.rg];exact dI),(vF rfl hm cM.cl cM.places G.places (vr rfl (⟨A.pl,_,_,c,rfl,rfl,M1.pl,(xY (by rw[aP];exact hc)),?_⟩)))⟩)))));have M2:=aix M1 L ef.at' (jC st k'.rg k'.pl);have k2:aZ (c9 m A) H1 (upd H1 A.pl (.lst (((cV S c st).ck.map λk=>V.int (k.pl:Nat)).set c (.int (jC st k'.rg k'.pl:Nat))))):=aZ.upd .pl;have l2:KL H1 (upd H1 A.pl (.lst (((cV S c st).ck.map λk=>V.int (k.pl:Nat)).set c (.int (jC st k'.rg k'.pl:Nat))))):=KL.upd M1.pl;generalize upd H1 A.pl (.lst (((cV S c st).ck.map λk=>V.int (k.pl:Nat)).set c (.int (jC st k'.rg k'.pl:Nat))))=H2 at M2 k2 l2 ⊢;refine bX (id M2.obj) λyS rh lV G3=>?_;have e2:((cV S c st).ck.set c { k' with pl:=jC st k'.rg k'.pl })[c]?=a_ { k' with pl:=jC st k'.rg k'.pl }:=lu hc;refine au _ rfl (dZ m C yS rh (kJ _ rfl lV cM.cl cM.counts G3.counts (vr rfl (⟨A.ct,_,c,(.int (k'.ct:Nat)),rfl,rfl,M2.ct,(by rw[dq,e2];rfl),⟨_,_,rfl,rfl,A.ct,_,_,c,rfl,rfl,M2.ct,xY (by rw[aP,pD];exact hc),?_⟩⟩))));have M3:=aiz M2 L e2 (k'.ct+1);refine q _ _ ?_ ((k1.trans k2).trans (aZ.upd .ct)) ((l2.trans (KL.upd M2.ct)).lam rK);rw[HE]
   have e:sQ (cV S c st) c st={ (cV S c st)with ck:=((cV S c st).ck.set c { k' with pl:=jC st k'.rg k'.pl }).set c { k' with pl:=jC st k'.rg k'.pl,ct:=k'.ct+1 } }:=by
    unfold sQ;rw[ef.at',DW]
   rw[e];exact M3
  refine bX (id M.obj) λdx fs hm G=>vF rfl hm cM.cl cM.steps G.steps (vr rfl (⟨A.st,_,_,(.ref b),rfl,rfl,(aJ.of h1),(cR h2),(vF rfl hm cM.cl cM.places G.places (vr rfl (rL (av.of M.pl) (jE (f:=λk:Ck=>V.int (k.pl:Nat)) hk) (⟨b,_,_,(.ref z),rfl,rfl,(aJ.of h3),(cR hv),(au _ rfl (dZ m C dx fs (kJ _ rfl hm cM.cl cM.fX G.fX (vr rfl (rL (v:=.ref ra) (av.of M.rg) (jE jM) (aw (LO O g hz) λD ty c6=>vr rfl (dZ _ (.ref t.mQ) _ (.ref t.mQ) (dX _ rfl ty rfl c6.akS (tk (cu (λh=>?_) λn1=>?_))))))))))⟩))))⟩))
  ·cases g with
   | put r n g1 g2=>
    have hz:H z=a_ (.ins (eA t "put") dz (gJ (.ref a) "put" ([r,n].map λ(n:Nat)=>V.int (n:Int)))):=hz;rw[KW,agt]at hz;refine vF rfl hz O.st.x6 O.st.Wq LJ (vr rfl (vF rfl hz O.st.x6 O.st.Ws (E4 dk) (⟨ra,_,_,r,rfl,rfl,gF,(xY (by rw[aP,dI];exact g1)),(⟨rfl,?_,(aZ.upd (.rs (b9 jM))),((KL.upd gF).lam hL),(λσ' H' h1 h2 h3=>q H' h1 h2 h3)⟩)⟩)));have e:cV S c ("put",[r,n])=iJ S c r (n:Nat):=rfl;rw[e,Ls hk];exact Fc M L hk jM r (n:Nat)
   | add=>exact absurd (show ("add" : Str) = "put" from h) dk
   | set=>exact absurd (show ("set" : Str) = "put" from h) dk
   | look=>exact absurd (show ("look" : Str) = "put" from h) dk
   | swap=>exact absurd (show ("swap" : Str) = "put" from h) dk
   | clear=>exact absurd (show ("clear" : Str) = "put" from h) dk
   | skip=>exact absurd (show ("skip" : Str) = "put" from h) dk
  refine vr rfl (dZ _ (.ref t.mU) _ (.ref t.mU) (dX _ rfl ty rfl c6.akT (tk (cu (λh=>?_) λn2=>?_))))
  ·cases g with
   | add r o g1 g2=>
    have hz:H z=a_ (.ins (eA t "add") dz (gJ (.ref a) "add" ([r,o].map λ(n:Nat)=>V.int (n:Int)))):=hz;rw[KY,agu]at hz;have ZK:k.rg[r]?=a_ (k.rg[r]'wg):=aO wg;have ZJ:k.rg[o]?=a_ (k.rg[o]'wg):=aO wg;have eg1:k.rg.getD r 0=k.rg[r]'wg:=jX ZK;have eg2:k.rg.getD o 0=k.rg[o]'wg:=jX ZJ;refine vr rfl (vF rfl hz O.st.v8 O.st.Mr (E4 dk) (rL (av.of gF) (jE ZK) (vr rfl (vF rfl hz O.st.v8 O.st.Wr LJ (rL (av.of gF) (jE ZJ) ⟨_,⟨_,rfl,rfl,_,_,rfl,rfl,by show (0:Int)<mZ;decide +kernel,vr rfl (vF rfl hz O.st.v8 O.st.Mr (E4 dk) (⟨ra,_,_,r,rfl,rfl,gF,(xY (by rw[aP,dI];exact g1)),(⟨rfl,?_,(aZ.upd (.rs (b9 jM))),((KL.upd gF).lam hL),(λσ' H' h1 h2 h3=>q H' h1 h2 h3)⟩)⟩))⟩⟩)))))
    have e:cV S c ("add",[r,o])=iJ S c r ((k.rg[r]'wg+k.rg[o]'wg)%mZ):=by
     unfold cV;rw[if_neg (show ¬("add" : Str) = "put" from dk),if_pos rfl,hk];show iJ S c r ((k.rg.getD r 0+k.rg.getD o 0)%mZ)=_;rw[eg1,eg2]
    rw[e,Ls hk];exact Fc M L hk jM r _
   | put=>exact absurd (show ("put" : Str) = "add" from h) dk
   | set=>exact absurd (show ("set" : Str) = "add" from h) dk
   | look=>exact absurd (show ("look" : Str) = "add" from h) dk
   | swap=>exact absurd (show ("swap" : Str) = "add" from h) dk
   | clear=>exact absurd (show ("clear" : Str) = "add" from h) dk
   | skip=>exact absurd (show ("skip" : Str) = "add" from h) dk
  refine vr rfl (dZ _ (.ref t.kM) _ (.ref t.kM) (dX _ rfl ty rfl c6.akR (tk (cu (λh=>?_) λn3=>?_))))
  ·cases g with
   | set n r g1 g2=>
    have hz:H z=a_ (.ins (eA t "set") dz (gJ (.ref a) "set" ([n,r].map λ(n:Nat)=>V.int (n:Int)))):=hz;rw[KU]at hz;refine vM rfl hm (G.ms _ dk) (vr rfl (vr rfl ⟨m,⟨A,S,c,k,z,dz,a,n,r,lab,rfl,M,L,W,ng,hL,hk,hz,g1,g2,λH1 M1 k1 rK=>⟨rfl,?_,k1,rK,(λσ' H' h1 h2 h3=>q H' h1 h2 h3)⟩⟩⟩));have e:cV S c ("set",[n,r])=setM S c n r:=by kernel_rfl
    rw[e];exact M1
   | put=>exact absurd (show ("put" : Str) = "set" from h) dk
   | add=>exact absurd (show ("add" : Str) = "set" from h) dk
   | look=>exact absurd (show ("look" : Str) = "set" from h) dk
   | swap=>exact absurd (show ("swap" : Str) = "set" from h) dk
   | clear=>exact absurd (show ("clear" : Str) = "set" from h) dk
   | skip=>exact absurd (show ("skip" : Str) = "set" from h) dk
  refine vr rfl (dZ _ (.ref t.lJ) _ (.ref t.lJ) (dX _ rfl ty rfl c6.aiV (tk (cu (λh=>?_) λn4=>?_))))
  ·cases g with
   | look r n g1 g2=>
    have hz:H z=a_ (.ins (eA t "look") dz (gJ (.ref a) "look" ([r,n].map λ(n:Nat)=>V.int (n:Int)))):=hz;rw[Ke]at hz;refine vM rfl hm (G.ms _ dk) (vr rfl (vr rfl ⟨m,⟨A,S,c,k,z,dz,a,r,n,lab,rfl,M,L,W,hk,hz,g1,g2,λH1 M1 k1 l1=>⟨rfl,?_,k1,(l1.lam hL),(λσ' H' h1 h2 h3=>q H' h1 h2 h3)⟩⟩⟩));have e:cV S c ("look",[r,n])=pS S c r n:=by kernel_rfl
    rw[e];exact M1
   | put=>exact absurd (show ("put" : Str) = "look" from h) dk
   | add=>exact absurd (show ("add" : Str) = "look" from h) dk
   | set=>exact absurd (show ("set" : Str) = "look" from h) dk
   | swap=>exact absurd (show ("swap" : Str) = "look" from h) dk
   | clear=>exact absurd (show ("clear" : Str) = "look" from h) dk
   | skip=>exact absurd (show ("skip" : Str) = "look" from h) dk
  refine vr rfl (dZ _ (.ref t.lH) _ (.ref t.lH) (dX _ rfl ty rfl c6.aiU (tk (cu (λh=>?_) λn5=>?_))))
  ·cases g with
   | swap r n g1 g2=>
    have hz:H z=a_ (.ins (eA t "swap") dz (gJ (.ref a) "swap" ([r,n].map λ(n:Nat)=>V.int (n:Int)))):=hz;rw[Kc]at hz;refine vM rfl hm (G.ms _ dk) (vr rfl (vr rfl ⟨m,⟨A,S,c,k,z,dz,a,r,n,lab,rfl,M,L,W,ng,hk,hz,g1,g2,λH1 M1 k1 l1=>⟨rfl,?_,k1,(l1.lam hL),(λσ' H' h1 h2 h3=>q H' h1 h2 h3)⟩⟩⟩));have e:cV S c ("swap",[r,n])=qR S c r n:=by kernel_rfl
    rw[e];exact M1
   | put=>exact absurd (show ("put" : Str) = "swap" from h) dk
   | add=>exact absurd (show ("add" : Str) = "swap" from h) dk
   | set=>exact absurd (show ("set" : Str) = "swap" from h) dk
   | look=>exact absurd (show ("look" : Str) = "swap" from h) dk
   | clear=>exact absurd (show ("clear" : Str) = "swap" from h) dk
   | skip=>exact absurd (show ("skip" : Str) = "swap" from h) dk
  have e:cV S c st=S:=by
   unfold cV;rw[if_neg n1,if_neg n2,if_neg n3,if_neg n4,if_neg n5]
  exact⟨rfl,(by rw[e];exact M),(aZ.refl H),hL,(λσ' H' h1 h2 h3=>q H' h1 h2 h3)⟩
end
def B8:List V->Bool
 | .str _::r=>r.all q9
 | _=>d_
theorem Tu:∀{r:List V},r.all q9=c_->∃is:List Int,r=is.map V.int
 | [],_=>⟨[],rfl⟩
 | x::r,h=>by
  rw[zk,jR]at h;refine oE (Tu h.2) λis aa=>?_;subst aa;cases x with
  | int i=>exact⟨i::is,rfl⟩
  | _=>cases h.1
theorem U6:∀is:List Int,(is.map V.int).all q9=c_
 | []=>rfl
 | i::is=>by rw[fh,zk,U6 is];rfl
theorem agr(h:B8 xs=c_):∃mv,xs=nU mv:=by
 cases xs with
 | nil=>cases h
 | cons x r=>
  cases x with
  | str x=>
   refine oE (Tu (show r.all q9=c_ from h)) λis aa=>?_;subst aa;exact⟨(x,is),rfl⟩
  | _=>cases h
theorem aga(mv:Mv):B8 (nU mv)=true:=U6 mv.2
theorem BH(h:nU a=nU b):a=b:=by
 obtain⟨x,is⟩:=a;obtain⟨y,js⟩:=b;unfold nU at h;injection h with h1 h2
 injection h1 with h1
 have e:∀(is js:List Int),is.map V.int=js.map V.int->is=js:=by
  intro is
  induction is with
  | nil=>intro js h;cases js with
   | nil=>rfl
   | cons _ _=>cases h
  | cons i is ih=>intro js h;cases js with
   | nil=>cases h
   | cons j js=>
    rw[fh,fh]at h;injection h with h1 h2
    injection h1 with h1
    rw[h1,ih js h2]
 rw[show x=y from h1,e is js h2]
def uD(mv:Mv):PyData:=.tuple (.str mv.1::mv.2.map D5)
theorem TJ:∀l m:List Int,Bi (l.map D5) (m.map D5)=decide (l=m)
 | [],[]=>by simp[Bi]
 | [],_::_=>by simp[Bi]
 | _::_,[]=>by simp[Bi]
 | a::l,b::m=>by
  rw[fh,fh];simp only[Bi,tY];rw[TJ l m]
  by_cases h1:a=b
  ·subst h1
   by_cases h2:l=m
   ·subst h2;simp
   ·simp[h2]
  ·simp[h1]
theorem ahR(a b:Mv):tY (uD a) (uD b)=decide (a=b):=by
 obtain⟨x,is⟩:=a;obtain⟨y,js⟩:=b;unfold uD;simp only[tY,Bi];rw[TJ]
 by_cases h1:x=y
 ·subst h1
  by_cases h2:is=js
  ·subst h2;simp
  ·simp[h2]
 ·simp[h1]
theorem aia(l:List Mv)(b:Mv):(l.map uD).any (λd=>tY d (uD b))=decide (b∈l):=by
 induction l with
 | nil=>simp
 | cons a l ih=>
  rw[fh,xE,ih,ahR]
  by_cases h:a=b
  ·subst h;simp
  ·have h':¬b=a:=λz=>h z.symm;simp[h,h']
theorem Sh(h:Bj mv.1=c_):shaped (uD mv)=true:=by
 unfold uD shaped;rw[jR];refine⟨?_,decide_eq_true ?_⟩
 ·simp only[Be,y0];rw[h,DS];exact Jk λa _=>rfl
 ·have h:=JC (f:=D5) (k:=1) (l:=mv.2) (λa _=>by simp[IW]);simp only[IW,DJ];lia
theorem RG{K:u_}:∀is:List Int,nJ K H (is.map V.int) (is.map D5)
 | []=>.nil
 | i::is=>.cons (.int i) (RG is)
theorem VE{K:u_}(h:H p=a_ (.tup (nU mv))):jo K H (.ref p) (uD mv):=.tup (aJ.of h) (.cons (.str mv.1) (RG mv.2))
section
variable{t:a9}{C CT:e_}{u:oX}
def Vk:Sp:=λvs H Q _=>∃p xs,vs=[.ref p]/\H p=a_ (.tup xs)/\(∀x∈xs,∃T,tyName H x=a_ T)/\xs.length<=1000/\∀H',ak H H'->Q (.bl (B8 xs)) H'
theorem agW:bp ["move"] ["move"] (aW Ml):=bJ
theorem aes:(["part"]:List Str).Nodup:=dk
theorem afZ(F:aY K "has_form_of_move" "has_form_of_move" Ml f fd)(T:ui K mg t):ay P w K mg base aB 2 f fd ["move"] Vk:=by
 have GW:ay P w K mg base aB 1 t.fW t.kr ["thing"] Kl:=Ti T.N6 T.bl;refine F.ok agW λaM A _ s H vs Q E hr h=>?_
 ·obtain⟨a,xs,aa,ha,pe,hl,k⟩:=h;subst aa;have B:=T.bl
  refine let R1:TS:=_;⟨_,aE (cC (PW.pt (pw_or (lG (gH (bG jy rfl B.jI iU (ae (pv 0) (ae (nA (v:=.ty "tuple") rfl B.tuple tX rfl) af))))) (pw_or (cb eJ (bG fj rfl B.len q_ (ae (pv 0) af)) aA (bQ _)) (pw_or1 (lG (gH (bG jy rfl B.jI iU (ae (aT de (pv 0) aA) (ae (nA (v:=.ty "str") rfl B.str boot_str rfl) af))))))))) (aF (bj sE)) cO) (pR R1 (aF (bj (bG (Eu rfl) rfl B.all boot_all (ae (jA (N:=["part"]) (idx:=[]) rfl (ee.of (by kernel_rfl)) (jU (bg _))
    (vQ (zH Lf (pv 0) (zL aA) zM))
    (λ_ _ _ _=>cG (i:=0) aes rfl (aX rfl) (.inr rfl))
    (λ_ _ _ _=>jW)
    λ_ _ _ _=>dN GW hr rfl T.mW T.N6.kp T.bW .nil a7 (ae (pv 0) af)) af))))),?_⟩
  have hT:=D2 ha;refine vr rfl (dZ _ _ _ _ (dX _ rfl (nR hT) rfl (nM hT qc) (au _ rfl (gC ?_))));cases xs with
  | nil=>
   refine vr rfl (dw a ([]) rfl (.inr (aJ.of ha)) ⟨rfl,⟨_,rfl,cu (λe=>?_) λn0=>absurd rfl n0⟩⟩);exact jG (k H (ak.refl H))
  | cons y ps=>
   refine vr rfl (dw a (y::ps) rfl (.inr (aJ.of ha)) ⟨rfl,⟨_,rfl,cu (λe=>?_) λn0=>?_⟩⟩)
   ·injection e with e
    exact absurd e (by simp only[iT];lia)
   refine oE (pe y f9) λTy hy=>iA (v:=y) (j:=0) rfl ha rfl (dZ _ _ _ _ (dX _ rfl (nR hy) rfl (nM hy qc) (au _ rfl (B7 (λh1=>?_) λh1=>?_))))
   ·have e:B8 (y::ps)=false:=by
     cases y with
     | str x=>exact absurd ((E5 hy).mpr ⟨x,rfl⟩) (by rw[h1];exact eI)
     | _=>rfl
    have q:=k H (ak.refl H);rw[e]at q;exact q
   refine oE ((E5 hy).mp h1) λx0 e0=>?_;subst e0;have k:∀H',ak H H'->Q (.bl (ps.all q9)) H':=k;refine au _ rfl (au 1 rfl ⟨a,⟨_,rfl,aJ.of ha,?_,λq hq=>?_⟩⟩)
   ·intro z;have z1:=z.1;rw[Ng]at z1;cases z1
   rw[Nw];have s2:ak H (upd H q (.tup ps)):=aN (ak.refl H) hq;have uW:upd H q (.tup ps) q=a_ (.tup ps):=ax;generalize upd H q (.tup ps)=H3 at s2 uW ⊢;have xb:ps.length<=1000:=by rw[iT]at hl;lia
   refine cD q rfl ⟨_,aJ.of uW⟩ (iH (n:=ps.length) (λi ys H'=>i<=ps.length/\H'=H3/\ys=(ps.take i).map λz=>V.bl (q9 z)) (eO (gz w0)) (dj (bg _) rfl rfl) ?_ ?_ ?_ ?_ ?_)
   ·rintro i ys H' ⟨_,_,e⟩;rw[e,aP,dS];exact xl
   ·rintro i ys H' hi ⟨_,rfl,_⟩;exact fq _ _ (aJ.of uW) (aO hi)
   ·rintro ys H' ⟨_,rfl,_⟩;exact au _ (aJ.of uW) (aI _)
   ·rintro i ys H' hi ⟨_,rfl,e⟩ z lh ⟨eH,eL⟩;subst eH;have hz:=eL _ (aJ.of uW);refine oE (pe z (eE _ (b9 hz))) λTx Pe=>?_;have NU:=QY s2 Pe;dsimp only[oK,kg];rw[if_pos rfl];refine vr rfl (⟨z,Tx,rfl,NU,hi,rfl,?_⟩);rw[qy,hz,gy,<-e];rfl
   ·rintro ys H' ⟨_,rfl,e⟩;refine⟨?_,λr ik=>?_⟩
    ·rw[e,aP,dS];have:=gz (n:=ps.length) w0;lia
    have ey:ys=(ps.map q9).map V.bl:=by
     rw[e,je (aI _),tT];rfl
    refine dw r (ps.map q9) rfl (av.of (by rw[ax,ey])) ?_;rw[Bm];exact k _ (aN s2 ik)
end
def jj(S:Mc)(mv:Mv):Mc:=if mv.1 = "do" then rm S (mv.2.getD 0 0).toNat else ji S (mv.2.getD 0 0).toNat (mv.2.getD 1 0).toNat
theorem zE(h:mv∈pL S):(∃c:Nat,mv=(("do" : Str),[(c:Int)])/\c<S.ck.length/\yc S c=c_)\/(∃(c:Nat) (k:Ck) (n:Int),mv=(("carry" : Str),[(c:Int),n])/\S.ck[c]?=a_ k/\n∈iq S.kd k.es):=by
 unfold pL at h;rcases dD.mp h with h | h
 ·left
  unfold wt at h;refine aw (jT.mp h) λc hc aa=>?_;subst aa;exact oA (pC.mp hc) λh1 h2=>cD c rfl (lZ.mp h1) h2
 ·right
  unfold jV wx at h;refine aw (qA.mp h) λaa hx hm=>?_;obtain⟨k,c⟩:=aa;unfold B9 at hm;refine aw (jT.mp hm) λn hn aa=>?_;subst aa;have hc:S.ck[c]?=a_ k:=PQ.mp hx;exact qP c k n rfl hc hn
theorem Ju(h:mv∈pL S):Bj mv.1=true:=by
 rcases zE h with ⟨c,rfl,_,_⟩ | ⟨c,k,n,rfl,_,_⟩
 ·show Bj "do" = c_;decide +kernel
 ·show Bj "carry" = c_;decide +kernel
theorem Eo{c:Nat}(W:i0 S)(hc:c<S.ck.length)(h:yc S c=c_):∃k p s sz,S.ck[c]?=a_ k/\S.ps[c]?=a_ p/\p[k.pl]?=a_ s/\fU sz s:=by
 have hk:S.ck[c]?=a_ S.ck[c]:=aO hc;refine dY (W.part hk) λp hp _ _ hg=>?_;rw[UC hk hp]at h;unfold sM at h;cases e:p[S.ck[c].pl]? with
 | none=>rw[e]at h;cases h
 | some s=>exact⟨_,p,s,_,hk,hp,e,hg s (b9 e)⟩
section
variable{t:a9}{C CT:e_}{u:oX}
def Na(t:a9)(C CT PT lL:e_):Sp:=λvs H Q E=>∃m A S p xs lab,vs=[.ref m,.ref p]/\bb t C CT H m A S/\km lab m A/\i0 S/\AB S/\dg PT LP LQ H/\H p=a_ (.tup xs)/\(∀x∈xs,∃T,tyName H x=a_ T)/\xs.length<=1000/\(∀mv,xs=nU mv->Bj mv.1=c_)/\
 (∀mv,xs=nU mv->mv∈pL S->∀H',bb t C CT H' m A (jj S mv)->aZ (c9 m A) H H'->dg PT LP LQ H'->Q .aG H')/\
 ((∀mv,xs=nU mv->mv∉pL S)->∀H',aZ uI H H'->dg PT LP LQ H'->E (.ref lL) b_ H')
theorem aiL:bp zLs zLs (aW Nf):=bJ
theorem afi{k:Nat}(r:eV k A):A.units+65<cLine:=by have:=r.un;lia
theorem ae7{K:u_}(h:Paired (jH H) vs l):nJ K H vs (l.map uD):=JD (F:=jH H) (λv a q=>by
 obtain⟨p,rfl,q⟩:=q;exact VE q) h
theorem ahg{f fF fM fS fC PT lL:e_}(F:aY K "do" "Machine.do" Nf f fd)(cM:gm K C)
  (GF:ay P w K mg base aB 2 fF xo ["move"] Vk) (kF:x_ K (.ref fF)=c_) (bF:Binds K xo ["move"] []) (mF:mg "has_form_of_move" = a_ (.ref fF))
  (GM:ay P w K mg base aB 4 fM fdM zLd (Kn t C CT PT)) (bM:Binds K fdM zLd []) (mM:Meth K C "moves" fM)
  (GS:ay P w K mg base aB 6 fS kU zLb (S6 t C CT PT)) (bS:Binds K kU zLb []) (mS:Meth K C "do_step" fS)
  (GC:ay P w K mg base aB 4 fC pk zLj (Ko t C CT PT)) (bC:Binds K pk zLj []) (mC:Meth K C "carry" fC)
  (xc:XC K lL) (mX:mg "NoMove" = a_ (.ref lL)):ay P w K mg base (iN P w) 7 f fd zLs (Na t C CT PT lL):=by
 refine F.Ct aiL λaM A outer s H vs Q E hr hL hp h=>?_
 ·refine qD h λm A S p xs lab aa M L W ba=>?_;subst aa;refine qM ba λng wG Zs pe hl aa=>cH aa λals q1 q2=>?_;have jr:=hr.mono (show 2<=6 by decide);have qj:=hr.mono (show 4<=6 by decide);refine let R1:TS:=_;let R2:TS:=_;let R3:TS:=_;let R4:TS:=_;⟨_,aE (cC (PW.pt (pw_or (lG (gH (dN GF jr rfl mF kF bF .nil a7 (ae (pv 1) af)))) (pw_or1 (cb (acO (afi hr)) (pv 1) (nv (pv 0) cM.cl mM GM qj bM .nil a7) rfl)))) (pR R1 (aF (J1 rfl hL xc rfl mX (ae di af)))) cO) (pR R4 (aF (cC (cb eJ (aT de (pv 1) aA) di (bQ _)) (pR R2 (aF (dE (iW (pv 0) cM.cl mS GS hr bS .nil a7 (ae (aT de (pv 1) aA) af))))) (pR R3 (aF (dE (iW (pv 0) cM.cl mC GC qj bC .nil a7 (ae (aT de (pv 1) aA) (ae (aT de (pv 1) aA) af))))))))),?_⟩
  refine vr rfl (⟨p,xs,rfl,Zs,pe,hl,(λH1 s1=>(au _ rfl ?_))⟩);cases hf:B8 xs with
  | false=>exact jG (jG ⟨qc,q2 (λmv e=>by rw[e,aga]at hf;cases hf) H1 (aZ.of s1) (lF wG s1)⟩)
  | true=>
  refine oE (agr hf) λmv aa=>?_;subst aa;have M1:=M.same s1;refine bX (id M1.obj) λdx fs hm G=>gC (vr rfl (vM rfl hm (G.ms _ dk) (kI m A S rfl M1 W (lF wG s1) λH2 l vs k2 qp hn xb yG=>?_)));have wU:=k2.FD _ _ (s1 _ _ Zs);refine⟨l,vs,_,(⟨_,rfl,(av.of xb),(ae7 yG),(VE wU),(Sh (als mv rfl)),(λd hd=>?_),(au _ rfl ?_)⟩)⟩
  ·refine aw (jT.mp hd) λa ha aa=>?_;subst aa;exact Sh (Ju ha)
  rw[if_pos rfl,aia];have Zo:=(aZ.of s1).trans k2
  by_cases jO:mv∈pL S
  ·rw[decide_eq_true jO];refine gC ?_;have q:=q1 mv rfl jO;have M2:=M1.uk k2;refine bX (id M2.obj) λyS rh lV G3=>?_;have kk:∀H',aZ (c9 m A) H2 H'->aZ (c9 m A) H H':=λH' k=>(Zo.mono λb z=>z.elim).trans k;rcases zE jO with ⟨c,rfl,hc,yi⟩ | ⟨c,k,n,rfl,hk,jP⟩
   ·refine nC (Eo W hc yi) λk pt st sz hk aa=>cH aa λqk dh g=>iA (j:=0) rfl wU rfl ⟨rfl,⟨_,rfl,cu (λ_=>?_) λy=>absurd rfl y⟩⟩;exact vM rfl lV (G3.ms _ dk) (iA (j:=1) rfl wU rfl (⟨m,A,S,c,k,pt,st,sz,lab,rfl,M2,L,W,ng,(⟨qp,hk,qk,dh,g,(λH3 M3 k3 vg=>q H3 M3 (kk _ k3) vg)⟩)⟩))
   ·refine aw (M.we hk) λx hx T=>aR (Ed T.wf jP) λi hi aa _=>?_;subst aa;exact iA (j:=0) rfl wU rfl ⟨rfl,⟨_,rfl,cu (λy=>absurd (show ("carry" : Str) = "do" from FG y) dk) λ_=>vM rfl lV (G3.ms _ dk) (iA (j:=1) rfl wU rfl (iA (j:=2) rfl wU rfl (⟨m,A,S,c,k,i,lab,rfl,M2,L,qp,hk,jP,hi,(qX W.bd W.ov ng λH3 M3 k3 vg=>q H3 M3 (kk _ k3) vg)⟩)))⟩⟩
  ·rw[decide_eq_false jO];exact jG ⟨qc,q2 (λHl e z=>jO (by rw[BH e];exact z)) H2 Zo qp⟩
end
theorem ajt:dO "put" = a_ [4,mZ]:=by kernel_rfl
theorem aju:dO "add" = a_ [4,4]:=by kernel_rfl
theorem ajs:dO "set" = a_ [12,4]:=by kernel_rfl
theorem ah9:dO "look" = a_ [4,12]:=by kernel_rfl
theorem ah7:dO "swap" = a_ [4,12]:=by kernel_rfl
theorem agB:dO "clear" = a_ []:=by kernel_rfl
theorem ah8:dO "skip" = a_ [4,121]:=by kernel_rfl
theorem z9{a b:Nat}{u v:Int}(e:dO x=a_ [u,v])(h1:(a:Int)<u)(h2:(b:Int)<v):stepOk [.str x,.int a,.int b]=true:=by
 show (match dO x with | none=>d_ | some bs=>decide ([V.int a,V.int b].length=bs.length)&&([V.int a,V.int b].zip bs).all λp=>oQ p.1 p.2)=c_;rw[e];show (decide (2=2)&&((decide (0<=(a:Int))&&decide ((a:Int)<u))&&((decide (0<=(b:Int))&&decide ((b:Int)<v))&&c_)))=c_;rw[decide_eq_true h1,decide_eq_true h2,decide_eq_true (Qk a),decide_eq_true (Qk b)];rfl
theorem top_lt{m:Nat}(h:m<10^60):(m:Int)<mZ:=by
 have e:((10^60:Nat):Int)=mZ:=dk;rw[<-e];exact Int.ofNat_lt.mpr h
theorem Ss{sz:Nat}{t:Tl}(g:fU sz t):stepOk (tv t)=true:=by
 cases g with
 | put r m h1 h2=>exact z9 ajt li (top_lt h2)
 | add r m h1 h2=>exact z9 aju om li
 | set r m h1 h2=>exact z9 ajs li om
 | look r m h1 h2=>exact z9 ah9 om li
 | swap r m h1 h2=>exact z9 ah7 om om
 | clear=>
  show (match dO "clear" with | none=>d_ | some bs=>decide (([]:List V).length=bs.length)&&(([]:List V).zip bs).all λp=>oQ p.1 p.2)=c_;rw[agB];rfl
 | skip r m h1 h2 h3=>exact z9 ah8 li li
theorem Tz{sz:Nat}{t:Tl}(g:fU sz t):(t.2.map λ(n:Nat)=>V.int (n:Int)).length<=900:=by
 rw[aP];have:=g.len;exact w4
theorem UI(l:List Nat):∀y∈l.map λ(n:Nat)=>V.int (n:Int),∃T,tyName H y=a_ T:=λy hy=>by
 refine aw (jT.mp hy) λn _ aa=>?_;subst aa;exact⟨_,rfl⟩
theorem adm{sz:Nat}(g:fU sz s)(h:s.1 = "skip"):∃r q:Nat,s=(("skip" : Str),[r,q])/\q<=sz:=by
 cases g with
 | skip r q _ h2 _=>exact⟨r,q,rfl,h2⟩
 | put r n _ _=>exact absurd (show ("put" : Str) = "skip" from h) dk
 | add r n _ _=>exact absurd (show ("add" : Str) = "skip" from h) dk
 | set r n _ _=>exact absurd (show ("set" : Str) = "skip" from h) dk
 | look r n _ _=>exact absurd (show ("look" : Str) = "skip" from h) dk
 | swap r n _ _=>exact absurd (show ("swap" : Str) = "skip" from h) dk
 | clear=>exact absurd (show ("clear" : Str) = "skip" from h) dk
theorem WB{X:Cx}(K:u_)(h:X.K=K:=by rfl):lK X (.builtin "isinstance") (WW K):=by subst h;exact jy
theorem af7:(["part"]:List Str).Nodup:=dk
theorem pG{α β:Type}{F:α->β->Prop}:∀{l:List α} {r:List β} {i:Nat} {x:α},Paired F l r->l[i]?=a_ x->∃y,r[i]?=a_ y/\F x y
 | _,_,_,_,.nil,e=>by simp at e
 | _,_,0,_,.cons h _,e=>by simp at e;subst e;exact⟨_,rfl,h⟩
 | _,_,i+1,x,.cons _ t,e=>by
  exact aw (pG (i:=i) t (by simpa using e)) λy h1 h2=>au y (by simpa using h1) h2
theorem agC(n:Nat):(fg n c_).all id=true:=by
 induction n with
 | zero=>rfl
 | succ n ih=>rw[A7,zk,ih];rfl
section
variable{t:a9}{u:oX}
def Wb:Sp:=λvs H Q _=>∃v ps,vs=[v]/\vX H v ps/\Ac ps/\∀H',ak H H'->Q (.bl c_) H'
theorem aiM:bp zLt zLt (aW Nh):=bJ
theorem ahh(F:aY K "has_clerks" "has_clerks" Nh f fd)(B:Bl mg)(C:∃u,mg "CLERKS" = a_ u/\RelV (.int 4) u):ay P w K mg base aB 1 f fd zLt Wb:=by
 refine aw C λuC mC rC=>F.ok aiM λaM A _ s H vs Q E hr h=>?_
 ·refine jD h λv ps aa ba g k=>?_;clear h;subst aa;refine dv ba λa xs aa ha hp=>?_;clear ba;subst aa
  refine let R1:TS:=_;⟨_,aE (cC (PW.pt (pw_or (lG (gH (bG jy rfl B.jI iU (ae (pv 0) (ae (nA (v:=.ty "tuple") rfl B.tuple tX rfl) af))))) (pw_or1 (lG (ad2 Mq Mq aA (bG fj rfl B.len q_ (ae (pv 0) af)) (fQ rfl mC rC))))))
    zC cO)
   (pR R1 (aF (bj (bG (Eu rfl) rfl B.all boot_all (ae (jA (N:=["part"]) (idx:=[]) rfl (ee.of (by kernel_rfl)) (jU (bg _))
    (vQ (pv 0)) (λ_ _ _ _=>cG (i:=0) af7 rfl (aX rfl) (.inr rfl)) (λ_ _ _ _=>jW)
    λ_ _ _ _=>bG (WB K) rfl B.jI iU (ae (pv 0) (ae (nA (v:=.ty "tuple") rfl B.tuple tX rfl) af))) af))))),?_⟩
  have hT:=D2 ha;have hi:sO "tuple" "tuple" = true:=qc;have hl:=r_ hp;have g1:=g.ne;have g2:=g.le;refine vr rfl (dZ _ _ _ _ (dX _ rfl (nR hT) rfl (nM hT qc) (au _ rfl ?_)));rw[hi];refine gC (vr rfl (dw a xs rfl (.inr (aJ.of ha)) ⟨_,⟨_,rfl,rfl,_,rfl,cu (λh1=>?_) λh1=>absurd (show (1:Int)<=(xs.length:Int) by lia) h1⟩⟩));refine⟨_,⟨_,rfl,rfl,_,rfl,nF (λh2=>absurd (show (xs.length:Int)<=4 by lia) h2) λh2=>au _ rfl (cD a rfl ⟨xs,aJ.of ha⟩ (iH (n:=xs.length) (λi ys H'=>i<=xs.length/\ak H H'/\ys=(fg i c_).map V.bl) (eO (gz w8)) (dj (bg _) (ak.refl _) rfl) ?_ ?_ ?_ ?_ ?_))⟩⟩
  ·intro i ys H' ag;refine cH ag λ_ _ e=>?_;rw[e,aP,HZ];exact aI _
  ·intro i ys H' hi ag;exact cH ag λ_ s1 _=>fq xs (xs[i]) (aJ.of (s1 _ _ ha)) (aO hi)
  ·intro ys H' ag;exact cH ag λ_ s1 _=>au xs (aJ.of (s1 _ _ ha)) (aI _)
  ·intro i ys H' hi2 ag x lh gE;refine cH ag λ_ s1 e=>oA gE λeH gu=>?_;subst eH;have AK:=gu xs (aJ.of (s1 _ _ ha));refine aw (pG hp AK) λp _ aa=>dv aa λb us aa hb _=>?_;subst aa;have Dg:=D2 (s1 _ _ hb);refine vr rfl (dZ _ _ _ _ (⟨_,rfl,(nR Dg),rfl,(nM Dg qc),hi2,s1,?_⟩));rw[hi,e,List.replicate_succ',gy];rfl
  ·intro ys H' ag;refine cH ag λ_ s1 e=>⟨?_,λr ik=>?_⟩
   ·rw[e,aP,HZ];exact eO (gz w8)
   refine dw r (fg xs.length c_) rfl (av.of (by rw[ax,e])) ?_;rw[agC];exact k _ (aN s1 ik)
def Vl:Sp:=λvs H Q _=>∃(v:V) (s:Tl) (p n:Nat),vs=[v,.int (p:Nat),.int (n:Nat)]/\vW H v s/\fU n s/\p<120/\∀H',ak H H'->Q (.bl c_) H'
theorem Vp:bp ["told","place","length","step"] zLp (aW Mm):=bJ
theorem af0(F:aY K "fits" "fits" Mm f fd)(O:yf K mg t u)(xN:VX K cN cE)(mX:mg "NoStep" = a_ (.ref cN)):ay P w K mg base aB 5 f fd zLp Vl:=by
 have T:=O.st;have GX:ay P w K mg base aB 4 t.fO t.nW ["told"] (JM t):=Sd T;refine aw T.cn.long λuL mL rL=>F.ok Vp λaM A _ s H vs Q E hr h=>?_
 ·obtain⟨v,st,p,n,aa,hI,g,hp,k⟩:=h;subst aa;refine let R1:TS:=_;let R2:TS:=_;⟨_,aE (afI rfl rfl rfl mX xN.base (λW pn E hL hp=>aF (cU (i:=3) Vp.nd rfl (aX rfl) (dN GX hr rfl T.mO T.N7.kp T.bO .nil a7 (ae (pv 0) af)))) λea pn=>zC) (pR R2 (aE (cC (PW.pt (pw_and (gH (bG jy rfl T.bl.jI iU (ae (pv 3) (ae (fQ (v:=.ref t.kh) rfl T.LG rfl) af)))) (pw_and1 (cb B5 (bz (pv 3) rfl) (pv 2) (bQ _))))) zC cO) (pR R1 (aF (bj (EH B4 (pv 1) (fQ rfl mL rL) (bQ _))))))),?_⟩
  refine aw hI λa aa ha=>?_;clear hI;subst aa;have al9:decide ((p:Int)<120)=true:=decide_eq_true li;refine vr rfl (lR a st.1 (dX _ rfl ha (Ss g) ⟨Tz g,UI st.2⟩ λz dx H1 s1 hz eL=>?_));have kk:=k H1 s1;rw[<-al9]at kk;refine aw (LO O g eL) λC ty c6=>vr rfl (⟨_,(.ref t.kh),(.ref C),(.ref t.kh),(decide (st.1 = "skip")),rfl,ty,rfl,c6.Wi,(tk (cu (λhx=>?_) λhx=>gC (au _ rfl ⟨_,⟨_,rfl,rfl,kk⟩⟩)))⟩);refine bX (adm g hx) λr q aa hq=>?_;subst aa;refine vF (v:=.int (q:Nat)) rfl eL T.vV T.LD rfl (vr rfl ⟨_,⟨_,rfl,rfl,_,rfl,cu (λhq2=>?_) λ_=>⟨_,rfl,_,_,rfl,rfl,kk⟩⟩⟩);exact absurd hq2 (by show ¬((n:Int)<(q:Int));lia)
def Vj:Sp:=λvs H Q _=>∃v ps,vs=[v]/\vX H v ps/\Ac ps/\∀H',ak H H'->Q .aG H'
theorem BN:bp ["program","clerk","part","place","told"] zLt (aW Jt):=bJ
theorem afY(F:aY K "look_over" "look_over" Jt f fd)(B:Bl mg)(tF:mg "enumerate" = b_)
  (GH:ay P w K mg base aB 1 fH fdH zLt Wb) (kH:x_ K (.ref fH)=c_) (bH:Binds K fdH zLt []) (mH:mg "has_clerks" = a_ (.ref fH))
  (GF:ay P w K mg base aB 5 fF xo zLp Vl) (kF:x_ K (.ref fF)=c_) (bF:Binds K xo zLp []) (mF:mg "fits" = a_ (.ref fF)) :
  ay P w K mg base aB 6 f fd zLt Vj:=by
 refine F.ok BN λaM A _ s H vs Q E hr h=>?_
 ·refine jD h λv ps aa ba g k=>?_;clear h;subst aa;refine dv ba λa xs aa ha hp=>?_;clear ba;subst aa
  refine let R1:TS:=_;let R2:TS:=_;let R3:TS:=_;⟨_,aE (cC (lG (gH (dN GH (hr.mono qc) rfl mH kH bH .nil a7 (ae (pv 0) af)))) zC cO)
   (pR R3 (aF (jY kE rfl (xQ (b:=d_) rfl tF (ae (pv 0) af)) (qL rfl (iV (cG (i:=1) BN.nd rfl (aX rfl)) (iV (cG (i:=2) BN.nd rfl (aX rfl)) qH))) (pR R2 (aF (jY kE rfl (xQ (b:=d_) rfl tF (ae (pv 2) af)) (qL rfl (iV (cG (i:=3) BN.nd rfl (aX rfl)) (iV (cG (i:=4) BN.nd rfl (aX rfl)) qH))) (pR R1 (aF (cC (lG (gH (dN GF hr rfl mF kF bF .nil a7 (ae (pv 4) (ae (pv 3) (ae (bG fj rfl B.len q_ (ae (pv 2) af)) af)))))) zC cO))))))))),?_⟩
  refine vr rfl (oC (.ref a) ps rfl ⟨a,xs,rfl,ha,hp⟩ g λH1 s1=>(au _ rfl (gC ?_)))
  let W1:IV:=λi σ H'=>∃c q p d,σ=[a_ (.ref a),c,q,p,d]/\ak H H'
  refine vr rfl (dw a xs rfl (aJ.of (s1 _ _ ha)) (BV (n:=xs.length) W1 ⟨b_,b_,b_,b_,rfl,s1⟩ ?_ ?_ ?_ ?_))
  ·intro i σ H' hi ag;exact nC ag λ_ _ _ _ _ s2=>fq xs (xs[i]) (aJ.of (s2 _ _ ha)) (aO hi)
  ·intro σ H' ag;exact nC ag λ_ _ _ _ _ s2=>au xs (aJ.of (s2 _ _ ha)) (aI _)
  ·intro i σ H2 hi ag z H3 gE;refine nC ag λc q p d aa s2=>?_;clear ag;subst aa;refine jD gE λr x ik ez eH gu=>?_;subst ez;subst eH;have AK:=gu xs (aJ.of (s2 _ _ ha));refine aw (pG hp AK) λpt qk aa=>dv aa λb us aa i6 dC=>?_;subst aa;refine oA (g.part pt (b9 qk)) λg3 g4=>?_;have jK:=r_ dC;rw[<-jK]at g3 g4;have s3:ak H (upd H2 r (.tup [.int i,.ref b])):=aN s2 ik;refine oC r ([.int i,.ref b]) rfl (aJ.of ax) rfl (fq (.int i) ([.ref b]) rfl (dw (.ref b) ([]) rfl rfl ?_))
   let W2:IV:=λj σ H'=>∃p d,σ=[a_ (.ref a),a_ (.int i),a_ (.ref b),p,d]/\ak H H'
   refine vr rfl (dw b us rfl (aJ.of (s3 _ _ i6)) (BV (n:=us.length) W2 ⟨p,d,rfl,s3⟩ ?_ ?_ ?_ ?_))
   ·intro j σ H' hj ag;exact bX ag λ_ _ _ s4=>fq _ (us[j]) (aJ.of (s4 _ _ i6)) (aO hj)
   ·intro σ H' ag;exact bX ag λ_ _ _ s4=>au _ (aJ.of (s4 _ _ i6)) (aI _)
   ·intro j σ H4 hj ag z' H5 gE;refine bX ag λp' d' aa s4=>?_;clear ag;subst aa;refine jD gE λr' y Hy ez' Py uU=>?_;subst ez';subst Py;have hyj:=uU _ (aJ.of (s4 _ _ i6));refine aw (pG dC hyj) λst dh hI=>?_;have s5:ak H (upd H4 r' (.tup [.int j,y])):=aN s4 Hy;exact oC r' ([.int j,y]) rfl (aJ.of ax) rfl (fq (.int j) ([y]) rfl (dw y ([]) rfl rfl (au _ rfl (vr rfl (vr rfl ⟨b,⟨_,rfl,.inr (aJ.of (s5 _ _ i6)),y,st,j,us.length,rfl,hI.keep λb xs e=>s5 _ _ e,g4 st (b9 dh),wh,λH6 s6=>⟨_,rfl,gC ⟨_,_,rfl,s5.trans s6⟩⟩⟩⟩)))))
   ·intro σ H4 ag;refine bX ag λp' d' aa s4=>?_;clear ag;subst aa;exact⟨_,_,_,(au _ rfl s4)⟩
  ·intro σ H2 ag;refine nC ag λ_ _ _ _ aa s2=>?_;clear ag;subst aa;exact k H2 s2
end
structure Own(H0:Hp)(m:e_)(H:Hp)(R:e_->Nat->Prop):Prop where
 l:∃lab:e_->Nat,∀a v,R a v->lab a=v
 p:∀a v,R a v->H a≠b_
 f:∀a v,R a v->a=m\/H0 a=b_
 t:∀b,H b=b_->H0 b=b_
section
variable{H0 H H':Hp}{m:e_}{R R':e_->Nat->Prop}
theorem Own.keep(h:Own H0 m H R)(k:∀b,H' b=b_->H b=b_):Own H0 m H' R:=⟨h.l,λa v r z=>h.p a v r (k a z),h.f,λb z=>h.t b (k b z)⟩
theorem Own.adds(h:Own H0 m H R)(k:∀b,H' b=b_->H b=b_){B:e_->Prop}{n:Nat}(hB:∀b,B b->H b=b_)(Di:∀b,B b->H' b≠b_):Own H0 m H' λa v=>R a v\/(B a/\v=n):=by
 obtain⟨⟨lab,h1⟩,h2,h3,h4⟩:=h
 classical
 refine⟨⟨λa=>if B a then n else lab a,λa v r=>?_⟩,λa v r=>?_,λa v r=>?_,λb z=>h4 b (k b z)⟩
 ·rcases r with r | ⟨r,rfl⟩
  ·show (if B a then n else lab a)=v;rw[if_neg λz=>h2 a v r (hB a z)];exact h1 a v r
  ·show (if B a then v else lab a)=v;rw[if_pos r]
 ·rcases r with r | ⟨r,rfl⟩
  ·exact λz=>h2 a v r (k a z)
  ·exact Di a r
 ·rcases r with r | ⟨r,rfl⟩
  ·exact h3 a v r
  ·exact .inr (h4 a (hB a r))
theorem Own.add(h:Own H0 m H R)(k:∀b,H' b=b_->H b=b_){n:Nat}(hB:H b=b_)(Di:H' b≠b_):Own H0 m H' λa v=>R a v\/(a=b/\v=n):=
 h.adds k (B:=λa=>a=b) (λc z=>by rw[z];exact hB) (λc z=>by rw[z];exact Di)
theorem En{o:HO}:∀b,upd H x o b=b_->H b=none:=λb e=>by
 by_cases z:b=x
 ·rw[z,ax]at e;cases e
 ·rwa[ao z]at e
theorem Own.new(h:Own H0 m H R){n:Nat}{o:HO}(hB:H b=b_):Own H0 m (upd H b o) λa v=>R a v\/(a=b/\v=n):=h.add En hB (by rw[ax];intro z;cases z)
end
structure eU(m:e_)(H H':Hp):Prop where
 k:∀b o,b≠m->H b=a_ o->H' b=a_ o
 t:∀b,H' b=b_->H b=b_
theorem eU.of(s:ak H H'):eU m H H':=⟨λb o _ e=>s b o e,λb h=>s.free h⟩
theorem eU.trans(a:eU m H H1)(b:eU m H1 H2):eU m H H2:=⟨λc o n e=>b.k c o n (a.k c o n e),λc h=>a.t c (b.t c h)⟩
theorem eU.upd{o:HO}:eU m H (upd H m o):=⟨λb q n e=>by rw[ao n];exact e,En⟩
section
variable{t:a9}{C CT:e_}{u:oX}
theorem sJ.same(s':ak H H')(h:sJ t H v s):sJ t H' v s:=h.keep λb C dx fs e _=>s' _ _ e
def RU(t:a9):Sp:=λvs H Q _=>∃v p,vs=[v]/\IsPart H v p/\p.length<=120/\(∀s∈p,fU p.length s)/\∀H' b us,ak H H'->H b=b_->H' b=a_ (.tup us)->Paired (sJ t H') us p->Q (.ref b) H'
theorem acG:bp ["part"] ["part"] (aW JX):=bJ
theorem af5:(["told"]:List Str).Nodup:=dk
theorem IT{α β:Type}{F:α->β->Prop}{x:α}{y:β}(h:F x y):∀{l:List α} {r:List β},Paired F l r->Paired F (l++[x]) (r++[y])
 | _,_,.nil=>.cons h .nil
 | _,_,.cons g t=>.cons g (IT h t)
theorem ab9(F:aY K "steps_of" "steps_of" JX f fd)(T:ui K mg t)(jL:mg "tuple" = b_):ay P w K mg base aB 5 f fd ["part"] (RU t):=by
 have GX:ay P w K mg base aB 4 t.fO t.nW ["told"] (JM t):=Sd T;refine F.ok acG λaM A _ s H vs Q E hr h=>?_
 ·refine jD h λv p aa ba hl Oc=>?_;clear h;subst aa;refine dv ba λa vs aa ha hp=>?_;clear ba;subst aa;refine oA Oc λhg k=>?_
  refine⟨_,aF (bj (xK Bg rfl jL tX (ae (jA (N:=["told"]) (idx:=[]) rfl (ee.of (by kernel_rfl)) (jU (bg _)) (vQ (pv 0))
   (λ_ _ _ _=>cG (i:=0) af5 rfl (aX rfl) (.inr rfl)) (λ_ _ _ _=>jW) λ_ _ _ _=>dN GX hr rfl T.mO T.N7.kp T.bO .nil a7 (ae (pv 0) af)) af))),?_⟩
  have hlen:=r_ hp;refine au _ rfl (cD a rfl ⟨_,aJ.of ha⟩ (iH (n:=vs.length) (λi ys H'=>i<=vs.length/\ak H H'/\Paired (sJ t H') ys (p.take i)) (eO (gz w8)) (dj (bg _) (ak.refl _) .nil) ?_ ?_ ?_ ?_ ?_))
  ·intro i ys H' ag;refine cH ag λ_ _ e=>?_;rw[r_ e,dS];exact xl
  ·intro i ys H' hi ag;exact cH ag λ_ s1 _=>fq _ _ (aJ.of (s1 _ _ ha)) (aO hi)
  ·intro ys H' ag;exact cH ag λ_ s1 _=>au _ (aJ.of (s1 _ _ ha)) (aI _)
  ·intro i ys H1 hi ag z H2 gE;refine cH ag λ_ s1 e=>oA gE λeH eL=>?_;subst eH;have hz:=eL _ (aJ.of (s1 _ _ ha));refine aw (pG hp hz) λst dh hI=>?_;have ZZ:=hg st (b9 dh);have ZV:vW H2 z st:=hI.keep λb xs e=>s1 _ _ e;refine aw ZV λb aa hb=>?_;clear ZV;subst aa;dsimp only[oK,kg];rw[if_pos rfl];refine vr rfl (lR b st.1 (dX _ rfl hb (Ss ZZ) ⟨Tz ZZ,UI st.2⟩ λz dx H3 s3 tm Hs=>(dj hi (s1.trans s3) ?_)));rw[qy,dh];exact IT ⟨z,b,dx,rfl,Hs⟩ (Paired.cZ e λ_ _ q=>q.same s3)
  ·intro ys H1 ag;refine cH ag λ_ s1 e=>?_;have hle:=r_ e;rw[dS]at hle;refine⟨eO (gz li),λr ik=>⟨r,ys,rfl,.inl ⟨av.of ax,λl hl=>?_⟩⟩⟩;have s2:=aN (o:=.lst ys) s1 ik;have s3:=aN (o:=.tup ys) s2 hl;rw[je li]at e;exact k _ l ys s3 (s2.free hl) ax (Paired.cZ e λ_ _ q=>(q.same (aN (ak.refl _) ik)).same (aN (ak.refl _) hl))
end
structure Cm(K:u_)(x qual:Str)(st:Stmt)(f:e_)(fd:jz)(d:Str):Prop where
 ex:∃(oc:f_) (od:Option e_) (T:e_) (kV doc pm:f_) (an:Option e_) (aM ct:f_) (i5:Array (Option f_)) (c1:f_) (d1:Option e_) (n1:Nat) (uP:Array (Option f_)) (tk:Nat),fd=B_ x qual (mm st) (jB st) (aW st) (.ref T) kV doc pm an aM ct/\K.lookup f=a_ ⟨oc,od,.func fd,i5⟩/\W.codeIn K aM qual=c_/\K.lookup T=a_ ⟨c1,d1,.seq #[.str d tk] n1,uP⟩
 kp:x_ K (.ref f)=c_
def k0:Ck:=⟨0,0,[0,0,0,0],0,[]⟩
def Ag(kd:Str)(ps:List Pt):Mc:=⟨kd,ps,ps.map λ_=>k0,fg 12 0,[],fg 12 []⟩
theorem IU{α β γ:Type}{F:α->β->Prop}{y:β}:∀{l:List α} {r:List γ},l.length=r.length->(∀x∈l,F x y)->Paired F l (r.map λ_=>y)
 | [],[],_,_=>.nil
 | [],_::_,h,_=>by cases h
 | _::_,[],h,_=>by cases h
 | x::l,z::r,h,g=>.cons (g x (by simp)) (IU (by simpa using h) λx hx=>g x (eE _ hx))
theorem Rp{α β:Type}{F:α->β->Prop}{y:β}:∀{l:List α} {n:Nat},l.length=n->(∀x∈l,F x y)->Paired F l (fg n y)
 | [],0,_,_=>.nil
 | [],_+1,h,_=>by cases h
 | _::_,0,h,_=>by cases h
 | x::l,n+1,h,g=>.cons (g x (by simp)) (Rp (by simpa using h) λx hx=>g x (eE _ hx))
theorem aiZ:(["kind","part"]:List Str).Nodup:=dk
theorem Fj:(["part"]:List Str).Nodup:=dk
theorem aiY:(["name"]:List Str).Nodup:=dk
theorem JP{α:Type}{l:List α}{x y:α}{i:Nat}(h:(l++[x])[i]?=a_ y):l[i]?=a_ y\/(i=l.length/\y=x):=by
 by_cases hi:i<l.length
 ·left;rwa[vj hi]at h
 ·right
  rw[tL li]at h
  by_cases e:i-l.length=0
  ·rw[e]at h;simp at h;exact⟨li,h.symm⟩
  ·rw[Ia (by simp;lia)]at h;cases h
theorem Own.nx{R:e_->Nat->Prop}{o:HO}(n:Nat)(h:Own H0 m H R)(hB:H b=b_):∃R',Own H0 m (upd H b o) R'/\(∀a v,R a v->R' a v)/\R' b n:=⟨_,h.new (n:=n) hB,λa v z=>.inl z,.inr ⟨rfl,rfl⟩⟩
theorem Own.nw{R:e_->Nat->Prop}{o:HO}(n:Nat)(h:Own H0 m H R)(hB:H b=b_):∃H' R',H'=upd H b o/\ak H H'/\H' b=a_ o/\Own H0 m H' R'/\(∀a v,R a v->R' a v)/\R' b n:=aR (h.nx (o:=o) n hB) λR' a i r=>⟨_,R',rfl,aN (ak.refl _) hB,ax,a,i,r⟩
theorem wj{fs:List (Str×V)}{R:e_->Nat->Prop}{k:Nat}(x:Str)(v:V)(_:h m=a_ (.ins C dx fs))(hf:fs.length<=k)(O:Own H m h R):∃f h',f=aQ x v fs/\h'=upd h m (.ins C dx f)/\f.length<=k+1/\eU m h h'/\h' m=a_ (.ins C dx f)/\Own H m h' R:=⟨_,_,rfl,rfl,c7 (sh x v fs) (DD hf),eU.upd,ax,O.keep En⟩
theorem Own.nxs{R:e_->Nat->Prop}(n:Nat)(B:e_->Prop)(h:Own H0 m H R)(k:∀b,H' b=b_->H b=b_)(hB:∀b,B b->H b=b_)(Di:∀b,B b->H' b≠b_):∃R',Own H0 m H' R'/\(∀a v,R a v->R' a v)/\∀b,B b->R' b n:=⟨_,h.adds (n:=n) k hB Di,λa v z=>.inl z,λb z=>.inr ⟨z,rfl⟩⟩
theorem eU.tup{fs:List (Str×V)}(k:eU m H H')(hm:H m=a_ (.ins C dx fs)):∀b xs,H b=a_ (.tup xs)->H' b=a_ (.tup xs):=λb xs e=>k.k b _ (λz=>by rw[z,hm]at e;cases e) e
theorem eU.lst{fs:List (Str×V)}(k:eU m H H')(hm:H m=a_ (.ins C dx fs))(e:H b=a_ (.lst xs)):H' b=a_ (.lst xs):=k.k b _ (λz=>by rw[z,hm]at e;cases e) e
theorem qN{fs oo:List (Str×V)}(e:oo=aQ x v fs):oo.lookup x=a_ v:=by rw[e,gd,if_pos rfl]
theorem cy{r:Option V}{fs oo:List (Str×V)}(h:fs.lookup y=r)(e:oo=aQ x v fs)(n:y≠x):oo.lookup y=r:=by rw[e,gd,if_neg n];exact h
theorem Tv{K:u_}{H h:Hp}{m C dx pg:e_}{fs:List (Str×V)}{fld:Str}{jq:List V}{ps:List Pt}{D:Ends}{σ:L2.St}{R:e_->Nat->Prop}{k:Nat}(n:Nat)(e0:σ[0]?=a_ (a_ (.ref m)))(e1:σ[1]?=a_ (a_ (.ref pg)))(hp:h pg=a_ (.tup jq))(hl:jq.length=ps.length)(h4:ps.length<=4)(hm:h m=a_ (.ins C dx fs))(cl:eX K C)(na:bu K C fld)(hf:fs.length<=k)(hk:k<900)(O:Own H m h R)
  (q:∀l h' f' R',f'=aQ fld (.ref l) fs->f'.length<=k+1->h' m=a_ (.ins C dx f')->h' l=a_ (.lst (ps.map λ_=>V.int 0))->eU m h h'->Own H m h' R'->(∀a v,R a v->R' a v)->R' l n->D.nx σ h') :
  WU K (qV 0) (Me (Xa K (qV 1)) (kg 0) oK (tC (.int 0)) [] 1) fld D σ h:=by
 refine⟨_,e1,pg,rfl,⟨_,aJ.of hp⟩,iH (n:=jq.length) (λi ys H'=>i<=jq.length/\H'=h/\ys=(ps.take i).map λ_=>V.int 0) (eO (gz li)) (dj (bg _) rfl rfl) ?_ ?_ ?_ ?_ ?_⟩
 ·intro i ys H' ag;obtain⟨_,_,e⟩:=ag;rw[e,aP,dS];lia
 ·intro i ys H' hi ag;obtain⟨_,rfl,_⟩:=ag;exact fq _ _ (aJ.of hp) (aO hi)
 ·intro ys H' ag;obtain⟨_,rfl,_⟩:=ag;exact au _ (aJ.of hp) (aI _)
 ·intro i ys H' hi ag z lh gE;obtain⟨_,rfl,e⟩:=ag;obtain⟨eH,eL⟩:=gE;subst eH;dsimp only[oK,kg];rw[if_pos rfl];refine dj hi rfl ?_;rw[qy,aO (show i<ps.length by lia),gy,<-e];rfl
 intro ys H' ag;obtain⟨_,Py,e⟩:=ag;subst Py;rw[je li]at e;subst e;refine⟨by rw[aP];exact eO (gz li),λl nl=>?_⟩;have s1:ak H' (upd H' l (.lst (ps.map λ_=>V.int 0))):=aN (ak.refl _) nl;have g1:upd H' l (.lst (ps.map λ_=>V.int 0)) l=a_ (.lst (ps.map λ_=>V.int 0)):=ax;obtain⟨R1,O1,i1,r1⟩:=O.nx (o:=.lst (ps.map λ_=>V.int 0)) n nl;have tw:=s1 _ _ hm;generalize upd H' l (.lst (ps.map λ_=>V.int 0))=v at s1 g1 O1 tw ⊢;refine⟨_,e0,m,C,dx,fs,rfl,tw,cl,na,li,?_⟩;have ku:eU m v (upd v m (.ins C dx (aQ fld (.ref l) fs))):=eU.upd;exact q l _ _ R1 rfl (by have:=sh fld (V.ref l) fs;lia) ax (ku.lst tw g1) ((eU.of s1).trans ku) (O1.keep (En (H:=v) (x:=m))) i1 r1
section
variable{t:a9}{C CT:e_}{u:oX}
theorem Cm.ok{st:Stmt}{k:Nat}{sp:Sp}(F:Cm K x qual st f fd d)(S:bp N ps (aW st))
  (uv:∀(aM:f_) (A:h_) (outer:List Env) (s:g_) (H:Hp) (vs:List V) (Q:VK) (E:XK),eV k (A.deeper (envOfC qual (aW st) s.heap.objs.size f aM))->sp vs H Q E->
   ∃t,fJ (p0 aB P w K mg base N qual (aW st) f aM A outer s H E).wK (jB st) t/\t { nx:=λ_ H'=>Q .aG H',rt:=Q } (start N vs) H) (len:∀vs H Q E,sp vs H Q E->vs.length=ps.length:=by intro _ _ _ _ h;(repeat obtain⟨_,h⟩:=h);subst_vars;rfl):ay P w K mg base aB (k+1) f fd ps sp:=by
 refine qC F.ex λoc od T kV doc pm an aM ct i5 aa=>jh aa λc1 d1 n1 uP tk aa=>nL aa λaa lk gv _=>?_;subst aa;exact v7 lk gv S len λA outer s H vs Q E hr qi=>aw (uv aM A outer s H vs Q E hr qi) λt h q=>au t h.wK q
theorem is3(h:us.length=3):∃a b c,us=[a,b,c]/\True:=by
 cases us with
 | nil=>cases h
 | cons a l=>
  cases l with
  | nil=>cases h
  | cons b l=>exact oE (P7.mp (IX (IX h))) λc z=>⟨a,b,c,by rw[z],trivial⟩
theorem agd(F:Cm K "__init__" "Machine.__init__" EV f fd "row"):Binds K fd zLl []:=by
 refine qC F.ex λoc od T kV doc pm an aM ct i5 aa=>jh aa λc1 d1 n1 uP tk aa=>nL aa λaa lk gv lT=>?_;subst aa;intro s us hK hl;refine pQ (is3 (by rw[il]at hl;exact hl)) λa b c z _=>?_;subst z;exact W.binds_K hK rfl lT rfl rfl rfl
def T9(t:a9)(C CT:e_):Sp:=λvs H Q _=>∃m dx v ps kd,vs=[.ref m,v,.str kd]/\H m=a_ (.ins C dx [])/\vX H v ps/\Ac ps/\(kd = "row"\/kd = "name"\/kd = "none")/\
 ∀H' A lab,bb t C CT H' m A (Ag kd ps)->km lab m A->v=.ref A.pg->eU m H H'->(∀b,c9 m A b->b=m\/H b=b_)->Q .aG H'
theorem afw:bp zLl zLl (aW EV):=bJ
theorem aei{f fK fT fS PT Ae:e_}{fd Z5 Dm kU:jz}(F:Cm K "__init__" "Machine.__init__" EV f fd "row")(cM:gm K C)(T:ui K mg t)(jL:mg "tuple" = b_)(dI:mg "range" = b_)
  (GK:ay P w K mg base aB 6 fK Z5 zLt Vj) (kK:x_ K (.ref fK)=c_) (bK:Binds K Z5 zLt []) (mK:mg "look_over" = a_ (.ref fK))
  (GT:ay P w K mg base (iN P w) 3 fT Dm ["kind"] (SY CT PT Ae)) (kT:x_ K (.ref fT)=c_) (bT:Binds K Dm ["kind"] []) (mT:mg "tray_of" = a_ (.ref fT))
  (GS:ay P w K mg base aB 5 fS kU ["part"] (RU t)) (kS:x_ K (.ref fS)=c_) (bS:Binds K kU ["part"] []) (mS:mg "steps_of" = a_ (.ref fS)) :
  ay P w K mg base aB 7 f fd zLl (T9 t C CT):=by
 have PJ:=BW GT;refine aw T.cn.names λuN mN rN=>aw T.cn.fX λuR mR rR=>F.ok afw λaM A _ s H vs Q E hr h=>?_
 ·obtain⟨m,dx,v,ps,kd,aa,hm,hP,g,tD,q⟩:=h;subst aa;have AL:=hr.mono (show 3<=6 by decide);have OP:=hr.mono (show 5<=6 by decide)
  refine let R1:TS:=_;let R2:TS:=_;let R3:TS:=_;let R4:TS:=_;let R5:TS:=_;let R6:TS:=_;let R7:TS:=_;let R8:TS:=_;let R9:TS:=_;let jc:TS:=_;⟨_,aE (dE (dN GK hr rfl mK kK bK .nil a7 (ae (pv 1) af))) (pR jc (aE (gI (pv 0) (jA (N:=["kind","part"]) (idx:=[2]) rfl (ee.of (by kernel_rfl)) (jU (aI _)) (vQ (pv 1)) (λ_ _ _ _=>cG (i:=1) aiZ rfl (aX rfl) (.inr rfl)) (λ_ _ _ _=>jW)
     λ_ _ _ _=>dN PJ AL rfl mT kT bT .nil a7 (ae (pv 0) af)) rfl)
   (pR R9 (aE (gI (pv 0) (pv 1) rfl) (pR R8 (aE (gI (pv 0) (pv 2) rfl) (pR R7 (aE (gI (pv 0) (xK Bg rfl jL tX (ae (jA (N:=["part"]) (idx:=[]) rfl (ee.of (by kernel_rfl)) (jU (bg _)) (vQ (pv 1)) (λ_ _ _ _=>cG (i:=0) Fj rfl (aX rfl) (.inr rfl)) (λ_ _ _ _=>jW)
     λ_ _ _ _=>dN GS OP rfl mS kS bS .nil a7 (ae (pv 0) af)) af)) rfl)
   (pR R6 (aE (gI (pv 0) (jA (N:=["part"]) (idx:=[]) rfl (ee.of (by kernel_rfl)) (jU (bg _)) (vQ (pv 1)) (λ_ _ _ _=>cG (i:=0) Fj rfl (aX rfl) (.inr rfl)) (λ_ _ _ _=>jW) λ_ _ _ _=>aA) rfl)
   (pR R5 (aE (gI (pv 0) (jA (N:=["part"]) (idx:=[]) rfl (ee.of (by kernel_rfl)) (jU (bg _)) (vQ (pv 1)) (λ_ _ _ _=>cG (i:=0) Fj rfl (aX rfl) (.inr rfl)) (λ_ _ _ _=>jW) λ_ _ _ _=>aA) rfl)
   (pR R4 (aE (gI (pv 0) (jA (N:=["part"]) (idx:=[]) rfl (ee.of (by kernel_rfl)) (jU (bg _)) (vQ (pv 1)) (λ_ _ _ _=>cG (i:=0) Fj rfl (aX rfl) (.inr rfl)) (λ_ _ _ _=>jW) λ_ _ _ _=>bh Vt (fk (ae aA af)) (fQ rfl mR rR)) rfl)
   (pR R3 (aE (gI (pv 0) (bh Vt (fk (ae aA af)) (fQ rfl mN rN)) rfl) (pR R2 (aE (gI (pv 0) (fk af) rfl) (pR R1 (aF (gI (pv 0) (jA (N:=["name"]) (idx:=[]) rfl (ee.of (by kernel_rfl)) (jU (bg _)) (kG rfl dI (ae (fQ rfl mN rN) af)) (λ_ _ _ _=>cG (i:=0) aiY rfl (aX rfl) (.inr rfl)) (λ_ _ _ _=>jW) λ_ _ _ _=>fk af) rfl))))))))))))))))))))),?_⟩
  refine dv (id hP) λpg jq aa ph qm=>?_;subst aa;refine vr rfl (oC (.ref pg) ps rfl hP g λH1 s1=>?_);have ff:=r_ qm;have hle:=g.le;have npm:=gj ph hm (by intro z;cases z);have tw:=s1 _ _ hm;obtain⟨R0,o0,r0⟩:∃R,Own H m H1 R/\R m 2:=⟨λa v=>a=m/\v=2,⟨⟨λ_=>2,λa v z=>z.2.symm⟩,λa v z e=>(by rw[z.1,tw]at e;cases e),λa v z=>.inl z.1,λb z=>s1.free z⟩,rfl,rfl⟩
  have Ao:V.str kd=.str "row"\/V.str kd=.str "name"\/V.str kd=.str "none":=by
   rcases tD with e | e | e
   ·exact .inl (by rw[e])
   ·exact .inr (.inl (by rw[e]))
   ·exact .inr (.inr (by rw[e]))
  refine au _ rfl (cD pg rfl ⟨_,aJ.of (s1 _ _ ph)⟩ (iH (n:=jq.length) (λi ys H'=>i<=jq.length/\∃ts:List (e_×e_×List e_),ys=(ts.map λx=>V.ref x.1)/\ts.length=i/\ak H1 H'/\(∀x∈ts,dP H' x.1 CT kd 0 [] x.2.1 x.2.2)/\∃R,Own H m H' R/\(∀a v,R0 a v->R a v)/\∀j x,ts[j]?=a_ x->∀b∈x.1::x.2.1::x.2.2,R b (28+6*j)) (eO (gz (by exact w8))) ⟨bg _,⟨[],rfl,rfl,ak.refl _,λx hx=>(by cases hx),R0,o0,λ_ _ z=>z,λj x z=>(by simp at z)⟩⟩ ?_ ?_ ?_ ?_ ?_))
  ·intro i ys H' ag;obtain⟨_,ts,rfl,rfl,_⟩:=ag;rw[aP];exact aI _
  ·intro i ys H' hi ag;obtain⟨_,ts,_,_,s2,_⟩:=ag;exact fq _ _ (aJ.of ((s1.trans s2) _ _ ph)) (aO hi)
  ·intro ys H' ag;obtain⟨_,ts,_,_,s2,_⟩:=ag;exact au _ (aJ.of ((s1.trans s2) _ _ ph)) (aI _)
  ·intro i ys H2 hi ag z H3 gE;obtain⟨_,ts,rfl,rfl,s2,ht,R,o2,r2,r3⟩:=ag;obtain⟨eH,eL⟩:=gE;subst eH;dsimp only[oK,kg];rw[if_pos rfl];refine vr rfl (oC (.str kd) ("str") rfl rfl (λ_ kd' H4 x q' qr e T4 k4 jP=>?_) λy=>y Ao);injection e with e
   subst e;have s4:ak H3 H4:=λb o e=>k4 b o (by simp) e
   obtain⟨R',o4,i4,n4⟩:=o2.nxs (28+6*ts.length) (λb=>b∈x::q'::qr) (λb z=>s4.free z) jP (λb hb y=>by
    refine oE (T4.there b hb) λo e=>?_;rw[e]at y;cases y)
   refine⟨hi,⟨ts++[(x,q',qr)],by rw[gy];rfl,by rw[cj];rfl,s2.trans s4,λy hy=>?_,R',o4,λa v z=>i4 a v (r2 a v z),λj y hy b hb=>?_⟩⟩
   ·rcases dD.mp hy with hy | hy
    ·exact(ht y hy).keep (λb _ o e=>s4 b o e) λb xs e=>s4 b _ e
    ·rw[f7.mp hy];exact T4
   ·rcases JP hy with hy | ⟨e1,e2⟩
    ·exact i4 _ _ (r3 j y hy b hb)
    ·subst e1;subst e2;exact n4 b hb
  intro ys H2 ag;obtain⟨_,ts,rfl,yH,s2,ht,R1,o2,i1,r1⟩:=ag;refine⟨by rw[aP];exact eO (gz (by exact wu)),λlt nlt=>?_⟩;refine eP (o2.nw (o:=.lst (ts.map λx=>V.ref x.1)) 4 nlt) λH3 R2 e s3 dJ o3 i2 r2=>?_;rw[<-e];clear e;have lV:=s3 _ _ (s2 _ _ tw);have T3:=λx hx=>(ht x hx).keep (λb _ o e=>s3 b o e) λb xs e=>s3 b _ e;have K3:eU m H H3:=eU.of (s1.trans (s2.trans s3));refine vr rfl (md m C dx ([]) rfl lV cM.cl cM.iw qc ?_);refine eP (wj "trays" (V.ref lt) lV (aI 0) o3) λtH H4 HJ e hf1 k4 AO o4=>?_;rw[<-HJ,<-e];clear e;have K4:=K3.trans k4;refine au _ rfl (vr rfl (md m C dx tH rfl AO cM.cl cM.program (by exact wb) ?_));refine eP (wj "program" (V.ref pg) AO hf1 o4) λrO H5 Dr e hf2 k5 HB o5=>?_;rw[<-Dr,<-e];clear e;have K5:=K4.trans k5;refine au _ rfl (vr rfl (md m C dx rO rfl HB cM.cl cM.kind (by exact wb) ?_));refine eP (wj "kind" (V.str kd) HB hf2 o5) λrh H6 A1 e hf3 k6 hm6 o6=>?_;rw[<-A1,<-e];clear e;have K6:=K5.trans k6;have F8:=K6.tup hm _ _ ph;refine au _ rfl (cD pg rfl ⟨_,aJ.of F8⟩ (iH (n:=jq.length) (λi ys H'=>i<=jq.length/\ak H6 H'/\Paired (zU t H') ys (ps.take i)) (eO (gz (by exact w8))) (dj (bg _) (ak.refl _) .nil) ?_ ?_ ?_ ?_ ?_))
  ·intro i ys H' ag;obtain⟨_,_,e⟩:=ag;rw[r_ e,dS];exact xl
  ·intro i ys H' hi ag;obtain⟨_,s,_⟩:=ag;exact fq _ _ (aJ.of (s _ _ F8)) (aO hi)
  ·intro ys H' ag;obtain⟨_,s,_⟩:=ag;exact au _ (aJ.of (s _ _ F8)) (aI _)
  ·intro i ys H' hi ag z lh gE;obtain⟨_,s7,e⟩:=ag;obtain⟨eH,eL⟩:=gE;subst eH;have hz:=eL _ (aJ.of (s7 _ _ F8));refine aw (pG qm hz) λp hp hI=>oA (g.part p (b9 hp)) λg1 g2=>?_;dsimp only[oK,kg];rw[if_pos rfl];refine vr rfl (⟨z,p,rfl,((hI.keep (K6.tup hm)).keep λb xs e=>s7 _ _ e),g1,g2,(λH8 b us s8 nb hb dC=>⟨hi,s7.trans s8,?_⟩)⟩);rw[qy,hp];exact IT ⟨b,us,rfl,hb,dC⟩ (Paired.cZ e λ_ _ q=>q.keep (λb xs e=>s8 _ _ e) λb C dx fs e _=>s8 _ _ e)
  intro ys H7 ag;obtain⟨_,s7,e7⟩:=ag;have alN:=r_ e7;rw[dS]at alN;rw[je li]at e7;refine⟨eO (gz li),λr7 nr7=>⟨r7,ys,rfl,.inl ⟨av.of ax,λst AG=>?_⟩⟩⟩;have s8:ak H7 (upd (upd H7 r7 (.lst ys)) st (.tup ys)):=aN (aN (ak.refl _) nr7) AG;have dh:upd (upd H7 r7 (.lst ys)) st (.tup ys) st=a_ (.tup ys):=ax;generalize upd (upd H7 r7 (.lst ys)) st (.tup ys)=H8 at s8 dh ⊢;have hs8:Paired (zU t H8) ys ps:=Paired.cZ e7 λ_ _ q=>q.keep (λb xs e=>s8 _ _ e) λb C dx fs e _=>s8 _ _ e;have yw:=s7.trans s8;have C2:=yw _ _ hm6;have o8:=o6.keep (λb z=>yw.free z);have K8:=K6.trans (eU.of yw);refine vr rfl (md m C dx rh rfl C2 cM.cl cM.steps (by exact wb) ?_);refine eP (wj "steps" (V.ref st) C2 hf3 o8) λZ3 H9 A0 e hf4 k9 hm9 o9=>?_;rw[<-A0,<-e];clear e;have K9:=K8.trans k9;have alA:=K9.tup hm _ _ ph;refine Tv (ps:=ps) 6 rfl rfl alA ff hle hm9 cM.cl cM.places hf4 qc o9 λpl PH fs5 R3 AZ hf5 XI gpl Ho o11 i10 YR=>?_;have K11:=K9.trans Ho;have akg:=K11.tup hm _ _ ph;refine Tv (ps:=ps) 8 rfl rfl akg ff hle XI cM.cl cM.counts hf5 qc o11 λct H13 fs6 R4 yR hf6 XH hct Zn o13 i12 YQ=>?_;have K13:=K11.trans Zn;have MU:=K13.tup hm _ _ ph;refine au _ rfl (cD pg rfl ⟨_,aJ.of MU⟩ (iH (n:=jq.length) (λi ys H'=>i<=jq.length/\∃rs:List e_,ys=rs.map V.ref/\rs.length=i/\ak H13 H'/\(∀a∈rs,H' a=a_ (.lst (([0,0,0,0]:List Int).map V.int)))/\∃R,Own H m H' R/\(∀a v,R4 a v->R a v)/\∀(j:Nat) a,rs[j]?=a_ a->R a (24+6*j)) (eO (gz (by exact w8))) ⟨bg _,⟨[],rfl,rfl,ak.refl _,λx hx=>(by cases hx),R4,o13,λ_ _ z=>z,λj x z=>(by simp at z)⟩⟩ ?_ ?_ ?_ ?_ ?_))
  ·intro i ys H' ag;obtain⟨_,rs,rfl,rfl,_⟩:=ag;rw[aP];exact aI _
  ·intro i ys H' hi ag;obtain⟨_,rs,_,_,s,_⟩:=ag;exact fq _ _ (aJ.of (s _ _ MU)) (aO hi)
  ·intro ys H' ag;obtain⟨_,rs,_,_,s,_⟩:=ag;exact au _ (aJ.of (s _ _ MU)) (aI _)
  ·intro i ys H' hi ag z lh gE;obtain⟨_,rs,rfl,rfl,s,CS,R,oR,iR,Ol⟩:=ag;obtain⟨eH,eL⟩:=gE;subst eH;dsimp only[oK,kg];rw[if_pos rfl];refine⟨qc,λy ny=>⟨y,4,_,rfl,rfl,ax,qc,qc,qc,λx nx=>?_⟩⟩;have sy:ak lh (upd lh y (.lst [.int 0])):=aN (ak.refl _) ny;have oy:=oR.keep (λb z=>sy.free z);refine aR (oy.nx (o:=.lst (([0,0,0,0]:List Int).map V.int)) (24+6*rs.length) nx) λR' o' i' r'=>?_;have sx:ak lh (upd (upd lh y (.lst [.int 0])) x (.lst (([0,0,0,0]:List Int).map V.int))):=aN sy nx;have hx:upd (upd lh y (.lst [.int 0])) x (.lst (([0,0,0,0]:List Int).map V.int)) x=a_ (.lst (([0,0,0,0]:List Int).map V.int)):=ax;refine⟨hi,⟨rs++[x],by rw[gy];rfl,by rw[cj];rfl,s.trans sx,λy hy=>?_,R',o',λa v z=>i' a v (iR a v z),λj y hy=>?_⟩⟩
   ·rcases dD.mp hy with hy | hy
    ·exact sx _ _ (CS y hy)
    ·rw[f7.mp hy];exact hx
   ·rcases JP hy with hy | ⟨e1,e2⟩
    ·exact i' _ _ (Ol j y hy)
    ·subst e1;subst e2;exact r'
  intro ys H14 ag;obtain⟨_,rs,rfl,am4,AF,CS,R5,o14,i14,YO⟩:=ag;refine⟨by rw[aP];exact eO (gz (by exact wu)),λrg nrg=>?_⟩;refine eP (o14.nw (o:=.lst (rs.map V.ref)) 10 nrg) λH15 R6 e Hd dI o15 i15 YN=>?_;rw[<-e];clear e;have F':=Hd _ _ (AF _ _ XH);have alw:=λa ha=>Hd _ _ (CS a ha);have K15:=K13.trans (eU.of (AF.trans Hd));refine vr rfl (md m C dx fs6 rfl F' cM.cl cM.fX (by exact wb) ?_);refine eP (wj "regs" (V.ref rg) F' hf6 o15) λZ2 A2 vh e hf7 Zm alK o16=>?_;rw[<-vh,<-e];clear e;have K16:=K15.trans Zm;refine⟨qc,λy ny=>⟨y,12,_,rfl,rfl,ax,qc,qc,qc,λce Y5=>?_⟩⟩;have sy:ak A2 (upd A2 y (.lst [.int 0])):=aN (ak.refl _) ny;have oy:=o16.keep (λb z=>sy.free z);refine aR (oy.nx (o:=.lst ((fg 12 (0:Int)).map V.int)) 12 Y5) λR7 YV i17 YM=>?_;have Hc:ak A2 (upd (upd A2 y (.lst [.int 0])) ce (.lst ((fg 12 (0:Int)).map V.int))):=aN sy Y5;have xj:upd (upd A2 y (.lst [.int 0])) ce (.lst ((fg 12 (0:Int)).map V.int)) ce=a_ (.lst ((fg 12 (0:Int)).map V.int)):=ax;rw[show (fg (12:Int).toNat [V.int 0]).flatten=(fg 12 (0:Int)).map V.int from rfl];generalize upd (upd A2 y (.lst [.int 0])) ce (.lst ((fg 12 (0:Int)).map V.int))=H17 at Hc xj YV ⊢;have NK:=Hc _ _ alK;have K17:=K16.trans (eU.of Hc);refine vr rfl (md m C dx Z2 rfl NK cM.cl cM.cells (by exact wb) ?_);refine eP (wj "cells" (V.ref ce) NK hf7 YV) λfs8 H18 tI e hf8 Zl alJ o18=>?_;rw[<-tI,<-e];clear e;have K18:=K17.trans Zl;refine⟨qc,λac nac=>?_⟩;refine eP (o18.nw (o:=.lst []) 14 nac) λH19 R8 e Oi dR o19 i19 YL=>?_;rw[<-e];clear e;have NJ:=Oi _ _ alJ;have K19:=K18.trans (eU.of Oi);refine vr rfl (md m C dx fs8 rfl NJ cM.cl cM.i8 (by exact wb) ?_);refine eP (wj "acts" (V.ref ac) NJ hf8 o19) λfs9 H20 rP e hf9 Zk alI o20=>?_;rw[<-rP,<-e];clear e;have K20:=K19.trans Zk;refine kL 12 rfl qc qc ?_;rw[show (12:Int).toNat=12 from rfl];refine iH (n:=12) (λi ys H'=>i<=12/\∃rs:List e_,ys=rs.map V.ref/\rs.length=i/\ak H20 H'/\(∀a∈rs,H' a=a_ (.lst (([]:List Int).map V.int)))/\∃R,Own H m H' R/\(∀a v,R8 a v->R a v)/\∀(j:Nat) a,rs[j]?=a_ a->R a (26+6*j)) (eO (gz li)) ⟨bg _,⟨[],rfl,rfl,ak.refl _,λx hx=>(by cases hx),R8,o20,λ_ _ z=>z,λj x z=>(by simp at z)⟩⟩ ?_ ?_ ?_ ?_ ?_
  ·intro i ys H' ag;obtain⟨_,rs,rfl,rfl,_⟩:=ag;rw[aP];exact aI _
  ·intro i ys H' hi ag;obtain⟨_,rs,_,_,s,_⟩:=ag;exact hi
  ·intro ys H' ag;obtain⟨_,rs,_,_,s,_⟩:=ag;exact aI _
  ·intro i ys H' hi ag z lh gE;obtain⟨_,rs,rfl,rfl,s,CS,R,oR,iR,Ol⟩:=ag;obtain⟨eH,eL⟩:=gE;subst eH;dsimp only[oK,kg];rw[if_pos rfl];refine⟨qc,λx nx=>aR (oR.nx (o:=.lst (([]:List Int).map V.int)) (26+6*rs.length) nx) λR' o' i' r'=>?_⟩;have sx:ak lh (upd lh x (.lst (([]:List Int).map V.int))):=aN (ak.refl _) nx;have hx:upd lh x (.lst (([]:List Int).map V.int)) x=a_ (.lst (([]:List Int).map V.int)):=ax;refine⟨hi,⟨rs++[x],by rw[gy];rfl,by rw[cj];rfl,s.trans sx,λy hy=>?_,R',o',λa v z=>i' a v (iR a v z),λj y hy=>?_⟩⟩
   ·rcases dD.mp hy with hy | hy
    ·exact sx _ _ (CS y hy)
    ·rw[f7.mp hy];exact hx
   ·rcases JP hy with hy | ⟨e1,e2⟩
    ·exact i' _ _ (Ol j y hy)
    ·subst e1;subst e2;exact r'
  intro ys H21 ag;obtain⟨_,cs,rfl,alO,Oh,AX,R9,o21,i21,YK⟩:=ag;refine⟨by rw[aP];exact eO (gz (by exact w6)),λcm ncm=>?_⟩;refine eP (o21.nw (o:=.lst (cs.map V.ref)) 16 ncm) λH22 jc e Ha hcm o22 i22 YJ=>?_;rw[<-e];clear e;have F9:=Ha _ _ (Oh _ _ alI);have alU:=λa ha=>Ha _ _ (AX a ha);have K22:=K20.trans (eU.of (Oh.trans Ha));refine vr rfl (md m C dx fs9 rfl F9 cM.cl cM.mw (by exact wb) ?_);refine eP (wj "comers" (V.ref cm) F9 hf9 o22) λXU HM qb e am' Hn alH rD=>?_;rw[<-qb,<-e];clear e;have K23:=K22.trans Hn;have n20:=(eU.of (m:=m) (Oh.trans Ha)).trans Hn;have Y7:=Zk.trans n20;have n18:=(eU.of (m:=m) Oi).trans Y7;have Y8:=Zl.trans n18;have n16:=(eU.of (m:=m) Hc).trans Y8;have CO:=Zm.trans n16;have Y9:=(eU.of (m:=m) (AF.trans Hd)).trans CO;have Y':=Zn.trans Y9;have n9:=Ho.trans Y';have n8:=k9.trans n9;have n6:=(eU.of (m:=m) yw).trans n8;have n3:=k4.trans (k5.trans (k6.trans n6));have j9:=i22;have j8:∀a v,R8 a v->jc a v:=λa v z=>j9 _ _ (i21 _ _ z);have j7:∀a v,R7 a v->jc a v:=λa v z=>j8 _ _ (i19 _ _ z);have j6:∀a v,R6 a v->jc a v:=λa v z=>j7 _ _ (i17 _ _ z);have j5:∀a v,R5 a v->jc a v:=λa v z=>j6 _ _ (i15 _ _ z);have j4:∀a v,R4 a v->jc a v:=λa v z=>j5 _ _ (i14 _ _ z);have j3:∀a v,R3 a v->jc a v:=λa v z=>j4 _ _ (i12 _ _ z);have j2:∀a v,R2 a v->jc a v:=λa v z=>j3 _ _ (i10 _ _ z);have j1:∀a v,R1 a v->jc a v:=λa v z=>j2 _ _ (i2 _ _ z);have j0:∀a v,R0 a v->jc a v:=λa v z=>j1 _ _ (i1 _ _ z);refine oE rD.l λlab qa=>?_;have lm:=qa _ _ (j0 _ _ r0);have tk:=cy (cy (qN HJ) Dr dk) A1 dk;have alq:ts.length=ps.length:=by exact wo
  have gF:rs.length=ps.length:=by exact wo
  have no:∀x∈VH,XU.lookup x=none:=by
   intro x hx
   have n:∀y∈(["trays","program","kind","steps","places","counts","regs","cells","acts","comers"]:List Str),x≠y:=by
    intro y hy e;subst e
    revert hx
    revert x
    decide +kernel
   have hn:([]:List (Str×V)).lookup x=none:=rfl;exact cy (cy (cy (cy (cy (cy (cy (cy (cy (cy hn HJ (n _ (by simp))) Dr (n _ (by simp))) A1 (n _ (by simp))) A0 (n _ (by simp))) AZ (n _ (by simp))) yR (n _ (by simp))) vh (n _ (by simp))) tI (n _ (by simp))) rP (n _ (by simp))) qb (n _ (by simp))
  have M:bb t C CT HM m ⟨lt,ts,pg,st,pl,ct,rg,rs,ce,ac,cm,cs⟩ (Ag kd ps):=by
   refine⟨⟨dx,XU,alH,⟨cy (cy (cy (cy (cy (cy (cy (cy (cy (qN HJ) Dr dk) A1 dk) A0 dk) AZ dk) yR dk) vh dk) tI dk) rP dk) qb dk,cy (cy (cy (cy (cy (cy (cy (cy (qN Dr) A1 dk) A0 dk) AZ dk) yR dk) vh dk) tI dk) rP dk) qb dk,cy (cy (cy (cy (cy (cy (cy (qN A1) A0 dk) AZ dk) yR dk) vh dk) tI dk) rP dk) qb dk,cy (cy (cy (cy (cy (cy (qN A0) AZ dk) yR dk) vh dk) tI dk) rP dk) qb dk,cy (cy (cy (cy (cy (qN AZ) yR dk) vh dk) tI dk) rP dk) qb dk,cy (cy (cy (cy (qN yR) vh dk) tI dk) rP dk) qb dk,cy (cy (cy (qN vh) tI dk) rP dk) qb dk,cy (cy (qN tI) rP dk) qb dk,cy (qN rP) qb dk,qN qb,no,by exact w4⟩⟩,n3.lst lV dJ,?_,hP.keep (K23.tup hm),⟨ys,n8.tup C2 _ _ dh,?_⟩,?_,?_,CO.lst F' dI,?_,Y8.lst NK xj,⟨[],Y7.lst NJ dR,.nil⟩,Hn.lst F9 hcm,?_⟩
   ·refine IU alq λx hx=>(T3 x hx).keep (λb hb o e=>n3.k b o (λz=>?_) e) (n3.tup lV);refine oE (vo hx) λj hj=>?_;have:=qa _ _ (j1 _ _ (r1 j x hj b hb));rw[z,lm]at this;exact wk
   ·refine Paired.cZ hs8 λ_ _ q=>q.keep (n8.tup C2) λb C' Du oo e h=>n8.k b _ (λz=>?_) e;refine pQ h λx us v e1 e2=>?_;rw[z,C2]at e;cases e;rw[e2,BI "trays" dk]at tk;cases tk
   ·have h:=Y'.lst XI gpl;rw[h];show _=a_ (HO.lst ((ps.map λ_=>k0).map λk=>V.int (k.pl:Nat)));rw[tT];rfl
   ·have h:=Y9.lst XH hct;rw[h];show _=a_ (HO.lst ((ps.map λ_=>k0).map λk=>V.int (k.ct:Nat)));rw[tT];rfl
   ·exact IU (F:=λa (k:Ck)=>HM a=a_ (.lst (k.rg.map V.int))) (y:=k0) gF λa ha=>CO.lst F' (alw a ha)
   ·exact Rp (F:=λa (o:List Int)=>HM a=a_ (.lst (o.map V.int))) (y:=[]) alO λa ha=>Hn.lst F9 (alU a ha)
  have L:km lab m ⟨lt,ts,pg,st,pl,ct,rg,rs,ce,ac,cm,cs⟩:=⟨lm,qa _ _ (j2 _ _ r2),qa _ _ (j3 _ _ YR),qa _ _ (j4 _ _ YQ),qa _ _ (j6 _ _ YN),qa _ _ (j7 _ _ YM),qa _ _ (j8 _ _ YL),qa _ _ YJ,λi a z=>qa _ _ (j5 _ _ (YO i a z)),λi a z=>qa _ _ (j9 _ _ (YK i a z)),λi x z b hb=>qa _ _ (j1 _ _ (r1 i x z b hb))⟩;refine q HM _ lab M L rfl K23 λb hb=>?_;cases hb with
  | m=>exact .inl rfl
  | lt=>exact rD.f _ _ (j2 _ _ r2)
  | pl=>exact rD.f _ _ (j3 _ _ YR)
  | ct=>exact rD.f _ _ (j4 _ _ YQ)
  | rg=>exact rD.f _ _ (j6 _ _ YN)
  | ce=>exact rD.f _ _ (j7 _ _ YM)
  | ac=>exact rD.f _ _ (j8 _ _ YL)
  | cm=>exact rD.f _ _ YJ
  | rs h=>
   refine oE (vo h) λj hj=>?_;exact rD.f _ _ (j5 _ _ (YO j _ hj))
  | cs h=>
   refine oE (vo h) λj hj=>?_;exact rD.f _ _ (j9 _ _ (YK j _ hj))
  | ts h h2=>
   refine oE (vo h) λj hj=>?_;exact rD.f _ _ (j1 _ _ (r1 j _ hj _ h2))
end
structure i3(n:Nat)(S:Mc):Prop where
 wf:i0 S
 ac:S.ac.length<=n
 ov:∀o∈S.ov,o.length<=n
theorem i3.X9{n:Nat}(W:i3 n S)(h:n<=16000):AB S:=λo ho=>c7 (W.ov o ho) h
structure sY(n:Nat)(S S':Mc)(c:Nat)(k k':Ck):Prop where
 ck:S'.ck=S.ck.set c k'
 ps:S'.ps=S.ps
 kd:S'.kd=S.kd
 rg:k'.rg.length=k.rg.length
 bd:S'.bd.length=S.bd.length
 Gu:S'.ov.length=S.ov.length
 Gz:S.ac.length<=S'.ac.length
 Cv:S'.ac.length<=S.ac.length+1
 es:k'.es.length<=S'.ac.length
 ov:∀o∈S'.ov,o.length<=n+1
theorem afM{n:Nat}(W:i3 n S)(i:Nat):(S.ov.getD i []).length<=n:=by
 cases h:S.ov[i]? with
 | none=>rw[kC,h];exact bg _
 | some o=>rw[kC,h];exact W.ov o (b9 h)
theorem Vs{n i:Nat}{d:Int}(W:i3 n S):∀o∈S.ov.set i (S.ov.getD i []++[d]),o.length<=n+1:=by
 intro o ho;rcases HS ho with h | h
 ·exact xy (W.ov o h)
 ·rw[h,cj];exact DD (afM W i)
theorem Mp{n:Nat}(W:i3 n S):∀o∈S.ov,o.length<=n+1:=λo ho=>xy (W.ov o ho)
theorem ae3(es:List Ent)(n:Int):(jk es n).length<=es.length:=List.length_eraseP_le
theorem RW{α:Type}{l:List α}{c:Nat}{k:α}(h:l[c]?=a_ k):l.set c k=l:=by
 refine oE (dy.mp h) λhc e=>?_;rw[<-e];exact List.set_getElem_self hc
section
variable{S:Mc}{n c:Nat}{k:Ck}
theorem TB(W:i3 n S)(hk:S.ck[c]?=a_ k):sY n S S c k k:=⟨(RW hk).symm,rfl,rfl,rfl,rfl,rfl,aI _,jv _,W.wf.es k (b9 hk),Mp W⟩
theorem EM(h:sY n S S' c k k')(hc:c<S.ck.length)(r:Nat)(v:Int):sY n S (iJ S' c r v) c k { k' with rg:=k'.rg.set r v }:=by
 have e:S'.ck[c]?=a_ k':=by rw[h.ck];exact lu hc
 rw[Ls e];exact⟨by show S'.ck.set c _=_;rw[h.ck,DW],h.ps,h.kd,by show (k'.rg.set r v).length=_;rw[pD];exact h.rg,h.bd,h.Gu,h.Gz,h.Cv,h.es,h.ov⟩
theorem Su(W:i3 n S)(h:sY n S S' c k k')(ng:S'.ov=S.ov)(hc:c<S.ck.length)(i:Nat):∃AI,sY n S (ji S' c i) c k AI/\AI.pl=k'.pl/\AI.ct=k'.ct:=by
 have e:S'.ck[c]?=a_ k':=by rw[h.ck];exact lu hc
 unfold ji;rw[e];dsimp only;cases (cw k'.es i).head? with
 | none=>exact⟨k',h,rfl,rfl⟩
 | some x=>
  refine cD ({ k' with es:=jk k'.es i }) ⟨by show S'.ck.set c _=_;rw[h.ck,DW],h.ps,h.kd,h.rg,?_,?_,h.Gz,h.Cv,c7 (ae3 _ _) h.es,?_⟩ rfl rfl
  ·show (S'.bd.set i x.num).length=_;rw[pD];exact h.bd
  ·show (S'.ov.set i (S'.ov.getD i []++[x.d])).length=_;rw[pD];exact h.Gu
  ·show ∀o∈S'.ov.set i (S'.ov.getD i []++[x.d]),o.length<=n+1;rw[ng];exact Vs W
theorem UT{sz:Nat}(W:i3 n S)(g:fU sz s)(hk:S.ck[c]?=a_ k):∃k',sY n S (cV S c s) c k k'/\k'.pl=k.pl/\k'.ct=k.ct:=by
 have hc:c<S.ck.length:=(dy.mp hk).1;have f0:=TB W hk;cases g with
 | put r m h1 h2=>exact⟨_,EM f0 hc _ _,rfl,rfl⟩
 | add r o h1 h2=>
  have e:cV S c ("add",[r,o])=iJ S c r ((k.rg.getD r 0+k.rg.getD o 0)%mZ):=by
   unfold cV;rw[if_neg (show ¬("add" : Str) = "put" from dk),if_pos rfl,hk];rfl
  rw[e];exact cD _ (EM f0 hc _ _) rfl rfl
 | set i r h1 h2=>
  have e:cV S c ("set",[i,r])=setM S c i r:=by kernel_rfl
  rw[e];unfold setM;rw[hk];dsimp only
  have f1:sY n S (iK (ye S c i k (k.rg.getD r 0)) ⟨"set",c,i,b_,a_ (k.rg.getD r 0),b_⟩) c k { k with tn:=k.tn+1,es:=k.es++[⟨k.tn,i,k.rg.getD r 0,S.ac.length⟩] }:=by
   refine⟨rfl,rfl,rfl,rfl,rfl,rfl,?_,?_,?_,λo ho=>Mp W o ho⟩
   ·show S.ac.length<=(S.ac++[_]).length;rw[cj];exact Iq _ _
   ·show (S.ac++[_]).length<=_;rw[cj];exact aI _
   ·show (k.es++[_]).length<=(S.ac++[_]).length;rw[cj,cj];exact DD (W.wf.es k (b9 hk))
  split
  ·exact aR (Su W f1 rfl hc i) λAI f2 e1 e2=>cD AI f2 e1 e2
  ·exact cD _ f1 rfl rfl
 | look r i h1 h2=>
  have e:cV S c ("look",[r,i])=iJ (iK S ⟨"look",c,i,a_ (du S k i).1,b_,(du S k i).2⟩) c r (du S k i).1:=by
   unfold cV;rw[if_neg (show ¬("look" : Str) = "put" from dk),if_neg (show ¬("look" : Str) = "add" from dk),if_neg (show ¬("look" : Str) = "set" from dk),if_pos rfl];show pS S c r i=_;unfold pS;rw[hk]
  rw[e]
  have f1:sY n S (iK S ⟨"look",c,i,a_ (du S k i).1,b_,(du S k i).2⟩) c k k:=by
   refine⟨f0.ck,rfl,rfl,rfl,rfl,rfl,?_,?_,?_,λo ho=>Mp W o ho⟩
   ·show S.ac.length<=(S.ac++[_]).length;rw[cj];exact Iq _ _
   ·show (S.ac++[_]).length<=_;rw[cj];exact aI _
   ·show k.es.length<=(S.ac++[_]).length;rw[cj];exact xy (W.wf.es k (b9 hk))
  exact cD _ (EM f1 hc _ _) rfl rfl
 | swap r i h1 h2=>
  have e:cV S c ("swap",[r,i])=iJ (iK (qK S i (k.rg.getD r 0) S.ac.length) ⟨"swap",c,i,a_ (S.bd.getD i 0),a_ (k.rg.getD r 0),(S.ov.getD i []).getLast?⟩) c r (S.bd.getD i 0):=by
   unfold cV;rw[if_neg (show ¬("swap" : Str) = "put" from dk),if_neg (show ¬("swap" : Str) = "add" from dk),if_neg (show ¬("swap" : Str) = "set" from dk),if_neg (show ¬("swap" : Str) = "look" from dk),if_pos rfl];show qR S c r i=_;unfold qR;rw[hk]
  rw[e]
  have f1:sY n S (iK (qK S i (k.rg.getD r 0) S.ac.length) ⟨"swap",c,i,a_ (S.bd.getD i 0),a_ (k.rg.getD r 0),(S.ov.getD i []).getLast?⟩) c k k:=by
   refine⟨f0.ck,rfl,rfl,rfl,?_,?_,?_,?_,?_,?_⟩
   ·show (S.bd.set i _).length=_;rw[pD]
   ·show (S.ov.set i _).length=_;rw[pD]
   ·show S.ac.length<=(S.ac++[_]).length;rw[cj];exact Iq _ _
   ·show (S.ac++[_]).length<=_;rw[cj];exact aI _
   ·show k.es.length<=(S.ac++[_]).length;rw[cj];exact xy (W.wf.es k (b9 hk))
   ·exact Vs W
  exact cD _ (EM f1 hc _ _) rfl rfl
 | clear=>
  have e:cV S c ("clear",[])=S:=by kernel_rfl
  rw[e];exact cD k f0 rfl rfl
 | skip r q h1 h2 h3=>
  have e:cV S c ("skip",[r,q])=S:=by kernel_rfl
  rw[e];exact cD k f0 rfl rfl
theorem VO(W:i3 n S)(hn:n<15000)(h:sY n S S' c k k')(hk:S.ck[c]?=a_ k)(ff:∀p,S.ps[c]?=a_ p->k'.pl<=p.length):i3 (n+1) S':=by
 have dR:=W.ac;have h2:=h.Cv;have h1:=h.Gz;have hc:c<S.ck.length:=(dy.mp hk).1;refine⟨⟨by rw[h.ps];exact W.wf.good,by rw[h.ck,pD,h.ps];exact W.wf.len,by rw[h.bd];exact W.wf.bd,by rw[h.Gu];exact W.wf.ov,?_,?_,li,?_⟩,li,h.ov⟩
 ·intro x hx;rw[h.ck]at hx;rcases HS hx with y | y
  ·exact W.wf.rg x y
  ·rw[y,h.rg];exact W.wf.rg k (b9 hk)
 ·intro i x p hx hp;rw[h.ps]at hp;rw[h.ck]at hx
  by_cases e:c=i
  ·subst e;rw[lu hc]at hx;cases hx;exact ff p hp
  ·rw[A6 e]at hx;exact W.wf.pl i x p hx hp
 ·intro x hx;rw[h.ck]at hx;rcases HS hx with y | y
  ·exact c7 (W.wf.es x y) h1
  ·rw[y];exact h.es
theorem adE{s:Tl}{rg:List Int}{pl:Nat}{p:Pt}(g:fU p.length s)(h:pl<p.length):jC s rg pl<=p.length:=by
 unfold jC
 split
 ·rename_i hs
  cases g with
  | skip r q h1 h2 h3=>exact h2
  | put=>exact absurd (show ("put" : Str) = "skip" from hs.1) dk
  | add=>exact absurd (show ("add" : Str) = "skip" from hs.1) dk
  | set=>exact absurd (show ("set" : Str) = "skip" from hs.1) dk
  | look=>exact absurd (show ("look" : Str) = "skip" from hs.1) dk
  | swap=>exact absurd (show ("swap" : Str) = "skip" from hs.1) dk
  | clear=>exact absurd (show ("clear" : Str) = "skip" from hs.1) dk
 ·exact h
theorem UD(W:i3 n S)(hn:n<15000)(h:mv∈pL S):i3 (n+1) (jj S mv):=by
 rcases zE h with ⟨c,rfl,hc,yi⟩ | ⟨c,k,i,rfl,hk,jP⟩
 ·refine nC (Eo W.wf hc yi) λk p s _ hk aa=>cH aa λhp hs _=>dY (W.wf.part hk) λp' Hz _ _ hg=>?_;have ep:p'=p:=by rw[hp]at Hz;exact(dr Hz).symm
  subst ep;have g:=hg s (b9 hs);refine aR (UT W g hk) λk' f e1 e2=>?_
  have e:jj S ("do",[(c:Int)])=sQ (cV S c s) c s:=by
   unfold jj;rw[if_pos rfl];show rm S ((c:Int)).toNat=_;rw[lC];unfold rm;rw[hk,hp];dsimp only;rw[hs]
  rw[e];have ec:(cV S c s).ck[c]?=a_ k':=by rw[f.ck];exact lu hc
  have ff:k.pl<p'.length:=(dy.mp hs).1;refine VO (k':={ k' with pl:=jC s k'.rg k'.pl,ct:=k'.ct+1 }) W hn ?_ hk λq hq=>?_
  ·unfold sQ;rw[ec];exact⟨by show (cV S c s).ck.set c _=_;rw[f.ck,DW],f.ps,f.kd,f.rg,f.bd,f.Gu,f.Gz,f.Cv,f.es,f.ov⟩
  ·rw[hp]at hq;cases hq;exact adE g (by rw[e1];exact ff)
 ·have hc:c<S.ck.length:=(dy.mp hk).1
  have e:jj S ("carry",[(c:Int),i])=ji S c i.toNat:=by
   unfold jj;rw[if_neg (show ¬("carry" : Str) = "do" from dk)];show ji S ((c:Int)).toNat _=_;rw[lC];rfl
  rw[e];refine aR (Su W (TB W hk) rfl hc i.toNat) λAI f e1 e2=>?_;exact VO W hn f hk λp hp=>by rw[e1];exact W.wf.pl c k p hk hp
end
theorem ahk(g:Ac ps):i3 0 (Ag kd ps):=by
 refine⟨⟨g,by show (ps.map _).length=_;rw[aP];rfl,by show (fg 12 (0:Int)).length=12;rfl,by show (fg 12 ([]:List Int)).length=12;rfl,?_,?_,bg _,?_⟩,aI _,?_⟩
 ·intro k hk;refine aw (jT.mp hk) λ_ _ aa=>?_;subst aa;rfl
 ·intro c k p hk hp;have:k∈(ps.map λ_=>k0):=b9 hk;refine aw (jT.mp this) λ_ _ aa=>?_;subst aa;exact bg _
 ·intro k hk;refine aw (jT.mp hk) λ_ _ aa=>?_;subst aa;exact aI _
 ·intro o ho;rw[List.eq_of_mem_replicate ho];exact aI _
def i9:Nat->List (List Int)->List (Int×Int)
 | _,[]=>[]
 | n,o::r=>(o.map λd=>((n:Int),d))++i9 (n+1) r
def dF(k:Ck):List (Int×Int):=k.es.map λe=>(e.n,e.d)
def oN(a:Act)(i:Nat):List (Int×Int):=if a.k = "look" then [] else [((a.n:Int),(i:Int))]
def lM:Nat->List Act->List (Int×Int)
 | _,[]=>[]
 | i,a::r=>oN a i++lM (i+1) r
def uy(S:Mc):List (Int×Int):=i9 0 S.ov++S.ck.flatMap dF
theorem UK(a:Act):∀(l:List Act) (i:Nat),lM i (l++[a])=lM i l++oN a (i+l.length)
 | [],i=>by simp[lM]
 | b::l,i=>by
  show oN b i++lM (i+1) (l++[a])=(oN b i++lM (i+1) l)++_;rw[UK a l (i+1),cX,iT,show i+1+l.length=i+(l.length+1) by lia]
theorem Tq{x:Int×Int}{i:Nat}:x∈oN a i↔a.k ≠ "look"/\x=((a.n:Int),(i:Int)):=by
 unfold oN
 split <;> simp_all
theorem EJ{x:Int×Int}:∀{l:List Act} {i:Nat},x∈lM i l↔∃(j:Nat) (a:Act),l[j]?=a_ a/\a.k ≠ "look"/\x=((a.n:Int),((i+j:Nat):Int))
 | [],i=>by simp[lM]
 | b::l,i=>by
  show x∈oN b i++lM (i+1) l↔_;rw[dD,Tq,EJ];constructor
  ·rintro(⟨h1,h2⟩ | ⟨j,a,h1,h2,h3⟩)
   ·exact dw 0 b rfl h1 h2
   ·exact dw (j+1) a h1 h2 (by rw[h3,show i+1+j=i+(j+1) by lia])
  ·rintro⟨j,a,h1,h2,h3⟩;cases j with
   | zero=>cases h1;exact .inl ⟨h2,h3⟩
   | succ j=>exact .inr ⟨j,a,h1,h2,by rw[h3,show i+1+j=i+(j+1) by omega]⟩
theorem VM:∀(l:List Act) (i:Nat),(lM i l).Nodup
 | [],_=>QG
 | b::l,i=>by
  show (oN b i++lM (i+1) l).Nodup;refine vt.mpr (dj ?_ (VM l _) λx hx y hy e=>?_)
  ·unfold oN
   split <;> simp
  ·subst e;refine dv (EJ.mp hy) λj a _ _ h=>?_;rw[(Tq.mp hx).2]at h;injection h with _ h
   lia
theorem EI{x:Int×Int}:∀{l:List (List Int)} {i:Nat},x∈i9 i l↔∃(n:Nat) (o:List Int) (d:Int),l[n]?=a_ o/\d∈o/\x=(((i+n:Nat):Int),d)
 | [],i=>by simp[i9]
 | b::l,i=>by
  show x∈_++i9 (i+1) l↔_;rw[dD,jT,EI];constructor
  ·rintro(⟨d,h1,h2⟩ | ⟨n,o,d,h1,h2,h3⟩)
   ·exact qP 0 b d rfl h1 h2.symm
   ·exact qP (n+1) o d h1 h2 (by rw[h3,show i+1+n=i+(n+1) by omega])
  ·rintro⟨n,o,d,h1,h2,h3⟩;cases n with
   | zero=>cases h1;exact .inl ⟨d,h2,h3.symm⟩
   | succ n=>exact .inr ⟨n,o,d,h1,h2,by rw[h3,show i+1+n=i+(n+1) by omega]⟩
theorem KI(d:Int):∀{l:List (List Int)} {n:Nat} (i:Nat),n<l.length->(i9 i (l.set n (l.getD n []++[d]))).Perm (i9 i l++[(((i+n:Nat):Int),d)])
 | [],_,_,h=>by simp at h
 | o::r,0,i,_=>by
  show ((o++[d]).map (λd=>((i:Int),d))++i9 (i+1) r).Perm ((o.map (λd=>((i:Int),d))++i9 (i+1) r)++[((i:Int),d)]);rw[gy,cX,cX];exact vm _ rQ
 | o::r,n+1,i,h=>by
  have ih:=KI d (l:=r) (n:=n) (i+1) (by simpa using h);rw[show i+1+n=i+(n+1) by lia]at ih;show (_++i9 (i+1) (r.set n (r.getD n []++[d]))).Perm ((_++i9 (i+1) r)++_);rw[cX];exact ih.append_left _
theorem KZ{x:Int×Int}(hp:(dF k').Perm (dF k++[x])):∀{l:List Ck} {c:Nat},l[c]?=a_ k->((l.set c k').flatMap dF).Perm (l.flatMap dF++[x])
 | [],_,h=>by simp at h
 | z::l,0,h=>by
  cases h;show (dF k'++l.flatMap dF).Perm ((dF k++l.flatMap dF)++[x]);refine(hp.append_right _).trans ?_;rw[cX,cX];exact vm _ rQ
 | z::l,c+1,h=>by
  show (dF z++(l.set c k').flatMap dF).Perm ((dF z++l.flatMap dF)++[x]);rw[cX];exact(KZ hp (l:=l) (c:=c) h).append_left _
theorem UZ(hp:dF k'=dF k):∀{l:List Ck} {c:Nat},l[c]?=a_ k->(l.set c k').flatMap dF=l.flatMap dF
 | [],_,h=>by simp at h
 | z::l,0,h=>by
  cases h;show dF k'++l.flatMap dF=dF k++l.flatMap dF;rw[hp]
 | z::l,c+1,h=>by
  show dF z++(l.set c k').flatMap dF=dF z++l.flatMap dF;rw[UZ hp (l:=l) (c:=c) h]
theorem adu{n:Nat}(h:(cw es n).head?=a_ x):es.Perm (jk es n++[x]):=by
 have hm:=aaC h;unfold cw at h hm;refine oA (pC.mp hm) λh1 h2=>iY (List.exists_of_eraseP (p:=λe:Ent=>decide (e.n=(n:Int))) h1 h2) λa l1 l2 h3 h4 aa=>oA aa λh5 h6=>?_;unfold jk;rw[h6]
 have e:a=x:=by
  rw[h5,yZ,List.filter_eq_nil_iff.mpr λb hb=>h3 b hb,zc,aax (p:=λe:Ent=>decide (e.n=(n:Int))) h4]at h;exact dr h
 subst e;rw[h5];exact Qt.trans (rQ (l₁:=[a]))
structure MP(m:Nat)(a:Act):Prop where
 c:a.c<m
 n:a.n<12
 k:a.k = "set"/\a.got=b_\/a.k = "look"/\a.got.isSome=c_\/a.k = "swap"/\a.got.isSome=c_
structure dG(S:Mc):Prop where
 pm:(uy S).Perm (lM 0 S.ac)
 ok:∀a∈S.ac,MP S.ps.length a
 sn:∀a∈S.ac,∀d,a.seen=a_ d->((a.n:Int),d)∈lM 0 S.ac
section
variable{S:Mc}{c:Nat}{k:Ck}
theorem dG.ck(h:dG S)(hk:S.ck[c]?=a_ k)(e:k'.es=k.es):dG { S with ck:=S.ck.set c k' }:=
 ⟨by show (i9 0 S.ov++_).Perm _;rw[UZ (by unfold dF;rw[e]) hk];exact h.pm,h.ok,h.sn⟩
theorem dG.Gs(h:dG S)(c r:Nat)(v:Int):dG (iJ S c r v):=by
 unfold iJ;cases e:S.ck[c]? with
 | none=>exact h
 | some k=>exact h.ck e rfl
theorem dG.gon(h:dG S)(c:Nat)(s:Tl):dG (sQ S c s):=by
 unfold sQ;cases e:S.ck[c]? with
 | none=>exact h
 | some k=>exact h.ck e rfl
theorem dG.carry(h:dG S){n:Nat}(hn:n<S.ov.length):dG (ji S c n):=by
 unfold ji;cases e:S.ck[c]? with
 | none=>exact h
 | some k=>
  dsimp only;cases q:(cw k.es n).head? with
  | none=>exact h
  | some x=>
   refine⟨?_,h.ok,h.sn⟩;show (i9 0 (S.ov.set n (S.ov.getD n []++[x.d]))++(S.ck.set c _).flatMap dF).Perm _;refine dM.trans ?_ h.pm;refine((KI x.d 0 hn).append_right _).trans ?_;unfold uy;rw[cX];refine vm _ (rQ.trans ?_);have hc:c<S.ck.length:=(dy.mp e).1
   have z:=KZ (k:={ k with es:=jk k.es n }) (k':=k) (x:=(x.n,x.d)) (l:=S.ck.set c { k with es:=jk k.es n }) (c:=c) (by
    unfold dF;exact(adu q).map (λe:Ent=>(e.n,e.d)) |>.trans (by rw[gy];exact vv _)) (lu hc)
   rw[DW,RW e,Ro q]at z;rw[zr];exact z.symm
theorem dG.act(h:dG S)(jN:S'.ps=S.ps)(dR:S'.ac=S.ac++[a])(aH:MP S.ps.length a)(hsn:∀d,a.seen=a_ d->((a.n:Int),d)∈uy S)(hp:(uy S').Perm (uy S++oN a S.ac.length)):dG S':=by
 have e:=UK a S.ac 0;rw[zr]at e;refine⟨by rw[dR,e];exact hp.trans (h.pm.append_right _),λb hb=>?_,λb hb d hd=>?_⟩
 ·rw[dR]at hb;rw[jN];rcases dD.mp hb with q | q
  ·exact h.ok b q
  ·rw[f7.mp q];exact aH
 ·rw[dR]at hb ⊢;rw[e];refine nj _ ?_;rcases dD.mp hb with q | q
  ·exact h.sn b q d hd
  ·rw[f7.mp q]at hd ⊢;exact h.pm.mem_iff.mp (hsn d hd)
theorem Tp{n:Nat}{d:Int}(h:(S.ov.getD n []).getLast?=a_ d):((n:Int),d)∈uy S:=by
 have hm:=aaF h;cases e:S.ov[n]? with
 | none=>rw[kC,e]at hm;cases hm
 | some o=>
  rw[jX e]at hm;exact nj _ (EI.mpr (qP n o d e hm (by rw[zr])))
theorem aey{n:Nat}{d:Int}(hk:S.ck[c]?=a_ k)(h:(du S k n).2=a_ d):((n:Int),d)∈uy S:=by
 unfold du at h;cases e:zR k.es n with
 | none=>rw[e]at h;exact Tp h
 | some x=>
  rw[e]at h;unfold zR at e;have hm:=aaF e;unfold cw at hm;refine oA (pC.mp hm) λh1 h2=>?_;have h3:=of_decide_eq_true h2;have h4:=dr h;refine f6 _ (qA.mpr (au k (b9 hk) (jT.mpr (au x h1 (by rw[h3,h4])))))
theorem dG.eff{sz:Nat}(h:dG S)(W:i0 S)(g:fU sz s)(hk:S.ck[c]?=a_ k):dG (cV S c s):=by
 have hc:c<S.ck.length:=(dy.mp hk).1;have Pb:=W.len ▸ hc;cases g with
 | put r m h1 h2=>exact h.Gs c _ _
 | add r o h1 h2=>
  unfold cV;rw[if_neg (show ¬("add" : Str) = "put" from dk),if_pos rfl,hk];exact h.Gs c _ _
 | set i r h1 h2=>
  have e:cV S c ("set",[i,r])=setM S c i r:=by kernel_rfl
  rw[e];unfold setM;rw[hk];dsimp only
  have f1:dG (iK (ye S c i k (k.rg.getD r 0)) ⟨"set",c,i,b_,a_ (k.rg.getD r 0),b_⟩):=by
   refine h.act (a:=⟨"set",c,i,b_,a_ (k.rg.getD r 0),b_⟩) rfl rfl ⟨Pb,h1,.inl ⟨rfl,rfl⟩⟩ (λd z=>by cases z) ?_;show (i9 0 S.ov++(S.ck.set c _).flatMap dF).Perm ((i9 0 S.ov++S.ck.flatMap dF)++_);rw[cX];refine(KZ ?_ hk).append_left _;show (List.map _ (k.es++[_])).Perm _;rw[gy];exact vv _
  split
  ·exact f1.carry (by show i<S.ov.length;rw[W.ov];exact h1)
  ·exact f1
 | look r i h1 h2=>
  unfold cV;rw[if_neg (show ¬("look" : Str) = "put" from dk),if_neg (show ¬("look" : Str) = "add" from dk),if_neg (show ¬("look" : Str) = "set" from dk),if_pos rfl];show dG (pS S c r i);unfold pS;rw[hk];refine dG.Gs (S:=iK S _) (h.act (a:=⟨"look",c,i,a_ (du S k i).1,b_,(du S k i).2⟩) rfl rfl ⟨Pb,h2,.inr (.inl ⟨rfl,rfl⟩)⟩ (λd z=>aey hk z) ?_) _ _ _;rw[show oN (⟨"look",c,i,a_ (du S k i).1,b_,(du S k i).2⟩:Act) S.ac.length=[] from if_pos rfl,il];exact vv _
 | swap r i h1 h2=>
  unfold cV;rw[if_neg (show ¬("swap" : Str) = "put" from dk),if_neg (show ¬("swap" : Str) = "add" from dk),if_neg (show ¬("swap" : Str) = "set" from dk),if_neg (show ¬("swap" : Str) = "look" from dk),if_pos rfl];show dG (qR S c r i);unfold qR;rw[hk];refine dG.Gs (S:=iK (qK S _ _ _) _) (h.act (a:=⟨"swap",c,i,a_ (S.bd.getD i 0),a_ (k.rg.getD r 0),(S.ov.getD i []).getLast?⟩) rfl rfl ⟨Pb,h2,.inr (.inr ⟨rfl,rfl⟩)⟩ (λd z=>Tp z) ?_) _ _ _;show (i9 0 (S.ov.set i (S.ov.getD i []++[(S.ac.length:Int)]))++S.ck.flatMap dF).Perm ((i9 0 S.ov++S.ck.flatMap dF)++[_]);refine((KI (S.ac.length:Int) 0 (by rw[W.ov];exact h2)).append_right _).trans ?_;rw[cX,cX,zr];exact vm _ rQ
 | clear=>exact h
 | skip r q h1 h2 h3=>exact h
theorem dG.made{n:Nat}(h:dG S)(W:i3 n S)(hE:∀k∈S.ck,kY k.tn k.es)(hm:mv∈pL S):dG (jj S mv):=by
 rcases zE hm with ⟨c,rfl,hc,yi⟩ | ⟨c,k,i,rfl,hk,jP⟩
 ·refine nC (Eo W.wf hc yi) λk p s sz hk aa=>cH aa λhp hs g=>?_;unfold jj;rw[if_pos rfl];show dG (rm S ((c:Int)).toNat);rw[lC];unfold rm;rw[hk,hp];dsimp only;rw[hs];exact(h.eff W.wf g hk).gon c s
 ·unfold jj;rw[if_neg (show ¬("carry" : Str) = "do" from dk)];refine aR (Ed (hE k (b9 hk)) jP) λj hj aa _=>?_;subst aa;exact h.carry (by rw[W.wf.ov];exact hj)
end
theorem dG.new:dG (Ag kd ps):=by
 refine⟨?_,λa ha=>(by cases ha),λa ha=>(by cases ha)⟩
 have e:(ps.map λ_=>k0).flatMap dF=[]:=P5.mpr λk hk=>by
  refine aw (jT.mp hk) λ_ _ aa=>?_;subst aa;rfl
 show (i9 0 (fg 12 [])++(ps.map λ_=>k0).flatMap dF).Perm [];rw[e];exact vv _
theorem ahQ(hE:∀k∈S.ck,kY k.tn k.es)(h:jV S=[]):∀k∈S.ck,k.es=[]:=by
 intro k hk;cases e:k.es with
 | nil=>rfl
 | cons x r=>
  exfalso;refine oE (vo hk) λc hc=>?_
  have hw:x.n∈iq S.kd k.es:=by
   unfold iq
   split
   ·rw[e];simp
   ·exact DT (hE k hk) (by rw[e];rfl)
  have:(("carry" : Str),[(c:Int),x.n])∈jV S:=qA.mpr ⟨(k,c),PQ.mpr hc,jT.mpr ⟨x.n,hw,rfl⟩⟩;rw[h]at this;cases this
structure nO(S:Mc):Prop where
 nd:∀(n:Nat) o,S.ov[n]?=a_ o->o.Nodup
 im:∀(n:Nat) o,S.ov[n]?=a_ o->∀d∈o,∃(j:Nat) (a:Act),d=(j:Int)/\S.ac[j]?=a_ a/\a.n=n
 sn:∀(i:Nat) a,S.ac[i]?=a_ a->∀d,a.seen=a_ d->∃(j:Nat) (o:List Int),d=(j:Int)/\j<S.ac.length/\S.ov[a.n]?=a_ o/\d∈o
 ok:∀(i:Nat) a,S.ac[i]?=a_ a->MP S.ps.length a
theorem aiR{l:List (List Int)}:∀{i:Nat},(i9 i l).Nodup->∀(n:Nat) o,l[n]?=a_ o->o.Nodup:=by
 induction l with
 | nil=>intro i _ n o h;simp at h
 | cons b l ih=>
  intro i h n o ho;refine cH (vt.mp (show (_++i9 (i+1) l).Nodup from h)) λh1 h2 _=>?_;cases n with
  | zero=>
   cases ho;exact oq.of_map (λd=>((i:Int),d)) (λa b z e=>z (by rw[e])) h1
  | succ n=>exact ih h2 n o ho
theorem dG.WS(h:dG S)(e0:∀k∈S.ck,k.es=[]):nO S:=by
 have e1:S.ck.flatMap dF=[]:=P5.mpr λk hk=>by unfold dF;rw[e0 k hk];rfl
 have p:(i9 0 S.ov).Perm (lM 0 S.ac):=by
  have q:=h.pm;unfold uy at q;rw[e1,il]at q;exact q
 refine⟨aiR (p.nodup_iff.mpr (VM _ _)),λn o ho d hd=>?_,λi a ha d hd=>?_,λi a ha=>h.ok a (b9 ha)⟩
 ·refine dv (EJ.mp (p.mem_iff.mp (EI.mpr ⟨n,o,d,ho,hd,rfl⟩))) λj a h1 _ h3=>?_;injection h3 with h3 h4
  exact dw j a (by rw[h4,zr]) h1 li
 ·have hg:=h.sn a (b9 ha) d hd;refine dv (EJ.mp hg) λj b h1 _ h3=>iY (EI.mp (p.mem_iff.mpr hg)) λn o d' h4 h5 h6=>?_;injection h3 with _ h3
  injection h6 with h6 h7
  have:n=a.n:=li;subst this;exact oC j o (by rw[h3,zr]) ((dy.mp h1).1) h4 (h7 ▸ h5)
structure SA where
 (cl bd ac ov:e_) (ks:List (e_×e_×e_)) (os:List e_)
def ajv(H:Hp)(v:V)(e:Ent):Prop:=∃p,v=.ref p/\H p=a_ (.tup [.int e.n,.int e.num,.int e.d])
structure ak6(H:Hp)(x:e_×e_×e_)(k:Ck):Prop where
 st:H x.1=a_ (.lst [.int (k.pl:Nat),.int (k.ct:Nat),.ref x.2.1,.ref x.2.2])
 rg:H x.2.1=a_ (.lst (k.rg.map V.int))
 es:∃vs,H x.2.2=a_ (.lst vs)/\Paired (ajv H) vs k.es
structure amH(H:Hp)(s:e_)(B:SA)(S:Mc):Prop where
 st:H s=a_ (.lst [.ref B.cl,.ref B.bd,.ref B.ac,.ref B.ov])
 cl:H B.cl=a_ (.lst (B.ks.map λx=>V.ref x.1))
 ks:Paired (ak6 H) B.ks S.ck
 bd:H B.bd=a_ (.lst (S.bd.map V.int))
 ac:∃vs,H B.ac=a_ (.lst vs)/\Paired (kl H) vs S.ac
 ov:H B.ov=a_ (.lst (B.os.map V.ref))
 os:Paired (λa (o:List Int)=>H a=a_ (.lst (o.map V.int))) B.os S.ov
structure amZ(lab:e_->Nat)(s:e_)(B:SA):Prop where
 s:lab s=1
 cl:lab B.cl=3
 bd:lab B.bd=5
 ac:lab B.ac=7
 ov:lab B.ov=9
 k1:∀i x,B.ks[i]?=a_ x->lab x.1=21+8*i
 k2:∀i x,B.ks[i]?=a_ x->lab x.2.1=23+8*i
 k3:∀i x,B.ks[i]?=a_ x->lab x.2.2=25+8*i
 os:∀i a,B.os[i]?=a_ a->lab a=27+8*i
inductive uJ (s:e_) (B:SA):e_->Prop
 | s:uJ s B s
 | cl:uJ s B B.cl
 | bd:uJ s B B.bd
 | ac:uJ s B B.ac
 | ov:uJ s B B.ov
 | k1 {x:e_×e_×e_}:x∈B.ks->uJ s B x.1
 | k2 {x:e_×e_×e_}:x∈B.ks->uJ s B x.2.1
 | k3 {x:e_×e_×e_}:x∈B.ks->uJ s B x.2.2
 | os {a:e_}:a∈B.os->uJ s B a
section
variable{H H':Hp}{s:e_}{B:SA}{S:Mc}{lab:e_->Nat}
end
def kQ(l:List Int)(w:Str):List T3:=(l.zip l.tail).map λx=>(x.1,x.2,w)
def fw(S:Mc)(j:Nat):Option Nat:=S.ac[j]?.map Act.c
def mG(S:Mc)(c i:Nat):List Nat:=(List.range i).filter λj=>decide (fw S j=a_ c)
def Cu(S:Mc)(c:Nat):List T3:=kQ ((mG S c S.ac.length).map λ(n:Nat)=>(n:Int)) "own"
def nK(S:Mc)(m:Nat):List T3:=(List.range m).flatMap (Cu S)
def pN(S:Mc)(j:Nat):Option T3:=(S.ac[j]?.bind Act.seen).map λd=>(d,(j:Int),("seen" : Str))
def oG(S:Mc)(i:Nat):List T3:=(List.range i).filterMap (pN S)
def wL(S:Mc)(n:Nat):List T3:=kQ (S.ov.getD n []) "over"
def pP(S:Mc)(m:Nat):List T3:=(List.range m).flatMap (wL S)
def nextM(o:List Int)(s:Option Int):Option Int:=((b_::o.map a_).zip o).lookup s
def uh(S:Mc)(j:Nat)(a:Act):Option T3:=if a.k = "set" then b_ else (nextM (S.ov.getD a.n []) a.seen).bind λb=>if b=(j:Int) then b_ else a_ ((j:Int),b,("ahead" : Str))
def nD(S:Mc)(j:Nat):Option T3:=S.ac[j]?.bind (uh S j)
def pM(S:Mc)(i:Nat):List T3:=(List.range i).filterMap (nD S)
def mq(S:Mc):List T3:=nK S S.ps.length++oG S S.ac.length++pP S 12++pM S S.ac.length
def qO(S:Mc)(i m:Nat):List Nat:=(List.range' (i+1) m).filter λj=>decide (fw S j=fw S i)
def pV(S:Mc)(i:Nat):List T3:=((qO S i (S.ac.length-(i+1))).head?.map λ(j:Nat)=>((i:Int),(j:Int),("own" : Str))).toList
def sI(S:Mc)(i m:Nat):List T3:=((List.range m).filter λj=>decide (S.ac[j]?.bind Act.seen=a_ (i:Int))).map λ(j:Nat)=>((i:Int),(j:Int),("seen" : Str))
def pZ(S:Mc)(i:Nat):List T3:=pV S i++sI S i S.ac.length
def nG(o:List Int)(m:Nat):List T3:=(List.range m).map λk=>(o.getD k 0,o.getD (k+1) 0,("over" : Str))
def oH(S:Mc)(n i:Nat):Option T3:=if S.ac[i]?.map Act.n=a_ n then nD S i else b_
def sH(S:Mc)(n m:Nat):List T3:=(List.range m).filterMap (oH S n)
def lN(S:Mc)(n:Nat):List T3:=nG (S.ov.getD n []) ((S.ov.getD n []).length-1)++sH S n S.ac.length
def yd(S:Mc):List T3:=(List.range S.ac.length).flatMap (pZ S)++(List.range 12).flatMap (lN S)
theorem N8:∀{l:List Nat},l.Pairwise (· < ·)->∀i j,(i,j)∈l.zip l.tail↔i∈l/\j∈l/\i<j/\∀k∈l,¬(i<k/\k<j)
 | [],_,i,j=>by simp
 | [x],_,i,j=>by
  simp only[List.tail_cons,List.zip_nil_right,List.not_mem_nil,f7,false_iff];omega
 | x::y::r,h,i,j=>by
  refine oA (rV.mp h) λh1 h2=>?_;have h3:=(rV.mp h2).1;have hy:=h1 y (by simp);have ih:=N8 h2 i j;show (i,j)∈(x,y)::(y::r).zip r↔_;rw[bw];constructor
  ·rintro(e | e)
   ·cases e;refine qX (by simp) (by simp) hy λk hk z=>?_;rcases bw.mp hk with q | q
    ·lia
    ·rcases bw.mp q with q | q
     ·lia
     ·have:=h3 k q;lia
   ·refine nL (ih.mp e) λa b c d=>qX (eE _ a) (eE _ b) c λk hk z=>?_;rcases bw.mp hk with q | q
    ·have:=h1 i a;lia
    ·exact d k q z
  ·intro ag;refine nL ag λa b c d=>?_;rcases bw.mp a with e | e
   ·subst e;rcases bw.mp b with q | q
    ·lia
    ·rcases bw.mp q with z | z
     ·left;rw[z]
     ·exact absurd ⟨hy,h3 j z⟩ (d y (by simp))
   ·right
    refine ih.mpr (qX e ?_ c λk hk=>d k (eE _ hk));rcases bw.mp b with q | q
    ·have:=h1 i e;lia
    ·exact q
theorem U'{α β:Type}:∀{l:List α} (m:List β),l.Nodup->(l.zip m).Nodup
 | [],m,_=>by simp
 | _::_,[],_=>by simp
 | x::l,y::m,h=>by
  exact oA (za.mp h) λh1 h2=>za.mpr ⟨λz=>h1 (Bd z).1,U' m h2⟩
theorem Wn{w:Str}(h:l.Nodup):(kQ l w).Nodup:=DC _ (λa b z e=>z (by
 injection e with e1 e2
 injection e2 with e2 _
 exact t6 e1 e2)) (U' _ h)
theorem LH{w:Str}{x:T3}:x∈kQ l w↔(x.1,x.2.1)∈l.zip l.tail/\x.2.2=w:=by
 unfold kQ;rw[jT];constructor
 ·intro ag;refine aw ag λp h aa=>?_;clear ag;subst aa;exact⟨h,rfl⟩
 ·intro ag;refine oA ag λh aa=>?_;clear ag;subst aa;exact au _ h rfl
theorem KH(l:List Int):nG l (l.length-1)=kQ l "over":=by
 refine Iv (by simp[nG,kQ]) λi h1 h2=>?_;have hi:i+1<l.length:=by simp[nG]at h1;omega
 simp only[nG,kQ,xC,List.getElem_range,Ba,List.getElem_tail];rw[jX (aO (show i<l.length by lia)),jX (aO hi)]
theorem Mz{f:Nat->Option T3}(g:T3->Int)(h:∀j x,f j=a_ x->g x=(j:Int))(m:Nat):((List.range m).filterMap f).Nodup:=by
 refine List.pairwise_filterMap.mpr (oq.imp (λ{a b} z x hx y hy e=>z ?_) (DF (n:=m)));have h1:=h a x hx;have h2:=h b y hy;rw[e]at h1;lia
theorem Fq{f:Nat->List T3}{m:Nat}(h1:∀i,i<m->(f i).Nodup)(h2:∀i j,i<m->j<m->i≠j->∀x∈f i,∀y∈f j,x≠y):((List.range m).flatMap f).Nodup:=by
 refine List.pairwise_flatMap.mpr ⟨λi hi=>h1 i (lZ.mp hi),oq.imp_of_mem (λ{i j} hi hj z=>h2 i j (lZ.mp hi) (lZ.mp hj) z) (DF (n:=m))⟩
theorem xO{j:Nat}{x:T3}(h:pN S j=a_ x):∃a,S.ac[j]?=a_ a/\a.seen=a_ x.1/\x.2.1=(j:Int)/\x.2.2 = "seen":=by
 unfold pN at h;refine aw (xr.mp h) λd h1 aa=>?_;subst aa;exact aw (PZ.mp h1) λa h2 h3=>kL a h2 h3 rfl rfl
theorem xM{j:Nat}{x:T3}(h:nD S j=a_ x):(∃a,S.ac[j]?=a_ a)/\x.1=(j:Int)/\x.2.2 = "ahead":=by
 unfold nD at h;refine aw (PZ.mp h) λa h1 h2=>?_;unfold uh at h2
 split at h2
 ·cases h2
 ·refine aw (PZ.mp h2) λb _ h4=>?_
  split at h4
  ·cases h4
  ·cases h4;exact dj ⟨a,h1⟩ rfl rfl
section
variable{S:Mc}
theorem vI{c m j:Nat}:j∈mG S c m↔j<m/\fw S j=a_ c:=by
 unfold mG;rw[pC,lZ,decide_eq_true_iff]
theorem KR(c m:Nat):(mG S c m).Pairwise (· < ·):=aaH _ List.pairwise_lt_range
def Xk(S:Mc)(x:T3):Prop:=∃i j c:Nat,x=((i:Int),(j:Int),("own" : Str))/\i<j/\j<S.ac.length/\fw S i=a_ c/\fw S j=a_ c/\∀k,i<k->k<j->fw S k≠a_ c
theorem zP{c:Nat}{x:T3}:x∈Cu S c↔∃i j:Nat,x=((i:Int),(j:Int),("own" : Str))/\i<j/\j<S.ac.length/\fw S i=a_ c/\fw S j=a_ c/\∀k,i<k->k<j->fw S k≠a_ c:=by
 unfold Cu;rw[LH,<-IP,List.zip_map,jT];constructor
 ·intro ag;refine oA ag λaa hw=>?_;refine aw aa λp hp e=>?_;refine nL ((N8 (KR c _) p.1 p.2).mp hp) λh1 h2 h3 h4=>⟨p.1,p.2,?_,h3,((vI.mp h2).1),((vI.mp h1).2),((vI.mp h2).2),(λk a b z=>h4 k (vI.mpr ⟨DV b (vI.mp h2).1,z⟩) ⟨a,b⟩)⟩;injection e with e1 e2
  exact t6 e1.symm (t6 e2.symm hw)
 ·intro ag;refine eP ag λi j aa h1 h2 h3 h4 h5=>?_;clear ag;subst aa;exact⟨⟨(i,j),(N8 (KR c _) i j).mpr ⟨vI.mpr ⟨DV h1 h2,h3⟩,vI.mpr ⟨h2,h4⟩,h1,λk hk z=>h5 k z.1 z.2 (vI.mp hk).2⟩,rfl⟩,rfl⟩
theorem Ec{i:Nat}{x:T3}(hi:i<S.ac.length):x∈pV S i↔∃j c:Nat,x=((i:Int),(j:Int),("own" : Str))/\i<j/\j<S.ac.length/\fw S i=a_ c/\fw S j=a_ c/\∀k,i<k->k<j->fw S k≠a_ c:=by
 have hc:fw S i=a_ S.ac[i].c:=by unfold fw;rw[aO hi];rfl
 unfold pV qO;rw[List.head?_filter,Option.mem_toList,xr,hc];constructor
 ·intro ag;refine aw ag λj h1 aa=>?_;clear ag;subst aa;refine cH (aar.mp h1) λh2 h3 h4=>?_;rw[aa0]at h3
  exact⟨j,S.ac[i].c,rfl,li,om,rfl,of_decide_eq_true h2,λk a b z=>by
   have:=h4 k li b;rw[z]at this;simp at this⟩
 ·intro ag;refine eP ag λj c aa h1 h2 h3 h4 h5=>?_;clear ag;subst aa;cases h3;refine au j (aar.mpr ⟨decide_eq_true h4,by rw[aa0];lia,λk a b=>?_⟩) rfl;simp[h5 k li b]
theorem Eb{i m:Nat}{x:T3}:x∈sI S i m↔∃j,j<m/\pN S j=a_ x/\x.1=(i:Int):=by
 unfold sI;rw[jT];constructor
 ·intro ag;refine aw ag λj h aa=>?_;clear ag;subst aa;refine oA (pC.mp h) λh1 h2=>cD j (lZ.mp h1) ?_ rfl;unfold pN;rw[of_decide_eq_true h2];rfl
 ·intro ag;refine aR ag λj h1 h2 h3=>?_;refine dY (xO h2) λa e1 e2 e3 e4=>au j (pC.mpr ⟨lZ.mpr h1,decide_eq_true ?_⟩) (t6 h3.symm (t6 e3.symm e4.symm));rw[e1,<-h3];exact e2
theorem adY(Z:nO S)(hc:∀(i:Nat) a,S.ac[i]?=a_ a->a.c<S.ps.length)(x:T3):x∈mq S↔x∈yd S:=by
 have e1:x∈mq S↔Xk S x\/(∃j,j<S.ac.length/\pN S j=a_ x)\/(∃n,n<12/\x∈wL S n)\/∃j,j<S.ac.length/\nD S j=a_ x:=by
  unfold mq nK oG pP pM;simp only[dD,qA,tP,lZ,or_assoc];refine or_congr ?_ Iff.rfl;constructor
  ·intro ag;refine aw ag λc h1 h2=>?_;exact As (zP.mp h2) λi j r=>⟨i,j,c,r⟩
  ·intro ag;refine Nl ag λi j c r=>?_;refine au c ?_ (zP.mpr (lR i j r));refine aw (xr.mp r.2.2.2.1) λa h1 h2=>?_;rw[<-h2];exact hc i a h1
 have e2:x∈yd S↔Xk S x\/(∃j,j<S.ac.length/\pN S j=a_ x)\/(∃n,n<12/\x∈wL S n)\/∃j,j<S.ac.length/\nD S j=a_ x:=by
  unfold yd pZ lN sH;simp only[dD,qA,tP,lZ,KH];constructor
  ·rintro(⟨i,h1,h2 | h2⟩ | ⟨n,h1,h2 | ⟨i,h2,h3⟩⟩)
   ·exact bX ((Ec h1).mp h2) λj c e r=>.inl (⟨i,j,c,e,r⟩)
   ·exact aR (Eb.mp h2) λj r1 r2 _=>.inr (.inl (au j r1 r2))
   ·exact .inr (.inr (.inl (au n h1 h2)))
   ·unfold oH at h3
    split at h3
    ·exact .inr (.inr (.inr (au i h2 h3)))
    ·cases h3
  ·rintro(⟨i,j,c,e,r⟩ | ⟨j,h1,h2⟩ | ⟨n,h1,h2⟩ | ⟨i,h1,h2⟩)
   ·exact .inl (au i (DV r.1 r.2.1) (.inl ((Ec (DV r.1 r.2.1)).mpr (fq j c e r))))
   ·exact dY (xO h2) λa f1 f2 f3 f4=>dv (Z.sn j a f1 _ f2) λi o g1 g2 _=>.inl (au i g2 (.inr (Eb.mpr (cD j h1 h2 g1))))
   ·exact .inr (au n h1 (.inl h2))
   ·refine oA (xM h2) λaa _=>oE aa λa f1=>.inr (au a.n ((Z.ok i a f1).n) (.inr (au i h1 ?_)));unfold oH;rw[f1];exact(if_pos rfl).trans h2
 rw[e1,e2]
theorem VA(Z:nO S)(n:Nat):(wL S n).Nodup:=by
 refine Wn ?_;cases e:S.ov[n]? with
 | none=>rw[kC,e];exact QG
 | some o=>rw[jX e];exact Z.nd n o e
theorem zZ(Z:nO S){n:Nat}{x:T3}(h:x∈wL S n):x.2.2 = "over"/\∃(j:Nat) (a:Act),x.1=(j:Int)/\S.ac[j]?=a_ a/\a.n=n:=by
 refine oA (LH.mp h) λh1 h2=>⟨h2,?_⟩;have h3:=(Bd h1).1;cases e:S.ov[n]? with
 | none=>rw[kC,e]at h3;cases h3
 | some o=>rw[jX e]at h3;exact Z.im n o e _ h3
theorem adF(Z:nO S):(mq S).Nodup:=by
 have wO:∀x∈nK S S.ps.length,x.2.2 = "own":=λx h=>by
  refine aw (qA.mp h) λc _ h2=>bX (zP.mp h2) λi j aa _=>?_;subst aa;rfl
 have wS:∀x∈oG S S.ac.length,x.2.2 = "seen":=λx h=>by
  exact aw (tP.mp h) λj _ h2=>(xO h2).choose_spec.2.2.2
 have wV:∀x∈pP S 12,x.2.2 = "over":=λx h=>by
  exact aw (qA.mp h) λj _ h2=>(zZ Z h2).1
 have wA:∀x∈pM S S.ac.length,x.2.2 = "ahead":=λx h=>by
  exact aw (tP.mp h) λj _ h2=>(xM h2).2.2
 unfold mq;refine vt.mpr (dj (vt.mpr ⟨vt.mpr ⟨?_,?_,?_⟩,?_,?_⟩) ?_ ?_)
 ·refine Fq (λc _=>Wn (DC _ (λa b z e=>z li) ((KR c _).imp λz=>eM z))) λc d _ _ gv x hx y hy e=>gv ?_
  ·subst e;refine jD (zP.mp hx) λi j e1 _ _ aa=>oA aa λe2 _=>jD (zP.mp hy) λi' j' pA _ _ aa=>oA aa λqq _=>?_;rw[e1]at pA;injection pA with z _
   have:i=i':=li;subst this;rw[e2]at qq;exact dr qq
 ·exact Mz (λx=>x.2.1) (λj x h=>(xO h).choose_spec.2.2.1) _
 ·intro x hx y hy e;have h1:=wO x hx;rw[e,wS y hy]at h1;exact absurd h1 dk
 ·refine Fq (λn _=>VA Z n) λc d _ _ gv x hx y hy e=>gv ?_;subst e;refine oA (zZ Z hx) λ_ aa=>dv aa λj a e1 e2 e3=>oA (zZ Z hy) λ_ aa=>dv aa λj' a' pA qq xp=>?_;have:j=j':=li;subst this;rw[e2]at qq;cases qq;rw[<-e3,<-xp]
 ·intro x hx y hy e;have h2:=wV y hy;rw[<-e]at h2;rcases dD.mp hx with h | h
  ·rw[wO x h]at h2;exact absurd h2 dk
  ·rw[wS x h]at h2;exact absurd h2 dk
 ·exact Mz (λx=>x.1) (λj x h=>(xM h).2.1) _
 ·intro x hx y hy e;have h2:=wA y hy;rw[<-e]at h2;rcases dD.mp hx with h | h
  ·rcases dD.mp h with h | h
   ·rw[wO x h]at h2;exact absurd h2 dk
   ·rw[wS x h]at h2;exact absurd h2 dk
  ·rw[wV x h]at h2;exact absurd h2 dk
theorem ahY(Z:nO S):(yd S).Nodup:=by
 have w1:∀i,i<S.ac.length->∀x∈pZ S i,x.1=(i:Int)/\(x.2.2 = "own"\/x.2.2 = "seen"):=λi hi x h=>by
  rcases dD.mp h with h | h
  ·refine bX ((Ec hi).mp h) λj c aa _=>?_;subst aa;exact⟨rfl,.inl rfl⟩
  ·exact aR (Eb.mp h) λj _ h2 h3=>⟨h3,.inr (xO h2).choose_spec.2.2.2⟩
 have w2:∀n,∀x∈lN S n,(∃(j:Nat) (a:Act),x.1=(j:Int)/\S.ac[j]?=a_ a/\a.n=n)/\(x.2.2 = "over"\/x.2.2 = "ahead"):=λn x h=>by
  unfold lN at h;rw[KH]at h;rcases dD.mp h with h | h
  ·exact⟨(zZ Z h).2,.inl (zZ Z h).1⟩
  ·refine aw (tP.mp h) λi _ h2=>?_;unfold oH at h2
   split at h2
   ·rename_i q
    exact aw (xr.mp q) λa f1 f2=>cH (xM h2) λ_ e1 e2=>⟨⟨i,a,e1,f1,f2⟩,.inr e2⟩
   ·cases h2
 refine vt.mpr (dj (Fq (λi hi=>vt.mpr ⟨?_,?_,?_⟩) λi j hi hj nh x hx y hy e=>nh ?_) (Fq (λn _=>?_) λn m _ _ hnm x hx y hy e=>hnm ?_) ?_)
 ·unfold pV;cases (qO S i (S.ac.length-(i+1))).head? <;> simp
 ·unfold sI;exact DC _ (λa b z e=>z (by injection e with _ e;injection e with e _;omega)) (aaH _ DF)
 ·intro x hx y hy e;refine bX ((Ec hi).mp hx) λj c e1 _=>aR (Eb.mp hy) λj' _ h2 h3=>?_;have h4:=(xO h2).choose_spec.2.2.2;rw[<-e,e1]at h4;exact absurd (show ("own" : Str) = "seen" from h4) dk
 ·have h1:=(w1 i hi x hx).1;have h2:=(w1 j hj y hy).1;rw[e]at h1;lia
 ·unfold lN;rw[KH];refine vt.mpr (dj (VA Z n) (Mz (λx=>x.1) (λj x h=>?_) _) λx hx y hy e=>?_)
  ·unfold oH at h
   split at h
   ·exact(xM h).2.1
   ·cases h
  ·have h1:=(zZ Z hx).1;refine aw (tP.mp hy) λi _ h2=>?_;unfold oH at h2
   split at h2
   ·rw[e,(xM h2).2.2]at h1;exact absurd h1 dk
   ·cases h2
 ·refine oA (w2 n x hx) λaa _=>dv aa λj a e1 e2 e3=>oA (w2 m y hy) λaa _=>dv aa λj' a' pA qq xp=>?_;rw[e]at e1;have:j=j':=li;subst this;rw[e2]at qq;cases qq;rw[<-e3,<-xp]
 ·intro x hx y hy e;refine aw (qA.mp hx) λi h1 h2=>aw (qA.mp hy) λn _ h3=>?_;have a:=(w1 i (lZ.mp h1) x h2).2;have b:=(w2 n y h3).2;rw[<-e]at b;rcases a with a | a <;> rcases b with b | b <;> (rw[a]at b;exact absurd b dk)
end
theorem Jw{x y:T3}(h1:iZ x y=c_)(h2:iZ y x=c_):False:=by
 unfold iZ at h1 h2
 by_cases e1:x.1=y.1
 ·rw[if_pos e1]at h1;rw[if_pos e1.symm]at h2
  by_cases e2:x.2.1=y.2.1
  ·rw[if_pos e2]at h1;rw[if_pos e2.symm]at h2
   by_cases e3:x.2.2=y.2.2
   ·rw[if_pos e3]at h1;cases h1
   ·rw[if_neg e3]at h1;rw[if_neg (dW e3)]at h2;exact List.lt_asymm (of_decide_eq_true h1) (of_decide_eq_true h2)
  ·rw[if_neg e2]at h1;rw[if_neg (dW e2)]at h2;have:=of_decide_eq_true h1;have:=of_decide_eq_true h2;lia
 ·rw[if_neg e1]at h1;rw[if_neg (dW e1)]at h2;have:=of_decide_eq_true h1;have:=of_decide_eq_true h2;lia
theorem QZ:∀{a b:List T3},a.Pairwise (λx y=>iZ x y=c_)->b.Pairwise (λx y=>iZ x y=c_)->(∀x,x∈a↔x∈b)->a=b
 | [],[],_,_,_=>rfl
 | [],y::b,_,_,h=>absurd ((h y).mpr (by simp)) (by simp)
 | x::a,[],_,_,h=>absurd ((h x).mp (by simp)) (by simp)
 | x::a,y::b,ha,hb,h=>by
  refine oA (rV.mp ha) λa1 a2=>oA (rV.mp hb) λb1 b2=>?_
  have e:x=y:=by
   rcases bw.mp ((h x).mp (by simp))with q | q
   ·exact q
   ·rcases bw.mp ((h y).mpr (by simp))with z | z
    ·exact z.symm
    ·exact(Jw (a1 y z) (b1 x q)).elim
  subst e
  congr 1
  refine QZ a2 b2 λz=>⟨λq=>?_,λq=>?_⟩
  ·rcases bw.mp ((h z).mp (eE _ q))with e | e
   ·subst e;exact(Jw (a1 z q) (a1 z q)).elim
   ·exact e
  ·rcases bw.mp ((h z).mpr (eE _ q))with e | e
   ·subst e;exact(Jw (b1 z q) (b1 z q)).elim
   ·exact e
def N0(x:T3):List V:=[.int x.1,.int x.2.1,.str x.2.2]
def cA(H:Hp)(v:V)(x:T3):Prop:=∃p,v=.ref p/\H p=a_ (.tup (N0 x))
theorem cA.keep(k:∀b xs,H b=a_ (.tup xs)->H' b=a_ (.tup xs)){x:T3}(h:cA H v x):cA H' v x:=aw h λp e q=>⟨p,e,k _ _ q⟩
theorem cA.all{L:List T3}(h:Paired (cA H) vs L)(k:∀b xs,H b=a_ (.tup xs)->H' b=a_ (.tup xs)):Paired (cA H') vs L:=Paired.cZ h λ_ _ q=>q.keep k
theorem ak0(xs:List V):mJ xs (a_ 1) b_=xs.tail:=by
 cases xs with
 | nil=>rfl
 | cons y ps=>exact Nw y ps
theorem E1(o:List Int)(w:Str):(kQ o w).length<=o.length:=by
 unfold kQ;rw[aP,DM];lia
section
variable{t:a9}{C CT:e_}
def M':Sp:=λvs H Q _=>∃l o w,vs=[.ref l,.str w]/\H l=a_ (.lst (o.map V.int))/\o.length<=1000/\∀H' l' us,ak H H'->H l'=b_->H' l'=a_ (.lst us)->Paired (cA H') us (kQ o w)->Q (.ref l') H'
theorem akJ:bp zLo zLo (aW Cr):=bJ
theorem Vx:(["why","one","other"]:List Str).Nodup:=dk
theorem aiS(F:aY K "neighbours" "neighbours" Cr f fd)(hz:mg "zip" = b_):ay P w K mg base aB 1 f fd zLo M':=by
 refine F.ok akJ λaM A _ s H vs Q E hr h=>?_
 ·obtain⟨l,o,w,aa,hl,h1,q⟩:=h;subst aa
  refine⟨_,aF (bj (jA (N:=["why","one","other"]) (idx:=[1]) rfl (ee.of (by kernel_rfl)) (zx (aI _) (jv _))
   (Lv (b1:=c_) (b2:=c_) rfl hz (ae (pv 0) (ae (zH Kp (pv 0) (zL aA) zM) af)))
   (λ_ _ _ _=>qL rfl (iV (cG (i:=1) Vx rfl (aX rfl) (.inr rfl)) (iV (cG (i:=2) Vx rfl (aX rfl) (.inr rfl)) qH)))
   (λ_ _ _ _=>jW) λ_ _ _ _=>hV (ae (pv 1) (ae (pv 2) (ae (pv 0) af))))),?_⟩
  refine au _ rfl (vr rfl (au _ rfl ⟨l,⟨_,rfl,av.of hl,λr nr=>?_⟩⟩));rw[ak0];have s0:ak H (upd H r (.lst (o.map V.int).tail)):=aN (ak.refl _) nr;have C3:=s0 _ _ hl;have ik:upd H r (.lst (o.map V.int).tail) r=a_ (.lst (o.map V.int).tail):=ax;generalize upd H r (.lst (o.map V.int).tail)=H0 at s0 C3 ik ⊢;have hn:(o.zip o.tail).length=o.length-1:=by rw[DM,Iu];lia
  refine⟨l,r,_,_,rfl,(av.of C3),(av.of ik),(iH (n:=(o.zip o.tail).length) (λi ys H'=>i<=(o.zip o.tail).length/\ak H0 H'/\Paired (cA H') ys ((kQ o w).take i)) (eO (gz li)) (dj (bg _) (ak.refl _) .nil) ?_ ?_ ?_ ?_ ?_)⟩
  ·rintro i ys H' ⟨_,_,e⟩;rw[r_ e,dS];exact DL _ _
  ·rintro i ys H' hi ⟨_,s4,_⟩;have h2:i<o.length:=li;have h3:i<o.tail.length:=by rw[Iu];lia
   exact⟨_,_,(V.int o[i]),(V.int o.tail[i]),(av.of (s4 _ _ C3)),(av.of (s4 _ _ ik)),(by rw[dq,aO h2];rfl),(by rw[<-IP,dq,aO h3];rfl)⟩
  ·rintro ys H' ⟨_,s4,_⟩;exact dw _ _ (av.of (s4 _ _ C3)) (av.of (s4 _ _ ik)) (.inr (by rw[<-IP,aP,Iu];lia))
  ·rintro i ys H1 hi ⟨_,s4,e⟩ v H2 ⟨p,x,y,np,ev,eH,AJ⟩;subst ev;subst eH;refine oA (AJ _ _ (av.of (s4 _ _ C3)) (av.of (s4 _ _ ik))) λhx hy=>?_;have h2:i<o.length:=li;have h3:i<o.tail.length:=by rw[Iu];lia
   rw[dq,aO h2]at hx;rw[<-IP,dq,aO h3]at hy;cases hx;cases hy;have s5:=aN (o:=.tup [V.int o[i],V.int o.tail[i]]) (ak.refl H1) np;have jt:upd H1 p (.tup [V.int o[i],V.int o.tail[i]]) p=a_ (.tup [V.int o[i],V.int o.tail[i]]):=ax;generalize upd H1 p (.tup [V.int o[i],V.int o.tail[i]])=H5 at s5 jt ⊢;refine⟨p,⟨_,rfl,aJ.of jt,rfl,_,_,rfl,_,[],rfl,rfl,_,rfl,_,rfl,_,rfl,(sl (n:=3)),λtp ht=>⟨hi,(s4.trans s5).trans (aN (ak.refl _) ht),?_⟩⟩⟩
   have wY:(kQ o w)[i]?=a_ (o[i],o.tail[i],w):=by
    unfold kQ;rw[dq,aO hi,Ba];rfl
   rw[qy,wY];exact qB (cA.all e λb xs e=>aN s5 ht _ _ e) (au tp rfl ax)
  ·rintro ys H1 ⟨_,s4,e⟩;rw[je (by unfold kQ;rw[aP];exact aI _)]at e;have hz:=E1 o w;refine⟨by rw[r_ e];exact eO (gz li),λrl gF=>?_⟩;have s6:=aN (o:=.lst ys) s4 gF;exact q _ rl ys (s0.trans s6) ((s0.trans s4).free gF) ax (cA.all e λb xs e=>aN (ak.refl _) gF _ _ e)
end
theorem BA{o:HO}(s:ak H H')(n:H l=b_):ak H (upd H' l o):=λb u e=>by
 rw[ao (λz=>by rw[z,n]at e;cases e)];exact s b u e
theorem adi(S:Mc)(c i:Nat):mG S c (i+1)=mG S c i++(if fw S i=a_ c then [i] else []):=by
 unfold mG;rw[lD,yZ]
 by_cases h:fw S i=a_ c <;> simp[h]
theorem J8(S:Mc)(c i:Nat):(mG S c i).length<=i:=by
 have:=yX (λj=>decide (fw S j=a_ c)) (List.range i);rw[rW]at this;exact this
def eh(l:List Nat):List Int:=l.map λ(n:Nat)=>(n:Int)
theorem Sb(S:Mc)(m:Nat):nK S (m+1)=nK S m++Cu S m:=by
 unfold nK;rw[lD,vp];simp
theorem Uv(S:Mc)(c:Nat):(Cu S c).length<=S.ac.length:=c7 (E1 _ _) (by rw[aP];exact J8 _ _ _)
theorem Em(S:Mc):∀m,(nK S m).length<=m*S.ac.length
 | 0=>bg _
 | m+1=>by
  rw[Sb,cj,Bk];exact IE (Em S m) (Uv S m)
section
variable{t:a9}{C CT:e_}
def vN(t:a9)(C CT:e_)(f:Mc->List T3):Sp:=λvs H Q _=>∃m A S,vs=[.ref m]/\bb t C CT H m A S/\i0 S/\S.ac.length<=100/\nO S/\∀H' l us,ak H H'->H l=b_->H' l=a_ (.lst us)->Paired (cA H') us (f S)->Q (.ref l) H'
theorem EC:bp ["machine","found","clerk","own"] zLf (aW Lp):=bJ
theorem Vz:(["clerk","number","deed"]:List Str).Nodup:=dk
theorem ahd{f fD fN:e_}(F:aY K "by_own" "by_own" Lp f fd)(cM:gm K C)(dQ:mg "len" = b_)(dI:mg "range" = b_)(tF:mg "enumerate" = b_)
  (GD:ay P w K mg base aB 1 fD ni zLd (BF t C CT)) (bD:Binds K ni zLd []) (mD:Meth K C "deeds" fD)
  (GN:ay P w K mg base aB 1 fN Dp zLo M') (FN:aY K "neighbours" "neighbours" Cr fN Dp) (bN:Binds K Dp zLo []) (mN:mg "neighbours" = a_ (.ref fN)):ay P w K mg base aB 2 f fd zLf (vN t C CT λS=>nK S S.ps.length):=by
 refine F.ok EC λaM A _ s H vs Q E hr h=>?_
 ·obtain⟨m,A,S,aa,M,W,dR,Z,q⟩:=h;subst aa
  refine let R1:TS:=_;let R2:TS:=_;let R3:TS:=_;⟨_,aE (cU (i:=1) EC.nd rfl (aX rfl) (fk af)) (pR R3 (aE (jY kE rfl (kG rfl dI (ae (bG fj rfl dQ q_ (ae (bz (pv 0) rfl) af)) af)) (cG (i:=2) EC.nd rfl (qQ rfl)) (pR R2 (aE (Bp (i:=3) (N:=["clerk","number","deed"]) (idx:=[2]) EC.nd rfl rfl rfl (ee.of (by kernel_rfl)) (zx (aI _) (jv _)) (xQ (b:=c_) rfl tF (ae (nv (pv 0) cM.cl mD GD hr bD .nil a7) af))
     (λ_ _ _ _=>qL rfl (iV (cG (i:=1) Vz rfl (aX rfl) (.inr rfl)) (iV (cG (i:=2) Vz rfl (aX rfl) (.inr rfl)) qH)))
     (λ_ _ _ _=>zK (cb eJ (aT (Ab K) (pv 2) aA) (pv 0) (bQ _))) λ_ _ _ _=>pv 1)
    (pR R1 (aF (dE (ke m_ PySem.F.slot_list_extend PySem.F.type_list_extend Ea (pv 1) (ae (dN GN hr rfl mN FN.kp bN .nil a7 (ae (pv 3) (ae di af))) af))))))))
   (aF (bj (pv 1))))),?_⟩
  have hsz:=gG;refine⟨qc,λlw nw=>?_⟩;have s0:ak H (upd H lw (.lst [])):=aN (ak.refl _) nw;have qh:upd H lw (.lst []) lw=a_ (.lst []):=ax;generalize upd H lw (.lst [])=H0 at s0 qh ⊢;have h4:=W.good.le;refine bX (id M.obj) λdx fs hm G=>dv (id M.pg) λpa pv ep hp qm=>?_;cases ep;refine vF rfl (s0 _ _ hm) cM.cl cM.program G.program ⟨A.pg,⟨_,rfl,.inr (aJ.of (s0 _ _ hp)),_,rfl,by rw[r_ qm];lia,by rw[r_ qm];lia,?_⟩⟩;rw[show ((pv.length:Int)).toNat=S.ps.length by rw[r_ qm];lia]
  let W1:IV:=λi σ H'=>i<=S.ps.length/\∃c y us,σ=[a_ (.ref m),a_ (.ref lw),c,y]/\ak H H'/\H' lw=a_ (.lst us)/\Paired (cA H') us (nK S i)
  refine pJ (n:=S.ps.length) W1 ⟨bg _,b_,b_,[],rfl,s0,qh,.nil⟩ ?_ ?_
  ·intro i σ H1 hi ag;refine oA ag λ_ aa=>?_;obtain⟨c,y,us,aa,s1,iQ,dC⟩:=aa;subst aa;rw[ou];refine vM rfl (s1 _ _ hm) (G.ms _ dk) (qP m A S rfl (M.same s1) λld ws nd k8=>?_);have hd2:upd H1 ld (.lst ws) ld=a_ (.lst ws):=ax;have s2:ak H1 (upd H1 ld (.lst ws)):=aN (ak.refl _) nd;have kN:=Paired.cZ k8 λ_ _ (q:kl H1 _ _)=>aw q λp e h=>(⟨p,e,s2 _ _ h⟩:kl (upd H1 ld (.lst ws)) _ _);generalize upd H1 ld (.lst ws)=H2 at hd2 s2 kN ⊢;have og:=r_ kN;refine⟨ld,⟨_,rfl,av.of hd2,iH (n:=S.ac.length) (λj ys H'=>j<=S.ac.length/\ak H2 H'/\ys=(eh (mG S i j)).map V.int) (by rw[hsz];lia) (dj (bg _) (ak.refl _) rfl) ?_ ?_ ?_ ?_ ?_⟩⟩
   ·intro j ys H' ag;refine cH ag λ_ _ aa=>?_;clear ag;subst aa;rw[aP];unfold eh;rw[aP];exact J8 _ _ _
   ·intro j ys H' hj ag;refine cH ag λ_ s4 _=>?_;exact fq _ (ws[j]' li) (av.of (s4 _ _ hd2)) (aO _)
   ·intro ys H' ag;refine cH ag λ_ s4 _=>?_;exact au _ (av.of (s4 _ _ hd2)) li
   ·intro j ys H3 hj ag v H4 gE;refine cH ag λ_ s4 aa=>?_;clear ag;subst aa;refine jD gE λp x np ev eH hx=>?_;subst ev;subst eH;have gu:=hx _ (av.of (s4 _ _ hd2));refine aw (pG kN gu) λa ha aa=>aw aa λpa ex CU=>?_;subst ex;have s5:=aN (o:=.tup [.int j,.ref pa]) (ak.refl H3) np;have jt:upd H3 p (.tup [.int j,.ref pa]) p=a_ (.tup [.int j,.ref pa]):=ax;generalize upd H3 p (.tup [.int j,.ref pa])=H5 at s5 jt ⊢;have hc:fw S j=a_ a.c:=by unfold fw;rw[ha];rfl
    refine⟨p,⟨_,rfl,aJ.of jt,rfl,_,_,rfl,_,[],rfl,rfl,iA (v:=.int (a.c:Nat)) (j:=1) rfl (s5 _ _ (s4 _ _ CU)) rfl ⟨_,rfl,rq (H:=H5) rfl ?_⟩⟩⟩;rw[xT,adi,hc];refine cu (λe=>?_) λe=>?_
    ·refine vr rfl (dj hj (s4.trans s5) ?_);rw[if_pos (by rw[e])];unfold eh;rw[gy,gy];rfl
    ·refine dj hj (s4.trans s5) ?_;rw[if_neg λz=>e (dr z),il]
   ·intro ys H3 ag;refine cH ag λ_ s4 aa=>?_;clear ag;subst aa;have AS:=J8 S i S.ac.length;have CY:(eh (mG S i S.ac.length)).length<=S.ac.length:=by unfold eh;rw[aP];exact AS
    refine⟨by rw[aP,hsz];lia,λlo yB=>?_⟩;have s6:=aN (o:=.lst ((eh (mG S i S.ac.length)).map V.int)) s4 yB;have lg:upd H3 lo (.lst ((eh (mG S i S.ac.length)).map V.int)) lo=a_ (.lst ((eh (mG S i S.ac.length)).map V.int)):=ax;generalize upd H3 lo (.lst ((eh (mG S i S.ac.length)).map V.int))=H6 at s6 lg ⊢;have jb:=s6 _ _ (s2 _ _ iQ);refine cD _ rfl (.inl ⟨rfl,_,av.of jb⟩) (vr rfl (lR lo _ (kL _ rfl lg li λH7 l7 zs s7 n7 yE CV=>?_)));have yD:=r_ CV;have Zp:=Uv S i;have jK:=r_ dC;have wX:=Em S i;have alZ:i*S.ac.length<=4*100:=Bf li dR;have jJ:=s7 _ _ jb;refine⟨lw,l7,us,zs,rfl,rfl,jJ,yE,(by rw[hsz,jK,yD];have:(kQ (eh (mG S i S.ac.length)) "own").length<=S.ac.length:=Zp;lia),hi,⟨_,_,_,rfl,BA (((s1.trans s2).trans s6).trans s7) nw,ax,?_⟩⟩;rw[Sb];have kt:=oB (o:=.lst (us++zs)) jJ;exact vz (cA.all CV kt) (cA.all dC λb xs e=>kt _ _ (s7 _ _ (s6 _ _ (s2 _ _ e))))
  ·intro σ H1 ag;refine oA ag λ_ aa=>?_;obtain⟨c,y,us,aa,s1,iQ,dC⟩:=aa;subst aa;exact vr rfl (q H1 lw us s1 nw iQ dC)
end
theorem Rq(S:Mc)(m:Nat):pP S (m+1)=pP S m++wL S m:=by
 unfold pP;rw[lD,vp];simp
theorem D'{b:Nat}(h:∀o∈S.ov,o.length<=b):∀m,(pP S m).length<=m*b
 | 0=>bg _
 | m+1=>by
  rw[Rq,cj,Bk];refine IE (D' h m) (c7 (E1 _ _) ?_);cases e:S.ov[m]? with
  | none=>rw[kC,e];exact bg _
  | some o=>rw[jX e];exact h o (b9 e)
theorem Vy:∀{n:Nat} {l:List Int},l.Nodup->(∀d∈l,∃j:Nat,d=(j:Int)/\j<n)->l.length<=n
 | 0,[],_,_=>aI _
 | 0,x::l,_,h=>by
  exact aw (h x (by simp)) λj _ hj=>absurd hj (Bc _)
 | n+1,l,hn,h=>by
  have ih:=Vy (n:=n) (l:=l.erase (n:Int)) (hn.erase _) λd hd=>by
   refine aw (h d (List.mem_of_mem_erase hd)) λj e hj=>?_;have fZ:=(List.Nodup.mem_erase_iff hn).mp hd |>.1
   exact au j e li
  rw[List.length_erase]at ih
  split at ih <;> lia
theorem nO.m5(Z:nO S):∀o∈S.ov,o.length<=S.ac.length:=λo ho=>by
 refine oE (vo ho) λn hn=>?_;exact Vy (Z.nd n o hn) λd hd=>dv (Z.im n o hn d hd) λj a e h _=>au j e ((dy.mp h).1)
section
variable{t:a9}{C CT:e_}
theorem JT:bp ["machine","found","name"] zLf (aW KC):=bJ
theorem afP{f fO fN:e_}(F:aY K "by_over" "by_over" KC f fd)(cM:gm K C)(dI:mg "range" = b_)(OF:∃u,mg "NAMES" = a_ u/\RelV (.int 12) u)
  (GO:ay P w K mg base aB 1 fO nW zLc (ES t C CT)) (bO:Binds K nW zLc []) (mO:Meth K C "over" fO)
  (GN:ay P w K mg base aB 1 fN Dp zLo M') (FN:aY K "neighbours" "neighbours" Cr fN Dp) (bN:Binds K Dp zLo []) (mN:mg "neighbours" = a_ (.ref fN)):ay P w K mg base aB 2 f fd zLf (vN t C CT λS=>pP S 12):=by
 refine F.ok JT λaM A _ s H vs Q E hr h=>?_
 ·refine Sf h λm A S aa M W dR Z q=>aw OF λu hu ru=>?_;clear h;subst aa;refine let R1:TS:=_;let R3:TS:=_;⟨_,aE (cU (i:=1) JT.nd rfl (aX rfl) (fk af)) (pR R3 (aE (jY kE rfl (kG rfl dI (ae (fQ rfl hu ru) af)) (cG (i:=2) JT.nd rfl (aX rfl)) (pR R1 (aF (dE (ke m_ PySem.F.slot_list_extend PySem.F.type_list_extend Ea (pv 1) (ae (dN GN hr rfl mN FN.kp bN .nil a7 (ae (iW (pv 0) cM.cl mO GO hr bO .nil a7 (ae (pv 2) af)) (ae di af))) af)))))) (aF (bj (pv 1))))),?_⟩
  have hsz:=gG;have uB:=Z.m5;refine⟨qc,λlw nw=>?_⟩;have s0:ak H (upd H lw (.lst [])):=aN (ak.refl _) nw;have qh:upd H lw (.lst []) lw=a_ (.lst []):=ax;generalize upd H lw (.lst [])=H0 at s0 qh ⊢;refine bX (id M.obj) λdx fs hm G=>(kL 12 rfl qc qc ?_)
  let W1:IV:=λi σ H'=>i<=12/\∃c us,σ=[a_ (.ref m),a_ (.ref lw),c]/\ak H H'/\H' lw=a_ (.lst us)/\Paired (cA H') us (pP S i)
  refine pJ (n:=12) W1 ⟨bg _,b_,[],rfl,s0,qh,.nil⟩ ?_ ?_
  ·intro i σ H1 hi ag;refine oA ag λ_ aa=>?_;refine jD aa λc us aa s1 iQ dC=>?_;subst aa;rw[ou];have ho:S.ov[i]?=a_ (S.ov[i]'(by rw[W.ov];exact hi)):=aO _;have wX:=uB _ (b9 ho);refine vr rfl ⟨.inl ⟨rfl,_,av.of iQ⟩,(vM rfl (s1 _ _ hm) (G.ms _ dk) (vr rfl (⟨m,A,S,i,_,rfl,(M.same s1),ho,(λlo yB=>?_)⟩)))⟩;generalize S.ov[i]'_=o at ho wX ⊢;have s6:=aN (o:=.lst (o.map V.int)) (ak.refl H1) yB;have lg:upd H1 lo (.lst (o.map V.int)) lo=a_ (.lst (o.map V.int)):=ax;generalize upd H1 lo (.lst (o.map V.int))=H6 at s6 lg ⊢;have jb:=s6 _ _ iQ;refine lR lo _ (kL _ rfl lg li λH7 l7 zs s7 n7 yE CV=>?_);have yD:=r_ CV;have Zp:=E1 o "over";have jK:=r_ dC;have wX:=D' uB i;have alZ:i*S.ac.length<=12*100:=Bf li dR;have jJ:=s7 _ _ jb;refine⟨lw,l7,us,zs,rfl,rfl,jJ,yE,(by rw[hsz,jK,yD];lia),hi,⟨_,_,rfl,BA ((s1.trans s6).trans s7) nw,ax,?_⟩⟩;rw[Rq];have kt:=oB (o:=.lst (us++zs)) jJ;have e:wL S i=kQ o "over":=by unfold wL;rw[jX ho]
   rw[e];exact vz (cA.all CV kt) (cA.all dC λb xs e=>kt _ _ (s7 _ _ (s6 _ _ e)))
  ·intro σ H1 ag;refine oA ag λ_ aa=>?_;refine jD aa λc us aa s1 iQ dC=>?_;subst aa;exact vr rfl (q H1 lw us s1 nw iQ dC)
end
theorem ab0(S:Mc)(i:Nat):oG S (i+1)=oG S i++(pN S i).toList:=by
 unfold oG;rw[lD,P'];cases h:pN S i <;> simp[h]
theorem D7(S:Mc)(i:Nat):(oG S i).length<=i:=by
 have:=PY (pN S) (List.range i);rw[rW]at this;exact this
section
variable{t:a9}{C CT:e_}
theorem adV:bp zLf zLf (aW KA):=bJ
theorem Wm:(["number","deed"]:List Str).Nodup:=dk
theorem afO(F:aY K "by_seen" "by_seen" KA f fd)(cM:gm K C)(tF:mg "enumerate" = b_)
  (GD:ay P w K mg base aB 1 fD ni zLd (BF t C CT)) (bD:Binds K ni zLd []) (mD:Meth K C "deeds" fD):ay P w K mg base aB 2 f fd zLf (vN t C CT λS=>oG S S.ac.length):=by
 refine F.ok adV λaM A _ s H vs Q E hr h=>?_
 ·obtain⟨m,A,S,aa,M,W,dR,Z,q⟩:=h;subst aa
  refine⟨_,aF (bj (jA (N:=["number","deed"]) (idx:=[]) rfl (ee.of (by kernel_rfl)) (zx (bg _) (bg _)) (xQ (b:=c_) rfl tF (ae (nv (pv 0) cM.cl mD GD hr bD .nil a7) af))
     (λ_ _ _ _=>qL rfl (iV (cG (i:=0) Wm rfl (aX rfl) (.inr rfl)) (iV (cG (i:=1) Wm rfl (aX rfl) (.inr rfl)) qH)))
     (λ_ _ _ _=>zK (cb KJ (aT (Ab K) (pv 1) aA) nB (bQ _))) λ_ _ _ _=>hV (ae (aT (Ab K) (pv 1) aA) (ae (pv 0) (ae di af))))),?_⟩
  have hsz:=gG;refine bX (id M.obj) λdx fs hm G=>vM rfl hm (G.ms _ dk) (qP m A S rfl M λld ws nd k8=>?_);have hd2:upd H ld (.lst ws) ld=a_ (.lst ws):=ax;have s2:ak H (upd H ld (.lst ws)):=aN (ak.refl _) nd;have kN:=Paired.cZ k8 λ_ _ (q:kl H _ _)=>aw q λp e h=>(⟨p,e,s2 _ _ h⟩:kl (upd H ld (.lst ws)) _ _);generalize upd H ld (.lst ws)=H2 at hd2 s2 kN ⊢;have og:=r_ kN;refine⟨ld,⟨_,rfl,av.of hd2,iH (n:=S.ac.length) (λj ys H'=>j<=S.ac.length/\ak H2 H'/\Paired (cA H') ys (oG S j)) (by rw[hsz];lia) (dj (bg _) (ak.refl _) .nil) ?_ ?_ ?_ ?_ ?_⟩⟩
  ·intro j ys H' ag;refine cH ag λ_ _ e=>?_;rw[r_ e];exact D7 _ _
  ·intro j ys H' hj ag;refine cH ag λ_ s4 _=>?_;exact fq _ (ws[j]' li) (av.of (s4 _ _ hd2)) (aO _)
  ·intro ys H' ag;refine cH ag λ_ s4 _=>?_;exact au _ (av.of (s4 _ _ hd2)) li
  ·intro j ys H3 hj ag v H4 gE;refine cH ag λ_ s4 e=>?_;refine jD gE λp x np ev eH hx=>?_;subst ev;subst eH;have gu:=hx _ (av.of (s4 _ _ hd2));refine aw (pG kN gu) λa ha aa=>aw aa λpa ex CU=>?_;subst ex;have s5:=aN (o:=.tup [.int j,.ref pa]) (ak.refl H3) np;have jt:upd H3 p (.tup [.int j,.ref pa]) p=a_ (.tup [.int j,.ref pa]):=ax;generalize upd H3 p (.tup [.int j,.ref pa])=H5 at s5 jt ⊢;have An:=s5 _ _ (s4 _ _ CU);refine⟨p,⟨_,rfl,aJ.of jt,rfl,_,_,rfl,_,[],rfl,rfl,iA (v:=oV a.seen) (j:=5) rfl An rfl ⟨rfl,_,rfl,?_⟩⟩⟩;have hO:pN S j=a.seen.map λd=>(d,(j:Int),("seen" : Str)):=by unfold pN;rw[ha];rfl
   rw[ab0,hO];cases hs:a.seen with
   | none=>
    refine dj hj (s4.trans s5) ?_;show Paired _ ys (oG S j++[]);rw[il];exact cA.all e λb xs e=>s5 _ _ e
   | some d=>
    exact iA (v:=.int d) (j:=5) rfl An (by unfold FY;rw[hs];rfl) ⟨_,rfl,(sl (n:=3)),λtp ht=>⟨hj,aN (s4.trans s5) ht,qB (cA.all e λb xs e=>aN s5 ht _ _ e) (au tp rfl ax)⟩⟩
  ·intro ys H3 ag;refine cH ag λ_ s4 e=>?_;have AS:=D7 S S.ac.length;exact⟨by rw[r_ e,hsz];lia,λrl gF=>q _ rl ys (s2.trans (aN s4 gF)) ((s2.trans s4).free gF) ax (cA.all e λb xs e=>aN (ak.refl _) gF _ _ e)⟩
end
def eT(o:List Int):List (Option Int):=b_::o.map a_
def nextT(o:List Int)(j:Nat)(s:Option Int):Option Int:=(((eT o).zip o).take j).lookup s
theorem jg{j:Nat}(h:j<o.length):j<(eT o).length:=by unfold eT;rw[iT,aP];lia
theorem JK(o:List Int):((eT o).zip o).length=o.length:=by unfold eT;rw[DM,iT,aP];lia
theorem ac5(o:List Int)(s:Option Int):nextT o o.length s=nextM o s:=by
 unfold nextT;rw[je (by rw[JK];exact aI _)];rfl
theorem aeH(h:o.Nodup):(eT o).Nodup:=by
 refine za.mpr ⟨λz=>?_,DC _ (λa b z e=>z (dr e)) h⟩;refine aw (jT.mp z) λx _ e=>?_;cases e
theorem abM{l:List (Option Int×Int)}{k s:Option Int}{v:Int}:(l++[(k,v)]).lookup s=(l.lookup s).or (if s=k then a_ v else b_):=by
 induction l with
 | nil=>
  show ([(k,v)]).lookup s=_;rw[lY]
  by_cases h:s=k
  ·simp[h]
  ·rw[if_neg h,beq_eq_false_iff_ne.mpr h];rfl
 | cons p l ih=>
  obtain⟨a,b⟩:=p;rw[Qv,lY,lY,ih];cases (s == a) <;> rfl
theorem acb(hn:o.Nodup){j:Nat}(hj:j<o.length)(s:Option Int):nextT o (j+1) s=if s=(eT o)[j]'(jg hj) then a_ o[j] else nextT o j s:=by
 have hz:((eT o).zip o)[j]?=a_ ((eT o)[j]'(jg hj),o[j]):=by
  rw[aO (by rw[JK];exact hj),Ba]
 unfold nextT;rw[qy,hz];show (_++[_]).lookup s=_;rw[abM]
 by_cases e:s=(eT o)[j]'(jg hj)
 ·rw[if_pos e,if_pos e]
  have h0:(((eT o).zip o).take j).lookup s=none:=by
   rw[List.lookup_eq_none_iff];intro p hp;refine bne_iff_ne.mpr λz=>oE (vo hp) λi hi=>?_;rw[qu]at hi
   split at hi
   ·rename_i nh
    have ZH:i<o.length:=li;rw[aO (by rw[JK];exact ZH),Ba]at hi;cases hi;exact jd.mp (aeH hn) i j (jg ZH) (jg hj) nh (z.symm.trans e)
   ·cases hi
  rw[h0];rfl
 ·rw[if_neg e,if_neg e];cases (((eT o).zip o).take j).lookup s <;> rfl
theorem ak3(o:List Int):[V.aG]++o.map V.int=(eT o).map oV:=by
 unfold eT;rw[fh,tT];rfl
def ak9(S:Mc)(aL:List (List Key×V)):Prop:=∀(m:Nat) (s:Option Int),m<12->jl aL [a_ (m:Int),s]=(nextM (S.ov.getD m []) s).map V.int
def F2(S:Mc)(i:Nat)(f:Option Int->Option Int)(aL:List (List Key×V)):Prop:=∀(m:Nat) (s:Option Int),jl aL [a_ (m:Int),s]=if m<i then (nextM (S.ov.getD m []) s).map V.int else if m=i then (f s).map V.int else b_
theorem Vb{k:Nat}(r:eV k A):A.units+1<cLine:=by have:=r.un;lia
theorem Wh(s:Option Int):oV s=kV s:=by cases s <;> rfl
theorem agA{i j:Nat}{aL:List (List Key×V)}(hn:o.Nodup)(hj:j<o.length)(h:F2 S i (nextT o j) aL):F2 S i (nextT o (j+1)) (putK aL [a_ (i:Int),(eT o)[j]'(jg hj)] (.int o[j])):=by
 intro m s;rw[adM,h m s,acb hn hj]
 by_cases e:([a_ (m:Int),s]:List Key)=[a_ (i:Int),(eT o)[j]'(jg hj)]
 ·rw[if_pos e];injection e with e1 e2
  injection e2 with e2 _
  have:m=i:=by have:=dr e1;lia
  subst this;rw[if_neg (jS _),if_pos rfl,if_pos e2];rfl
 ·rw[if_neg e]
  split
  ·rfl
  ·split
   ·rename_i hm
    subst hm;rw[if_neg λz=>e (by rw[z])]
   ·rfl
section
variable{t:a9}{C CT:e_}
def Ta(t:a9)(C CT:e_):Sp:=λvs H Q _=>∃m A S,vs=[.ref m]/\bb t C CT H m A S/\i0 S/\S.ac.length<=100/\nO S/\∀H' l aL,ak H H'->H l=b_->H' l=a_ (.dT aL)->ak9 S aL->Q (.ref l) H'
theorem zG:bp ["machine","found","name","comers","one","other"] zLf (aW EF):=bJ
theorem acT(F:aY K "comers_behind" "comers_behind" EF f fd)(cM:gm K C)(dI:mg "range" = b_)(hzp:mg "zip" = b_)(OF:∃u,mg "NAMES" = a_ u/\RelV (.int 12) u)
  (GO:ay P w K mg base aB 1 fO nW zLc (ES t C CT)) (bO:Binds K nW zLc []) (mO:Meth K C "over" fO):ay P w K mg base aB 2 f fd zLf (Ta t C CT):=by
 refine F.ok zG λaM A _ s H vs Q E hr h=>?_
 ·refine Sf h λm A S aa M W dR Z q=>aw OF λu hu ru=>?_;clear h;subst aa;refine let R1:TS:=_;let R2:TS:=_;let R3:TS:=_;⟨_,aE (cU (i:=1) zG.nd rfl (aX rfl) ad8) (pR R3 (aE (jY kE rfl (kG rfl dI (ae (fQ rfl hu ru) af)) (cG (i:=2) zG.nd rfl (aX rfl)) (pR R2 (aE (cU (i:=3) zG.nd rfl (aX rfl) (iW (pv 0) cM.cl mO GO hr bO .nil a7 (ae (pv 2) af))) (aF (jY kE rfl (Lv (b1:=c_) (b2:=c_) rfl hzp (ae (bh BR (fk (ae nB af)) (pv 3)) (ae (pv 3) af))) (qL rfl (iV (cG (i:=4) zG.nd rfl (aX rfl)) (iV (cG (i:=5) zG.nd rfl (aX rfl)) qH))) (pR R1 (aF (afJ (Vb hr) (pv 1) (hV (ae (pv 2) (ae (pv 4) af))) (pv 5) rfl)))))))) (aF (bj (pv 1))))),?_⟩
  have hsz:=gG;have uB:=Z.m5;refine λlw nw=>?_;have s0:ak H (upd H lw (.dT [])):=aN (ak.refl _) nw;have qh:upd H lw (.dT []) lw=a_ (.dT []):=ax;generalize upd H lw (.dT [])=H0 at s0 qh ⊢;refine bX (id M.obj) λdx fs hm G=>(kL 12 rfl qc qc ?_)
  let W1:IV:=λi σ H'=>i<=12/\∃a b c d aL,σ=[a_ (.ref m),a_ (.ref lw),a,b,c,d]/\ak H H'/\H' lw=a_ (.dT aL)/\F2 S i (λ_=>b_) aL/\aL.length<=i*100
  refine pJ (n:=12) W1 ⟨bg _,b_,b_,b_,b_,[],rfl,s0,qh,λm s=>(by rw[if_neg (Bc _)];split <;> rfl),bg _⟩ ?_ ?_
  ·intro i σ H1 hi ag;refine oA ag λ_ aa=>?_;obtain⟨a,b,c,d,aL,aa,s1,iQ,hB,HC⟩:=aa;subst aa;rw[ou];have ho:S.ov[i]?=a_ (S.ov[i]'(by rw[W.ov];exact hi)):=aO _;have wX:=uB _ (b9 ho);refine vM rfl (s1 _ _ hm) (G.ms _ dk) (vr rfl (⟨m,A,S,i,_,rfl,(M.same s1),ho,(λlo yB=>?_)⟩));generalize S.ov[i]'_=o at ho wX ⊢;have hnd:=Z.nd i o ho;have s6:=aN (o:=.lst (o.map V.int)) (ak.refl H1) yB;have lg:upd H1 lo (.lst (o.map V.int)) lo=a_ (.lst (o.map V.int)):=ax;generalize upd H1 lo (.lst (o.map V.int))=H6 at s6 lg ⊢;refine⟨qc,λr1 nr1=>⟨_,rfl,?_⟩⟩;have s7:=aN (o:=.lst [.aG]) (ak.refl H6) nr1;have oh:upd H6 r1 (.lst [.aG]) r1=a_ (.lst [.aG]):=ax;generalize upd H6 r1 (.lst [.aG])=H7 at s7 oh ⊢;refine⟨r1,lo,_,(kJ _ rfl rfl oh (s7 _ _ lg) (by rw[hsz,aP];show 1+o.length<=_;lia) λr2 YY=>⟨_,rfl,?_⟩)⟩;rw[ak3];have s8:=aN (o:=.lst ((eT o).map oV)) (s7) YY;have jr:upd H7 r2 (.lst ((eT o).map oV)) r2=a_ (.lst ((eT o).map oV)):=ax;have am1:=((s1.trans s6).trans s7).free YY;generalize upd H7 r2 (.lst ((eT o).map oV))=H8 at s8 jr ⊢;have XM:=s8 _ _ lg;have Zv:=s8 _ _ (s6 _ _ iQ);have n1:lo≠lw:=λz=>by rw[z,iQ]at yB;cases yB
   have n2:r2≠lw:=λz=>by rw[z,Zv]at jr;cases jr
   let W2:IV:=λj σ H'=>j<=o.length/\∃c d aL,σ=[a_ (.ref m),a_ (.ref lw),a_ (.int (i:Nat)),a_ (.ref lo),c,d]/\ak H H'/\H' lo=a_ (.lst (o.map V.int))/\H' r2=a_ (.lst ((eT o).map oV))/\H' lw=a_ (.dT aL)/\F2 S i (nextT o j) aL/\aL.length<=i*100+j
   refine⟨r2,lo,_,(kL _ rfl (av.of jr) (av.of XM) (BV (n:=o.length) W2 ⟨bg _,c,d,aL,rfl,(s1.trans s6).trans s8,XM,jr,Zv,hB,HC⟩ ?_ ?_ ?_ ?_))⟩
   ·intro j σ H' hj ag;refine oA ag λ_ aa=>?_;obtain⟨c,d,aL,aa,_,h1,h2,_⟩:=aa;subst aa;exact⟨_,_,(oV ((eT o)[j]'(jg hj))),(V.int o[j]),(av.of h2),(av.of h1),(by rw[dq,aO (jg hj)];rfl),(by rw[dq,aO hj];rfl)⟩
   ·intro σ H' ag;refine oA ag λ_ aa=>?_;obtain⟨c,d,aL,aa,_,h1,h2,_⟩:=aa;subst aa;exact dw _ _ (av.of h2) (av.of h1) (.inr (by rw[aP];exact aI _))
   ·intro j σ H9 hj ag v tK gE;refine oA ag λ_ aa=>?_;obtain⟨c,d,aL,aa,s9,h1,h2,h3,Pl,hk9⟩:=aa;subst aa;obtain⟨p,x,y,np,ev,eH,AJ⟩:=gE;subst ev;subst eH;refine oA (AJ _ _ (av.of h2) (av.of h1)) λhx hy=>?_;rw[dq,aO (jg hj)]at hx;rw[dq,aO hj]at hy;cases hx;cases hy;have oa:=aN (o:=.tup [oV ((eT o)[j]'(jg hj)),V.int o[j]]) (ak.refl H9) np;have jt:upd H9 p (.tup [oV ((eT o)[j]'(jg hj)),V.int o[j]]) p=a_ (.tup [oV ((eT o)[j]'(jg hj)),V.int o[j]]):=ax;generalize upd H9 p (.tup [oV ((eT o)[j]'(jg hj)),V.int o[j]])=tK at oa jt ⊢;refine⟨p,⟨_,rfl,aJ.of jt,rfl,_,_,rfl,_,[],rfl,rfl,_,rfl,_,rfl,_,rfl,_,rfl,(sl (n:=2)),λtp Om=>?_⟩⟩;have oZ:=aN (o:=.tup [.int (i:Nat),oV ((eT o)[j]'(jg hj))]) oa Om;have jL:upd tK tp (.tup [.int (i:Nat),oV ((eT o)[j]'(jg hj))]) tp=a_ (.tup [.int (i:Nat),oV ((eT o)[j]'(jg hj))]):=ax;generalize upd tK tp (.tup [.int (i:Nat),oV ((eT o)[j]'(jg hj))])=PH at oZ jL ⊢;have hpk:=Q8 aL [a_ (i:Int),(eT o)[j]'(jg hj)] (.int o[j]);have amP:i*100<=12*100:=Nat.mul_le_mul_right _ li;refine⟨lw,⟨_,rfl,⟨aL,[a_ (i:Int),(eT o)[j]'(jg hj)],tp,oZ _ _ h3,rfl,by rw[jL,Wh];rfl,by rw[hsz];lia,rfl⟩,hj,_,_,_,rfl,BA (s9.trans oZ) nw,?_,?_,ax,agA hnd hj Pl,li⟩⟩
    ·rw[ao n1];exact oZ _ _ h1
    ·rw[ao n2];exact oZ _ _ h2
   ·intro σ H9 ag;refine oA ag λ_ aa=>?_;obtain⟨c,d,aL,aa,s9,h1,h2,h3,Pl,hk9⟩:=aa;subst aa;refine⟨hi,⟨_,_,_,_,aL,rfl,s9,h3,λm s=>?_,by rw[Bk];lia⟩⟩;rw[Pl m s]
    by_cases e1:m<i
    ·rw[if_pos e1,if_pos li]
    ·rw[if_neg e1]
     by_cases e2:m=i
     ·subst e2;rw[if_pos rfl,if_pos li,ac5,jX ho]
     ·rw[if_neg e2,if_neg li]
      split <;> rfl
  ·intro σ H1 ag;refine oA ag λ_ aa=>?_;obtain⟨a,b,c,d,aL,aa,s1,iQ,hB,HC⟩:=aa;subst aa;refine vr rfl (q H1 lw aL s1 nw iQ λm s hm=>?_);rw[hB m s,if_pos hm]
end
theorem Rc(S:Mc)(i:Nat):pM S (i+1)=pM S i++(nD S i).toList:=by
 unfold pM;rw[lD,P'];cases h:nD S i <;> simp[h]
theorem Jl(S:Mc)(i:Nat):(pM S i).length<=i:=by
 have:=PY (nD S) (List.range i);rw[rW]at this;exact this
section
variable{t:a9}{C CT:e_}
theorem zB:bp ["machine","behind","found","number","deed","other"] zLf (aW J0):=bJ
theorem aeb(F:aY K "by_ahead" "by_ahead" J0 f fd)(cM:gm K C)(tF:mg "enumerate" = b_)
  (GB:ay P w K mg base aB 2 fB kX zLf (Ta t C CT)) (FB:aY K "comers_behind" "comers_behind" EF fB kX) (bB:Binds K kX zLf []) (mB:mg "comers_behind" = a_ (.ref fB))
  (GD:ay P w K mg base aB 1 fD ni zLd (BF t C CT)) (bD:Binds K ni zLd []) (mD:Meth K C "deeds" fD):ay P w K mg base aB 3 f fd zLf (vN t C CT λS=>pM S S.ac.length):=by
 refine F.ok zB λaM A _ s H vs Q E hr h=>?_
 ·obtain⟨m,A,S,aa,M,W,dR,Z,q⟩:=h;subst aa;have oh:=hr.mono (show 1<=2 by decide);refine let R1:TS:=_;let R2:TS:=_;let R3:TS:=_;let R4:TS:=_;⟨_,aE (cU (i:=1) zB.nd rfl (aX rfl) (dN GB hr rfl mB FB.kp bB .nil a7 (ae (pv 0) af))) (pR R4 (aE (cU (i:=2) zB.nd rfl (aX rfl) (fk af)) (pR R3 (aE (jY kE rfl (xQ (b:=c_) rfl tF (ae (nv (pv 0) cM.cl mD GD oh bD .nil a7) af)) (qL rfl (iV (cG (i:=3) zB.nd rfl (aX rfl)) (iV (cG (i:=4) zB.nd rfl (aX rfl)) qH))) (pR R2 (aE (cU (i:=5) zB.nd rfl (aX rfl) (J3 (cb Ly (aT de (pv 4) aA) nB (bQ _)) nB (ad9 (Vb hr) (pv 1) (hV (ae (aT de (pv 4) aA) (ae (aT de (pv 4) aA) af))) ⟨rfl,rfl,rfl,rfl⟩))) (aF (cC (PW.pt (pw_and (cb KJ (pv 5) nB (bQ _)) (pw_and1 (cb B3 (pv 5) (pv 3) (bQ _))))) (pR R1 (aF (dE (ke m_ n_ o_ pI (pv 2) (ae (hV (ae (pv 3) (ae (pv 5) (ae di af)))) af))))) cO))))) (aF (bj (pv 2))))))),?_⟩
  have hsz:=gG;refine vr rfl (qE m A S rfl M W dR Z λH0 lb aL s0 nb hb hB=>⟨qc,λlw nw=>?_⟩);have s1:=aN (o:=.lst []) s0 nw;have i6:=aN (o:=.lst []) (ak.refl H0) nw _ _ hb;have YW:=s0.free nw;have iQ:upd H0 lw (.lst []) lw=a_ (.lst []):=ax;generalize upd H0 lw (.lst [])=H1 at s1 i6 iQ ⊢;refine bX (id M.obj) λdx fs hm G=>vM rfl (s1 _ _ hm) (G.ms _ dk) (qP m A S rfl (M.same s1) λld ws nd k8=>?_);have hd2:upd H1 ld (.lst ws) ld=a_ (.lst ws):=ax;have s2:ak H1 (upd H1 ld (.lst ws)):=aN (ak.refl _) nd;have kN:=Paired.cZ k8 λ_ _ (q:kl H1 _ _)=>aw q λp e h=>(⟨p,e,s2 _ _ h⟩:kl (upd H1 ld (.lst ws)) _ _);have n1:ld≠lw:=λz=>by rw[z,iQ]at nd;cases nd
  have n2:lb≠lw:=λz=>by rw[z,iQ]at i6;cases i6
  generalize upd H1 ld (.lst ws)=H2 at hd2 s2 kN ⊢;have og:=r_ kN
  let W1:IV:=λj σ H'=>j<=S.ac.length/\∃a b c us,σ=[a_ (.ref m),a_ (.ref lb),a_ (.ref lw),a,b,c]/\ak H H'/\H' lb=a_ (.dT aL)/\H' ld=a_ (.lst ws)/\Paired (kl H') ws S.ac/\H' lw=a_ (.lst us)/\Paired (cA H') us (pM S j)
  refine⟨ld,⟨_,rfl,av.of hd2,BV (n:=S.ac.length) W1 ⟨bg _,b_,b_,b_,[],rfl,s1.trans s2,s2 _ _ i6,hd2,kN,s2 _ _ iQ,.nil⟩ ?_ ?_ ?_ ?_⟩⟩
  ·intro j σ H' hj ag;refine oA ag λ_ aa=>?_;obtain⟨_,_,_,_,aa,_,_,hd,_⟩:=aa;subst aa;exact fq _ (ws[j]' li) (av.of hd) (aO _)
  ·intro σ H' ag;refine oA ag λ_ aa=>?_;obtain⟨_,_,_,_,aa,_,_,hd,_⟩:=aa;subst aa;exact au _ (av.of hd) li
  ·intro j σ H3 hj ag v H4 gE;refine oA ag λ_ aa=>?_;obtain⟨x1,x2,x3,us,aa,s3,Dd,O9,Xz,pd,dC⟩:=aa;subst aa;refine jD gE λp x np ev eH hx=>?_;subst ev;subst eH;have gu:=hx _ (av.of O9);refine aw (pG Xz gu) λa ha aa=>aw aa λpa ex CU=>?_;subst ex;have s5:=aN (o:=.tup [.int j,.ref pa]) (ak.refl H3) np;have jt:upd H3 p (.tup [.int j,.ref pa]) p=a_ (.tup [.int j,.ref pa]):=ax;generalize upd H3 p (.tup [.int j,.ref pa])=H5 at s5 jt ⊢;have An:=s5 _ _ CU;have aH:=Z.ok j a ha;have hO:nD S j=uh S j a:=by unfold nD;rw[ha];rfl
   have Xy:=Paired.cZ Xz λ_ _ (q:kl H3 _ _)=>aw q λp e h=>(⟨p,e,s5 _ _ h⟩:kl H5 _ _);have F6:=cA.all dC λb xs e=>s5 _ _ e;have jK:=r_ dC;have hal:=Jl S j;refine⟨p,⟨_,rfl,aJ.of jt,rfl,_,_,rfl,_,[],rfl,rfl,iA (v:=oV a.got) (j:=3) rfl An rfl ⟨rfl,_,rfl,?_⟩⟩⟩
   have stop:∀{H6:Hp} {o:Option V},ak H5 H6->nD S j=b_->W1 (j+1) [a_ (.ref m),a_ (.ref lb),a_ (.ref lw),a_ (.int j),a_ (.ref pa),o] H6:=λ{H6 o} s6 e=>⟨hj,_,_,_,us,rfl,(s3.trans s5).trans s6,s6 _ _ (s5 _ _ Dd),s6 _ _ (s5 _ _ O9),Paired.cZ Xy λ_ _ (q:kl H5 _ _)=>aw q λp e h=>⟨p,e,s6 _ _ h⟩,s6 _ _ (s5 _ _ pd),by
    rw[Rc,e];show Paired _ us (pM S j++[]);rw[il];exact cA.all F6 λb xs e=>s6 _ _ e⟩
   cases hg:a.got with
   | none=>
    refine cu (λ_=>?_) λz=>absurd rfl z;refine cD _ rfl rfl (au _ rfl (Fp rfl (gC (stop (ak.refl _) ?_))));rw[hO];unfold uh;rw[if_pos];rcases aH.k with h | h | h
    ·exact h.1
    ·rw[hg]at h;cases h.2
    ·rw[hg]at h;cases h.2
   | some g=>
    refine cu (λz=>nomatch z) λ_=>?_
    have lU:a.k ≠ "set":=λz=>by
     rcases aH.k with h | h | h
     ·rw[hg]at h;cases h.2
     ·rw[z]at h;exact absurd h.1 dk
     ·rw[z]at h;exact absurd h.1 dk
    refine vr rfl (cD lb rfl ⟨aL,s5 _ _ Dd⟩ (iA (v:=.int (a.n:Nat)) (j:=2) rfl An rfl (iA (v:=oV a.seen) (j:=5) rfl An rfl ⟨(sl (n:=2)),λtp Om=>?_⟩)));have s6:=aN (o:=.tup [.int (a.n:Nat),oV a.seen]) (ak.refl H5) Om;have jL:upd H5 tp (.tup [.int (a.n:Nat),oV a.seen]) tp=a_ (.tup [.int (a.n:Nat),oV a.seen]):=ax;generalize upd H5 tp (.tup [.int (a.n:Nat),oV a.seen])=H6 at s6 jL ⊢
    have hA:nD S j=(nextM (S.ov.getD a.n []) a.seen).bind λb=>if b=(j:Int) then b_ else a_ ((j:Int),b,("ahead" : Str)):=by
     rw[hO];unfold uh;rw[if_neg lU]
    refine au _ (Co.t (k:=[a_ (a.n:Int),a.seen]) (s6 _ _ (s5 _ _ Dd)) (by rw[jL,Wh];rfl)) ?_;rw[hB a.n a.seen aH.n];cases hn:nextM (S.ov.getD a.n []) a.seen with
    | none=>
     refine cD _ rfl rfl (au _ rfl (Fp rfl (gC (stop s6 ?_))));rw[hA,hn];rfl
    | some b=>
     rw[hn]at hA;rw[show (Option.map V.int (a_ b)).getD V.aG=V.int b from rfl];refine cD _ rfl rfl (au _ rfl (nF (λ_=>?_) λz=>nomatch z));refine vr rfl (vr rfl ⟨rfl,⟨_,rfl,nF (λz=>?_) λz=>?_⟩⟩)
     ·have jb:=s6 _ _ (s5 _ _ pd);refine vr rfl ⟨.inl ⟨rfl,_,av.of jb⟩,⟨_,rfl,_,rfl,(sl (n:=3)),λtq ntq=>?_⟩⟩;have s7:=aN (o:=.tup [.int j,.int b,.str "ahead"]) (ak.refl H6) ntq;have Zw:upd H6 tq (.tup [.int j,.int b,.str "ahead"]) tq=a_ (.tup [.int j,.int b,.str "ahead"]):=ax;generalize upd H6 tq (.tup [.int j,.int b,.str "ahead"])=H7 at s7 Zw ⊢;have CL:=s6.trans s7;have jJ:=s7 _ _ jb;have kt:=oB (o:=.lst (us++[.ref tq])) jJ;refine lR lw us (kJ _ rfl rfl jJ (by rw[hsz];lia) hj ⟨_,_,_,us++[.ref tq],rfl,BA ((s3.trans s5).trans CL) YW,?_,?_,Paired.cZ Xy λ_ _ (q:kl H5 _ _)=>aw q λp e h=>⟨p,e,kt _ _ (CL _ _ h)⟩,ax,?_⟩)
      ·rw[ao n2];exact CL _ _ (s5 _ _ Dd)
      ·rw[ao n1];exact CL _ _ (s5 _ _ O9)
      ·rw[Rc,hA];show Paired _ _ (pM S j++(if b=(j:Int) then b_ else a_ ((j:Int),b,("ahead" : Str)):Option T3).toList);rw[if_neg λe=>z (by rw[e])];exact qB (cA.all F6 λb xs e=>kt _ _ (CL _ _ e)) (au tq rfl (kt _ _ Zw))
     ·refine stop s6 ?_;rw[hA];show (if b=(j:Int) then b_ else _)=b_;rw[if_pos (V.int.inj z)]
  ·intro σ H1 ag;refine oA ag λ_ aa=>?_;obtain⟨_,_,_,us,aa,s1,_,_,_,iQ,dC⟩:=aa;subst aa;exact vr rfl (q H1 lw us s1 YW iQ dC)
end
def B0(S:Mc)(c:Nat):Prop:=∃k,S.ck[c]?=a_ k/\k.es≠[]/\∀(i:Nat) k',i<c->S.ck[i]?=a_ k'->k'.es=[]
def x8(S:Mc):Prop:=∀(i:Nat) k,S.ck[i]?=a_ k->k.es=[]
section
variable{t:a9}{C CT:e_}
def V'(C:e_):Sp:=λvs H Q _=>∃a fv c,vs=[.ref a,c]/\H a=a_ (oS a (.ref C) b_ fv)/\∀d,H d=b_->Q .aG (upd (upd H a (oS a (.ref C) (a_ d) fv)) d (qY d [("clerk",c)]))
theorem aiK:bp zLb zLb (aW Nd):=bJ
theorem ahf(F:aY K "__init__" "Waiting.__init__" Nd f fd)(xf:XF K C)(n1:bu K C "clerk"):ay P w K mg base aB 1 f fd zLb (V' C):=by
 refine F.ok aiK λaM A _ s H vs Q E hr h=>?_
 ·refine iY h λa fv c aa ha k=>?_;clear h;subst aa;exact sU (aF (ad5 (pv 0) (pv 1) rfl)) (vr rfl (vr rfl (kI a C fv rfl ha xf n1 λd hd=>k d hd)))
def Vi(t:a9)(C CT cW:e_):Sp:=λvs H Q E=>∃m A S,vs=[.ref m]/\bb t C CT H m A S/\i0 S/\S.ac.length<=60/\(x8 S->∀H',ak H H'->Q .aG H')/\
 ∀c,B0 S c->∀d H',ak H H'->H' d=a_ (qY d [("clerk",.int (c:Nat))])->E (.ref cW) (a_ d) H'
theorem Vo:bp ["machine","clerk"] zLf (aW Mi):=bJ
theorem afV(F:aY K "refuse_waiting" "refuse_waiting" Mi f fd)(cM:gm K C)(dQ:mg "len" = b_)(dI:mg "range" = b_)
  (GW:ay P w K mg base aB 2 fW kr zLb (Jp t C CT)) (bW:Binds K kr zLb []) (mW:Meth K C "waiting" fW)
  (xW:N9 K cW fI) (GI:ay P w K mg base aB 1 fI ij zLb (V' cW)) (bI:Binds K ij zLb []) (mX:mg "Waiting" = a_ (.ref cW)):ay P w K mg base (iN P w) 3 f fd zLf (Vi t C CT cW):=by
 refine F.Ct Vo λaM A outer s H vs Q E hr hL hp h=>?_
 ·obtain⟨m,A,S,aa,M,W,dR,q,qx⟩:=h;subst aa;refine let R1:TS:=_;⟨_,aF (jY hp rfl (kG rfl dI (ae (bG fj rfl dQ q_ (ae (bz (pv 0) rfl) af)) af)) (cG (i:=1) Vo.nd rfl (aX rfl)) (aF (cC (cb B5 (bG fj rfl dQ q_ (ae (iW (pv 0) cM.cl mW GW hr bW .nil a7 (ae (pv 1) af)) af)) aA (bQ _)) (pR R1 (aF (acI rfl hL xW GI (hr.mono qc) bI rfl mX (ae (pv 1) af)))) cO))),?_⟩
  have h4:=W.good.le;refine bX (id M.obj) λdx fs hm G=>dv (id M.pg) λpa pv ep hp qm=>?_;cases ep;refine vF rfl hm cM.cl cM.program G.program ⟨A.pg,⟨_,rfl,.inr (aJ.of hp),_,rfl,by rw[r_ qm];lia,by rw[r_ qm];lia,?_⟩⟩;rw[show ((pv.length:Int)).toNat=S.ck.length by rw[r_ qm,W.len];lia];refine pJ (n:=S.ck.length) (λi σ H'=>i<=S.ck.length/\∃c,σ=[a_ (.ref m),c]/\ak H H'/\∀(j:Nat) k',j<i->S.ck[j]?=a_ k'->k'.es=[]) ⟨bg _,b_,rfl,ak.refl _,λj k' hj=>absurd hj (Bc _)⟩ ?_ ?_
  ·intro i σ H1 hi ag;refine oA ag λ_ aa=>?_;refine aR aa λc aa s1 hb=>?_;subst aa;rw[ou];have hk:S.ck[i]?=a_ S.ck[i]:=aO hi;have HC:=W.es _ (b9 hk);refine vM rfl (s1 _ _ hm) (G.ms _ dk) (vr rfl (⟨m,A,S,i,_,rfl,(M.same s1),hk,li,(λH2 l us s2 nl hl dC=>?_)⟩));have jK:=r_ dC;refine dw l us rfl (.inl (av.of hl)) ⟨_,⟨_,rfl,rfl,_,rfl,cu (λz=>?_) λz=>?_⟩⟩
   ·have fZ:S.ck[i].es≠[]:=λe=>by rw[e]at jK;rw[jK]at z;exact absurd z qc
    refine vr rfl ⟨by show 1<=cq;decide,(λea ta O5=>⟨ea,_,.int i,rfl,ax,λd hd=>⟨rfl,a_ d,?_,?_⟩⟩)⟩
    ·rw[ao (cg ax hd)];exact ax
    ·have s7:=s1.trans s2;have Y3:d≠ea:=λz=>by rw[z,ax]at hd;cases hd
     refine qx i ⟨_,hk,fZ,hb⟩ d _ (λg o e=>?_) ?_
     ·have n1:=cg (s7 _ _ e) O5
      have n2:g≠d:=λz=>by
       rw[z]at e;rw[ao Y3,s7 _ _ e]at hd;cases hd
      rw[xV n1,ao n2,ao n1,ao n1];exact s7 _ _ e
     ·rw[xV Y3];exact ax
   ·refine⟨hi,⟨_,rfl,s1.trans s2,λj k' hj yO=>?_⟩⟩
    by_cases e:j=i
    ·subst e;rw[hk]at yO;cases yO;exact tO.mp li
    ·exact hb j k' li yO
  ·intro σ H1 ag;refine oA ag λ_ aa=>?_;refine aR aa λc aa s1 hb=>?_;subst aa;exact q (λi k hk=>hb i k (dy.mp hk).1 hk) H1 s1
end
theorem SW:∀{us:List V} {L:List T3},Paired (cA H) us L->∃ps:List (e_×T3),us=ps.map (λx=>V.ref x.1)/\ps.map (·.2)=L/\∀q∈ps,H q.1=a_ (.tup (N0 q.2))
 | _,_,.nil=>⟨[],rfl,rfl,λq h=>by cases h⟩
 | _,_,.cons (b:=x) h r=>by
  refine aR (SW r) λps e1 e2 e3=>aw h λp e hp=>cD ((p,x)::ps) (by rw[e1,e];rfl) (by rw[<-e2];rfl) λq hq=>?_;rcases bw.mp hq with z | z
  ·rw[z];exact hp
  ·exact e3 q z
theorem T6:∀{qs:List (e_×T3)},(∀q∈qs,H q.1=a_ (.tup (N0 q.2)))->Paired (cA H) (qs.map λx=>V.ref x.1) (qs.map (·.2))
 | [],_=>.nil
 | q::qs,h=>.cons ⟨q.1,rfl,h q (by simp)⟩ (T6 λq hq=>h q (eE _ hq))
structure zT(B L:List T3):Prop where
 mem:∀x,x∈B↔x∈L
 asc:B.Pairwise (λx y=>iZ x y=c_)
 len:B.length=L.length
theorem Tb{K:u_}{L:List T3}(hl:H l=a_ (.lst us))(hp:Paired (cA H) us L)(hz:L.length<=100000)(nd:L.Nodup)
  (q:∀r ws B,H r=b_->zT B L->Paired (cA (upd H r (.lst ws))) ws B->Q (.ref r) (upd H r (.lst ws))):Vr K [.ref l] H Q:=by
 refine aR (SW hp) λps e1 e2 e3=>?_;have ff:=r_ hp;have el:ps.length=L.length:=by rw[<-e2,aP]
 refine⟨l,ps,rfl,(av.of (by rw[hl,e1])),(by rw[gG];lia),(λq hq=>aJ.of (e3 q hq)),(by rw[e2];exact nd),(λr qs nr pm asc=>q r _ (qs.map (·.2)) nr ⟨λx=>?_,DC _ (λa b z=>z) asc,by rw[aP,pm.length_eq,el]⟩ (T6 λq hq=>aN (ak.refl _) nr _ _ (e3 q (pm.mem_iff.mp hq))))⟩;rw[<-e2];exact(pm.map (·.2)).mem_iff
section
variable{t:a9}{C CT:e_}
def JO(t:a9)(C CT cW:e_):Sp:=λvs H Q E=>∃m A S,vs=[.ref m]/\bb t C CT H m A S/\i0 S/\S.ac.length<=60/\
 (x8 S->nO S/\∀H' l us B,ak H H'->H l=b_->H' l=a_ (.lst us)->Paired (cA H') us B->zT B (mq S)->Q (.ref l) H')/\
 ∀c,B0 S c->∀d H',ak H H'->H' d=a_ (qY d [("clerk",.int (c:Nat))])->E (.ref cW) (a_ d) H'
theorem adX:bp zLf zLf (aW KD):=bJ
theorem acU(F:aY K "before" "before" KD f fd)(ON:mg "sorted" = b_)
  (GR:ay P w K mg base (iN P w) 3 fR Dn zLf (Vi t C CT cW)) (kR:x_ K (.ref fR)=c_) (bR:Binds K Dn zLf []) (mR:mg "refuse_waiting" = a_ (.ref fR))
  (GO:ay P w K mg base aB 2 fO nW zLf (vN t C CT λS=>nK S S.ps.length)) (kO:x_ K (.ref fO)=c_) (bO:Binds K nW zLf []) (mO:mg "by_own" = a_ (.ref fO))
  (GS:ay P w K mg base aB 2 fS kU zLf (vN t C CT λS=>oG S S.ac.length)) (kS:x_ K (.ref fS)=c_) (bS:Binds K kU zLf []) (mS:mg "by_seen" = a_ (.ref fS))
  (GV:ay P w K mg base aB 2 fV Pu zLf (vN t C CT λS=>pP S 12)) (kV:x_ K (.ref fV)=c_) (bV:Binds K Pu zLf []) (mV:mg "by_over" = a_ (.ref fV))
  (GA:ay P w K mg base aB 3 fA AY zLf (vN t C CT λS=>pM S S.ac.length)) (kA:x_ K (.ref fA)=c_) (bA:Binds K AY zLf []) (mA:mg "by_ahead" = a_ (.ref fA)):ay P w K mg base (iN P w) 4 f fd zLf (JO t C CT cW):=by
 refine F.Ct adX λaM A outer s H vs Q E hr hL hp h=>?_
 ·obtain⟨m,A,S,aa,M,W,dR,q,qx⟩:=h;subst aa;have jr:=hr.mono (show 2<=3 by decide);refine let R1:TS:=_;⟨_,aE (dE (Th GR hr hL rfl mR kR bR .nil (ae (pv 0) af))) (pR R1 (aF (bj (bG QS rfl ON boot_sorted (ae (bh BR (bh BR (bh BR (dN GO jr rfl mO kO bO .nil a7 (ae (pv 0) af)) (dN GS jr rfl mS kS bS .nil a7 (ae (pv 0) af))) (dN GV jr rfl mV kV bV .nil a7 (ae (pv 0) af))) (dN GA hr rfl mA kA bA .nil a7 (ae (pv 0) af))) af))))),?_⟩
  have hsz:=gG;refine vr rfl (qE m A S rfl M W dR (λhn H1 s1=>?_) qx);refine oA (q hn) λZ q=>?_;have Gh:S.ac.length<=100:=li;have jN:=W.good.le;refine vr rfl (qE m A S rfl (M.same s1) W Gh Z λH2 l2 u2 s2 n2 h2 p2=>?_);have sZ:=s1.trans s2;refine vr rfl (qE m A S rfl (M.same sZ) W Gh Z λH3 l3 u3 s3 n3 h3 p3=>?_);have z1:=r_ p2;have y1:=Em S S.ps.length;have y1':=Bf jN dR;have z2:=r_ p3;have y2:=D7 S S.ac.length;refine md l2 l3 u2 u3 rfl rfl (s3 _ _ h2) h3 (by rw[hsz,z1,z2];dsimp only;lia) λl4 n4=>?_;have s4:=aN (o:=.lst (u2++u3)) (ak.refl H3) n4;have h4:upd H3 l4 (.lst (u2++u3)) l4=a_ (.lst (u2++u3)):=ax;generalize upd H3 l4 (.lst (u2++u3))=H4 at s4 h4 ⊢;have p4:Paired (cA H4) (u2++u3) (nK S S.ps.length++oG S S.ac.length):=vz (cA.all p3 λb xs e=>s4 _ _ e) (cA.all p2 λb xs e=>s4 _ _ (s3 _ _ e));have AF:=(sZ.trans s3).trans s4;refine vr rfl (qE m A S rfl (M.same AF) W Gh Z λH5 l5 u5 s5 n5 h5 p5=>?_);have z4:=r_ p4;have z5:=r_ p5;have y5:=D' Z.m5 12;rw[cj (as:=nK _ _)]at z4;refine md l4 l5 _ u5 rfl rfl (s5 _ _ h4) h5 (by rw[hsz,z4,z5];dsimp only;lia) λl6 n6=>?_;have s6:=aN (o:=.lst (u2++u3++u5)) (ak.refl H5) n6;have h6:upd H5 l6 (.lst (u2++u3++u5)) l6=a_ (.lst (u2++u3++u5)):=ax;generalize upd H5 l6 (.lst (u2++u3++u5))=H6 at s6 h6 ⊢;have p6:Paired (cA H6) (u2++u3++u5) (nK S S.ps.length++oG S S.ac.length++pP S 12):=vz (cA.all p5 λb xs e=>s6 _ _ e) (cA.all p4 λb xs e=>s6 _ _ (s5 _ _ e));have YE:=(AF.trans s5).trans s6;refine vr rfl (qE m A S rfl (M.same YE) W Gh Z λH7 l7 u7 s7 n7 h7 p7=>?_);have z6:=r_ p6;have z7:=r_ p7;have y7:=Jl S S.ac.length;rw[cj (bs:=pP _ _),cj (as:=nK _ _)]at z6;refine md l6 l7 _ u7 rfl rfl (s7 _ _ h6) h7 (by rw[hsz,z6,z7];dsimp only;lia) λl8 n8=>?_;have s8:=aN (o:=.lst (u2++u3++u5++u7)) (ak.refl H7) n8;have h8:upd H7 l8 (.lst (u2++u3++u5++u7)) l8=a_ (.lst (u2++u3++u5++u7)):=ax;generalize upd H7 l8 (.lst (u2++u3++u5++u7))=H8 at s8 h8 ⊢;have p8:Paired (cA H8) (u2++u3++u5++u7) (mq S):=vz (cA.all p7 λb xs e=>s8 _ _ e) (cA.all p6 λb xs e=>s8 _ _ (s7 _ _ e));have YD:=(YE.trans s7).trans s8;have lb:(mq S).length<=100000:=by unfold mq;rw[cj,cj,cj];lia
  exact Tb h8 p8 lb (adF Z) λr ws B nr hB hP=>q _ r ws B (aN YD nr) (YD.free nr) ax hP hB
end
theorem BE{k:Nat}(r:eV k A):A.units+64<cLine:=by have:=r.un;lia
theorem Wt(a b:Int)(h:0<b):0<=a%b/\a%b<b:=⟨DN _ li,aaS _ h⟩
def Ld:Sp:=λvs H Q _=>∃(a:e_) (ns:List Int) (k:Nat),vs=[.ref a,.int (k:Nat)]/\H a=a_ (.lst (ns.map V.int))/\ns.length<=63/\k<=100000/\∀H' (d:Nat),ak H H'->Q (.int (d:Nat)) H'
theorem zW:bp ["_law_script","_law_k","_law_cell","_law_number"] zLk (aW Mn):=bJ
theorem afQ(F:aY K "_law_draw" "_law_draw" Mn f fd)(dQ:mg "len" = b_):ay P w K mg base aB 1 f fd zLk Ld:=by
 refine F.ok zW λaM A _ s H vs Q E hr h=>?_
 ·obtain⟨a,ns,k,aa,ha,hn,hk,q⟩:=h;subst aa;have hu:=BE hr;refine let R1:TS:=_;let R2:TS:=_;let R3:TS:=_;let R4:TS:=_;let R5:TS:=_;⟨_,aE (cU (i:=2) zW.nd rfl (aX rfl) aA) (pR R5 (aE (cC (PW.pt (pw_and (cb (xP hu) (pv 0) (fk af) (bQ _)) (pw_and1 (cb eJ (bh iI (aT cY (pv 0) aA) aA) aA (bQ _))))) (aE (cC (cb B4 (bh iX aA (bh qI (pv 1) aA)) (bG fj rfl dQ q_ (ae (pv 0) af)) (bQ _)) (aF (cU (i:=2) zW.nd rfl (aX rfl) (aT cY (pv 0) (bh iX aA (bh qI (pv 1) aA))))) cO) (pR R1 (aF (bj (bh iI (bh ahb (pv 2) (bh vS aA (bh iI (pv 1) aA))) (bh Vu aA aA)))))) cO) (pR R4 (aE (cC (cb (xP hu) (pv 0) (fk af) (bQ _)) (aF (cU (i:=2) zW.nd rfl (aX rfl) (aT cY (pv 0) (bh iI (pv 1) (bG fj rfl dQ q_ (ae (pv 0) af)))))) cO) (pR R3 (aE (cU (i:=3) zW.nd rfl (aX rfl) (bh iI (bh vS (bh iX (bh iX (pv 2) (bh vS aA (pv 1))) aA) aA) aA)) (pR R2 (aE (cU (i:=3) zW.nd rfl (aX rfl) (bh iI (bh vS (pv 3) (bh iX (bh qI (pv 3) aA) aA)) aA)) (aF (bj (bh iI (bh vS (pv 3) (bh iX (bh qI (pv 3) aA) aA)) aA))))))))))),?_⟩
  have fin:∀(x:Int) H1,ak H H1->0<=x->Q (.int x) H1:=λx H1 s1 hx=>by
   have:=q H1 x.toNat s1;rw[Qh hx]at this;exact this
  have t1:∀(c:Int) H1,ak H H1->R1 { nx:=λ_ H'=>Q .aG H',rt:=Q } [a_ (.ref a),a_ (.int (k:Nat)),a_ (.int c),b_] H1:=λc H1 s1=>by
   refine vr rfl (vr rfl ⟨_,⟨_,rfl,rfl,(show (0:Int)<50 by decide),_,_,rfl,rfl,.inl ⟨qc,qc⟩,_,_,rfl,rfl,?_,_,_,rfl,rfl,⟨qc,qc,qc⟩,_,_,rfl,rfl,?_,fin _ _ s1 (DN _ qc)⟩⟩)
   ·show (0:Int)<=20*((k:Int)%50);have:=DN (k:Int) (show (50:Int)≠0 by decide);lia
   ·show (0:Int)<2^20;decide
  have t3:∀(c:Int) H1,ak H H1->R3 { nx:=λ_ H'=>Q .aG H',rt:=Q } [a_ (.ref a),a_ (.int (k:Nat)),a_ (.int c),b_] H1:=λc H1 s1=>by
   refine vr rfl (vr rfl ⟨_,⟨_,rfl,rfl,.inl ⟨qc,qc⟩,_,_,rfl,rfl,_,_,rfl,rfl,_,_,rfl,rfl,.inr ⟨qc,qc⟩,_,_,rfl,rfl,(show (0:Int)<2147483647 by decide),?_⟩⟩);have hb:=Wt ((c+7919*(k:Nat)+1)*48271) 2147483647 qc;generalize (c+7919*(k:Nat)+1)*48271%2147483647=n1 at hb ⊢;refine au _ rfl (vr rfl ⟨_,⟨_,rfl,rfl,⟨qc,qc⟩,_,_,rfl,rfl,_,_,rfl,rfl,.inl ⟨li,li⟩,_,_,rfl,rfl,(show (0:Int)<2147483647 by decide),?_⟩⟩);have xn:=Wt (n1*(n1/1009+69621)) 2147483647 qc;generalize n1*(n1/1009+69621)%2147483647=n2 at xn ⊢;exact au _ rfl (vr rfl ⟨_,⟨_,rfl,rfl,⟨qc,qc⟩,_,_,rfl,rfl,_,_,rfl,rfl,.inl ⟨li,li⟩,_,_,rfl,rfl,(show (0:Int)<2147483399 by decide),fin _ _ s1 (DN _ qc)⟩⟩)
  have t4:∀H1,ak H H1->R4 { nx:=λ_ H'=>Q .aG H',rt:=Q } [a_ (.ref a),a_ (.int (k:Nat)),a_ (.int 0),b_] H1:=λH1 s1=>by
   refine vr rfl ⟨qc,(λl nl=>⟨a,l,_,rfl,rfl,aN (ak.refl _) nl _ _ (s1 _ _ ha),ax,_,rfl,nF (λz=>?_) λz=>?_⟩)⟩
   ·have s2:=aN (o:=.lst []) s1 nl;generalize upd H1 l (.lst [])=H2 at s2 ⊢;have sT:0<ns.length:=Qg.mpr λe=>z (by rw[e];rfl);have dJ:k%ns.length<ns.length:=zz _ sT;refine vr rfl (vr rfl (vr rfl ⟨a,⟨_,rfl,.inl (av.of (s2 _ _ ha)),_,_,rfl,rfl,?_,a,_,_,.int (ns[k%ns.length]),rfl,rfl,av.of (s2 _ _ ha),?_,t3 _ H2 s2⟩⟩))
    ·show (0:Int)<((ns.map V.int).length:Nat);rw[aP];lia
    ·rw[aP,<-Qw];exact cR (by rw[dq,aO dJ];rfl)
   ·exact t3 0 _ (aN s1 nl)
  refine cD _ rfl qc λl nl=>(lR a l (dX _ rfl rfl (aN (ak.refl _) nl _ _ ha) ax (au _ rfl (nF (λz=>?_) λz=>?_))))
  ·have s2:=aN (o:=.lst []) (ak.refl H) nl;generalize upd H l (.lst [])=H2 at s2 ⊢;have sT:0<ns.length:=Qg.mpr λe=>z (by rw[e];rfl);refine vL (v:=.int ns[0]) rfl (av.of (s2 _ _ ha)) (cR (j:=0) (by rw[dq,aO sT];rfl)) ⟨_,_,rfl,rfl,(show (0:Int)<2 by decide),rfl,_,rfl,cu (λz=>?_) λz=>?_⟩
   ·refine vr rfl ⟨_,⟨_,rfl,rfl,⟨qc,qc⟩,_,_,rfl,rfl,_,rfl,a,_,rfl,.inl (av.of (s2 _ _ ha)),_,_,rfl,rfl,_,rfl,cu (λz=>?_) λz=>?_⟩⟩
    ·rw[aP]at z;have e:(1:Int)+(k:Nat)/50=((1+k/50:Nat):Int):=li;have dJ:1+k/50<ns.length:=by rw[e]at z;lia
     refine vr rfl (vr rfl ⟨_,⟨_,rfl,rfl,⟨qc,qc⟩,_,_,rfl,rfl,a,_,_,.int (ns[1+k/50]),rfl,rfl,av.of (s2 _ _ ha),?_,t1 _ H2 s2⟩⟩);rw[e];exact cR (by rw[dq,aO dJ];rfl)
    ·exact t1 0 H2 s2
   ·exact t4 H2 s2
  ·exact t4 _ (aN (ak.refl H) nl)
theorem VU(d:Nat)(m:Nat)(hm:0<m):((d:Int)%(m:Nat))=((d%m:Nat):Int)/\d%m<m:=⟨(Qw d m).symm,zz _ hm⟩
theorem ag':(10:Int)^(60:Int).toNat=((10^60:Nat):Int):=qc
def Uc:Sp:=λvs H Q _=>∃(d:Nat) (o:Int) (l:e_) (nm:List Nat) (len:Nat),vs=[.int (d:Nat),.int o,.ref l,.int (len:Nat)]/\H l=a_ (.lst ((eh nm).map V.int))/\0<nm.length/\(∀n∈nm,n<12)/\len<=120/\∀v H' s,ak H H'->vW H' v s->fU len s->Q v H'
theorem EB:bp ["_law_draw_here","_law_other","_law_names","_law_size","_law_word","_law_box","_law_name"] zLg (aW Lk):=bJ
theorem aek(F:aY K "_law_step" "_law_step" Lk f fd)(dQ:mg "len" = b_):ay P w K mg base aB 1 f fd zLg Uc:=by
 refine F.ok EB λaM A _ s H vs Q E hr h=>?_
 ·obtain⟨d,o,l,nm,len,aa,hl,OU,alF,hlen,q⟩:=h;subst aa;refine let R1:TS:=_;let R2:TS:=_;let R3:TS:=_;let R4:TS:=_;let R5:TS:=_;let R6:TS:=_;let R7:TS:=_;let R8:TS:=_;let R9:TS:=_;let jc:TS:=_;let tJ:TS:=_;let yV:TS:=_;let yU:TS:=_;let Dv:TS:=_;⟨_,aE (cU (i:=4) EB.nd rfl (aX rfl) (bh iI (pv 0) aA)) (pR yU (aE (cU (i:=5) EB.nd rfl (aX rfl) (bh iI (bh qI (pv 0) aA) aA)) (pR yV (aE (cU (i:=6) EB.nd rfl (aX rfl) (aT cY (pv 2) (bh iI (bh qI (pv 0) aA) (bG fj rfl dQ q_ (ae (pv 2) af))))) (pR tJ (aE (cC (cb eJ (pv 4) aA (bQ _)) (pR R1 (aF (bj (hV (ae di (ae (pv 5) (ae (bh iI (pv 1) (aT cY (fk (ae aA (ae (bh Vu aA aA) af))) (bh iI (bh qI (pv 0) aA) aA))) af))))))) cO) (pR jc (aE (cC (cb eJ (pv 4) aA (bQ _)) (pR R2 (aF (bj (hV (ae di (ae (pv 5) (ae (bh iI (bh qI (pv 0) aA) aA) af))))))) cO) (pR R9 (aE (cC (cb B4 (pv 4) aA (bQ _)) (pR R3 (aF (bj (hV (ae di (ae (pv 6) (ae (pv 5) af))))))) cO) (pR R8 (aE (cC (cb B4 (pv 4) aA (bQ _)) (pR R4 (aF (bj (hV (ae di (ae (pv 5) (ae (pv 6) af))))))) cO) (pR R7 (aE (cC (cb eJ (pv 4) aA (bQ _)) (pR R5 (aF (bj (hV (ae di (ae (pv 5) (ae (pv 6) af))))))) cO) (pR R6 (aE (cC (cb eJ (pv 4) aA (bQ _)) (aF (bj (hV (ae di af)))) cO) (pR Dv (aF (bj (hV (ae di (ae (pv 5) (ae (bh iI (bh qI (pv 0) aA) (bh iX (pv 3) aA)) af))))))))))))))))))))))),?_⟩
  refine oA (VU (d/16) 4 qc) λebx rH=>oA (VU (d/64) nm.length OU) λena yK=>?_;have ZC:((eh nm).map V.int).length=nm.length:=by unfold eh;rw[aP,aP]
  have hat:((eh nm).map V.int)[d/64%nm.length]?=a_ (.int (nm[d/64%nm.length]:Nat)):=by
   unfold eh;rw[dq,dq,aO yK];rfl
  have CY:=alF _ (tQ yK);refine vr rfl ⟨_,⟨_,rfl,rfl,(show (0:Int)<16 by decide),_,rfl,_,_,rfl,rfl,⟨qc,qc⟩,_,_,rfl,rfl,(show (0:Int)<4 by decide),_,rfl,_,rfl,_,_,rfl,rfl,⟨qc,qc⟩,_,rfl,l,_,rfl,.inl (av.of hl),_,_,rfl,rfl,?_,l,_,_,.int (nm[d/64%nm.length]:Nat),rfl,rfl,av.of hl,?_,?_⟩⟩
  ·show (0:Int)<(((eh nm).map V.int).length:Nat);rw[ZC];lia
  ·rw[ZC];show iB _ (((d:Nat):Int)/(64:Nat)%(nm.length:Nat))=_;rw[<-Int.natCast_ediv,ena];exact cR hat
  show tJ { nx:=λ_ H'=>Q .aG H',rt:=Q } [a_ (.int (d:Nat)),a_ (.int o),a_ (.ref l),a_ (.int (len:Nat)),a_ (.int ((d:Int)%16)),a_ (.int ((d:Int)/16%4)),a_ (.int (nm[d/64%nm.length]:Nat))] H;rw[show ((d:Nat):Int)/16%4=((d/16%4:Nat):Int) by lia];generalize d/16%4=bx at rH ⊢;generalize nm[d/64%nm.length]=na at CY ⊢;refine vr rfl ⟨rfl,⟨_,rfl,cu (λh0=>?_) λh0=>?_⟩⟩
  ·refine au _ rfl (vr rfl ⟨_,⟨_,rfl,rfl,⟨qc,qc,qc⟩,(sl (n:=2)),λlp Hi=>?_⟩⟩);have s1:=aN (o:=.lst [.int 4,.int ((10:Int)^(60:Int).toNat)]) (ak.refl H) Hi;have h1:upd H lp (.lst [.int 4,.int ((10:Int)^(60:Int).toNat)]) lp=a_ (.lst [.int 4,.int ((10:Int)^(60:Int).toNat)]):=ax;generalize upd H lp (.lst [.int 4,.int ((10:Int)^(60:Int).toNat)])=H1 at s1 h1 ⊢
   obtain⟨b,hb,De,i6⟩:∃b:Nat,iB ([.int 4,.int ((10:Int)^(60:Int).toNat)]:List V) ((d:Int)/512%2)=a_ (.int (b:Nat))/\0<b/\b<=10^60:=by
    have:d/512%2=0\/d/512%2=1:=li;rw[show ((d:Nat):Int)/512%2=((d/512%2:Nat):Int) by lia];rcases this with e | e
    ·exact cD 4 (by rw[e];exact cR (j:=0) rfl) qc qc
    ·exact cD (10^60) (by rw[e,<-ag'];exact cR (j:=1) rfl) qc (aI _)
   have hx0:=DN o (show (b:Int)≠0 by lia);have gu:=aaS o (show (0:Int)<(b:Nat) by lia);refine vr rfl ⟨_,⟨_,rfl,rfl,⟨qc,qc⟩,_,_,rfl,rfl,(show (0:Int)<2 by decide),lp,_,_,.int (b:Nat),rfl,rfl,av.of h1,hb,_,_,rfl,rfl,(show (0:Int)<(b:Nat) by lia),(sl (n:=3)),λtp ht=>q _ _ ("put",[bx,(o%(b:Nat)).toNat]) (aN s1 ht) ⟨tp,rfl,?_⟩ (.put bx _ rH li)⟩⟩;rw[ax];show a_ (HO.tup [.str "put",V.int (bx:Nat),V.int (o%(b:Nat))])=a_ (HO.tup [.str "put",V.int (bx:Nat),V.int ((o%(b:Nat)).toNat:Nat)]);rw[Qh hx0]
  refine au _ rfl ⟨rfl,⟨_,rfl,cu (λh1=>?_) λh1=>?_⟩⟩
  ·refine au _ rfl (vr rfl ⟨_,⟨_,rfl,rfl,⟨qc,qc⟩,_,_,rfl,rfl,(show (0:Int)<4 by decide),(sl (n:=3)),λtp ht=>q _ _ ("add",[bx,d/512%4]) (aN (ak.refl _) ht) ⟨tp,rfl,?_⟩ (.add bx _ rH li)⟩⟩);rw[ax];rfl
  refine au _ rfl ⟨_,⟨_,rfl,rfl,_,rfl,cu (λh2=>au _ rfl (vr rfl ⟨(sl (n:=3)),(λtp ht=>q _ _ ("set",[na,bx]) (aN (ak.refl _) ht) ⟨tp,rfl,ax⟩ (.set na bx CY rH))⟩)) λh2=>au _ rfl ⟨_,⟨_,rfl,rfl,_,rfl,cu (λh3=>au _ rfl (vr rfl ⟨(sl (n:=3)),(λtp ht=>q _ _ ("look",[bx,na]) (aN (ak.refl _) ht) ⟨tp,rfl,ax⟩ (.look bx na rH CY))⟩)) λh3=>au _ rfl ⟨rfl,⟨_,rfl,cu (λh4=>au _ rfl (vr rfl ⟨(sl (n:=3)),(λtp ht=>q _ _ ("swap",[bx,na]) (aN (ak.refl _) ht) ⟨tp,rfl,ax⟩ (.swap bx na rH CY))⟩)) λh4=>au _ rfl ⟨rfl,⟨_,rfl,cu (λh4=>⟨(sl (n:=1)),λtp ht=>q _ _ ("clear",[]) (aN (ak.refl _) ht) ⟨tp,rfl,ax⟩ .clear⟩) λh4=>?_⟩⟩⟩⟩⟩⟩⟩⟩
  ·refine au _ rfl (vr rfl ⟨_,⟨_,rfl,rfl,⟨qc,qc⟩,_,rfl,_,_,rfl,rfl,_,_,rfl,rfl,(by show (0:Int)<(len:Int)+1;lia),(sl (n:=3)),λtp ht=>q _ _ ("skip",[bx,d/512%(len+1)]) (aN (ak.refl _) ht) ⟨tp,rfl,?_⟩ (.skip bx _ rH (Nat.le_of_lt_succ (zz _ (DU _))) (by have:=zz (d/512) (DU len);lia))⟩⟩);rw[ax];rfl
theorem aeL{k:Nat}{Q:L2.St->Hp->Prop}(e:x=y)(h:kg k y σ H Q):kg k x σ H Q:=by rw[e];exact h
theorem agP{X:Cx}(K:u_)(hc:X.calm=c_)(h:X.K=K:=by rfl):lK X (.builtin "sum") (Wf K):=by subst h;exact adB hc
def Ud:Sp:=λvs H Q _=>∃(a:e_) (ns:List Int),vs=[.ref a]/\H a=a_ (.lst (ns.map V.int))/\ns.length<=63/\∀H' v ps,ak H H'->vX H' v ps->Ac ps->Q v H'
theorem vG:bp ["_law_script","_law_first","_law_names","_law_parts","_law_clerk","_law_size","_law_cells","_law_steps"] zLq (aW Ll):=bJ
theorem ai0:(["_law_first","_law_k"]:List Str).Nodup:=dk
theorem ahl:(["_law_script","_law_clerk","_law_k"]:List Str).Nodup:=dk
theorem af6:(["_law_script","_law_names","_law_size","_law_cell"]:List Str).Nodup:=dk
theorem ael(F:aY K "_law_program" "_law_program" Ll f fd)(dI:mg "range" = b_)(jL:mg "tuple" = b_)(hsm:mg "sum" = b_)
  (GD:ay P w K mg base aB 1 fD ni zLk Ld) (kD:x_ K (.ref fD)=c_) (bD:Binds K ni zLk []) (mD:mg "_law_draw" = a_ (.ref fD))
  (GS:ay P w K mg base aB 1 fS kU zLg Uc) (kS:x_ K (.ref fS)=c_) (bS:Binds K kU zLg []) (mS:mg "_law_step" = a_ (.ref fS)) :
  ay P w K mg base aB 2 f fd zLq Ud:=by
 refine F.ok vG λaM A _ s H vs Q E hr h=>?_
 ·refine jD h λa ns aa ha hn q=>?_;clear h;subst aa
  refine let R1:TS:=_;let R2:TS:=_;let R3:TS:=_;let R4:TS:=_;let R5:TS:=_;let R6:TS:=_;let R7:TS:=_;⟨_,aE (cU (i:=1) vG.nd rfl (qQ rfl) (dN GD hr rfl mD kD bD .nil a7 (ae (pv 0) (ae aA af)))) (pR R7 (aE (cU (i:=2) vG.nd rfl (qQ rfl) (jA (N:=["_law_first","_law_k"]) (idx:=[1]) rfl (ee.of (by kernel_rfl)) (jU (aI _)) (kG rfl dI (ae (bh iX aA (bh iI (bh qI (pv 1) aA) aA)) af))
    (λ_ _ _ _=>cG (i:=1) ai0 rfl (aX rfl) (.inr rfl)) (λ_ _ _ _=>jW) λ_ _ _ _=>bh iI (bh iX (bh qI (pv 0) aA) (bh vS aA (pv 1))) aA))
   (pR R6 (aE (cU (i:=3) vG.nd rfl (aX rfl) (fk af)) (pR R5 (aE (jY kE rfl (kG rfl dI (ae (bh iX aA (bh iI (pv 1) aA)) af)) (cG (i:=4) vG.nd rfl (qQ rfl)) (pR R4 (aE (cU (i:=5) vG.nd rfl (qQ rfl) (bh iI (dN GD hr rfl mD kD bD .nil a7 (ae (pv 0) (ae (bh iX aA (pv 4)) af))) aA)) (pR R3 (aE (Bp (i:=6) (N:=["_law_script","_law_clerk","_law_k"]) (idx:=[0,4]) vG.nd rfl rfl rfl (ee.of (by kernel_rfl)) (jU (aI _)) (kG rfl dI (ae (pv 5) af))
     (λ_ _ _ _=>cG (i:=2) ahl rfl (aX rfl) (.inr rfl)) (λ_ _ _ _=>jW) λ_ _ _ _=>dN GD hr rfl mD kD bD .nil a7 (ae (pv 0) (ae (bh iX (bh iX aA (bh vS aA (pv 1))) (pv 2)) af)))
    (pR R2 (aE (Bp (i:=7) (N:=["_law_script","_law_names","_law_size","_law_cell"]) (idx:=[0,2,5]) vG.nd rfl rfl rfl (ee.of (by kernel_rfl)) (jU (aI _)) (zO (pv 6))
     (λ_ _ _ _=>cG (i:=3) af6 rfl (aX rfl) (.inr rfl)) (λ_ _ _ _=>jW) λ_ _ _ _=>dN GS hr rfl mS kS bS .nil a7 (ae (pv 3) (ae (bh vS (bG (agP K rfl) rfl hsm boot_sum (ae (pv 0) af)) (bh iX (bh iI (pv 3) aA) aA)) (ae (pv 1) (ae (pv 2) af)))))
    (pR R1 (aF (dE (ke m_ n_ o_ pI (pv 3) (ae (xK Bg rfl jL tX (ae (pv 7) af)) af))))))))))))
   (aF (bj (xK Bg rfl jL tX (ae (pv 3) af)))))))))),?_⟩
  have hsz:=gG;refine vr rfl (kI a ns 0 rfl ha hn qc λH1 d0 s1=>au _ rfl ⟨_,⟨_,rfl,rfl,⟨qc,qc⟩,_,_,rfl,rfl,(show (0:Int)<3 by decide),_,_,rfl,rfl,_,rfl,li,li,?_⟩⟩);obtain⟨n0,OU,yL,uY⟩:∃n0:Nat,(1+(d0:Int)/4%3).toNat=n0/\1<=n0/\n0<=3:=⟨_,rfl,li,li⟩;rw[OU];refine iH (n:=n0) (λj ys H'=>H'=H1/\∃nm:List Nat,ys=(eh nm).map V.int/\nm.length=j/\∀n∈nm,n<12) (by rw[hsz];lia) ⟨rfl,[],rfl,rfl,λn z=>by cases z⟩ ?_ ?_ ?_ ?_ ?_
  ·rintro j ys H' ⟨_,nm,rfl,e,_⟩;rw[aP];unfold eh;rw[aP,e];exact aI _
  ·rintro j ys H' hj _;exact hj
  ·rintro ys H' _;exact aI _
  ·rintro j ys H2 hj ⟨rfl,nm,rfl,e,Pn⟩ x H3 ⟨eH,ex⟩;subst eH;subst ex;refine au _ rfl ⟨_,⟨_,rfl,rfl,⟨qc,qc⟩,_,rfl,_,_,rfl,rfl,.inl ⟨qc,qc⟩,_,_,rfl,rfl,_,_,rfl,rfl,(show (0:Int)<12 by decide),rfl,nm++[((d0:Int)/16+5*(0+(j:Int))).toNat%12],?_,by rw[cj,e];rfl,λn hn=>?_⟩⟩
   ·unfold eh;rw[gy,gy];show _++[V.int (((d0:Int)/16+5*(0+(j:Int)))%12)]=_++[V.int (((((d0:Int)/16+5*(0+(j:Int))).toNat%12:Nat):Int))]
    congr 3
   ·rcases dD.mp hn with z | z
    ·exact Pn n z
    ·rw[f7.mp z];exact zz _ qc
  rintro ys H2 ⟨rfl,nm,rfl,enm,Pn⟩;refine⟨by rw[aP];unfold eh;rw[aP,hsz];lia,λln nln=>aR (nw (o:=.lst ((eh nm).map V.int)) nln) λH3 e3 s3 dQ=>?_⟩;rw[e3];clear e3;refine⟨qc,λlp Hi=>aR (nw (o:=.lst []) Hi) λH4 e4 s4 hlp=>?_⟩;rw[e4];clear e4;have YF:=s1.trans s3;refine au _ rfl ⟨_,⟨_,rfl,rfl,(show (0:Int)<4 by decide),_,_,rfl,rfl,_,rfl,li,li,?_⟩⟩;obtain⟨n4,hn4,hn5,HA⟩:∃n4:Nat,(1+(d0:Int)%4).toNat=n4/\1<=n4/\n4<=4:=⟨_,rfl,li,li⟩;rw[hn4]
  let W1:IV:=λi σ H'=>∃ys ps w4 w5 w6 w7,σ=[a_ (.ref a),a_ (.int (d0:Nat)),a_ (.ref ln),a_ (.ref lp),w4,w5,w6,w7]/\ak H3 H'/\H' lp=a_ (.lst ys)/\Paired (IsPart H') ys ps/\ps.length=i/\∀p∈ps,p.length<=8/\∀t∈p,fU p.length t
  refine pJ (n:=n4) W1 ⟨[],[],b_,b_,b_,b_,rfl,s4,hlp,.nil,rfl,λp z=>by cases z⟩ ?_ ?_
  ·rintro i σ H5 hi ⟨ys,ps,w4,w5,w6,w7,rfl,s5,NM,Hu,ff,ph⟩;rw[ou];have ZQ:=s5 _ _ (YF _ _ ha);have hyl:=r_ Hu;refine vr rfl (vr rfl ⟨_,⟨_,rfl,rfl,a,ns,10+i,rfl,ZQ,hn,li,λH6 d6 s6=>⟨_,_,rfl,rfl,(show (0:Int)<9 by decide),aeL (y:=.int ((d6%9:Nat):Int)) (by show V.int ((d6:Int)%9)=_;rw[show ((d6:Int)%9)=((d6%9:Nat):Int) by lia]) ?_⟩⟩⟩);have OW:d6%9<9:=zz _ qc;generalize d6%9=len at OW ⊢;have ZP:=s6 _ _ ZQ;refine vr rfl (kL _ rfl li li ?_);rw[show ((len:Int)).toNat=len by lia];refine iH (n:=len) (λj ys H'=>ak H6 H'/\∃ds:List Nat,ys=(eh ds).map V.int/\ds.length=j) (by rw[hsz];lia) ⟨ak.refl _,[],rfl,rfl⟩ ?_ ?_ ?_ ?_ ?_
   ·rintro j ys H' ⟨_,ds,rfl,e⟩;rw[aP];unfold eh;rw[aP,e];exact aI _
   ·rintro j ys H' hj _;exact hj
   ·rintro ys H' _;exact aI _
   ·rintro j ys H7 hj ⟨s7,ds,rfl,e⟩ x H8 ⟨eH,ex⟩;subst eH;subst ex;refine au _ rfl (vr rfl ⟨_,⟨_,rfl,rfl,.inl ⟨qc,qc⟩,_,_,rfl,rfl,_,rfl,_,_,rfl,rfl,a,ns,100+20*i+j,?_,s7 _ _ ZP,hn,li,λH9 d9 s9=>⟨s7.trans s9,ds++[d9],?_,by rw[cj,e];rfl⟩⟩⟩)
    ·show [V.ref a,V.int (100+20*(i:Int)+(0+(j:Int)))]=_;rw[show (100+20*(i:Int)+(0+(j:Int)))=((100+20*i+j:Nat):Int) by lia]
    ·unfold eh;rw[gy,gy];rfl
   rintro us H7 ⟨s7,ds,rfl,eds⟩;have O6:((eh ds).map V.int).length=len:=by unfold eh;rw[aP,aP,eds]
   refine⟨by rw[O6,hsz];lia,λlc Ov=>aR (nw (o:=.lst ((eh ds).map V.int)) Ov) λH8 e8 s8 AQ=>?_⟩;rw[e8];clear e8;have yw:=s7.trans s8;have CK:=s6.trans yw;refine au _ rfl (cD lc rfl ⟨_,av.of AQ⟩ (iH (n:=len) (λj ys H'=>ak H8 H'/\∃ts:List Tl,Paired (vW H') ys ts/\ts.length=j/\∀t∈ts,fU len t) (by rw[hsz];lia) ⟨ak.refl _,[],.nil,rfl,λt z=>by cases z⟩ ?_ ?_ ?_ ?_ ?_))
   ·rintro j ys H' ⟨_,ts,h1,h2,_⟩;rw[r_ h1,h2];exact aI _
   ·rintro j ys H' hj ⟨s9,_⟩;exact fq _ (((eh ds).map V.int)[j]'(by rw[O6];exact hj)) (av.of (s9 _ _ AQ)) (aO _)
   ·rintro ys H' ⟨s9,_⟩;exact au _ (av.of (s9 _ _ AQ)) (by rw[O6];exact aI _)
   ·rintro j ys H9 hj ⟨s9,ts,h1,h2,h3⟩ x tK ⟨eH,gu⟩;subst eH;have hx:=gu _ (av.of (s9 _ _ AQ));unfold eh at hx;rw[dq,dq,aO (show j<ds.length by lia)]at hx;cases hx;have ha9:=s9 _ _ (yw _ _ ZP);have alL:=s9 _ _ (CK _ _ (s5 _ _ dQ));refine au _ rfl (vr rfl (dw a ns rfl (av.of ha9) λn=>⟨_,rfl,_,_,rfl,rfl,(show (0:Int)<1009 by decide),_,_,rfl,rfl,_,_,rfl,rfl,.inr ⟨?_,?_⟩,_,rfl,_,rfl,ds[j],_,ln,nm,len,rfl,alL,li,Pn,li,λv PH t oZ ht hg=>⟨s9.trans oZ,ts++[t],qB (Paired.cZ h1 λ_ _ q=>q.keep λb xs e=>oZ _ _ e) ht,by rw[cj,h2];rfl,λx hx=>?_⟩⟩))
    ·show -(2^64)<((ds[j]:Nat):Int)%1009+1;lia
    ·show ((ds[j]:Nat):Int)%1009+1<2^64;lia
    ·rcases dD.mp hx with z | z
     ·exact h3 x z
     ·rw[f7.mp z];exact hg
   rintro zs H9 ⟨s9,ts,h1,h2,h3⟩;have yD:=r_ h1;refine⟨by rw[yD,h2,hsz];lia,λls Ot=>aR (nw (o:=.lst zs) Ot) λtK e10 oa pj=>?_⟩;rw[e10];clear e10;have ND:=(CK.trans s9).trans oa;have WK:=ND _ _ NM;refine cD _ rfl (.inl ⟨rfl,_,av.of WK⟩) (vr rfl (fq ls zs rfl (.inl ⟨av.of pj,λtp ht=>aR (nw (o:=.tup zs) ht) λPH Z' oZ jL=>?_⟩)));rw[Z'];clear Z';have WJ:=oZ _ _ WK;have kt:=oB (o:=.lst (ys++[.ref tp])) WJ;refine lR lp ys (dX _ rfl rfl WJ (by rw[hsz];lia) ⟨ys++[.ref tp],ps++[ts],_,_,_,_,rfl,BA (s5.trans (ND.trans oZ)) Hi,ax,qB (Paired.cZ Hu λ_ _ q=>q.keep λb xs e=>kt _ _ (oZ _ _ (ND _ _ e))) ⟨tp,zs,rfl,kt _ _ jL,Paired.cZ h1 λ_ _ q=>q.keep λb xs e=>kt _ _ (oZ _ _ (oa _ _ e))⟩,by rw[cj,ff];rfl,λx hx=>?_⟩)
   ·rcases dD.mp hx with z | z
    ·exact ph x z
    ·rw[f7.mp z];refine⟨li,λt ht=>?_⟩;rw[h2];exact h3 t ht
  ·rintro σ H5 ⟨ys,ps,w4,w5,w6,w7,rfl,s5,NM,Hu,ff,ph⟩;refine vr rfl (fq lp ys rfl (.inl ⟨av.of NM,λtp ht=>?_⟩));have s6:=aN (o:=.tup ys) (ak.refl H5) ht;exact q _ _ ps (YF.trans (s5.trans s6)) ⟨tp,ys,rfl,ax,Paired.cZ Hu λ_ _ q=>q.keep λb xs e=>s6 _ _ e⟩ ⟨li,li,λp hp=>⟨by have:=(ph p hp).1;lia,(ph p hp).2⟩⟩
def iy(l:e_)(H H':Hp):Prop:=∀b o,b≠l->H b=a_ o->H' b=a_ o
theorem iy.of(s:ak H H'):iy l H H':=λb o _ e=>s b o e
theorem iy.trans(a:iy l H H1)(b:iy l H1 H2):iy l H H2:=λc o n h=>b c o n (a c o n h)
theorem iy.tup(k:iy l H H')(h:H l=a_ (.lst us)):∀b xs,H b=a_ (.tup xs)->H' b=a_ (.tup xs):=λb xs e=>k b _ (λz=>by rw[z,h]at e;cases e) e
theorem E9{K:u_}{w:Str}{lw:e_}{L:List T3}{x y:Int}(h2:σ[2]?=a_ (a_ (.ref lw)))(hw:H lw=a_ (.lst us))(hp:Paired (cA H) us L)(hz:L.length<=100000)
  (hx:∀Q:VK,Q (.int x) H->tx σ H Q) (hy:∀Q:VK,Q (.int y) H->ty σ H Q) (q:∀H' Yx,iy lw H H'->H' lw=a_ (.lst Yx)->Paired (cA H') Yx (L++[(x,y,w)])->D.nx σ H') :
  V8 (X6 K "list" Us (qV 2) (B1 (WQ (B1 tx (B1 ty (B1 (tC (.str w)) FE)))) FE)) D σ H:=by
 have jK:=r_ hp;refine cD _ h2 (.inl ⟨rfl,_,av.of hw⟩) (hx _ (hy _ ⟨(sl (n:=3)),λtp nt=>?_⟩));have s1:=aN (o:=.tup [.int x,.int y,.str w]) (ak.refl H) nt;have ht:upd H tp (.tup [.int x,.int y,.str w]) tp=a_ (.tup [.int x,.int y,.str w]):=ax;generalize upd H tp (.tup [.int x,.int y,.str w])=H1 at s1 ht ⊢;have iQ:=s1 _ _ hw;have kt:=oB (o:=.lst (us++[.ref tp])) iQ;exact lR lw us (dX _ rfl rfl iQ (by rw[gG];lia) (q _ _ (λb o n e=>by rw[ao n];exact s1 _ _ e) ax (qB (cA.all hp λb xs e=>kt _ _ (s1 _ _ e)) ⟨tp,rfl,kt _ _ ht⟩)))
theorem BX{f:Nat->List T3}{b:Nat}(h:∀i,(f i).length<=b):∀m,((List.range m).flatMap f).length<=m*b
 | 0=>bg _
 | m+1=>by
  rw[lD,vp,cj,Bk];refine IE (BX h m) ?_;show (f m++[]).length<=b;rw[il];exact h m
theorem UN{f:Nat->List T3}(m:Nat):(List.range (m+1)).flatMap f=(List.range m).flatMap f++f m:=by
 rw[lD,vp];simp
theorem SI(S:Mc)(i:Nat):(pV S i).length<=1:=by
 unfold pV;cases (qO S i (S.ac.length-(i+1))).head? <;> simp
theorem SH(S:Mc)(i m:Nat):(sI S i m).length<=m:=by
 have:=yX (λj=>decide (S.ac[j]?.bind Act.seen=a_ (i:Int))) (List.range m);rw[rW]at this;unfold sI;rw[aP];exact this
theorem aco(S:Mc)(i m:Nat):sI S i (m+1)=sI S i m++(if S.ac[m]?.bind Act.seen=a_ (i:Int) then [((i:Int),(m:Int),("seen" : Str))] else []):=by
 unfold sI;rw[lD,yZ,gy]
 by_cases h:S.ac[m]?.bind Act.seen=a_ (i:Int) <;> simp[h]
theorem TK(S:Mc)(i:Nat):(pZ S i).length<=1+S.ac.length:=by
 unfold pZ;rw[cj];exact IE (SI S i) (SH S i _)
theorem SG(S:Mc)(n m:Nat):(sH S n m).length<=m:=by
 have:=PY (oH S n) (List.range m);rw[rW]at this;exact this
theorem RF(S:Mc)(n m:Nat):sH S n (m+1)=sH S n m++(oH S n m).toList:=by
 unfold sH;rw[lD,P'];cases h:oH S n m <;> simp[h]
theorem acn(o:List Int)(m:Nat):nG o (m+1)=nG o m++[(o.getD m 0,o.getD (m+1) 0,("over" : Str))]:=by
 unfold nG;rw[lD,gy];rfl
theorem JB(o:List Int)(m:Nat):(nG o m).length=m:=by unfold nG;rw[aP,rW]
theorem abN(S:Mc)(i m:Nat):qO S i (m+1)=qO S i m++(if fw S (i+1+m)=fw S i then [i+1+m] else []):=by
 unfold qO;rw[List.range'_1_concat,yZ]
 by_cases h:fw S (i+1+m)=fw S i <;> simp[h]
theorem Rw(S:Mc)(i m:Nat):(qO S i m).length<=m:=by
 have:=yX (λj=>decide (fw S j=fw S i)) (List.range' (i+1) m);rw[List.length_range']at this;exact this
theorem ace(o:List Int):nextM o b_=o.head?:=by
 cases o with
 | nil=>rfl
 | cons x r=>rfl
theorem To(d:Int):∀(o:List Int) (p:Option Int),p≠a_ d->((p::o.map a_).zip o).lookup (a_ d)=(o.drop (o.idxOf d+1)).head?
 | [],p,_=>rfl
 | x::r,p,hp=>by
  show ((p,x)::(a_ x::r.map a_).zip r).lookup (a_ d)=_;rw[lY,beq_eq_false_iff_ne.mpr (dW hp)];show ((a_ x::r.map a_).zip r).lookup (a_ d)=_
  by_cases e:x=d
  ·subst e;rw[List.idxOf_cons_self];cases r with
   | nil=>rfl
   | cons y r'=>
    show ((a_ x,y)::_).lookup (a_ x)=_;rw[lY,beq_self_eq_true];rfl
  ·rw[To d r (a_ x) λz=>e (dr z),List.idxOf_cons,beq_eq_false_iff_ne.mpr e];rfl
theorem acd(o:List Int)(d:Int):nextM o (a_ d)=(o.drop (o.idxOf d+1)).head?:=To d o b_ (by simp)
theorem pO:bp ["_law_machine","_law_deeds","_law_due_here","_law_one","_law_later","_law_other","_law_name","_law_row","_law_k","_law_rest"] zLm (aW Ni):=bJ
theorem ahm:(["_law_deeds","_law_one","_law_k"]:List Str).Nodup:=dk
theorem cutD(xs:List V)(n:Nat)(h:n<=xs.length):mJ xs (a_ ((n:Nat):Int)) b_=xs.drop n:=by
 unfold mJ;rw[HT.Uo,HT.Tf,y' h];exact je (by rw[rY];exact aI _)
theorem ae1{n j:Nat}(h:S.ac[j]?=a_ a):oH S n j=if a.n=n then uh S j a else none:=by
 unfold oH nD;rw[h];show (if a_ a.n=a_ n then uh S j a else b_)=_
 by_cases e:a.n=n
 ·rw[if_pos e,if_pos (by rw[e])]
 ·rw[if_neg e,if_neg λz=>e (dr z)]
section
variable{t:a9}{C CT:e_}
def Wc(t:a9)(C CT:e_):Sp:=λvs H Q _=>∃m A S,vs=[.ref m]/\bb t C CT H m A S/\i0 S/\S.ac.length<=60/\nO S/\∀H' l us B,ak H H'->H l=b_->H' l=a_ (.lst us)->Paired (cA H') us B->zT B (yd S)->Q (.ref l) H'
theorem ahi(F:aY K "_law_due" "_law_due" Ni f fd)(cM:gm K C)(dQ:mg "len" = b_)(dI:mg "range" = b_)(ON:mg "sorted" = b_)
  (GD:ay P w K mg base aB 1 fD ni zLd (BF t C CT)) (bD:Binds K ni zLd []) (mD:Meth K C "deeds" fD)
  (GO:ay P w K mg base aB 1 fO nW zLc (ES t C CT)) (bO:Binds K nW zLc []) (mO:Meth K C "over" fO):ay P w K mg base aB 2 f fd zLm (Wc t C CT):=by
 refine F.ok pO λaM A _ s H vs Q E hr h=>?_
 ·obtain⟨m,A,S,aa,M,W,dR,Z,q⟩:=h;subst aa;have hu:=BE hr
  refine let R1:TS:=_;let R2:TS:=_;let R3:TS:=_;let R4:TS:=_;let R5:TS:=_;let R6:TS:=_;let R7:TS:=_;let R8:TS:=_;let R9:TS:=_;let jc:TS:=_;let tJ:TS:=_;let yV:TS:=_;let yU:TS:=_;let Dv:TS:=_;let R15:TS:=_;let R16:TS:=_;⟨_,aE (cU (i:=1) pO.nd rfl (qQ rfl) (nv (pv 0) cM.cl mD GD hr bD .nil a7)) (pR R16 (aE (cU (i:=2) pO.nd rfl (aX rfl) (fk af)) (pR R15 (aE (jY kE rfl (kG rfl dI (ae (bG fj rfl dQ q_ (ae (pv 1) af)) af)) (cG (i:=3) pO.nd rfl (qQ rfl)) (pR R4 (aE (Bp (i:=4) (N:=["_law_deeds","_law_one","_law_k"]) (idx:=[1,3]) pO.nd rfl rfl rfl (ee.of (by kernel_rfl)) (jU (aI _)) (acL rfl dI (ae (bh iX (pv 3) aA) (ae (bG fj rfl dQ q_ (ae (pv 1) af)) af))) (λ_ _ _ _=>cG (i:=2) ahm rfl (aX rfl) (.inr rfl)) (λ_ _ _ _=>zK (cb eJ (aT (Ab K) (aT (Fn K) (pv 0) (pv 2)) aA) (aT (Ab K) (aT (Fn K) (pv 0) (pv 1)) aA) (bQ _))) λ_ _ _ _=>pv 2)
   (pR R3 (aE (cC (cb (xP hu) (pv 4) (fk af) (bQ _)) (aF (dE (ke m_ n_ o_ pI (pv 2) (ae (hV (ae (pv 3) (ae (aT cY (pv 4) (aA)) (ae (di) af)))) af)))) cO) (pR R2 (aF (jY kE rfl (kG rfl dI (ae (bG fj rfl dQ q_ (ae (pv 1) af)) af)) (cG (i:=5) pO.nd rfl (aX rfl)) (pR R1 (aF (cC (cb eJ (aT de (aT cY (pv 1) (pv 5)) (aA)) (pv 3) (bQ _)) (aF (dE (ke m_ n_ o_ pI (pv 2) (ae (hV (ae (pv 3) (ae (pv 5) (ae (di) af)))) af)))) cO)))))))))))
   (pR Dv (aE (jY kE rfl (kG rfl dI (ae (aA) af)) (cG (i:=6) pO.nd rfl (aX rfl)) (pR yV (aE (cU (i:=7) pO.nd rfl (aX rfl) (iW (pv 0) cM.cl mO GO hr bO .nil a7 (ae (pv 6) af))) (pR tJ (aE (jY kE rfl (kG rfl dI (ae (bh aha (bG fj rfl dQ q_ (ae (pv 7) af)) aA) af)) (cG (i:=8) pO.nd rfl (aX rfl)) (pR R5 (aF (dE (ke m_ n_ o_ pI (pv 2) (ae (hV (ae (aT cY (pv 7) (pv 8)) (ae (aT cY (pv 7) (bh iX (pv 8) aA)) (ae (di) af)))) af)))))) (pR jc (aF (jY kE rfl (kG rfl dI (ae (bG fj rfl dQ q_ (ae (pv 1) af)) af)) (cG (i:=3) pO.nd rfl (qQ rfl)) (pR R9 (aF (cC (PW.pt (pw_and (cb B3 (aT de (aT cY (pv 1) (pv 3)) (aA)) di (bQ _)) (pw_and1 (cb eJ (aT de (aT cY (pv 1) (pv 3)) (aA)) (pv 6) (bQ _))))) (pR R8 (aE (cU (i:=9) pO.nd rfl (aX rfl) (pv 7)) (pR R7 (aE (cC (cb KJ (aT de (aT cY (pv 1) (pv 3)) (aA)) nB (bQ _)) (aF (cU (i:=9) pO.nd rfl (aX rfl) (zH Kp (pv 7) (zL (bh iX (ke m_ PySem.F.slot_list_index PySem.F.type_list_index aeu (pv 7) (ae (aT de (aT cY (pv 1) (pv 3)) (aA)) af)) aA)) zM))) cO) (pR R6 (aF (cC (PW.pt (pw_and (cb (xP hu) (pv 9) (fk af) (bQ _)) (pw_and1 (cb B3 (aT cY (pv 9) (aA)) (pv 3) (bQ _))))) (aF (dE (ke m_ n_ o_ pI (pv 2) (ae (hV (ae (pv 3) (ae (aT cY (pv 9) (aA)) (ae (di) af)))) af)))) cO))))))) cO))))))))))) (pR yU (aF (bj (bG QS rfl ON boot_sorted (ae (pv 2) af))))))))))),?_⟩
  have hsz:=gG;have uB:=Z.m5;refine bX (id M.obj) λdx fs hm G=>vM rfl hm (G.ms _ dk) (qP m A S rfl M λld ws nd k8=>aR (nw (o:=.lst ws) nd) λH1 e1 s1 xh=>?_);rw[e1];clear e1;have og:=r_ k8;refine⟨qc,λlw Oq=>aR (nw (o:=.lst []) Oq) λH2 e2 s2 uV=>?_⟩;rw[e2];clear e2;have sZ:=s1.trans s2;have nlH:=s1.free Oq;have Hj:ld≠lw:=λz=>by rw[z,Oq]at xh;cases xh
  have dl:∀{H':Hp},iy lw H2 H'->H' ld=a_ (.lst ws):=λk=>k _ _ Hj (s2 _ _ xh)
  have dd:∀{H':Hp},iy lw H2 H'->∀(j:Nat) a,S.ac[j]?=a_ a->∃p,iB ws (j:Int)=a_ (.ref p)/\H' p=a_ (.tup (FY a)):=λ{H'} k j a ha=>by
   exact aw (vy k8 ha) λv hv aa=>aw aa λp ep hp=>au p (cR (by rw[hv,ep])) (k.tup uV _ _ (sZ _ _ hp))
  have sm:∀{H':Hp},iy lw H2 H'->ak H H':=λk b o e=>k b o (λz=>by rw[z,nlH]at e;cases e) (sZ _ _ e);refine vr rfl (dw ld ws rfl (.inl (av.of (s2 _ _ xh))) (kL _ rfl li li ?_));rw[show ((ws.length:Int)).toNat=S.ac.length by lia]
  let W1:IV:=λi σ H'=>i<=S.ac.length/\∃w3 w4 w5 us,σ=[a_ (.ref m),a_ (.ref ld),a_ (.ref lw),w3,w4,w5,b_,b_,b_,b_]/\iy lw H2 H'/\H' lw=a_ (.lst us)/\Paired (cA H') us ((List.range i).flatMap (pZ S))
  refine pJ (n:=S.ac.length) W1 ⟨bg _,b_,b_,b_,[],rfl,iy.of (ak.refl _),uV,.nil⟩ ?_ ?_
  ·rintro i σ H3 hi ⟨_,w3,w4,w5,us,rfl,r9⟩;have k3:=r9.1;have pd:=r9.2.1;have dC:=r9.2.2;rw[ou];have ZL:=BX (TK S) i;have i6:i*(1+S.ac.length)<=60*61:=Bf li li;obtain⟨ai,ZO⟩:∃a,S.ac[i]?=a_ a:=⟨_,aO hi⟩;have hci:fw S i=a_ ai.c:=by unfold fw;rw[ZO];rfl
   have tB:∀{D:Ends} {H5:Hp} {G8:List V} {w4:Option V},(∀σ H,W1 (i+1) σ H->D.nx σ H)->iy lw H2 H5->H5 lw=a_ (.lst G8)->Paired (cA H5) G8 ((List.range i).flatMap (pZ S)++pV S i)->R2 D [a_ (.ref m),a_ (.ref ld),a_ (.ref lw),a_ (.int (i:Nat)),w4,w5,b_,b_,b_,b_] H5:=λ{D H5 G8 w4} hD k5 yF F6=>by
    refine vr rfl (dw ld ws rfl (.inl (av.of (dl k5))) (kL _ rfl li li ?_));rw[show ((ws.length:Int)).toNat=S.ac.length by lia]
    let W2:IV:=λj σ H'=>j<=S.ac.length/\∃w5 us,σ=[a_ (.ref m),a_ (.ref ld),a_ (.ref lw),a_ (.int (i:Nat)),w4,w5,b_,b_,b_,b_]/\iy lw H2 H'/\H' lw=a_ (.lst us)/\Paired (cA H') us ((List.range i).flatMap (pZ S)++pV S i++sI S i j)
    refine pJ (n:=S.ac.length) W2 ⟨bg _,_,G8,rfl,k5,yF,by show Paired _ _ (_++[]);rw[il];exact F6⟩ ?_ ?_
    ·rintro j σ H6 hj ⟨_,w5,yu,rfl,r9⟩;have k6:=r9.1;have jb:=r9.2.1;have nQ:=r9.2.2;rw[ou];obtain⟨aj,Df⟩:∃a,S.ac[j]?=a_ a:=⟨_,aO hj⟩;refine aw (dd k6 j aj Df) λp hp qk=>?_;have va:=aco S i j;rw[Df]at va;refine vr rfl (vr rfl (rL (v:=.ref p) (av.of (dl k6)) hp (rT (v:=oV aj.seen) (aJ.of qk) (cR (j:=5) rfl) ⟨_,rfl,?_⟩)));cases hs:aj.seen with
     | none=>
      refine rq (H:=H6) rfl (cu (λz=>nomatch z) λ_=>⟨hj,⟨_,yu,rfl,k6,jb,?_⟩⟩);rw[va,if_neg (by show ¬aj.seen=_;rw[hs];exact λz=>nomatch z),il];exact nQ
     | some d=>
      refine rq (H:=H6) rfl (cu (λz=>?_) λz=>⟨hj,⟨_,yu,rfl,k6,jb,?_⟩⟩)
      ·have ed:=V.int.inj z;have vd:=SI S i;have xn:=SH S i j;refine E9 (x:=(i:Int)) (y:=(j:Int)) rfl jb nQ (by rw[cj,cj];lia) (λQ q=>⟨_,rfl,q⟩) (λQ q=>⟨_,rfl,q⟩) λH7 wQ k7 jJ sS=>⟨hj,_,wQ,rfl,k6.trans k7,jJ,?_⟩;rw[va,if_pos (by show aj.seen=_;rw[hs,ed]),<-cX];exact sS
      ·rw[va,if_neg (by show ¬aj.seen=_;rw[hs];exact λy=>z (by rw[dr y];rfl)),il];exact nQ
    ·rintro σ H6 ⟨_,w5,yu,rfl,r9⟩;have k6:=r9.1;have jb:=r9.2.1;have nQ:=r9.2.2;refine hD _ _ ⟨hi,⟨_,_,_,yu,rfl,k6,jb,?_⟩⟩;rw[UN,pZ,<-cX];exact nQ
   refine au _ rfl ⟨_,⟨_,rfl,rfl,_,rfl,ld,ws,rfl,.inl (av.of (dl k3)),_,_,rfl,⟨li,li,li,li⟩,?_⟩⟩;rw[show ((ws.length:Int)-((i:Int)+1)).toNat=S.ac.length-(i+1) by lia];refine iH (n:=S.ac.length-(i+1)) (λj ys H'=>j<=S.ac.length-(i+1)/\H'=H3/\ys=(eh (qO S i j)).map V.int) (by rw[hsz];lia) ⟨bg _,rfl,rfl⟩ ?_ ?_ ?_ ?_ ?_
   ·rintro j ys H' ⟨_,_,rfl⟩;rw[aP];unfold eh;rw[aP];exact Rw _ _ _
   ·rintro j ys H' hj _;exact hj
   ·rintro ys H' _;exact aI _
   ·rintro j ys H4 hj ⟨_,rfl,rfl⟩ x H5 ⟨eH,ex⟩;subst eH;subst ex;have hj2:i+1+j<S.ac.length:=li;obtain⟨aj,Df⟩:∃a,S.ac[i+1+j]?=a_ a:=⟨_,aO hj2⟩;have hcj:fw S (i+1+j)=a_ aj.c:=by unfold fw;rw[Df];rfl
    refine aw (dd k3 (i+1+j) aj Df) λp hp qk=>aw (dd k3 i ai ZO) λp2 uX alz=>?_;rw[show ((i:Int)+1+(j:Int))=((i+1+j:Nat):Int) by lia];refine vr rfl (vr rfl (rL (v:=.ref p) (av.of (dl k3)) hp (rT (v:=.int (aj.c:Nat)) (aJ.of qk) (cR (j:=1) rfl) ⟨_,rfl,_,rfl,rL (v:=.ref p2) (av.of (dl k3)) uX (rT (v:=.int (ai.c:Nat)) (aJ.of alz) (cR (j:=1) rfl) (rq (H:=H5) rfl ?_))⟩)));rw[xT,abN,hcj,hci];refine cu (λe=>?_) λe=>?_
    ·refine vr rfl (dj hj rfl ?_);rw[if_pos (by rw[e])];unfold eh;rw[gy,gy];rfl
    ·refine dj hj rfl ?_;rw[if_neg λz=>e (dr z),il]
   rintro ys H4 ⟨_,rfl,rfl⟩;have ZD:=Rw S i (S.ac.length-(i+1));refine⟨by rw[aP];unfold eh;rw[aP,hsz];lia,λll nll=>aR (nw (o:=.lst ((eh (qO S i (S.ac.length-(i+1)))).map V.int)) nll) λH5 e5 s5 ZF=>?_⟩;rw[e5];clear e5;refine cD _ rfl qc λl6 nl6=>aR (nw (o:=.lst []) nl6) λH6 e6 s6 hl6=>?_;rw[e6];clear e6;have k36:=iy.of (l:=lw) (s5.trans s6);have k6:=k3.trans k36;have jb:=s6 _ _ (s5 _ _ pd);have nQ:=cA.all dC λb xs e=>s6 _ _ (s5 _ _ e);refine lR ll l6 (dX _ rfl rfl (s6 _ _ ZF) hl6 (au _ rfl (nF (λz=>?_) λz=>?_)))
   ·cases hL:qO S i (S.ac.length-(i+1))with
    | nil=>exact absurd (by rw[hL];rfl) z
    | cons j r=>
     have NS:pV S i=[((i:Int),(j:Int),("own" : Str))]:=by unfold pV;rw[hL];rfl
     exact E9 (x:=(i:Int)) (y:=(j:Int)) rfl jb nQ li (λQ q=>⟨_,rfl,q⟩) (λQ q=>⟨_,rfl,rL (v:=.int (j:Nat)) (av.of (s6 _ _ ZF)) (cR (j:=0) (by rw[hL];rfl)) q⟩) λH7 wQ k7 jJ sS=>tB (λσ H h=>h) (k6.trans k7) jJ (by rw[NS];exact sS)
   ·have hL:=Qe.mp (Qe.mp z);refine tB (λσ H h=>h) k6 jb ?_;have NS:pV S i=[]:=by unfold pV;rw[hL];rfl
    rw[NS,il];exact nQ
  ·rintro σ H3 ⟨_,w3,w4,w5,us,rfl,r9⟩;have k3:=r9.1;have pd:=r9.2.1;have dC:=r9.2.2;have ZL:=BX (TK S) S.ac.length;have i6:S.ac.length*(1+S.ac.length)<=60*61:=Bf li li;have hLA:((List.range S.ac.length).flatMap (pZ S)).length<=3660:=li;have e0:yd S=(List.range S.ac.length).flatMap (pZ S)++(List.range 12).flatMap (lN S):=rfl;generalize (List.range S.ac.length).flatMap (pZ S)=LA at dC hLA e0
   have hd2:∀n,(lN S n).length<=120:=λn=>by
    unfold lN;have h1:=SG S n S.ac.length
    have h2:(S.ov.getD n []).length<=S.ac.length:=by
     cases e:S.ov[n]? with
     | none=>rw[kC,e];exact bg _
     | some o=>rw[jX e];exact uB o (b9 e)
    rw[cj,JB];lia
   refine kL 12 rfl qc qc ?_
   let W3:IV:=λn σ H'=>n<=12/\∃w3 w4 w5 w6 w7 w8 w9 us,σ=[a_ (.ref m),a_ (.ref ld),a_ (.ref lw),w3,w4,w5,w6,w7,w8,w9]/\iy lw H2 H'/\H' lw=a_ (.lst us)/\Paired (cA H') us (LA++(List.range n).flatMap (lN S))
   refine pJ (n:=12) W3 ⟨bg _,_,_,_,_,_,_,_,us,rfl,k3,pd,by show Paired _ _ (_++[]);rw[il];exact dC⟩ ?_ ?_
   ·clear dC pd k3;rintro n σ H4 hn ⟨_,w3,w4,w5,w6,w7,w8,w9,us,rfl,r9⟩;have k4:=r9.1;have wW:=r9.2.1;have dC:=r9.2.2;rw[ou];have alQ:=BX hd2 n;have hLB:(LA++(List.range n).flatMap (lN S)).length<=6000:=by rw[cj];lia
    have eN:LA++(List.range (n+1)).flatMap (lN S)=LA++(List.range n).flatMap (lN S)++lN S n:=by rw[UN,<-cX]
    generalize LA++(List.range n).flatMap (lN S)=LB at dC hLB eN;have ho:S.ov[n]?=a_ (S.ov[n]'(by rw[W.ov];exact hn)):=aO _;have wX:=uB _ (b9 ho);refine vM rfl (sm k4 _ _ hm) (G.ms _ dk) (vr rfl (⟨m,A,S,n,_,rfl,(M.same (sm k4)),ho,(λlr Ou=>?_)⟩));generalize S.ov[n]'_=o at ho wX ⊢;have AU:S.ov.getD n []=o:=jX ho;refine aR (nw (o:=.lst (o.map V.int)) Ou) λH5 e5 s5 OV=>?_;rw[e5];clear e5;have Xv:lr≠lw:=λz=>by rw[z,wW]at Ou;cases Ou
    have k5:=k4.trans (iy.of (l:=lw) s5);have yF:=s5 _ _ wW;refine vr rfl ⟨lr,⟨_,rfl,.inl (av.of OV),_,_,rfl,rfl,_,rfl,by rw[aP];lia,by rw[aP];lia,?_⟩⟩;rw[show (((o.map V.int).length:Int)-1).toNat=o.length-1 by rw[aP];lia]
    let W4:IV:=λj σ H'=>j<=o.length-1/\∃w8 us,σ=[a_ (.ref m),a_ (.ref ld),a_ (.ref lw),w3,w4,w5,a_ (.int (n:Nat)),a_ (.ref lr),w8,w9]/\iy lw H5 H'/\H' lw=a_ (.lst us)/\Paired (cA H') us (LB++nG o j)
    refine pJ (n:=o.length-1) W4 ⟨bg _,w8,us,rfl,iy.of (ak.refl _),yF,by show Paired _ _ (_++[]);rw[il];exact cA.all dC λb xs e=>s5 _ _ e⟩ ?_ ?_
    ·rintro j σ H6 hj ⟨_,w8,yu,rfl,r9⟩;have k6:=r9.1;have jb:=r9.2.1;have nQ:=r9.2.2;rw[ou];have XJ:=k6 _ _ Xv OV;have vd:=JB o j;have g1:iB (o.map V.int) (j:Int)=a_ (.int (o.getD j 0)):=cR (by rw[dq,kC,aO (show j<o.length by lia)];rfl)
     have g2:iB (o.map V.int) ((j:Int)+1)=a_ (.int (o.getD (j+1) 0)):=by
      rw[show ((j:Int)+1)=((j+1:Nat):Int) by lia];exact cR (by rw[dq,kC,aO (show j+1<o.length by lia)];rfl)
     refine E9 (x:=o.getD j 0) (y:=o.getD (j+1) 0) rfl jb nQ (by rw[cj];lia) (λQ q=>⟨_,rfl,_,rfl,rL (v:=.int (o.getD j 0)) (av.of XJ) g1 q⟩) (λQ q=>⟨_,rfl,_,rfl,_,_,rfl,rfl,rL (v:=.int (o.getD (j+1) 0)) (av.of XJ) g2 q⟩) λH7 wQ k7 jJ sS=>⟨hj,_,wQ,rfl,k6.trans k7,jJ,?_⟩;rw[acn,<-cX];exact sS
    ·rintro σ H6 ⟨_,w8,yu,rfl,r9⟩;have k6:=r9.1;have jb:=r9.2.1;have nQ:=r9.2.2;have Zj:=k5.trans k6;have vd:=JB o (o.length-1);have hLC:(LB++nG o (o.length-1)).length<=6100:=by rw[cj];lia
     have eC:LB++lN S n=(LB++nG o (o.length-1))++sH S n S.ac.length:=by unfold lN;rw[AU,cX]
     rw[eC]at eN;generalize LB++nG o (o.length-1)=LC at nQ hLC eN;refine vr rfl (dw ld ws rfl (.inl (av.of (dl Zj))) (kL _ rfl li li ?_));rw[show ((ws.length:Int)).toNat=S.ac.length by lia]
     let W5:IV:=λj σ H'=>j<=S.ac.length/\∃w3 w9 us,σ=[a_ (.ref m),a_ (.ref ld),a_ (.ref lw),w3,w4,w5,a_ (.int (n:Nat)),a_ (.ref lr),w8,w9]/\iy lw H5 H'/\H' lw=a_ (.lst us)/\Paired (cA H') us (LC++sH S n j)
     refine pJ (n:=S.ac.length) W5 ⟨bg _,w3,w9,yu,rfl,k6,jb,by show Paired _ _ (_++[]);rw[il];exact nQ⟩ ?_ ?_
     ·clear nQ jb Zj k6;rintro j σ H7 hj ⟨_,w3,w9,wQ,rfl,r9⟩;have k7:=r9.1;have jJ:=r9.2.1;have sS:=r9.2.2;rw[ou];have Gb:=k7 _ _ Xv OV;have CQ:=k5.trans k7;obtain⟨a,ha⟩:∃a,S.ac[j]?=a_ a:=⟨_,aO hj⟩;refine aw (dd CQ j a ha) λp hp qk=>?_;have hO:=ae1 (n:=n) ha;have hbl:=SG S n j
      have stop:∀{H8:Hp} {w:Option V},ak H7 H8->oH S n j=b_->W5 (j+1) [a_ (.ref m),a_ (.ref ld),a_ (.ref lw),a_ (.int (j:Nat)),w4,w5,a_ (.int (n:Nat)),a_ (.ref lr),w8,w] H8:=λ{H8 w} s8 e=>⟨hj,_,_,wQ,rfl,k7.trans (iy.of s8),s8 _ _ jJ,by
       rw[RF,e];show Paired _ _ (LC++(sH S n j++[]));rw[il];exact cA.all sS λb xs e=>s8 _ _ e⟩
      refine⟨_,rfl,_,rfl,rL (v:=.ref p) (av.of (dl CQ)) hp (rT (v:=.str a.k) (aJ.of qk) (cR (j:=0) rfl) ⟨rfl,_,rfl,nF (λz=>?_) λz=>gC (stop (ak.refl _) (by rw[hO];unfold uh;rw[if_pos (V.str.inj z)];split <;> rfl))⟩)⟩;refine vr rfl (vr rfl (rL (v:=.ref p) (av.of (dl CQ)) hp (rT (v:=.int (a.n:Nat)) (aJ.of qk) (cR (j:=2) rfl) ⟨_,rfl,rq (H:=H7) rfl ?_⟩)));rw[xT];refine cu (λe=>?_) λe=>stop (ak.refl _) (by rw[hO,if_neg e]);subst e
      have hA:oH S a.n j=(nextM o a.seen).bind λb=>if b=(j:Int) then b_ else a_ ((j:Int),b,("ahead" : Str)):=by
       rw[hO,if_pos rfl];unfold uh;rw[if_neg λy=>z (by rw[y]),AU]
      have tR:∀{D:Ends} {H8:Hp} {l8:e_} {o8:List Int},(∀σ H,W5 (j+1) σ H->D.nx σ H)->ak H7 H8->H8 l8=a_ (.lst (o8.map V.int))->nextM o a.seen=o8.head?->R6 D [a_ (.ref m),a_ (.ref ld),a_ (.ref lw),a_ (.int (j:Nat)),w4,w5,a_ (.int (a.n:Nat)),a_ (.ref lr),w8,a_ (.ref l8)] H8:=λ{D H8 l8 o8} hD s8 OX OT=>by
       refine cD _ rfl qc λl9 nl9=>aR (nw (o:=.lst []) nl9) λH9 e9 s9 OW=>?_;rw[e9];clear e9;have CJ:=s8.trans s9;refine lR l8 l9 (dX _ rfl rfl (s9 _ _ OX) OW (au _ rfl (nF (λz=>?_) λz=>gC (hD _ _ (stop CJ ?_)))))
       ·cases o8 with
        | nil=>exact absurd rfl z
        | cons b r=>
         have De:iB ((b::r).map V.int) (0:Int)=a_ (.int b):=cR (j:=0) rfl;refine vr rfl (rL (v:=.int b) (av.of (s9 _ _ OX)) De ⟨_,rfl,rfl,_,rfl,nF (λz=>?_) λz=>hD _ _ (stop CJ ?_)⟩)
         ·refine E9 (x:=(j:Int)) (y:=b) rfl (CJ _ _ jJ) (cA.all sS λb xs e=>CJ _ _ e) (by rw[cj];lia) (λQ q=>⟨_,rfl,q⟩) (λQ q=>⟨_,rfl,rL (v:=.int b) (av.of (s9 _ _ OX)) De q⟩) λtK ak' Ho alp akd=>hD _ _ ⟨hj,_,_,ak',rfl,(k7.trans (iy.of CJ)).trans Ho,alp,?_⟩;rw[RF,hA,OT,<-cX];show Paired _ _ (LC++sH S a.n j++(if b=(j:Int) then b_ else a_ ((j:Int),b,("ahead" : Str)):Option T3).toList);rw[if_neg λy=>z (by rw[y])];exact akd
         ·rw[hA,OT];show (if b=(j:Int) then b_ else _)=b_;rw[if_pos (V.int.inj z)]
       ·have:o8=[]:=Qe.mp z;rw[hA,OT,this];rfl
      refine vr rfl (au _ rfl (vr rfl (rL (v:=.ref p) (av.of (dl CQ)) hp (rT (v:=oV a.seen) (aJ.of qk) (cR (j:=5) rfl) ⟨rfl,_,rfl,?_⟩))));cases hs:a.seen with
      | none=>
       exact nF (λz=>absurd rfl z) λ_=>tR (λσ H h=>h) (ak.refl _) Gb (by rw[hs];exact ace o)
      | some d=>
       refine nF (λ_=>?_) λz=>nomatch z;refine jD (Z.sn j a ha d hs) λj' o' _ _ oj HE=>?_;rw[ho]at oj;cases oj;have hix:=aat.mpr HE;refine vr rfl (cD _ rfl (.inl ⟨rfl,_,av.of Gb⟩) (vr rfl (vr rfl (rL (v:=.ref p) (av.of (dl CQ)) hp (rT (v:=.int d) (aJ.of qk) (cR (j:=5) (by unfold FY;rw[hs];rfl)) ⟨lr,o,d,rfl,rfl,Gb,HE,_,_,rfl,rfl,_,rfl,lr,_,rfl,av.of Gb,λp9 np9=>?_⟩)))));rw[show ((List.idxOf d o:Nat):Int)+1=((List.idxOf d o+1:Nat):Int) by lia,cutD _ _ (by rw[aP];lia),<-List.map_drop];exact tR (λσ H h=>h) (aN (ak.refl _) np9) ax (by rw[hs];exact acd o d)
     ·rintro σ H7 ⟨_,w3,w9,wQ,rfl,r9⟩;have k7:=r9.1;have jJ:=r9.2.1;have sS:=r9.2.2;exact⟨hn,⟨_,_,_,_,_,_,_,wQ,rfl,k5.trans k7,jJ,by rw[eN];exact sS⟩⟩
   ·rintro σ H4 ⟨_,w3,w4,w5,w6,w7,w8,w9,us,rfl,r9⟩;have k4:=r9.1;have wW:=r9.2.1;have dC:=r9.2.2;have alQ:=BX hd2 12;rw[<-e0]at dC;refine vr rfl (Tb wW dC (by rw[e0,cj];lia) (ahY Z) λr G6 B nr hB hP=>q _ r G6 B (aN (sm k4) nr) ((sm k4).free nr) ax hP hB)
end
def xU(S:Mc):Int:=match S.ck.findIdx? (λk=>!k.es.isEmpty)with
 | some c=>(c:Int)
 | none=>-1
theorem TH(S:Mc):(x8 S/\xU S=-1)\/∃c,B0 S c/\xU S=(c:Int):=by
 unfold xU;cases h:S.ck.findIdx? (λk=>!k.es.isEmpty)with
 | none=>
  refine .inl ⟨λi k hk=>?_,rfl⟩;have:=List.findIdx?_eq_none_iff.mp h k (b9 hk);simpa using this
 | some c=>
  refine aw (List.findIdx?_eq_some_iff_getElem.mp h) λhc h1 h2=>?_;refine .inr (au c ⟨_,aO hc,by simpa using h1,λi k' hi hk=>?_⟩ rfl);refine oE (dy.mp hk) λtE e=>?_;have:=h2 i hi;rw[e]at this;simpa using this
theorem Rt(h:x8 S):xU S=-1:=by
 rcases TH S with z | ⟨c,⟨k,h1,h2,_⟩,_⟩
 ·exact z.2
 ·exact absurd (h c k h1) h2
theorem Q9{c:Nat}(h:B0 S c):xU S=(c:Int):=by
 refine aR h λk h1 h2 h3=>?_;rcases TH S with z | ⟨c',⟨k',Po,HG,h3'⟩,e⟩
 ·exact absurd (z.1 c k h1) h2
 ·have:c=c':=by
   rcases y3 c c' with y | y | y
   ·exact absurd (h3' c k y h1) h2
   ·exact y
   ·exact absurd (h3 c' k' y Po) HG
  rw[e,this]
theorem agz:vw "ValueError" = a_ (.type "ValueError"):=dk
theorem ahO{X:Cx}(K:u_)(he:PE X e ta)(hb:xD e f X.env (eval e X.env)=eval e X.env)(h:X.K=K:=by rfl):PE X (.Attribute e f pos) (V7 K ta f):=by subst h;exact afL he hb
structure Yk(K:u_)(x cE cM:e_):Prop where
 k1:GG K x
 ce:y_ K (.ref x) (.ref cE)=a_ c_
 w:v_ K (.ref x) (.ref x)=a_ c_
 v:v_ K (.ref x) (.type "ValueError")=a_ c_
 m:v_ K (.ref x) (.ref cM)=a_ d_
theorem xcd{o:Option ClassData}(h:o.any (λcd=>t8 cd.mro&&cd.hasDict)=c_):∃cd,o=a_ cd/\t8 cd.mro=c_/\cd.hasDict=true:=by
 cases o with
 | none=>cases h
 | some cd=>
  have z:(t8 cd.mro&&cd.hasDict)=true:=h;rw[jR]at z;exact cD cd rfl z.1 z.2
section
variable{t:a9}{C CT:e_}
def Vh(t:a9)(C CT:e_):Sp:=λvs H Q _=>∃m A S,vs=[.ref m]/\bb t C CT H m A S/\i0 S/\S.ac.length<=60/\(x8 S->nO S)/\∀H',ak H H'->Q (.int (xU S)) H'
theorem Vn:bp ["_law_machine","e"] zLm (aW Mh):=bJ
theorem afU(F:aY K "_law_refused" "_law_refused" Mh f fd)(hI:mg "isinstance" = b_)(hVE:mg "ValueError" = b_)
  (GB:ay P w K mg base (iN P w) 4 fB kX zLf (JO t C CT cW)) (kB:x_ K (.ref fB)=c_) (bB:Binds K kX zLf []) (mB:mg "before" = a_ (.ref fB))
  (mE:mg "TrayError" = a_ (.ref cE)) (bE:y_ K (.ref cE) (.type "BaseException")=a_ c_) (mW:mg "Waiting" = a_ (.ref cW)) (mM:mg "NoMove" = a_ (.ref cM))
  (xW:Yk K cW cE cM) (xf:XF K cW) (n1:bu K cW "clerk"):ay P w K mg base aB 5 f fd zLm (Vh t C CT):=by
 refine F.ok Vn λaM A _ s H vs Q E hr h=>?_
 ·obtain⟨m,A,S,aa,M,W,dR,Z,q⟩:=h;subst aa;refine let R1:TS:=_;let R2:TS:=_;⟨_,aE (ad4 (i:=1) rfl rfl rfl Vn.nd rfl rfl rfl mE bE (λW pn E hL hp=>aF (dE (Th GB hr hL rfl mB kB bB .nil (ae (pv 0) af)))) λea pn=>aE (cC (PW.pt (pw_and (gH (bG (LR K) rfl hI iU (ae (pv 1) (ae (fQ (v:=.ref cW) rfl mW rfl) af)))) (pw_and (gH (bG (LR K) rfl hI iU (ae (pv 1) (ae (nA (v:=.ty "ValueError") rfl hVE agz rfl) af)))) (pw_and1 (lG (gH (bG (LR K) rfl hI iU (ae (pv 1) (ae (fQ (v:=.ref cM) rfl mM rfl) af))))))))) (aF (bj (ahO K (pv 1) rfl))) cO) (pR R1 (aF (bj (B2 BM aA))))) (pR R2 (aF (bj (B2 BM aA)))),?_⟩
  refine vr rfl (qE m A S rfl M W dR (λhn=>⟨Z hn,λH1 l us B s1 OC h1 p1 hB=>?_⟩) λc hc d H1 s1 hd=>⟨xW.ce,λea O5=>?_⟩)
  ·have:=q H1 s1;rw[Rt hn]at this;exact au _ rfl this
  ·have he:upd H1 ea (rj ea (.ref cW) (a_ d)) ea=a_ (rj ea (.ref cW) (a_ d)):=ax;have s2:ak H1 (upd H1 ea (rj ea (.ref cW) (a_ d))):=aN (ak.refl _) O5;have hd2:=s2 _ _ hd;generalize upd H1 ea (rj ea (.ref cW) (a_ d))=H2 at he s2 hd2 ⊢;have nd:∀d',(a_ d:Option e_)=a_ d'->∃fs,H2 d'=a_ (qY d' fs):=λd' z=>by cases z;exact⟨_,hd2⟩
   refine vr rfl (⟨ea,cW,(a_ d),(.ref cW),_,(⟨_,rfl,he,nd,xW.k1,rfl,xW.w,(au _ rfl (jG (vr rfl (⟨ea,cW,(a_ d),(.ty "ValueError"),_,(⟨_,rfl,he,nd,xW.k1,rfl,xW.v,(au _ rfl (jG (vr rfl (⟨ea,cW,(a_ d),(.ref cM),_,(⟨_,rfl,he,nd,xW.k1,rfl,xW.m,(au _ rfl (jG ?_))⟩)⟩))))⟩)⟩))))⟩)⟩);have:=q H2 (s1.trans s2);rw[Q9 hc]at this;exact vr rfl (⟨ea,cW,d,_,(.int (c:Nat)),rfl,he,hd2,xf,n1,rfl,this⟩)
def T7(t:a9)(C CT:e_):Sp:=λvs H Q _=>∃m A S,∃n:Nat,vs=[.ref m,.int (n:Nat)]/\bb t C CT H m A S/\i0 S/\S.ac.length<=60/\n=S.ps.length/\∀H',ak H H'->Q (.int (xU S)) H'
theorem Uj:bp ["_law_machine","_law_many","_law_clerk"] zLh (aW Lg):=bJ
theorem aec(F:aY K "_law_waits" "_law_waits" Lg f fd)(cM:gm K C)(dI:mg "range" = b_)
  (GW:ay P w K mg base aB 2 fW kr zLb (Jp t C CT)) (bW:Binds K kr zLb []) (mW:Meth K C "waiting" fW):ay P w K mg base aB 3 f fd zLh (T7 t C CT):=by
 refine F.ok Uj λaM A _ s H vs Q E hr h=>?_
 ·refine nC h λm A S n aa ba=>xX ba λM W dR en q=>?_;clear h;subst aa;subst en;have hu:=BE hr;refine⟨_,aE (jY kE rfl (kG rfl dI (ae (pv 1) af)) (cG (i:=2) Uj.nd rfl (aX rfl)) (aF (cC (cb (xP hu) (iW (pv 0) cM.cl mW GW hr bW .nil a7 (ae (pv 2) af)) (fk af) (bQ _)) (aF (bj (pv 2))) cO))) (aF (bj (B2 BM aA))),?_⟩;have h4:=W.good.le;refine bX (id M.obj) λdx fs hm G=>(vr rfl (kL _ rfl li li ?_));rw[show ((S.ps.length:Int)).toNat=S.ck.length by rw[W.len];lia];refine pJ (n:=S.ck.length) (λi σ H'=>i<=S.ck.length/\∃c,σ=[a_ (.ref m),a_ (.int (S.ps.length:Nat)),c]/\ak H H'/\∀(j:Nat) k',j<i->S.ck[j]?=a_ k'->k'.es=[]) ⟨bg _,b_,rfl,ak.refl _,λj k' hj=>absurd hj (Bc _)⟩ ?_ ?_
  ·rintro i σ H1 hi ⟨_,c,rfl,r9⟩;have s1:=r9.1;have hb:=r9.2;rw[ou];have hk:S.ck[i]?=a_ S.ck[i]:=aO hi;have HC:=W.es _ (b9 hk);refine vM rfl (s1 _ _ hm) (G.ms _ dk) (vr rfl (⟨m,A,S,i,_,rfl,(M.same s1),hk,li,(λH2 l us s2 nl hl dC=>?_)⟩));have jK:=r_ dC;refine⟨qc,λl3 Ow=>⟨l,l3,us,rfl,rfl,aN (ak.refl _) Ow _ _ hl,ax,_,rfl,nF (λz=>?_) λz=>?_⟩⟩
   ·have fZ:S.ck[i].es≠[]:=λe=>by rw[e]at jK;exact z (tO.mp jK)
    have:=q _ (aN (o:=.lst []) (s1.trans s2) Ow);rw[Q9 ⟨_,hk,fZ,hb⟩]at this;exact vr rfl this
   ·refine⟨hi,⟨_,rfl,aN (s1.trans s2) Ow,λj k' hj yO=>?_⟩⟩
    by_cases e:j=i
    ·subst e;rw[hk]at yO;cases yO;rw[z]at jK;exact tO.mp jK.symm
    ·exact hb j k' li yO
  ·rintro σ H1 ⟨_,c,rfl,r9⟩;have s1:=r9.1;have hb:=r9.2;have:=q H1 s1;rw[Rt λi k hk=>hb i k (dy.mp hk).1 hk]at this;exact au _ rfl this
end
inductive wC:Mc->List Mv->Mc->Prop
 | nil (S:Mc):wC S [] S
 | snoc {S S':Mc} {ms:List Mv} {mv:Mv} {r:List Mv}:wC S ms S'->jV S'=mv::r->wC S (ms++[mv]) (jj S' mv)
def iu(S:Mc):Nat:=(S.ck.map λk=>k.es.length).sum
theorem sum_set{α:Type}(f:α->Nat){x y:α}:∀{l:List α} {c:Nat},l[c]?=a_ x->((l.set c y).map f).sum+f x=(l.map f).sum+f y
 | [],_,h=>by simp at h
 | z::l,0,h=>by
  simp at h;subst h;simp only[List.set_cons_zero,fh,List.sum_cons];lia
 | z::l,c+1,h=>by
  have ih:=sum_set f (y:=y) (l:=l) (c:=c) (by simpa using h);simp only[List.set_cons_succ,fh,List.sum_cons];lia
theorem abR{c n:Nat}(hk:S.ck[c]?=a_ k)(hq:cw k.es n=e::r):iu (ji S c n)<iu S:=by
 have hm:e∈cw k.es n:=by rw[hq];simp
 unfold cw at hm;refine oA (pC.mp hm) λh1 h2=>?_;unfold ji;rw[hk];dsimp only;rw[hq];show ((S.ck.set c { k with es:=jk k.es n }).map λk=>k.es.length).sum<_;have h3:=sum_set (λk:Ck=>k.es.length) (y:={ k with es:=jk k.es n }) hk
 have h4:(jk k.es n).length=k.es.length-1:=by
  unfold jk;exact List.length_eraseP_of_mem h1 h2
 have h5:=List.length_pos_of_mem h1;unfold iu;have h6:({ k with es:=jk k.es n }:Ck).es.length=(jk k.es n).length:=rfl;rw[h6,h4]at h3;lia
theorem Jj(h:mv∈jV S):∃(c:Nat) (k:Ck) (n:Int),mv=(("carry" : Str),[(c:Int),n])/\S.ck[c]?=a_ k/\n∈iq S.kd k.es:=by
 unfold jV wx at h;refine aw (qA.mp h) λaa hx hm=>?_;obtain⟨k,c⟩:=aa;unfold B9 at hm;refine aw (jT.mp hm) λn hn aa=>?_;subst aa;exact qP c k n rfl (PQ.mp hx) hn
theorem abq(h:mv∈jV S):mv∈pL S:=f6 _ h
theorem acw(hwf:∀k∈S.ck,kY k.tn k.es)(h:mv∈jV S):iu (jj S mv)<iu S:=by
 refine iY (Jj h) λc k n aa hk hf=>?_;subst aa;refine aR (Ed (hwf k (b9 hk)) hf) λi _ aa ba=>?_;subst aa;refine As ba λe r hq=>?_;unfold jj;rw[if_neg (show ¬("carry" : Str) = "do" from dk)];show iu (ji S ((c:Int)).toNat ((i:Int)).toNat)<iu S;rw[lC,lC];exact abR hk hq
theorem bb.B6{t:a9}(M:bb t C CT H m A S)(hb:c9 m A b):∃o,H b=a_ o/\((∃C dx fs,o=.ins C dx fs)\/∃xs,o=.lst xs):=by
 cases hb with
 | m=>obtain⟨dx,fs,h,_⟩:=M.obj;exact⟨_,h,.inl ⟨_,_,_,rfl⟩⟩
 | lt=>exact⟨_,M.lt,.inr ⟨_,rfl⟩⟩
 | pl=>exact⟨_,M.pl,.inr ⟨_,rfl⟩⟩
 | ct=>exact⟨_,M.ct,.inr ⟨_,rfl⟩⟩
 | rg=>exact⟨_,M.rg,.inr ⟨_,rfl⟩⟩
 | ce=>exact⟨_,M.ce,.inr ⟨_,rfl⟩⟩
 | ac=>obtain⟨vs,h,_⟩:=M.ac;exact⟨_,h,.inr ⟨_,rfl⟩⟩
 | cm=>exact⟨_,M.cm,.inr ⟨_,rfl⟩⟩
 | rs h=>obtain⟨c,_,q⟩:=sf M.rs h;exact⟨_,q,.inr ⟨_,rfl⟩⟩
 | cs h=>obtain⟨c,_,q⟩:=sf M.cs h;exact⟨_,q,.inr ⟨_,rfl⟩⟩
 | ts h h2=>
  exact aw (sf M.ts h) λc _ q=>oE (q.there _ h2) λo e=>⟨o,e,q.kinds _ h2 _ e⟩
theorem bb.aky{t:a9}(M:bb t C CT H m A S):∀b,c9 m A b->∀xs,H b≠a_ (.tup xs):=λb hb xs e=>by
 refine aw (M.B6 hb) λo e' h=>?_;rw[e]at e';cases e';rcases h with ⟨_,_,_,z⟩ | ⟨_,z⟩ <;> cases z
theorem bb.FC{t:a9}(M:bb t C CT H m A S):∀k∈S.ck,kY k.tn k.es:=λk hk=>by
 refine oE (vo hk) λi hi=>?_;exact aw (M.we hi) λx _ T=>T.wf
theorem VD(mv:Mv):∀x∈nU mv,∃T,tyName H x=a_ T:=by
 intro x hx;unfold nU at hx;rcases bw.mp hx with e | e
 ·rw[e];exact⟨_,rfl⟩
 ·refine aw (jT.mp e) λi _ aa=>?_;subst aa;exact⟨_,rfl⟩
section
variable{t:a9}{C CT:e_}
def S0(t:a9)(C CT PT:e_):Sp:=λvs H Q _=>∃m A S lab n,vs=[.ref m]/\bb t C CT H m A S/\km lab m A/\i3 n S/\n+iu S<=10000/\dg PT LP LQ H/\
 ∀H' l ws ms S' n',wC S ms S'->jV S'=[]->i3 n' S'->n'+iu S'<=n+iu S->bb t C CT H' m A S'->aZ (c9 m A) H H'->dg PT LP LQ H'->H l=b_->H' l=a_ (.lst ws)->Paired (jH H') ws ms->Q (.ref l) H'
theorem Ej:bp ["self","made","carries"] zLd (aW Kv):=bJ
theorem acX{f fC fD PT lL:e_}(F:aY K "settle" "Machine.settle" Kv f fd)(cM:gm K C)(dQ:mg "len" = b_)
  (GC:ay P w K mg base aB 3 fC pk zLd (Jr t C CT PT)) (bC:Binds K pk zLd []) (mC:Meth K C "carries" fC)
  (GD:ay P w K mg base (iN P w) 7 fD ni zLs (Na t C CT PT lL)) (bD:Binds K ni zLs []) (mD:Meth K C "do" fD):ay P w K mg base aB 8 f fd zLd (S0 t C CT PT):=by
 have GD0:=BW GD;refine F.ok Ej λaM A _ s H vs Q E hr h=>?_
 ·obtain⟨m,A,S,lab,n,aa,M,L,W,hn,ba⟩:=h;subst aa;refine oA ba λlam q=>?_;have AL:=hr.mono (show 3<=7 by decide);refine let R1:TS:=_;let R2:TS:=_;let R3:TS:=_;let R4:TS:=_;let R5:TS:=_;⟨_,aE (cU (i:=1) Ej.nd rfl (aX rfl) (fk af)) (pR R5 (aE (cU (i:=2) Ej.nd rfl (aX rfl) (nv (pv 0) cM.cl mC GC AL bC .nil a7)) (pR R4 (aE (ad3 kE (cb B5 (bG fj rfl dQ q_ (ae (pv 2) af)) aA (bQ _)) (pR R3 (aE (dE (iW (pv 0) cM.cl mD GD0 hr bD .nil a7 (ae (aT cY (pv 2) aA) af))) (pR R2 (aE (dE (ke m_ n_ o_ pI (pv 1) (ae (aT cY (pv 2) aA) af))) (pR R1 (aF (cU (i:=2) Ej.nd rfl (aX rfl) (nv (pv 0) cM.cl mC GC AL bC .nil a7))))))))) (aF (bj (pv 1))))))),?_⟩
  have hsz:=gG;refine⟨qc,λlw nw=>?_⟩;have s0:ak H (upd H lw (.lst [])):=aN (ak.refl _) nw;have qh:upd H lw (.lst []) lw=a_ (.lst []):=ax
  have Y6:¬c9 m A lw:=λz=>by
   refine aw (M.B6 z) λo e _=>?_;rw[nw]at e;cases e
  generalize upd H lw (.lst [])=H0 at s0 qh ⊢;refine bX (id (M.same s0).obj) λdx fs hm G=>vM rfl hm (G.ms _ dk) (kI m A S rfl (M.same s0) W.wf.four (lF lam s0) λH1 lc cs k1 uA nc hc AX=>⟨λμ σ H2=>∃S' ms ws lc cs n',σ=[a_ (.ref m),a_ (.ref lw),a_ (.ref lc)]/\μ=iu S'/\wC S ms S'/\bb t C CT H2 m A S'/\i3 n' S'/\ms.length+iu S'<=iu S/\n'+iu S'<=n+iu S/\dg PT LP LQ H2/\aZ (c9 m A) H H2/\H2 lw=a_ (.lst ws)/\Paired (jH H2) ws ms/\H2 lc=a_ (.lst cs)/\¬c9 m A lc/\lc≠lw/\Paired (jH H2) cs (jV S'),⟨_,S,[],[],lc,cs,n,rfl,rfl,.nil S,(M.same s0).uk k1,W,by simp,aI _,uA,(aZ.of s0).trans (k1.mono λb z=>z.elim),k1.wq qh,.nil,hc,λz=>?_,λz=>?_,AX⟩,?_⟩)
  ·refine aw ((M.same s0).B6 z) λo e _=>?_;rw[nc]at e;cases e
  ·rw[z,qh]at nc;cases nc
  rintro μ σ H2 ⟨S',ms,ws,lc,cs,n',rfl,rfl,hC,M2,W2,i6,xn,wD,k2,uV,kN,C9,nc2,ncw,XO⟩;have vc:=r_ XO;refine vr rfl (dw lc cs rfl (.inl (av.of C9)) ⟨_,⟨_,rfl,rfl,_,rfl,cu (λdJ=>?_) λuZ=>?_⟩⟩)
  ·have sT:0<cs.length:=li;have h0:cs[0]?=a_ cs[0]:=aO sT;refine aw (pG XO h0) λmv yM aa=>aw aa λp ep hp=>?_
   obtain⟨r,Pa⟩:∃r,jV S'=mv::r:=by
    cases e:jV S' with
    | nil=>rw[e]at yM;simp at yM
    | cons x r=>rw[e]at yM;simp at yM;exact⟨r,by rw[yM]⟩
   have jO:mv∈jV S':=by rw[Pa];simp
   have NP:=abq jO;have Zt:=acw M2.FC jO;refine⟨λσ' H'=>∃μ',μ'<iu S'/\∃yT OE G6 Hm cs' Za,σ'=[a_ (.ref m),a_ (.ref lw),a_ (.ref Hm)]/\μ'=iu yT/\wC S OE yT/\bb t C CT H' m A yT/\i3 Za yT/\OE.length+iu yT<=iu S/\Za+iu yT<=n+iu S/\dg PT LP LQ H'/\aZ (c9 m A) H H'/\H' lw=a_ (.lst G6)/\Paired (jH H') G6 OE/\H' Hm=a_ (.lst cs')/\¬c9 m A Hm/\Hm≠lw/\Paired (jH H') cs' (jV yT),λσ' H' z=>z,bX (id M2.obj) λvi rO hm2 G2=>?_⟩;have hat:iB cs (0:Nat)=a_ (.ref p):=by rw[<-ep];exact cR h0
   refine vM rfl hm2 (G2.ms _ dk) (vr rfl (rL (v:=.ref p) (av.of C9) (hat) (⟨m,A,S',p,_,lab,rfl,M2,L,W2.wf,(W2.X9 li),wD,hp,(VD _),(qX ?_ (λHl e=>(by rw[<-BH e];exact Ju NP)) (λHl e am8 H3 M3 k3 NG=>?_) λz _ _ _=>absurd NP (z mv rfl))⟩)))
   ·refine pQ (Jj jO) λc k i aa _=>?_;subst aa;simp[nU]
   have Px:=BH e;subst Px;have Zg:=k3.tup λb z=>M2.aky b z;have pd:=k3.k _ _ Y6 (λps z=>by cases z) uV;have hc3:=k3.k _ _ nc2 (λps z=>by cases z) C9;have og:=r_ kN;refine cD _ rfl (.inl ⟨rfl,_,av.of pd⟩) (vr rfl (rL (v:=.ref p) (av.of hc3) (hat) (kI lw ws (.ref p) rfl rfl pd (by rw[hsz];lia) ?_)));have Zf:=oB (o:=.lst (ws++[.ref p])) pd;have k4:aZ (λb=>b=lw) H3 (upd H3 lw (.lst (ws++[.ref p]))):=aZ.upd rfl;have M4:=M3.Ms k4 λb z=>⟨by rw[z];exact Y6,λo e=>by rw[z,pd]at e;cases e;exact⟨_,rfl⟩⟩;have Xw:=KQ (o:=.lst (ws++[.ref p])) pd NG;have wW:upd H3 lw (.lst (ws++[.ref p])) lw=a_ (.lst (ws++[.ref p])):=ax;have K4:aZ (c9 m A) H (upd H3 lw (.lst (ws++[.ref p]))):=⟨λb o h1 h2 e=>k4.k b o (λz=>by rw[z,nw]at e;cases e) h2 (k3.k b o h1 h2 (k2.k b o h1 h2 e)),λb e=>k2.t b (k3.t b (k4.t b e))⟩;have P4:Paired (jH (upd H3 lw (.lst (ws++[.ref p])))) (ws++[.ref p]) (ms++[mv]):=qB (Paired.cZ kN λ_ _ q=>jH.keep (λb xs e=>Zf _ _ (Zg _ _ e)) q) ⟨p,rfl,Zf _ _ (Zg _ _ hp)⟩;generalize upd H3 lw (.lst (ws++[.ref p]))=H4 at k4 M4 Xw wW K4 P4 ⊢;have W4:=UD W2 li NP;refine bX (id M4.obj) λdx4 Z3 AO G4=>vM rfl AO (G4.ms _ dk) (kI m A (jj S' mv) rfl M4 W4.wf.four Xw λH5 lc5 cs5 k5 ald Oy hc5 alT=>⟨_,⟨Zt,jj S' mv,ms++[mv],ws++[.ref p],lc5,cs5,n'+1,rfl,rfl,.snoc hC Pa,M4.uk k5,W4,by rw[cj];simp;lia,li,ald,K4.trans (k5.mono λb z=>z.elim),k5.wq wW,Paired.cZ P4 λ_ _ q=>jH.keep k5.FD q,hc5,λz=>?_,λz=>?_,alT⟩⟩)
   ·refine aw (M4.B6 z) λo e _=>?_;rw[Oy]at e;cases e
   ·rw[z,wW]at Oy;cases Oy
  ·have e0:jV S'=[]:=tO.mp li;exact vr rfl (q H2 lw ws ms S' n' hC e0 W2 xn M2 k2 wD nw uV kN)
end
def Cj(S:Mc):Prop:=∀k∈S.ck,∀e∈k.es,(0:Int)<=e.n/\e.n<12
theorem adn{n:Int}(h:∀e∈es,(0:Int)<=e.n/\e.n<12)(hn:n∈iq kd es):0<=n/\n<12:=by
 unfold iq at hn
 split at hn
 ·cases es with
  | nil=>cases hn
  | cons e r=>
   have e1:n=e.n:=by simpa using hn
   rw[e1];exact h e (by simp)
 ·refine aR (zD.mp hn) λi hi e _=>?_;lia
theorem TU{c n:Nat}:(ji S c n).ac=S.ac/\(ji S c n).ps=S.ps/\(ji S c n).ov.length=S.ov.length/\(Cj S->Cj (ji S c n)):=by
 unfold ji;cases e:S.ck[c]? with
 | none=>exact⟨rfl,rfl,rfl,λh=>h⟩
 | some k=>
  dsimp only;cases (cw k.es n).head? with
  | none=>exact⟨rfl,rfl,rfl,λh=>h⟩
  | some x=>
   refine qX rfl rfl pD λh k' C7 y hy=>?_;rcases HS C7 with z | z
   ·exact h k' z y hy
   ·rw[z]at hy;exact h k (b9 e) y (List.mem_of_mem_eraseP hy)
structure Yu(S S':Mc):Prop where
 dh:dG S'
 nm:Cj S'
 ac:S'.ac=S.ac
 ps:S'.ps=S.ps
 ov:S'.ov.length=12
theorem wC.Gy(h:wC S ms S')(hH:dG S)(hN:Cj S)(ho:S.ov.length=12):Yu S S':=by
 induction h with
 | nil=>exact⟨hH,hN,rfl,rfl,ho⟩
 | @snoc S1 ms1 mv1 r1 hC hc ih=>
  have a:=ih;obtain⟨c,k,n,rfl,hk,hf⟩:=Jj (by rw[hc];exact f9);refine oA (adn (a.nm k (b9 hk)) hf) λn1 n2=>?_;unfold jj;rw[if_neg (show ¬("carry" : Str) = "do" from dk)];have z:=TU (S:=S1) (c:=((([(c:Int),n]:List Int)).getD 0 0).toNat) (n:=((([(c:Int),n]:List Int)).getD 1 0).toNat);exact⟨a.dh.carry (by rw[a.ov];show n.toNat<12;lia),z.2.2.2 a.nm,z.1.trans a.ac,z.2.1.trans a.ps,z.2.2.1.trans a.ov⟩
theorem UJ:∀(l:List Act) (i:Nat),(lM i l).length<=l.length
 | [],_=>aI _
 | a::l,i=>by
  show (oN a i++lM (i+1) l).length<=l.length+1;have:=UJ l (i+1);rw[cj];unfold oN
  split
  ·show 0+_<=_;lia
  ·show 1+_<=_;lia
theorem dG.aiv(h:dG S):iu S<=S.ac.length:=by
 have h1:=h.pm.length_eq;have h2:=UJ S.ac 0;unfold uy at h1;rw[cj,List.length_flatMap]at h1
 have h3:iu S=(S.ck.map λk=>(dF k).length).sum:=by
  unfold iu dF;simp only[aP]
 lia
theorem ac7{n:Nat}(W:i3 n S)(h:mv∈pL S):(jj S mv).ac.length<=S.ac.length+1/\(jj S mv).ps=S.ps:=by
 rcases zE h with ⟨c,rfl,hc,yi⟩ | ⟨c,k,i,rfl,hk,jP⟩
 ·refine nC (Eo W.wf hc yi) λk p s _ hk aa=>cH aa λhp hs g=>aR (UT W g hk) λk' f e1 e2=>?_;have ec:(cV S c s).ck[c]?=a_ k':=by rw[f.ck];exact lu hc
  have e:jj S ("do",[(c:Int)])=sQ (cV S c s) c s:=by
   unfold jj;rw[if_pos rfl];show rm S ((c:Int)).toNat=_;rw[lC];unfold rm;rw[hk,hp];dsimp only;rw[hs]
  rw[e];unfold sQ;rw[ec];exact⟨f.Cv,f.ps⟩
 ·unfold jj;rw[if_neg (show ¬("carry" : Str) = "do" from dk)];have z:=TU (S:=S) (c:=((([(c:Int),i]:List Int)).getD 0 0).toNat) (n:=((([(c:Int),i]:List Int)).getD 1 0).toNat);exact⟨by rw[z.1];exact jv _,z.2.1⟩
def Gq(x:T3):PyData:=.tuple [.int x.1,.int x.2.1,.str x.2.2]
theorem abO{x:T3}(h:x∈mq S):x.2.2 = "own"\/x.2.2 = "seen"\/x.2.2 = "over"\/x.2.2 = "ahead":=by
 unfold mq at h;rcases dD.mp h with h | h
 ·rcases dD.mp h with h | h
  ·rcases dD.mp h with h | h
   ·refine aw (qA.mp h) λc _ h2=>bX (zP.mp h2) λi j aa _=>?_;subst aa;exact .inl rfl
   ·exact aw (tP.mp h) λj _ h2=>.inr (.inl (xO h2).choose_spec.2.2.2)
  ·exact aw (qA.mp h) λn _ h2=>.inr (.inr (.inl (LH.mp h2).2))
 ·exact aw (tP.mp h) λj _ h2=>.inr (.inr (.inr (xM h2).2.2))
theorem afg{x:T3}(h:x∈mq S):Bj x.2.2=true:=by
 rcases abO h with e | e | e | e <;> (rw[e];decide +kernel)
theorem EO{K:u_}{B:List T3}(hl:H l=a_ (.lst us))(hp:Paired (cA H) us B):jo K H (.ref l) (.list (B.map Gq)):=.lst (av.of hl) (JD (λv x h=>by
 refine aw h λp aa hp=>?_;clear h;subst aa;exact .tup (aJ.of hp) (.cons (.int _) (.cons (.int _) (.cons (.str _) .nil)))) hp)
theorem RS{B:List T3}(hB:zT B (mq S)):shaped (.list (B.map Gq))=true:=abZ (λx hx=>by
 have:=afg ((hB.mem x).mp hx);unfold Gq;simp only[Be,y0];rw[this];rfl) (λx hx=>by
 unfold Gq;simp only[IW,DJ];decide)
theorem Rj{B D:List T3}(Z:nO S)(h1:zT B (mq S))(h2:zT D (yd S)):B=D:=QZ h1.asc h2.asc λx=>(h1.mem x).trans ((adY Z (λi a h=>(Z.ok i a h).c) x).trans (h2.mem x).symm)
section
variable{t:a9}{C CT:e_}
def Km(t:a9)(C CT PT:e_):Sp:=λvs H Q _=>∃m A S lab n,vs=[.ref m,.int (S.ps.length:Nat)]/\bb t C CT H m A S/\km lab m A/\i3 n S/\n<=9000/\S.ac.length<=60/\dG S/\dg PT LP LQ H/\
 ∀H' S' n',bb t C CT H' m A S'->i3 n' S'->n'<=n+60->Yu S S'->aZ (c9 m A) H H'->dg PT LP LQ H'->Q (.bl c_) H'
theorem Kq:bp ["_law_machine","_law_many","_law_due_here","_law_found"] zLh (aW Li):=bJ
theorem af8:(["_law_one"]:List Str).Nodup:=dk
theorem aeg{f fR fW fS fD fB cW PT:e_}(F:aY K "_law_right" "_law_right" Li f fd)(cM:gm K C)(hI:mg "isinstance" = b_)(pj:mg "list" = b_)(jL:mg "tuple" = b_)
  (GR:ay P w K mg base aB 5 fR Dn zLm (Vh t C CT)) (kR:x_ K (.ref fR)=c_) (bR:Binds K Dn zLm []) (mR:mg "_law_refused" = a_ (.ref fR))
  (GW:ay P w K mg base aB 3 fW kr zLh (T7 t C CT)) (kW:x_ K (.ref fW)=c_) (bW:Binds K kr zLh []) (mW:mg "_law_waits" = a_ (.ref fW))
  (GS:ay P w K mg base aB 8 fS kU zLd (S0 t C CT PT)) (bS:Binds K kU zLd []) (mS:Meth K C "settle" fS)
  (GD:ay P w K mg base aB 2 fD ni zLm (Wc t C CT)) (kD:x_ K (.ref fD)=c_) (bD:Binds K ni zLm []) (mD:mg "_law_due" = a_ (.ref fD))
  (GB:ay P w K mg base (iN P w) 4 fB kX zLf (JO t C CT cW)) (kB:x_ K (.ref fB)=c_) (bB:Binds K kX zLf []) (mB:mg "before" = a_ (.ref fB)) :
  ay P w K mg base aB 9 f fd zLh (Km t C CT PT):=by
 have GB0:=BW GB;refine F.ok Kq λaM A _ s H vs Q E hr h=>?_
 ·obtain⟨m,A,S,lab,n,aa,M,L,W,hn,ba⟩:=h;subst aa;refine nL ba λdR hH lam q=>?_;have hu:=BE hr;have OP:=hr.mono (show 5<=8 by decide);have qj:=hr.mono (show 4<=8 by decide);have AL:=hr.mono (show 3<=8 by decide);have jr:=hr.mono (show 2<=8 by decide)
  refine let R1:TS:=_;let R2:TS:=_;let R3:TS:=_;let R4:TS:=_;let R5:TS:=_;let R6:TS:=_;⟨_,aE (cC (cb B3 (dN GR OP rfl mR kR bR .nil a7 (ae (pv 0) af)) (dN GW AL rfl mW kW bW .nil a7 (ae (pv 0) (ae (pv 1) af))) (bQ _)) (aF (bj sE)) cO) (pR R6 (aE (dE (nv (pv 0) cM.cl mS GS hr bS .nil a7)) (pR R5 (aE (cU (i:=2) Kq.nd rfl (aX rfl) (dN GD jr rfl mD kD bD .nil a7 (ae (pv 0) af))) (pR R4 (aE (cU (i:=3) Kq.nd rfl (aX rfl) (dN GB0 qj rfl mB kB bB .nil a7 (ae (pv 0) af))) (pR R3 (aE (cC (PW.pt (pw_or (lG (gH (bG jy rfl hI iU (ae (pv 3) (ae (nA (v:=.ty "list") rfl pj boot_list rfl) af))))) (pw_or (cb (Vv hu) (pv 3) (pv 2) (bQ _)) (pw_or1 (cb (xP hu) (jA (N:=["_law_one"]) (idx:=[]) rfl (ee.of (by kernel_rfl)) (jU (bg _)) (zO (pv 3)) (λ_ _ _ _=>cG (i:=0) af8 rfl (aX rfl) (.inr rfl)) (λ_ _ _ _=>zK (lG (gH (bG (WB K) rfl hI iU (ae (pv 0) (ae (nA (v:=.ty "tuple") rfl jL tX rfl) af)))))) λ_ _ _ _=>pv 0) (fk af) (bQ _)))))) (aF (bj sE)) cO)
   (pR R2 (aE (dE (ag7 m_ PySem.F.slot_list_clear PySem.F.type_list_clear aev (pv 3))) (pR R1 (aF (bj (EH (ahc hu) (dN GB0 qj rfl mB kB bB .nil a7 (ae (pv 0) af)) (pv 2) (bQ _))))))))))))))),?_⟩
  have hsz:=gG;have hNm:Cj S:=λk hk e he=>(M.FC k hk).nm e he;have hz:=λ{T:Mc} (h:x8 T) (k:Ck) (hk:k∈T.ck)=>oE (vo hk) λi hi=>h i k hi;refine vr rfl (qE m A S rfl M W.wf dR (λhn=>hH.WS (hz hn)) λH1 s1=>(vr rfl (vr rfl (⟨m,A,S,(kJ _ rfl (M.same s1) W.wf dR rfl λH2 s2=>⟨rfl,⟨_,rfl,Fp rfl ?_⟩⟩)⟩))));have sZ:=s1.trans s2;have M2:=M.same sZ;have Zt:=hH.aiv;refine bX (id M2.obj) λdx fs hm G=>vM rfl hm (G.ms _ dk) (⟨m,A,S,lab,n,rfl,M2,L,W,li,(lF lam sZ),(λH3 l ws ms S' n' hC Dc W' wZ M3 k3 NG nl hl k8=>?_)⟩);have a:=hC.Gy hH hNm W.wf.ov;have ZW:=ahQ M3.FC Dc;have Z:=a.dh.WS ZW;have hnW:x8 S':=λi k hk=>ZW k (b9 hk);have Gg:S'.ac.length<=60:=by rw[a.ac];exact dR
  have YZ:∀c,B0 S' c->False:=λc ⟨k,hk,fZ,_⟩=>fZ (hnW c k hk);refine vr rfl (qE m A S' rfl M3 W'.wf Gg Z λH4 l4 u4 D s4 n4 h4 p4 hD=>vr rfl (qE m A S' rfl (M3.same s4) W'.wf Gg (λ_=>⟨Z,λH5 l5 u5 B s5 n5 h5 p5 hB=>?_⟩) λc hc=>(YZ c hc).elim));have eB:=Rj Z hB hD;subst eB;have hT:tyName H5 (.ref l5)=a_ "list":=by unfold tyName;simp only[h5]
  refine vr rfl (dZ _ _ _ _ (dX _ rfl (nR hT) rfl (nM hT qc) (au _ rfl (gC (au _ rfl (vr rfl (aeq (EO h5 p5) (EO (s5 _ _ h4) (cA.all p4 λb xs e=>s5 _ _ e)) (RS hB) (au _ rfl (gC ?_)))))))));have jK:=r_ p5
  have hBl:u5.length<=100000:=by
   rw[jK,hB.len];have i6:=Em S' S'.ps.length;have xn:=D7 S' S'.ac.length;have Dd:=D' Z.m5 12;have hb4:=Jl S' S'.ac.length;have jN:=W'.wf.good.le;have hb5:=Bf jN Gg;unfold mq;rw[cj,cj,cj];lia
  refine au _ rfl (cD l5 rfl ⟨_,av.of h5⟩ (iH (n:=u5.length) (λj ys H'=>H'=H5/\ys=[]) (by rw[hsz];lia) ⟨rfl,rfl⟩ ?_ ?_ ?_ ?_ ?_))
  ·intro j ys H' ag;refine oA ag λ_ aa=>?_;clear ag;subst aa;exact bg _
  ·intro j ys H' hj ag;refine oA ag λaa _=>?_;clear ag;subst aa;exact fq _ (u5[j]'hj) (av.of h5) (aO _)
  ·intro ys H' ag;refine oA ag λaa _=>?_;clear ag;subst aa;exact au _ (av.of h5) (aI _)
  ·intro j ys H' hj ag x H6 gE;refine oA ag λaa ba=>?_;clear ag;subst aa;subst ba;refine oA gE λeH gu=>?_;subst eH;refine aw (pG p5 (gu _ (av.of h5))) λb _ aa=>aw aa λp aa hp=>?_;subst aa;have Dg:tyName H6 (.ref p)=a_ "tuple":=by unfold tyName;simp only[hp]
   exact vr rfl (dZ _ _ _ _ (dX _ rfl (nR Dg) rfl (nM Dg qc) (au _ rfl (gC ⟨rfl,rfl⟩))))
  intro ys H6 ag;refine oA ag λaa ba=>?_;clear ag;subst aa;subst ba;refine⟨qc,λlc Ov=>⟨qc,λld Hj=>aR (nw (o:=.lst []) Ov) λH7 e7 s7 AQ=>?_⟩⟩;rw[e7]at Hj ⊢;clear e7;refine aR (nw (o:=.lst []) Hj) λH8 e8 s8 hld=>?_;rw[e8];clear e8;refine kI lc ld ([]) rfl rfl (s8 _ _ AQ) hld (au _ rfl (Fp rfl ?_));have CK:=s7.trans s8;have Dk:=CK _ _ h5;refine cD _ rfl (.inl ⟨rfl,_,av.of Dk⟩) (oC l5 u5 rfl rfl Dk ?_);have CM:=s5.trans CK;have M8:=(M3.same s4).same CM
  have nI:¬c9 m A l5:=λz=>by
   refine aw ((M3.same s4).B6 z) λo e _=>?_;rw[n5]at e;cases e
  have k9:aZ (λb=>b=l5) H8 (upd H8 l5 (.lst [])):=aZ.upd rfl;have M9:=M8.Ms k9 λb z=>⟨by rw[z];exact nI,λo e=>by rw[z,Dk]at e;cases e;exact⟨_,rfl⟩⟩;have F5:=KQ (o:=.lst []) Dk (lF (lF NG s4) CM);have n45:l4≠l5:=λz=>by rw[z,n5]at h4;cases h4
  have ZY:upd H8 l5 (.lst []) l4=a_ (.lst u4):=by rw[ao n45];exact CM _ _ h4
  have kt:=oB (o:=.lst []) Dk;have YT:=cA.all p4 λb xs e=>kt _ _ (CM _ _ e);have kA:=(aZ.of sZ).trans (k3.trans (aZ.of (s4.trans CM)));have nH:=sZ.free (k3.t _ (s4.free n5));have kB:aZ (c9 m A) H (upd H8 l5 (.lst [])):=⟨λb o h1 h2 e=>by rw[ao (λz=>by rw[z,nH]at e;cases e)];exact kA.k b o h1 h2 e,λb e=>kA.t b (k9.t b e)⟩;generalize upd H8 l5 (.lst [])=H9 at k9 M9 F5 ZY kt YT kB ⊢;refine vr rfl (qE m A S' rfl M9 W'.wf Gg (λ_=>⟨Z,λtK l10 u10 B10 oa n10 h10 p10 XS=>?_⟩) λc hc=>(YZ c hc).elim);have eB:=Rj Z XS hD;subst eB;exact vr rfl (aeZ (EO h10 p10) (EO (oa _ _ ZY) (cA.all YT λb xs e=>oa _ _ e)) (RS XS) (q tK S' n' (M9.same oa) W' li a (kB.trans (aZ.of oa)) (lF F5 oa)))
end
theorem acp:vw "min" = a_ (.builtin "min"):=dk
theorem ak1(us:List V)(i:Nat):mJ us b_ (a_ (i:Int))=us.take i:=by
 unfold mJ;rw[HT.Uo,HT.Tf,ze,Nat.sub_zero]
 by_cases h:i<=us.length
 ·rw[y' h]
 ·rw[Nat.min_eq_right li,je (aI _),je li]
theorem ahy{PT m C dx:e_}{fs:List (Str×V)}(k:eU m H H')(hm:H m=a_ (.ins C dx fs))(h:dg PT LP LQ H):dg PT LP LQ H':=
 Br (F:=[m]) h (λb o n e=>k.k b o (λz=>n (by rw[z];exact f7.mpr rfl)) e) λb hb o e=>by rw[f7.mp hb,hm]at e;cases e;exact .inl ⟨_,_,_,rfl⟩
theorem agj(d:Nat):∃kd:Str,iB ([.str "row",.str "name",.str "row",.str "none"]:List V) ((d:Int)%4)=a_ (.str kd)/\(kd = "row"\/kd = "name"\/kd = "none"):=by
 have h:d%4=0\/d%4=1\/d%4=2\/d%4=3:=li;rw[show (d:Int)%4=((d%4:Nat):Int) by lia];rcases h with e | e | e | e <;> rw[e]
 ·exact au ("row") (cR (j:=0) rfl) (.inl rfl)
 ·exact au ("name") (cR (j:=1) rfl) (.inr (.inl rfl))
 ·exact au ("row") (cR (j:=2) rfl) (.inl rfl)
 ·exact au ("none") (cR (j:=3) rfl) (.inr (.inr rfl))
structure LI(t:a9)(C CT PT:e_)(H:Hp)(ls:e_)(ms:List Int)(m:e_)(A:MA)(S:Mc)(n i:Nat):Prop where
 M:bb t C CT H m A S
 W:i3 n S
 h:dG S
 ac:S.ac.length<=i
 lam:dg PT LP LQ H
 ls:H ls=a_ (.lst (ms.map V.int))
theorem LI.same{t:a9}{C CT PT:e_}{H H':Hp}{ls:e_}{ms:List Int}{m:e_}{A:MA}{S:Mc}{n i:Nat}(I:LI t C CT PT H ls ms m A S n i)(s:ak H H'):LI t C CT PT H' ls ms m A S n i:=⟨I.M.same s,I.W,I.h,I.ac,lF I.lam s,s _ _ I.ls⟩
section
variable{t:a9}{C CT PT:e_}
def Wa(K:u_)(PT:e_):Sp:=λvs H Q _=>∃(a:e_) (ns:List Int),vs=[.ref a]/\av K H a (ns.map V.int)/\ns.length<=63/\dg PT LP LQ H/\∀H',Q (.bl c_) H'
theorem Aa:bp ["_law_script","_law_program_here","_law_machine","_law_k","_law_moves"] zLq (aW yb):=bJ
theorem ahe(F:aY K "law" "law" yb f fd)(cM:gm K C)(dQ:mg "len" = b_)(dI:mg "range" = b_)(alG:mg "min" = b_)
  (GD:ay P w K mg base aB 1 fD ni zLk Ld) (kD:x_ K (.ref fD)=c_) (bD:Binds K ni zLk []) (mD:mg "_law_draw" = a_ (.ref fD))
  (GP:ay P w K mg base aB 2 fP Pw zLq Ud) (kP:x_ K (.ref fP)=c_) (bP:Binds K Pw zLq []) (mP:mg "_law_program" = a_ (.ref fP))
  (mk:Mk K C fI) (GI:ay P w K mg base aB 7 fI ij zLl (T9 t C CT)) (akc:mg "Machine" = a_ (.ref C)) (b3:Binds K ij zLl [])
  (GV:ay P w K mg base aB 4 fV Pu zLd (Kn t C CT PT)) (bV:Binds K Pu zLd []) (mV:Meth K C "moves" fV)
  (GDo:ay P w K mg base (iN P w) 7 fDo al7 zLs (Na t C CT PT lL)) (bDo:Binds K al7 zLs []) (mDo:Meth K C "do" fDo)
  (GR:ay P w K mg base aB 9 fR Dn zLh (Km t C CT PT)) (kR:x_ K (.ref fR)=c_) (bR:Binds K Dn zLh []) (mR:mg "_law_right" = a_ (.ref fR)) :
  ay P w K mg base aB 10 f fd zLq (Wa K PT):=by
 have amq:=BW GDo;refine F.ok Aa λaM A _ s H vs Q E hr h=>?_
 ·obtain⟨a,ns,aa,hS,hlen,lam,q⟩:=h;subst aa;have hu:=BE hr;have oh:=hr.mono (show 1<=9 by decide);have jr:=hr.mono (show 2<=9 by decide);have qj:=hr.mono (show 4<=9 by decide);have hr7:=hr.mono (show 7<=9 by decide);have hr8:=hr.mono (show 8<=9 by decide);refine let R1:TS:=_;let R2:TS:=_;let R3:TS:=_;let R4:TS:=_;let R5:TS:=_;let R6:TS:=_;let R7:TS:=_;let R8:TS:=_;⟨_,aE (cU (i:=0) Aa.nd rfl (aX rfl) (zH Kp (pv 0) zM (zL aA))) (pR R8 (aE (cU (i:=1) Aa.nd rfl (aX rfl) (dN GP jr rfl mP kP bP .nil a7 (ae (pv 0) af))) (pR R7 (aE (cU (i:=2) Aa.nd rfl (aX rfl) (t7 mk GI hr8 rfl akc b3 .nil a7 (ae (pv 1) (ae (aT cY (fk (ae di (ae di (ae di (ae di af))))) (bh iI (dN GD oh rfl mD kD bD .nil a7 (ae (pv 0) (ae (aA) af))) aA)) af)))) (pR R6 (aE (jY kE rfl (kG rfl dI (ae (bG (adC rfl) rfl alG acp (ae aA (ae (bG fj rfl dQ q_ (ae (pv 0) af)) af))) af)) (cG (i:=3) Aa.nd rfl (aX rfl)) (pR R4 (aE (cU (i:=4) Aa.nd rfl (aX rfl) (nv (pv 2) cM.cl mV GV qj bV .nil a7)) (pR R3 (aE (cC (cb (xP hu) (pv 4) (fk af) (bQ _)) (pR R1 (aF (dE (iW (pv 2) cM.cl mDo amq hr7 bDo .nil a7 (ae (aT cY (pv 4) (bh iI (dN GD oh rfl mD kD bD .nil a7 (ae (pv 0) (ae (bh iX aA (pv 3)) af))) (bG fj rfl dQ q_ (ae (pv 4) af)))) af))))) cO) (pR R2 (aF (cC (PW.pt (pw_and (cb eJ (pv 3) (bh iI (dN GD oh rfl mD kD bD .nil a7 (ae (pv 0) (ae (aA) af))) aA) (bQ _)) (pw_and1 (lG (gH (dN GR hr rfl mR kR bR .nil a7 (ae (pv 2) (ae (bG fj rfl dQ q_ (ae (pv 1) af)) af)))))))) (aF (bj sE)) cO)))))))) (pR R5 (aF (bj (dN GR hr rfl mR kR bR .nil a7 (ae (pv 2) (ae (bG fj rfl dQ q_ (ae (pv 1) af)) af)))))))))))),?_⟩
  have hsz:=gG;refine vr rfl (au _ rfl ⟨a,⟨_,rfl,hS,λls Ot=>?_⟩⟩);rw[show ((63:Int))=((63:Nat):Int) from rfl,ak1,<-List.map_take];have C0:(ns.take 63).length<=63:=by rw[dS];exact DL _ _
  generalize ns.take 63=ms at C0 ⊢;refine aR (nw (o:=.lst (ms.map V.int)) Ot) λH1 e1 s1 NL=>?_;rw[e1];clear e1;refine vr rfl (oC ls ms rfl NL C0 λH2 v ps s2 hP hg=>vr rfl ⟨qc,(λlk nlk=>aR (nw (o:=.lst [.str "row",.str "name",.str "row",.str "none"]) nlk) λH2' e2 YC hlk=>?_)⟩);rw[e2];clear e2;refine vr rfl (kI ls ms 1 rfl (YC _ _ (s2 _ _ NL)) C0 qc λH3 d3 s3=>aw (agj d3) λkd hka tD=>⟨_,⟨_,rfl,rfl,(show (0:Int)<4 by decide),lk,_,_,.str kd,rfl,rfl,av.of (s3 _ _ hlk),hka,λm dx nm iC ne=>?_⟩⟩);have nm2:upd H3 dx (.own m) m=none:=by rw[ao ne.symm];exact nm
  have sa:=aN (o:=.ins C dx []) (aN (o:=.own m) (ak.refl H3) iC) nm2;have hm:upd (upd H3 dx (.own m)) m (.ins C dx []) m=a_ (.ins C dx []):=ax;generalize upd (upd H3 dx (.own m)) m (.ins C dx [])=Hb at sa hm ⊢;have Og:=YC.trans s3;have Ga:=Og _ _ (s2 _ _ NL);refine⟨m,dx,v,ps,kd,rfl,hm,(hP.keep λb xs e=>sa _ _ (Og _ _ e)),hg,tD,(λH4 A lab M L ev k4 fr=>⟨rfl,?_⟩)⟩;subst ev
  have nI:¬c9 m A ls:=λz=>by
   rcases fr ls z with e | e
   ·rw[e,nm]at Ga;cases Ga
   ·rw[sa _ _ Ga]at e;cases e
  have I0:LI t C CT PT H4 ls ms m A (Ag kd ps) 0 0:=⟨M,ahk hg,dG.new,aI _,ahy k4 hm (lF lam (((s1.trans s2).trans Og).trans sa)),k4.lst hm (sa _ _ Ga)⟩
  have rt:∀{H5:Hp} {S:Mc} {n i:Nat} {Q':VK},LI t C CT PT H5 ls ms m A S n i->n<=9000->i<=60->(∀H6 S' n',LI t C CT PT H6 ls ms m A S' n' i->n'<=n+60->Q' (.bl c_) H6)->∃jq,H5 A.pg=a_ (.tup jq)/\Km t C CT PT [.ref m,.int (jq.length:Nat)] H5 Q' E0:=λ{H5 S n i Q'} I hn hi k=>by
   refine dv I.M.pg λpa jq e hp qm=>?_;cases e;refine⟨jq,⟨hp,m,A,S,lab,n,by rw[r_ qm],I.M,L,I.W,hn,c7 I.ac hi,I.h,I.lam,λH6 S' n' M6 W6 HA Gy k6 NF=>k H6 S' n' ⟨M6,W6,Gy.dh,by rw[Gy.ac];exact I.ac,NF,k6.k _ _ nI (λps z=>by cases z) I.ls⟩ HA⟩⟩
  refine vr rfl ⟨ls,⟨_,rfl,.inl (av.of I0.ls),_,_,rfl,?_⟩⟩
  have hmx:(if ((ms.map V.int).length:Int)<50 then ((ms.map V.int).length:Int) else 50)<=50/\0<=(if ((ms.map V.int).length:Int)<50 then ((ms.map V.int).length:Int) else 50):=by
   split <;> lia
  generalize (if ((ms.map V.int).length:Int)<50 then ((ms.map V.int).length:Int) else 50)=mx at hmx ⊢;refine kL _ rfl li li ?_
  let W1:IV:=λi σ H'=>i<=mx.toNat/\∃S n z3 z4,σ=[a_ (.ref ls),a_ (.ref A.pg),a_ (.ref m),z3,z4]/\LI t C CT PT H' ls ms m A S n i/\n<=100*i
  refine pJ (n:=mx.toNat) W1 ⟨bg _,Ag kd ps,0,b_,b_,rfl,I0,aI _⟩ ?_ ?_
  ·rintro i σ H5 hi ⟨_,S,n,z3,z4,rfl,r9⟩;have I5:=r9.1;have hn:=r9.2;rw[ou];have am9:i<50:=li
   have tC:∀{D:Ends} {H9:Hp} {S9:Mc} {n9:Nat} {z4:Option V},(∀σ H,W1 (i+1) σ H->D.nx σ H)->LI t C CT PT H9 ls ms m A S9 n9 (i+1)->n9<=100*i+1->R2 D [a_ (.ref ls),a_ (.ref A.pg),a_ (.ref m),a_ (.int (i:Nat)),z4] H9:=λ{D H9 S9 n9 z4} hD I9 hn9=>by
    refine au _ rfl (vr rfl (kI ls ms 2 rfl I9.ls C0 qc λtK d oa=>⟨_,_,rfl,rfl,(show (0:Int)<50 by decide),rq (H:=tK) rfl (cu (λ_=>?_) λ_=>gC (hD _ _ ⟨hi,S9,n9,_,_,rfl,I9.same oa,li⟩))⟩));exact aw (rt (Q':=λx H6=>∃k,x=.bl k/\if (!k)=c_ then D.rt (.bl d_) H6 else D.nx [a_ (.ref ls),a_ (.ref A.pg),a_ (.ref m),a_ (.int (i:Nat)),z4] H6) (I9.same oa) li li λH6 S' n' I6 HA=>⟨c_,rfl,gC (hD _ _ ⟨hi,S',n',_,_,rfl,I6,li⟩)⟩) λjq hp sp=>au _ rfl (vr rfl (dw A.pg jq rfl (.inr (aJ.of hp)) sp))
   refine bX (id I5.M.obj) λdx5 fs5 HB G5=>vM rfl HB (G5.ms _ dk) (kI m A S rfl I5.M I5.W.wf I5.lam λH6 l ws k6 NF nl hl k8=>?_);have I6:LI t C CT PT H6 ls ms m A S n i:=⟨I5.M.uk k6,I5.W,I5.h,I5.ac,NF,k6.wq I5.ls⟩;refine cD _ rfl qc λle nle=>aR (nw (o:=.lst []) nle) λH7 e7 s7 hle=>?_;rw[e7];clear e7;have I7:=I6.same s7;refine kI l le ws rfl rfl (s7 _ _ hl) hle (au _ rfl (nF (λhe=>?_) λhe=>?_))
   ·have sT:=Qg.mpr he;refine bX (id I7.M.obj) λdx7 Z2 hm7 G7=>vM rfl hm7 (G7.ms _ dk) (vr rfl (vr rfl (vr rfl ⟨_,⟨_,rfl,rfl,ls,ms,300+i,rfl,I7.ls,C0,li,λH8 d8 s8=>⟨_,rfl,l,ws,rfl,.inl (av.of (s8 _ _ (s7 _ _ hl))),_,_,rfl,rfl,(show (0:Int)<(ws.length:Nat) by lia),?_⟩⟩⟩)));have I8:=I7.same s8;have hj:d8%ws.length<ws.length:=zz _ sT;have Zu:ws[d8%ws.length]?=a_ ws[d8%ws.length]:=aO hj;refine aw (pG k8 Zu) λmv yM aa=>aw aa λp ep hp=>?_;have jO:=b9 yM;refine rL (v:=.ref p) (av.of (s8 _ _ (s7 _ _ hl))) (by rw[<-Qw,<-ep];exact cR Zu) ⟨m,A,S,p,_,lab,rfl,I8.M,L,I8.W.wf,I8.W.X9 li,I8.lam,s8 _ _ (s7 _ _ hp),VD _,?_,λHl e=>(by rw[<-BH e];exact Ju jO),λHl e _ H9 M9 k9 F5=>?_,λz _ _ _=>absurd jO (z mv rfl)⟩
    ·rcases zE jO with ⟨c,rfl,_⟩ | ⟨c,k,n,rfl,_⟩ <;> simp[nU]
    have Px:=BH e;subst Px;have amN:=(ac7 I8.W jO).1;have dR:=I8.ac;exact tC (λσ H h=>h) ⟨M9,UD I8.W li jO,I8.h.made I8.W I8.M.FC jO,li,F5,k9.k _ _ nI (λps z=>by cases z) I8.ls⟩ li
   ·exact tC (λσ H h=>h) ⟨I7.M,I7.W,I7.h,xy I7.ac,I7.lam,I7.ls⟩ li
  ·rintro σ H5 ⟨_,S,n,z3,z4,rfl,r9⟩;have I5:=r9.1;have hn:=r9.2;exact aw (rt (Q':=Q) I5 li li λH6 S' n' I6 HA=>q H6) λjq hp sp=>au _ rfl (vr rfl (dw A.pg jq rfl (.inr (aJ.of hp)) sp))
end
end TL
namespace TL
open PySem.SeqAt L2 L3
theorem WA{us:List f_}(h:us.length=1):∃a,us=[a]:=P7.mp h
theorem FP{us:List f_}{n:Nat}(h:us.length=n+1):∃a l,us=a::l/\l.length=n:=by
 cases us with
 | nil=>cases h
 | cons a l=>exact⟨a,l,rfl,IX h⟩
theorem Wz{us:List f_}(h:us.length=2):∃a b,us=[a,b]:=bX (FP h) λa _ e h=>oE (WA h) λb z=>⟨a,b,by rw[e,z]⟩
theorem Wy{us:List f_}(h:us.length=3):∃a b c,us=[a,b,c]:=bX (FP h) λa _ e h=>As (Wz h) λb c z=>⟨a,b,c,by rw[e,z]⟩
theorem Wx{us:List f_}(h:us.length=4):∃a b c d,us=[a,b,c,d]:=bX (FP h) λa _ e h=>Nl (Wy h) λb c d z=>⟨a,b,c,d,by rw[e,z]⟩
theorem amL{us:List f_}(h:us.length=5):∃a b c d e,us=[a,b,c,d,e]:=bX (FP h) λa _ e h=>aiW (Wx h) λb c d f z=>⟨a,b,c,d,f,by rw[e,z]⟩
abbrev yp(x q:Str)(st:Stmt)(ps:List Str):Prop:=∀(kV doc pm:f_) (an:Option e_) (aM ct:f_) (us:List f_),us.length=ps.length->vD (B_ x q (mm st) (jB st) (aW st) .none kV doc pm an aM ct) ⟨us,[]⟩=pure (ps.zip us)
section
variable{K:u_}{h:j_}{mg:Str->Option f_}{x q m:Str}{st:Stmt}{f c e:e_}
theorem gD(X:K.In h)(G:h.Ns eY mg)(p:fN K x)(l:HT.br K (gN K x)=fp x x st)(ps:List Str)(hb:yp x x st ps):∃fd,aY K x x st (gN K x) fd/\x_ K (.ref (gN K x))=c_/\Binds K fd ps []/\mg x=a_ (.ref (gN K x)):=by
 obtain⟨oc,od,kV,dc,pm,an,cd,ct,sl,l1,c1⟩:=HT.v7 l p.2.1;have F:=VN (st:=st) l1 c1 p.2.2;exact⟨_,F,p.2.2,F.binds hb,C_ X G (HT.kc p.1)⟩
theorem eK(p:fM K c m q)(l:HT.br K (gM K c m)=fp m q st)(ps:List Str)(hb:yp m q st ps):∃fd,aY K m q st (gM K c m) fd/\Binds K fd ps []/\Meth K c m (gM K c m):=by
 obtain⟨oc,od,kV,dc,pm,an,cd,ct,sl,l1,c1⟩:=HT.v7 l p.2.1;have F:=VN (st:=st) l1 c1 p.2.2.1;exact⟨_,F,F.binds hb,HT.kc p.1,p.2.2.2,p.2.2.1⟩
theorem akV(p:fM K c m q)(l:HT.br K (gM K c m)=fp m q st)(ci:HT.FX K (gM K c m)=c_)(ps:List Str)(hb:yp m q st ps):∃fd,wB K m q st (gM K c m) fd (HT.Aj K (gM K c m))/\Binds K fd ps []/\Meth K c m (gM K c m):=by
 obtain⟨oc,od,kV,dc,pm,an,ct,sl,l1,c1⟩:=HT.ahN l p.2.1 ci;have F:=agq (st:=st) l1 c1 p.2.2.1;exact⟨_,F,F.fun.binds hb,HT.kc p.1,p.2.2.2,p.2.2.1⟩
theorem mkD{d:Str}(p:fM K c m q)(l:HT.FQ K (gM K c m)=fp m q st)(df:HT.FV K (gM K c m) d=c_):∃fd,Cm K m q st (gM K c m) fd d:=by
 obtain⟨oc,od,T,kV,dc,pm,an,cd,ct,sl,c1,d1,n1,uP,tk,e1,e2,e3⟩:=HT.ahL l p.2.1 df;exact⟨_,⟨⟨oc,od,T,kV,dc,pm,an,cd,ct,sl,c1,d1,n1,uP,tk,rfl,e1,e2,e3⟩,p.2.2.1⟩⟩
theorem sV(X:K.In h)(G:h.Ns eY mg)(p:cK K x):eX K (gN K x)/\mg x=a_ (.ref (gN K x)):=⟨⟨p.2.1,p.2.2.1,p.2.2.2.1,p.2.2.2.2⟩,C_ X G (HT.kc p.1)⟩
theorem N4(p:xF K c e):VX K c e:=⟨⟨p.1,p.2.1⟩,p.2.2.1,p.2.2.2.1,p.2.2.2.2.1,p.2.2.2.2.2⟩
end
def VY(l:W.OpenLaw)(w:k_)(K:u_)(mg:Str->Option f_)(fa:e_):Prop:=
  ∃fd:jz,(∀(s:g_) (v:f_),BindsTo s fd ⟨[v],[]⟩ [("_law_script",v)])/\(∃c,W.codeHdIn K c 475=c_)/\∀base:j_,K.In base->base.Ns eY mg->uz mg base->ay l.prog w K mg base aB 10 fa fd zLq (Wa K 475)
theorem sL9{K:u_}(E:seen K=c_)(i:Nat){b:Bool}(h:(Ar K ())[i]?=a_ b):b=true:=Iw.mp E b (b9 h)
section
variable{K:u_}(E:seen K=c_)
theorem ah{K:u_}(E:seen K=c_)(i:Nat){p:Prop}{d:Decidable p}(h:(Ar K ())[i]?=a_ (@decide p d)):p:=@of_decide_eq_true p d (sL9 E i h)
def SD:=ah E 10 rfl
def SE:=ah E 15 rfl
def Sz:=ah E 20 rfl
def RD:=ah E 25 rfl
def RB:=ah E 30 rfl
def RC:=ah E 35 rfl
def Ra:=ah E 40 rfl
def RA:=ah E 43 rfl
def QJ:=ah E 48 rfl
def LW:=ah E 63 rfl
def J':=ah E 64 rfl
def Kb:=ah E 65 rfl
def J9:=ah E 66 rfl
def JA:=ah E 67 rfl
def Jy:=ah E 68 rfl
def Jz:=ah E 69 rfl
def qJ:=ah E 70 rfl
def KS:=ah E 76 rfl
def US:=ah E 81 rfl
def Ka:=ah E 86 rfl
def UR:=ah E 156 rfl
def UO:=ah E 157 rfl
def UQ:=ah E 218 rfl
def Sx:=ah E 224 rfl
def Sw:=ah E 225 rfl
def Sy:=ah E 226 rfl
end
theorem b8{K:u_}(E:qS K=pU)(i:Nat){a b:Option HT.rB}(h:(qS K)[i]?=a_ a)(g:pU[i]?=a_ b):a=b:=by rw[E,g]at h;exact(dr h).symm
theorem fG{x q:Str}{st:Stmt}{ps:List Str}(l:ps.length=1:=by rfl)(h:∀(kV doc pm:f_) (an:Option e_) (aM ct:f_) (u0:f_),vD (B_ x q (mm st) (jB st) (aW st) .none kV doc pm an aM ct) ⟨[u0],[]⟩=pure (ps.zip [u0]):=by intros;rfl):yp x q st ps:=by
 intro k1 k2 k3 k4 k5 k6 us hl;obtain⟨u0,e⟩:=WA (hl.trans l);subst e;exact h k1 k2 k3 k4 k5 k6 u0
theorem iM{x q:Str}{st:Stmt}{ps:List Str}(l:ps.length=2:=by rfl)(h:∀(kV doc pm:f_) (an:Option e_) (aM ct:f_) (u0 u1:f_),vD (B_ x q (mm st) (jB st) (aW st) .none kV doc pm an aM ct) ⟨[u0,u1],[]⟩=pure (ps.zip [u0,u1]):=by intros;rfl):yp x q st ps:=by
 intro k1 k2 k3 k4 k5 k6 us hl;obtain⟨u0,u1,e⟩:=Wz (hl.trans l);subst e;exact h k1 k2 k3 k4 k5 k6 u0 u1
theorem Az{x q:Str}{st:Stmt}{ps:List Str}(l:ps.length=3:=by rfl)(h:∀(kV doc pm:f_) (an:Option e_) (aM ct:f_) (u0 u1 u2:f_),vD (B_ x q (mm st) (jB st) (aW st) .none kV doc pm an aM ct) ⟨[u0,u1,u2],[]⟩=pure (ps.zip [u0,u1,u2]):=by intros;rfl):yp x q st ps:=by
 intro k1 k2 k3 k4 k5 k6 us hl;obtain⟨u0,u1,u2,e⟩:=Wy (hl.trans l);subst e;exact h k1 k2 k3 k4 k5 k6 u0 u1 u2
theorem Yj{x q:Str}{st:Stmt}{ps:List Str}(l:ps.length=4:=by rfl)(h:∀(kV doc pm:f_) (an:Option e_) (aM ct:f_) (u0 u1 u2 u3:f_),vD (B_ x q (mm st) (jB st) (aW st) .none kV doc pm an aM ct) ⟨[u0,u1,u2,u3],[]⟩=pure (ps.zip [u0,u1,u2,u3]):=by intros;rfl):yp x q st ps:=by
 intro k1 k2 k3 k4 k5 k6 us hl;obtain⟨u0,u1,u2,u3,e⟩:=Wx (hl.trans l);subst e;exact h k1 k2 k3 k4 k5 k6 u0 u1 u2 u3
theorem facts{l:W.OpenLaw}{w:k_}{K:u_}{h:j_}{mg:Str->Option f_}{fa:e_}(E:(seen K,qS K)=(c_,pU))(X:K.In h)(G:h.Ns eY mg)(hfa:mg "law" = a_ (.ref fa)):VY l w K mg fa:=by
 have hb:=(xH E).1;have hl:=(xH E).2;refine dY (gD X G (ah hb 59 rfl) (b8 hl 0 rfl rfl) ["thing"] fG) λkr FW kW bW gW=>?_;refine dY (gD X G (ah hb 60 rfl) (b8 hl 1 rfl rfl) ["word"] fG) λkX FB kB bB gB=>?_;refine dY (gD X G (ah hb 61 rfl) (b8 hl 2 rfl rfl) ["told"] fG) λkU FS kS bS gS=>?_;refine dY (gD X G (ah hb 62 rfl) (b8 hl 3 rfl rfl) ["told"] fG) λnW FO kO bO gO=>?_;refine aR (eK (LW hb) (b8 hl 4 rfl rfl) zLa iM) λij FI bI MI=>?_;refine aR (eK (J' hb) (b8 hl 5 rfl rfl) zLa iM) λFt amu NW X0=>?_;refine aR (eK (Kb hb) (b8 hl 6 rfl rfl) zLa iM) λFu amC NX X1=>?_;refine aR (eK (J9 hb) (b8 hl 7 rfl rfl) zLa iM) λFs amt NV XZ=>?_;refine aR (eK (JA hb) (b8 hl 8 rfl rfl) zLa iM) λE8 akw M0 WO=>?_;refine aR (eK (Jy hb) (b8 hl 9 rfl rfl) zLa iM) λE6 akt MY WM=>?_;refine aR (eK (Jz hb) (b8 hl 10 rfl rfl) zLa iM) λE7 akv MZ WN=>?_;refine aR (eK (qJ hb) (b8 hl 11 rfl rfl) zLd fG) λNr FEm yq MEm=>?_;refine aR (eK (ah hb 71 rfl) (b8 hl 12 rfl rfl) zLd fG) λLU aku MK ako=>?_;refine aR (eK (ah hb 72 rfl) (b8 hl 13 rfl rfl) zLd fG) λLV akx MM akp=>?_;refine dY (gD X G (ah hb 73 rfl) (b8 hl 14 rfl rfl) zLt fG) λanx FHC kHC bHC gHC=>?_;refine dY (gD X G (ah hb 74 rfl) (b8 hl 15 rfl rfl) zLp Az) λanz FFI kFI bFI gFI=>?_;refine dY (gD X G (ah hb 75 rfl) (b8 hl 16 rfl rfl) zLt fG) λanv FLO kLO bLO gLO=>?_;refine aR (eK (KS hb) (b8 hl 17 rfl rfl) ["self","kind"] iM) λanf FTI bTI MTI=>?_;refine aR (eK (ah hb 77 rfl) (b8 hl 18 rfl rfl) zLi Yj) λanj FTA bTA MTA=>?_;refine aR (eK (ah hb 78 rfl) (b8 hl 19 rfl rfl) zLc iM) λane FTL bTL MTL=>?_;refine aR (akV (ah hb 79 rfl) (b8 hl 20 rfl rfl) (ah hb 80 rfl) zLd fG) λang FTF bTF MTF=>?_;refine aR (eK (ah hb 82 rfl) (b8 hl 21 rfl rfl) zLc iM) λanb FTT bTT MTT=>?_;refine aR (eK (ah hb 83 rfl) (b8 hl 22 rfl rfl) zLd fG) λanh FTE bTE MTE=>?_;refine aR (eK (ah hb 84 rfl) (b8 hl 23 rfl rfl) zLd fG) λani FTD bTD MTD=>?_;refine dY (gD X G (ah hb 85 rfl) (b8 hl 24 rfl rfl) ["kind"] fG) λanc FTO kTO bTO gTO=>?_;refine oE (mkD (Ka hb) (b8 hl 25 rfl rfl) (ah hb 87 rfl)) λamR X3=>?_;refine aR (eK (ah hb 88 rfl) (b8 hl 26 rfl rfl) zLb iM) λanP FAE bAE MAE=>?_;refine aR (eK (ah hb 89 rfl) (b8 hl 27 rfl rfl) zLb iM) λans FMY bMY MMY=>?_;refine aR (eK (ah hb 90 rfl) (b8 hl 28 rfl rfl) zLd fG) λanH FCR bCR MCR=>?_;refine aR (eK (ah hb 91 rfl) (b8 hl 29 rfl rfl) zLd fG) λanu FMV bMV MMV=>?_;refine aR (eK (ah hb 92 rfl) (b8 hl 30 rfl rfl) zLs iM) λanD FDO bDO MDO=>?_;refine aR (eK (ah hb 93 rfl) (b8 hl 31 rfl rfl) zLb iM) λanC FDS bDS MDS=>?_;refine aR (eK (ah hb 94 rfl) (b8 hl 32 rfl rfl) zLe Az) λanB FDT bDT MDT=>?_;refine aR (eK (ah hb 95 rfl) (b8 hl 33 rfl rfl) zLe Az) λanE FDL bDL MDL=>?_;refine aR (eK (ah hb 96 rfl) (b8 hl 34 rfl rfl) zLe Az) λanA FDW bDW MDW=>?_;refine aR (eK (ah hb 97 rfl) (b8 hl 35 rfl rfl) zLj Az) λanG FCY bCY MCY=>?_;refine aR (eK (ah hb 98 rfl) (b8 hl 36 rfl rfl) zLr iM) λanI FCM bCM MCM=>?_;refine aR (eK (ah hb 99 rfl) (b8 hl 37 rfl rfl) zLc iM) λanq FOB bOB MOB=>?_;refine aR (eK (ah hb 100 rfl) (b8 hl 38 rfl rfl) zLd fG) λanl FSE bSE MSE=>?_;refine aR (eK (ah hb 101 rfl) (b8 hl 39 rfl rfl) zLb iM) λana FWT bWT MWT=>?_;refine aR (eK (ah hb 102 rfl) (b8 hl 40 rfl rfl) zLd fG) λanF FDE HK MDE=>?_;refine aR (eK (ah hb 103 rfl) (b8 hl 41 rfl rfl) zLc iM) λanp FOV PC MOV=>?_;refine dY (gD X G (ah hb 104 rfl) (b8 hl 42 rfl rfl) zLn Az) λano FPB kPB bPB gPB=>?_;refine dY (gD X G (ah hb 105 rfl) (b8 hl 43 rfl rfl) ["move"] fG) λanw FHF kHF bHF gHF=>?_;refine dY (gD X G (ah hb 106 rfl) (b8 hl 44 rfl rfl) ["part"] fG) λank FSO kSO bSO gSO=>?_;refine aR (eK (ah hb 107 rfl) (b8 hl 45 rfl rfl) zLb iM) λamQ ams al' XY=>?_;refine dY (gD X G (ah hb 108 rfl) (b8 hl 46 rfl rfl) zLo iM) λanr PL kNB bNB Z0=>?_;refine dY (gD X G (ah hb 109 rfl) (b8 hl 47 rfl rfl) zLf fG) λanJ FBW kBW bBW gBW=>?_;refine dY (gD X G (ah hb 110 rfl) (b8 hl 48 rfl rfl) zLf fG) λanL FBS kBS bBS gBS=>?_;refine dY (gD X G (ah hb 111 rfl) (b8 hl 49 rfl rfl) zLf fG) λanK FBV kBV bBV gBV=>?_;refine dY (gD X G (ah hb 112 rfl) (b8 hl 50 rfl rfl) zLf fG) λanN FBB kBB bBB gBB=>?_;refine dY (gD X G (ah hb 113 rfl) (b8 hl 51 rfl rfl) zLf fG) λanO FBA kBA bBA gBA=>?_;refine dY (gD X G (ah hb 114 rfl) (b8 hl 52 rfl rfl) zLf fG) λanm FRF kRF bRF gRF=>?_;refine dY (gD X G (ah hb 115 rfl) (b8 hl 53 rfl rfl) zLf fG) λanM FBF Zi bBF Z1=>?_;refine dY (gD X G (ah hb 116 rfl) (b8 hl 54 rfl rfl) zLk iM) λamY amB Xx XX XT=>?_;refine dY (gD X G (ah hb 117 rfl) (b8 hl 55 rfl rfl) zLg Yj) λamT amw alg amb al2=>?_;refine dY (gD X G (ah hb 118 rfl) (b8 hl 56 rfl rfl) zLq fG) λamW amz alj ame al5=>?_;refine dY (gD X G (ah hb 119 rfl) (b8 hl 57 rfl rfl) zLm fG) λamX amA alk amf al6=>?_;refine dY (gD X G (ah hb 120 rfl) (b8 hl 58 rfl rfl) zLm fG) λamV amy ali amd al4=>?_;refine dY (gD X G (ah hb 121 rfl) (b8 hl 59 rfl rfl) zLh iM) λamS amv alf ama al1=>?_;refine dY (gD X G (ah hb 122 rfl) (b8 hl 60 rfl rfl) zLh iM) λamU amx alh amc al3=>?_;refine dY (gD X G (ah hb 123 rfl) (b8 hl 61 rfl rfl) zLq fG) λakm X4 am2 anQ al0=>?_;have e:=hfa.symm.trans al0;cases e;refine oA (sV X G (ah hb 8 rfl)) λamK aiq=>?_;refine oA (sV X G (ah hb 9 rfl)) λx6 akk=>?_;refine oA (sV X G (ah hb 14 rfl)) λv8 akl=>?_;refine oA (sV X G (ah hb 19 rfl)) λuq akj=>?_;refine oA (sV X G (ah hb 24 rfl)) λuf ais=>?_;refine oA (sV X G (ah hb 29 rfl)) λsC aip=>?_;refine oA (sV X G (ah hb 34 rfl)) λvV air=>?_;refine oA (sV X G (ah hb 39 rfl)) λBJ agE=>?_;refine oA (sV X G (ah hb 42 rfl)) λait aio=>?_;refine oA (sV X G (ah hb 47 rfl)) λadI adH=>?_;have X0:Mk K (hZ K) (L7 K):=⟨(SD hb).1,HT.kc (J' hb).1,(J' hb).2.2.2,(SD hb).2⟩;have X1:Mk K (ic K) (L9 K):=⟨(SE hb).1,HT.kc (Kb hb).1,(Kb hb).2.2.2,(SE hb).2⟩;have XZ:Mk K (hY K) (L6 K):=⟨(Sz hb).1,HT.kc (J9 hb).1,(J9 hb).2.2.2,(Sz hb).2⟩;have WO:Mk K (hG K) (K7 K):=⟨(RD hb).1,HT.kc (JA hb).1,(JA hb).2.2.2,(RD hb).2⟩;have WM:Mk K (gZ K) (K1 K):=⟨(RB hb).1,HT.kc (Jy hb).1,(Jy hb).2.2.2,(RB hb).2⟩;have WN:Mk K (g9 K) (K2 K):=⟨(RC hb).1,HT.kc (Jz hb).1,(Jz hb).2.2.2,(RC hb).2⟩;have aiu:Mk K (mf K) (Ak K):=⟨(Ra hb).1,(ah hb 129 rfl),(LW hb).2.2.2,(Ra hb).2⟩;have akn:Mk K (gY K) (WH K):=⟨(RA hb).1,HT.kc (KS hb).1,(KS hb).2.2.2,(RA hb).2⟩;have afb:Mk K (c8 K) (L8 K):=⟨(QJ hb).1,HT.kc (Ka hb).1,(Ka hb).2.2.2,(QJ hb).2⟩;have acs:=MTA;have abu:=MTL;have QL:=MTF;have abQ:=MTT;have abe:=MTE;have abt:=MTD;have aa8:=MAE;have aa6:=MMY;have Qm:=MCR;have Qy:=MMV;have QU:=MDO;have aaW:=MDS;have aa7:=MDT;have aaX:=MDL;have aaV:=MDW;have Qz:=MCY;have QC:=MCM;have Qi:=MOB;have aa5:=MSE;have Ql:=MWT;have DG:=MDE;have IC:=MOV;have abw:Meth K (hZ K) "empties" (pW K):=⟨(ah hb 124 rfl),(qJ hb).2.2.2,(qJ hb).2.2.1⟩;have abx:Meth K (ic K) "empties" (pW K):=⟨(ah hb 125 rfl),(qJ hb).2.2.2,(qJ hb).2.2.1⟩;have abv:Meth K (hY K) "empties" (pW K):=⟨(ah hb 126 rfl),(qJ hb).2.2.2,(qJ hb).2.2.1⟩;have abl:Meth K (hG K) "empties" (pW K):=⟨(ah hb 127 rfl),(qJ hb).2.2.2,(qJ hb).2.2.1⟩;have abj:=ako;have abf:=akp;have abk:Meth K (g9 K) "empties" (pW K):=⟨(ah hb 128 rfl),(qJ hb).2.2.2,(qJ hb).2.2.1⟩;have abg:MO K (ub K) "__init__" (Ak K):=⟨(ah hb 130 rfl),(ah hb 131 rfl),HT.ahC (ah hb 132 rfl),(LW hb).2.2.1⟩;have DR:=z_ X G (ah hb 133 rfl);have V2:=z_ X G (ah hb 134 rfl);have U9:=z_ X G (ah hb 135 rfl);have V0:=z_ X G (ah hb 136 rfl);have zI:=z_ X G (ah hb 137 rfl);have nE:=z_ X G (ah hb 138 rfl);have V3:=z_ X G (ah hb 139 rfl);have L':=z_ X G (ah hb 140 rfl);have zm:=z_ X G (ah hb 141 rfl);have qF:=z_ X G (ah hb 142 rfl);have K':=z_ X G (ah hb 143 rfl);have V1:=z_ X G (ah hb 144 rfl);have amJ:=z_ X G (ah hb 145 rfl);have JF:=z_ X G (ah hb 146 rfl);have ail:=z_ X G (ah hb 147 rfl);have abr:=z_ X G (ah hb 148 rfl);have aim:∃u,mg "TOP" = a_ u/\RelV (.int mZ) u:=by obtain⟨t,e⟩:=HT.BU (ah hb 149 rfl);exact⟨_,C_ X G e,_,rfl⟩
 have Ew:∃u,mg "NAMES" = a_ u/\RelV (.int 12) u:=by obtain⟨t,e⟩:=HT.BU (ah hb 150 rfl);exact⟨_,C_ X G e,_,rfl⟩
 have abF:∃u,mg "REGISTERS" = a_ u/\RelV (.int 4) u:=by obtain⟨t,e⟩:=HT.BU (ah hb 151 rfl);exact⟨_,C_ X G e,_,rfl⟩
 have acr:∃u,mg "LONGEST" = a_ u/\RelV (.int 120) u:=by obtain⟨t,e⟩:=HT.BU (ah hb 152 rfl);exact⟨_,C_ X G e,_,rfl⟩
 have adG:∃u,mg "CLERKS" = a_ u/\RelV (.int 4) u:=by obtain⟨t,e⟩:=HT.BU (ah hb 153 rfl);exact⟨_,C_ X G e,_,rfl⟩
 have aj':=C_ X G (HT.kc (ah hb 0 rfl));have aj8:=C_ X G (HT.kc (ah hb 1 rfl));have XNo:=N4 (ah hb 2 rfl);have MT:=C_ X G (HT.kc (ah hb 3 rfl));have XMv:=N4 (ah hb 4 rfl);have aj9:=C_ X G (HT.kc (ah hb 5 rfl));have XKd:=N4 (ah hb 6 rfl);have WI:=C_ X G (HT.kc (ah hb 7 rfl));have ae':=C_ X G (HT.kc (ah hb 154 rfl));have afa:∀H:Hp,aJ K H (TY K) [.str "row",.str "name",.str "none"]:=λH=>HT.afj (ah hb 155 rfl) (by show 3<=cq;decide) H;have bl:Bl mg:=⟨DR,V2,U9,V0,zI,nE,V3,L'⟩;have bt:BT mg:=⟨DR,V2,U9,V0,nE,V3,qF,zm,V1,JF⟩;have cn:Cn mg:=⟨aim,Ew,abF,acr⟩
 have T1:ui K mg ⟨(Xp K),(Xs K),(Xq K),(Xr K),(Ak K),(L7 K),(L9 K),(L6 K),(K7 K),(K1 K),(K2 K),(ub K),(hZ K),(ic K),(hY K),(hG K),(gZ K),(mf K),(g9 K),_,_,_,_,_,_,_,_,_,_,_⟩:=
  ⟨bl,cn,FW,bW,gW,FB,bB,gB,FS,bS,gS,FO,bO,gO,⟨FI,bI,abg,aiq,zI⟩,BJ,(ah hb 41 rfl),aiu,agE,x6,(ah hb 11 rfl),(ah hb 12 rfl),(ah hb 13 rfl),X0,akk,amu,NW,v8,(ah hb 16 rfl),(ah hb 17 rfl),(ah hb 18 rfl),X1,akl,amC,NX,uq,(ah hb 21 rfl),(ah hb 22 rfl),(ah hb 23 rfl),XZ,akj,amt,NV,uf,(ah hb 26 rfl),(ah hb 27 rfl),(ah hb 28 rfl),WO,ais,akw,M0,sC,(ah hb 31 rfl),(ah hb 32 rfl),(ah hb 33 rfl),WM,aip,akt,MY,vV,(ah hb 36 rfl),(ah hb 37 rfl),(ah hb 38 rfl),WN,air,akv,MZ⟩
 obtain⟨t,u,O⟩:∃t u,yf K mg t u:=⟨_,⟨(pW K),(U7 K),(U8 K),_,_,_⟩,⟨T1,FEm,yq,aku,MK,akx,MM,(UR hb),(UO hb),abw,abx,abv,abl,abj,abf,abk,⟨(ah hb 158 rfl),(ah hb 159 rfl),(ah hb 160 rfl),(ah hb 161 rfl),(ah hb 162 rfl),(ah hb 163 rfl),(ah hb 164 rfl),(ah hb 165 rfl)⟩,⟨(ah hb 166 rfl),(ah hb 167 rfl),(ah hb 168 rfl),(ah hb 169 rfl),(ah hb 170 rfl),(ah hb 171 rfl),(ah hb 172 rfl),(ah hb 173 rfl)⟩,⟨(ah hb 174 rfl),(ah hb 175 rfl),(ah hb 176 rfl),(ah hb 177 rfl),(ah hb 178 rfl),(ah hb 179 rfl),(ah hb 180 rfl),(ah hb 181 rfl)⟩,⟨(ah hb 182 rfl),(ah hb 183 rfl),(ah hb 184 rfl),(ah hb 185 rfl),(ah hb 186 rfl),(ah hb 187 rfl),(ah hb 188 rfl),(ah hb 189 rfl)⟩,⟨(ah hb 190 rfl),(ah hb 191 rfl),(ah hb 192 rfl),(ah hb 193 rfl),(ah hb 194 rfl),(ah hb 195 rfl),(ah hb 196 rfl),(ah hb 197 rfl)⟩,⟨(ah hb 198 rfl),(ah hb 199 rfl),(ah hb 200 rfl),(ah hb 201 rfl),(ah hb 202 rfl),(ah hb 203 rfl),(ah hb 204 rfl),(ah hb 205 rfl)⟩,⟨(ah hb 206 rfl),(ah hb 207 rfl),(ah hb 208 rfl),(ah hb 209 rfl),(ah hb 210 rfl),(ah hb 211 rfl),(ah hb 212 rfl),(ah hb 213 rfl)⟩⟩⟩;have T:=O.st;have cM:gm K (c8 K):=⟨adI,(ah hb 49 rfl),(ah hb 50 rfl),(ah hb 51 rfl),(ah hb 52 rfl),(ah hb 53 rfl),(ah hb 54 rfl),(ah hb 55 rfl),(ah hb 56 rfl),(ah hb 57 rfl),(ah hb 58 rfl)⟩;have cT:mz K (gY K):=⟨ait,(ah hb 44 rfl),(ah hb 45 rfl),(ah hb 46 rfl)⟩;have b3:=agd X3;have xf:XF K (i7 K):=⟨(ah hb 216 rfl),xcd (ah hb 217 rfl),(Sx hb),(Sw hb),(Sy hb)⟩;have XW1:Yk K (i7 K) (Ad K) (MQ K):=⟨⟨(Sx hb),(Sw hb),(Sy hb),(ah hb 227 rfl),(ah hb 228 rfl),(UR hb),(UO hb),(ah hb 229 rfl)⟩,(ah hb 220 rfl),(ah hb 221 rfl),(ah hb 223 rfl),(ah hb 222 rfl)⟩;have XC1:N9 K (i7 K) (VZ K):=⟨(ah hb 214 rfl),XY.1,XY.2,(ah hb 215 rfl)⟩;unfold VY;refine⟨akm,λs v=>?_,⟨_,US hb⟩,λbase h1 h2 h3=>?_⟩
 ·obtain⟨_,_,_,_,_,_,_,_,_,e,_⟩:=X4.ex;rw[e];exact .of_eq rfl
 ·exact(by
  have hC:=W.codeHd_of_K h1 (US hb);have GTD:=ab7 (P:=l.prog) (w:=w) (mg:=mg) (base:=base) FTD bt cT;have GTE:=acW (P:=l.prog) (w:=w) (mg:=mg) (base:=base) FTE bt cT;have GTF:=Rr (P:=l.prog) (w:=w) (mg:=mg) (base:=base) FTF bt cT hC h3;have GTT:=aed (P:=l.prog) (w:=w) (mg:=mg) (base:=base) FTT bt cT hC h3 FW bW gW FTF bTF QL XMv.xc MT;have GTA:=afS (P:=l.prog) (w:=w) (mg:=mg) (base:=base) FTA cT;have GTL:=ab8 (P:=l.prog) (w:=w) (mg:=mg) (base:=base) FTL bt cT;have GTO:=acV (P:=l.prog) (w:=w) (mg:=mg) (base:=base) FTO bt cT akn FTI bTI aio Ew ae' afa XKd.xc aj9 (PT:=475);have GAE:=aep (P:=l.prog) (w:=w) (mg:=mg) (base:=base) (t:=t) (CT:=(gY K)) FAE nE cM;have HN:=aen (P:=l.prog) (w:=w) (mg:=mg) (base:=base) (t:=t) (CT:=(gY K)) FDE K' cM;have PK:=afX (P:=l.prog) (w:=w) (mg:=mg) (base:=base) (t:=t) (CT:=(gY K)) FOV K' cM;have GWT:=ab6 (t:=t) FWT cM cT GTD bTD abt;have GMY:=aeh FMY cM cT O GAE bAE aa8 GTE bTE abe;have GCR:=aca (t:=t) FCR cM cT zm GTF bTF QL;have GMV:=acY FMV cM nE qF GMY bMY aa6 GCR bCR Qm;have GCM:=af1 (P:=l.prog) (w:=w) (mg:=mg) (base:=base) (t:=t) (CT:=(gY K)) FCM cM;have GOB:=ab' (P:=l.prog) (w:=w) (mg:=mg) (base:=base) (t:=t) (CT:=(gY K)) FOB cM nE;have GCY:=aeo FCY cM cT GTT bTT abQ GCM bCM QC;have GDT:=aem FDT cM cT nE T GTA bTA acs GCY bCY Qz;have GDL:=ac4 FDL cM cT T GTL bTL abu GOB bOB Qi;have GDW:=acZ FDW cM T nE GOB bOB Qi GCM bCM QC;have GPB:=abi (P:=l.prog) (w:=w) (mg:=mg) (base:=base) FPB O;have GDS:=ac0 FDS cM O GPB kPB bPB gPB GDT bDT aa7 GDL bDL aaX GDW bDW aaV;have GHF:=afZ (P:=l.prog) (w:=w) (mg:=mg) (base:=base) FHF T;have GDO:=ahg FDO cM GHF kHF bHF gHF GMV bMV Qy GDS bDS aaW GCY bCY Qz XMv.xc MT;have GSO:=ab9 (P:=l.prog) (w:=w) (mg:=mg) (base:=base) FSO T zI;have GLO:=(afY (P:=l.prog) (w:=w) (mg:=mg) (base:=base) FLO bl zm (ahh FHC bl adG) kHC bHC gHC (af0 FFI O XNo aj8) kFI bFI gFI);have GMI:=aei X3 cM T zI qF GLO kLO bLO gLO GTO kTO bTO gTO GSO kSO bSO gSO;have GSE:=acX FSE cM nE GCR bCR Qm GDO bDO QU;have GNB:=aiS (P:=l.prog) (w:=w) (mg:=mg) (base:=base) PL L';have GBW:=ahd FBW cM nE qF zm HN HK DG GNB PL bNB Z0;have GBV:=afP FBV cM qF Ew PK PC IC GNB PL bNB Z0;have GBS:=afO FBS cM zm HN HK DG;have GBB:=acT FBB cM qF L' Ew PK PC IC;have GBA:=aeb FBA cM zm GBB FBB bBB gBB HN HK DG;have amg:=ahf (P:=l.prog) (w:=w) (mg:=mg) (base:=base) ams xf (UQ hb);have GRF:=afV FRF cM nE qF GWT bWT Ql XC1 amg al' WI;have GBF:=acU FBF JF GRF kRF bRF gRF GBW kBW bBW gBW GBS kBS bBS gBS GBV kBV bBV gBV GBA kBA bBA gBA;have X2:=afQ (P:=l.prog) (w:=w) (mg:=mg) (base:=base) amB nE;have amk:=aek (P:=l.prog) (w:=w) (mg:=mg) (base:=base) amw nE;have amn:=ael amz qF zI ail X2 Xx XX XT amk alg amb al2;have amo:=ahi amA cM nE qF JF HN HK DG PK PC IC;have amm:=afU amy DR abr GBF Zi bBF Z1 aj' (ah hb 219 rfl) WI MT XW1 xf (UQ hb);have amj:=aec amv cM qF GWT bWT Ql;have aml:=aeg amx cM DR K' zI amm ali amd al4 amj alf ama al1 GSE bSE aa5 amo alk amf al6 GBF Zi bBF Z1;exact ahe X4 cM nE qF V1 X2 Xx XX XT amn alj ame al5 afb GMI adH b3 GMV bMV Qy GDO bDO QU aml alh amc al3)
theorem walk{l:W.OpenLaw}{q:l_}{loose:List Str}{XP:(Str->Option f_)->j_->Prop}{d:DefRec}(hn:l.most=a_ 63)(O7:d.params.defaults=[])(hdn:d.name = "law") :
  W.WalkO q loose XP (HT.ue TL.rA 475 (λK=>(seen K,qS K)) (c_,pU)).says l.row.toRowW d [] (λf vs=>PySem.call f vs):=by
 refine Att.abP hn O7 λw s₀ s₁ mg mb fa o pm cd doc a vs ns G Y ho hd gv AN NI hints hlen hg=>?_;obtain⟨K,KX,KN,hT,E⟩:=Y;rw[hdn]at AN;obtain⟨fd,hb,⟨c,hc⟩,hF⟩:=facts (l:=l) (w:=w) E KX G.T.g AN
 have bm:uz mg s₁.heap:=by
  obtain⟨bm,ob,b1,b2,b3,b4,b5,b6⟩:=G.T.bmain;refine⟨bm,ob,b1,b2,λz=>?_,b3,b4,b5,b6⟩;obtain⟨o',es,ep,e,C8,_⟩:=G.T.g;rw[z,e]at b3;cases b3;rw[C8]at b6;cases b6
 exact ac8 (ts:=[475]) KX G.T.g G.T.b G.T.builtins G.T.nolimit hg bm (λb hb=>by rw[f7.mp hb];exact hT) (λb hb=>by rw[f7.mp hb];exact((W.codeHd_of_K KX hc).tab hT).isCodeTable) (λb hb=>by rw[f7.mp hb];exact KN) NI hints (c7 hlen qc) ⟨rfl,qc,qc⟩ hF hb (λH hO hS=>⟨a,ns,rfl,hS,hlen,⟨#[],hO.2 475 (by simp),.inl rfl⟩,λ_=>rfl⟩) λH e s' z=>z
end TL
open PySem.W
theorem TL.left:W.LeftO PySem.Challenge.rw_traylate_k36_what_must_come_before.row.prog TL.qv [] (λs=>W.xlAt TL.qv [] s&&W.recOk PySem.Challenge.rw_traylate_k36_what_must_come_before.row.records s) (HT.ue TL.rA 475 (λK=>(TL.seen K,TL.qS K)) (c_,TL.pU)).obs (HT.ue TL.rA 475 (λK=>(TL.seen K,TL.qS K)) (c_,TL.pU)).val 12502:=by
 refine HT.agg ?a ?b ?c ?d
 case a=>kernel_rfl
 case b=>kernel_rfl
 case c=>intro s;kernel_rfl
 case d=>intro w os;exact HT.both (HT.sR (HT.oM (TL.l2 w os))) (HT.both (TL.r2 w os) (TL.r3 w os))
theorem PySem.Challenge.cw_traylate_k36_what_must_come_before_holds : PySem.Challenge.rw_traylate_k36_what_must_come_before.Holds := by
 refine W.holds_law TL.lwS λam0=>?_;refine W.holds_open (q:=TL.qv) (loose:=[]) (XP:=W.XL TL.qv []) (YP:=(HT.ue TL.rA 475 (λK=>(TL.seen K,TL.qS K)) (c_,TL.pU)).says) (d:=TL.dl) (kwd:=[]) TL.left (HT.ue TL.rA 475 (λK=>(TL.seen K,TL.qS K)) (c_,TL.pU)).of (HT.ue TL.rA 475 (λK=>(TL.seen K,TL.qS K)) (c_,TL.pU)).keeps (λs e=>W.xl_of s (Qc.mp e).1) W.XL.keeps ?h1 ?h2 ?h3 (λs e=>W.recFacts_of (Qc.mp e).2) ?h4 (by assumption) ?h5 ⟨rfl,rfl,rfl,rfl,rfl,dk⟩ ?hw (TL.walk (l:=PySem.Challenge.rw_traylate_k36_what_must_come_before) ?w1 ?w2 ?w3)
 case h1=>kernel_rfl
 case h2=>kernel_rfl
 case h3=>kernel_rfl
 case h4=>kernel_rfl
 case h5=>kernel_rfl
 case hw=>w_witness2
 case w1=>kernel_rfl
 case w2=>kernel_rfl
 case w3=>kernel_rfl
#print axioms PySem.Challenge.cw_traylate_k36_what_must_come_before_holds
