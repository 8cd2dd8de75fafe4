import PyProof.Rows.All
import Wide.All
import OpenK.AllK
import Wide.FinOn
import KE.KNestM
import KE.KSortedM
import PySem.Challenge.RW_traylate_k41_a_row_or_a_ring
set_option Elab.async false
set_option linter.all false
set_option maxRecDepth 100000
set_option maxHeartbeats 0
set_option synthInstance.maxSize 100000
set_option synthInstance.maxHeartbeats 0
set_option genSizeOf false
set_option genInjectivity false
set_option compiler.extract_closed false
open Option renaming some→a_,none→b_
open Bool renaming true→c_,false→d_
open PySem renaming Addr→e_,Value→f_,Shared→g_,Around→h_,Heap→i_,World→j_,Program→k_
open PySem renaming wpAny_bind→ah,wpAny_pure→aI,sizeLine→bp,starEach→bY,sizeLine_eq→eA,PassesOwn→eU,mainGlobals→fw,wpAny_mono→gn,NameKind→gr,compareOp→ja,wpAny_field→jS,wpAny_holding→kG,FuncData→lz,wpAny_truthy_bool→pZ,wpAny_newObj_type→p0,sysModules→qg,wpAny_Call_Name_kw→sX,wpAny_seqItems→tG,bootBuiltins→tI,builtinsNs→tP,wpAny_call_entry→uZ,binaryOp→vm,keywordEach→wY,bindArgs→xk,backToKw→xn,wpAny_callSpecial?_slot→yz,plainId_quiet→yL,attributeBase→yM,typeLookup→yV,call_meets→yW,getMethod→yZ,wpAny_passesOwn→AR,wpAny_setField→AU,wpAny_attempt→AV,codeAny_mono→AY,wpAny_letGo→A1,wpAny_rule→A7,wpAny_call→A8,tupleKind→Bb,wpAny_setField_rec→CB,wpAny_pyIter_list→CD,wpAny_loadPart_at→CF,wpAny_execs_nil→CI,codeAny_builtin→CJ,assignEach→C3,treeTable→C9,swapsWith→Dc,callWith→Dg,tupleKind_room_in1→FA,importedModules→FK,wpAny_tryCatch→FT,recursionLimit→FU,wpAny_standAt→FX,behindInMarks→FY,wpAny_typeOf→F3,call_meetsIn→F4,isInstance→Gd,wpAny_typeNameOfWhole_keyiter→Kt,wpAny_isInstance→K1,wpAny_eqBool_int→K2,wpAny_ite_split→Lg,letOwnedTupleGo→Lh,wpAny_fieldsOf→Lm,firstArgMember→Ln,wpAny_onRaise→Lr,wpAny_newList→Ls,wpAny_of_eq→LL,refuseLoop→LU,seqItems?→Mm,seqIndex?→Mn,wpAny_isOneOf_keyiter→Th,builtinLookup_eq_fast→Ti,wpAny_updateSeq_pair→To,codeAny_call_builtin→Tp,wpAny_dictEntries→Tz,wpAny_Call_method→TB,foldedSetIterable→TC,wpAny_updateSeq→T5,wpAny_specialOf→T6,wpAny_loadPart'→T7,wpAny_dictEpoch→T8,typeLookup_type→T9,wpAny_newTuple→Ue,isSubtype_stop→Ug,seqIndex_neg→Uv,plainObj_wpAny_Assign_Attribute→aaX,wpAny_comprehension_free→abj,wpAny_pyNext_list_item→abo,richCompare_meets_room→abq,wpAny_pyNext_list_end→abw,wpAny_notOrdered_dict→abx,wpAny_isTrue_Compare1→aby
open Nat renaming le_refl→aD,zero_le→aY,le_trans→cF,ne_of_lt→dg,le_of_lt→dH,lt_of_lt_of_le→f7,lt_irrefl→jR,le_succ→jT,le_of_eq→mY,sub_self→qZ,le_succ_of_le→tj,succ_le_succ→tm,ne_of_gt→tJ,min_eq_left→va,lt_of_le_of_lt→yD,min_le_left→yH,lt_trans→yP,mod_lt→yX,zero_add→A0,lt_succ_self→CH,not_lt_zero→CK,mul_le_mul→CL,succ_mul→CU,beq→Ds,le_add_right→FE,succ_pos→F5,lt_trichotomy→KW,succ_ne_self→K7,add_le_add→Lo,succ→Nc,add_sub_cancel'→Ts,lt_of_lt_of_eq→Tu,lt_succ_of_lt→TH,max_eq_right→TN,le_of_not_lt→TQ,add_mul_mod_self_left→abc,eq_zero_of_not_pos→abr,lt_or_gt_of_ne→abV,lt_of_succ_lt→ab6
open List renaming length_map→aG,getElem?_eq_getElem→aQ,length_append→ba,mem_cons→bq,getElem?_eq_some_iff→bu,mem_of_getElem?→bz,mem_append→cp,getElem?_map→cH,mem_singleton→cR,size_toArray→de,length_take→dn,append_assoc→dw,mem_map→dy,map_append→dN,map_cons→eu,mem_cons_of_mem→eI,replicate→eQ,Perm→eW,mem_append_right→f6,mem_cons_self→gg,append_nil→gj,length_cons→gI,mem_range→iC,getElem?_append_left→iN,take_append_drop→jn,mem_append_left→jo,take_of_length_le→jA,length_range→jB,take_add_one→jP,range_succ→kF,Pairwise→kH,pairwise_iff_getElem→lj,mem_filter→lu,getElem?_append_right→lR,getElem?_set_self→lU,pairwise_append→lV,getD_eq_getElem?_getD→mU,lookup_cons→mV,getElem?_of_mem→oW,mem_filterMap→oX,mem_flatMap→oY,length_drop→oZ,getElem?_eq_none→pY,length_set→qa,length_eq_zero_iff→qU,perm_append_comm→qV,length_filter_le→qW,filter_append→qX,drop_drop→qY,pairwise_cons→sY,getElem?_take→sZ,getElem?_drop→tf,mem_nil_iff→tE,filter_cons→tF,nodup_append→uW,ext_getElem?→uX,of_mem_zip→vc,nodup_cons→vd,drop_zero→ve,any_cons→vf,map_map→vg,drop_eq_nil_of_le→wN,getElem_of_mem→wQ,flatMap_append→wR,mem_of_mem_take→yB,mem_of_mem_drop→yC,length_zip→yI,lookup→yR,Nodup→yY,lookup_cons_self→AL,replicate_succ→AM,pairwise_map→AO,take_length→AQ,forIn_cons→AS,getElem?_set_ne→Cw,length_reverse→Cz,take_take→CM,nodup_nil→CN,all_cons→CS,all_map→CV,foldl→C4,flatten_cons→FD,nodup_range→FG,getElem_mem→FH,getElem_map→FJ,nil_append→FQ,set_set→F6,map_set→F7,mem_or_eq_of_mem_set→Kw,length_replicate→KH,map_eq_nil_iff→KQ,length_pos_iff→KR,filterMap_cons→KS,reverse_cons→KY,length_tail→K',getElem_zip→La,countP_cons→Lb,any_eq_true→Lc,all_eq_true→Ld,drop_take→Lp,map_tail→Lv,map_nil→LG,cons→Mp,mem_zipIdx_iff_getElem?→S0,drop_eq_getElem_cons→S4,length_filterMap_le→S8,pairwise_singleton→Tb,getElem?_replicate→Tc,flatMap_eq_nil_iff→Td,pairwise_lt_range→Tf,length_eq_one_iff→Tg,getElem?_reverse→Tj,filterMap_append→Tn,mem_map_of_mem→Tt,length_zipIdx→Tv,flatMap_cons→TJ,zipIdx_cons→TR,map_snd_zip→TU,drop_append→TV,cons_append→TX,idxOf_cons→Uc,take_add→Uo,range'→UM,length→UN,eraseIdxIfInBounds_toArray→aaY,take_append_of_le_length→aa1,eq_nil_of_length_eq_zero→aa2,mem_take_iff_getElem→abd,mem_drop_iff_getElem→abe,getElem?_zip_eq_some→abf,getElem?_eq_none_iff→abg,find?_range'_eq_some→abh,idxOf_lt_length_iff→abk,getElem?_cons_succ→abl,filter_cons_of_pos→abm,mem_of_mem_eraseP→abt,filter_eq_nil_iff→abu,pairwise_reverse→abz,mem_of_mem_head?→abA,getElem?_toArray→abB,mem_of_mem_tail→abF,mem_of_getLast?→abG,getLast?_append→abH,getElem_toArray→abI,zip_cons_cons→abW,reverse_perm→ab7,mem_range'_1→ab8,getElem?_set→ab9,count_append→ab',perm_middle→aci,map_fst_zip→acj,getElem_inj→ack,flatMap_nil→acm
open Or renaming inl→aL,inr→pA
open PyProof.Rows renaming wpS_bind→aV,wpS_pure→bf,pendingOf→cD,boot_isinstance→jq,SortKind→md,wpS_forRange→qd,failedOf→qj,boot_tuple→tQ,wpS_mono→vk,callWith_type1→wM,wpS_modify→yU,boot_list→Bc,get?_update_seq→FL,listUpdate_at→Lu,seqEpoch_at→LM,slot_tuple_getitem→SX,subscriptTail→Um,subscriptTail_builtinR→abp
open PySem.Heap renaming get?_push_of_some→bh,lt_size→bH,get?_push_size→dU,SameBut→o7,size_push→qb,get?_update_other→yA,get?_update_self→Cv,get?_update_ne→Fz,ExtBut→Ga
open PySem.Value renaming ref→bV,int→gq,none→jt,type→qh,str→q9,bool→wZ,builtin→yN,float→UL
open Ne renaming symm→b8
open Option renaming some→cA,map_eq_some_iff→sU,bind_eq_some_iff→AK,map_some→FP,isSome_iff_exists→Ky,isSome_map→ab5
open Option.some renaming inj→cI,injEq→FC
open Bool renaming false_ne_true→dW,and_eq_true→kE,false_eq_true→yF,false_and→FV,true_and→FZ,eq_iff_iff→Ll,and_eq_true_iff→Tr
open Array renaming length_toList→fQ,getElem?_toList→sW,toList_append→uU,getElem?_eq_some_iff→Kv,toList_reverse→KP,toList_inj→Lf,mk→Nd,getElem?_setIfInBounds_ne→SY,toList_push→TK,toList_map→TZ,eq_empty_of_size_eq_zero→aa0,perm_iff_toList_perm→abb,getElem?_eq_getElem→abi,getElem?_extract→abv,toArray_toList→abL,size_extract→abY,toList_zip→acn
open PySem.PassesOwn renaming never→gJ
open PySem.Str renaming ofString→iD
open LawfulBEq renaming eq_of_beq→iE
open PySem.SeqAt renaming EqAt→iP,noMixAll→GQ
open False renaming elim→i9
open Int renaming toNat_natCast→jQ,zero_add→lW,le_trans→nW,not_lt→C5,le_refl→F',toNat_of_nonneg→KU,emod_nonneg→Li,natCast_nonneg→Tw,natCast_emod→TY,ofNat_lt→Uw,fdiv_eq_ediv_of_nonneg→aa9,lt_trichotomy→aca
open True renaming intro→lZ
open PySem.Obj renaming mapSeq→nX,mapFields→wU,data_mapFields→AN,isFreed_of_fields→KG,cls_mapFields→TF
open PySem.W renaming boot_heap→qi,kat_cons→GU,boot_drawn→LV,boot_toks→Mo
open Prod renaming ext→rA,mk→vq,fst→xo
open List.Perm renaming append_left→sV,refl→yK,append_right→KC,trans→acy
open PySem.NameKind renaming free→tH
open PySem.Builtin.SmallTypes renaming nextOf→uS,ownedTupleIsFree→Ks,ownedTupleHandOut→aaW
open PySem.PyData renaming canLayAll0→uV,int→vh,eqv→vj,depthAll→yG,canLay0→yJ,depth→yO,strOk→AZ,eqvAll→CQ
open List.Pairwise renaming map→uY,nil→KZ,filter→abJ
open PySem.Calls renaming spliced_cons→yE,spliced_nil→CG,callWith_builtin→KD,evalArgs_plain→KO,Name_function_global→aa'
open Prod.mk renaming inj→yQ,injEq→acR
open List.Nodup renaming length_le_of_subset→AJ
open Classical renaming byContradiction→Ct,propDecidable→Te,not_forall→Tq
open PySem.Builtin.Tuple renaming tupleExact→Cu
open PySem.Around renaming under_plainId→Cy,under→UA,frames_deeper→abM
open PySem.Heap.SameBut renaming update→CA
open Sum.inl renaming inj→CW
open PySem.Fin renaming done→Dh
open Sum renaming inl→Dr
open PySem.F renaming slot_dict_keyiterator_next→Fy,slot_tuple_iterator_next→Ku,slot_zip_next→Lk,slot_list_getattribute→Ta,called_tuple→Uh,args_dict_keyiterator_next_1→aaZ,entry_dict_keyiterator_next→aa3,args_tuple_iterator_next_1→aa4,entry_tuple_iterator_next→aa6,slot_enumerate_next→abC,args_object_init_2→abK
open PySem.Builtin.Slice renaming slicePlaces→Kx,sliceAdjust→S7,sliceApplied→aba
open PySem.Builtin.ObjectAttr renaming Found→Kz,storeInOwnDict→apn,bindTo→aps
open PySem.Builtin.List renaming listTooLong→KA,listExtendWith→aa7
open ForInStep renaming yield→Lj
open Nat.succ renaming inj→LF
open Except renaming error→LH,ok→V3
open PySem.Walks renaming list→LW
open PyProof.Rows.SortSt renaming mk'→LX
open Exists renaming intro→Uz
open PyProof.Rows.IsTup renaming new→V2
open PySem.Builtin.Dict_items renaming ownsTuple→aa5
open PySem.Builtin.Builtins renaming bindParams→aa8
open PySem.Builtin.Dict renaming updateFrom→abn,showsAll→abD
open PySem.SeqAt.EqAt renaming str_none→abN,none_str→abO,none_int→abP,int_none→abQ,str_int→abT,int_str→abU
open PySem.EntryCells renaming newEntry→abR
open PySem.Code renaming quiet_builtin→abX
open PySem.MeetsSeq renaming EqGives→ach
open List.cons renaming injEq→acx,inj→acS
open PySem.Heap.DictOf renaming new→acz
open PySem.Builtin.ObjectAttr.Found renaming missing→apo,value→apq,bind→apr
open PySem.F renaming plainAttrs_list→m_,slot_list_append→n_,type_list_append→o_
open PySem renaming boot_len→q_,mem_of_lookup→t_
open PySem.Paired renaming length→r_
open PySem.W renaming Frag→u_,kitOne→v_,findIn→w_,keepIn→x_,kitCls→y_,mg_none_of→z_,Looks→s_,mroIn→A_,fnOf→B_,mg_of→C_,InstAt→D_,kia_one→E_,hasDictIn→F_,callWith_K→G_
open PySem PySem.Spec PyProof.Rows
open PySem renaming wpAny→am,model→ap,Paired→aA,Stmt→aK,Expr→b4,backTo→bc,PyData→bn,OsState→bt,rawInt→bv,Str→bx,Obj→bE,Scope→bK,Model→bL
open PyProof.Rows renaming arrOf→c0,Keyed→ca,SortSt→cc,seqObj→ci,envOfC→cr
theorem a6(_:True:=by decide):True:=⟨⟩
def a4:=a6._auto_1
theorem ab(_:True:=by rfl):True:=⟨⟩
def a3:=ab._auto_1
theorem ad(_:True:=by with_reducible assumption):True:=⟨⟩
def a2:=ad._auto_1
theorem al(_:True:=by with_unfolding_all rfl):True:=⟨⟩
def a5:=al._auto_1
theorem xz{b:Sort u}{a:b}:a=a:=Eq.refl a
abbrev PySem.Heap.zH(h:PySem.Heap):=h.objs.size
noncomputable abbrev PySem.Shared.zS(s:PySem.Shared):=s.heap.objs.size
noncomputable abbrev l_:String:="swap"
abbrev H_:String:="name"
noncomputable abbrev I_:String:="look"
abbrev J_:String:="parts"
abbrev K_:String:="__init__"
noncomputable abbrev L_:String:="set"
abbrev M_:String:="reg"
abbrev N_:String:="clear"
abbrev O_:String:="empties"
noncomputable abbrev P_:String:="tuple"
abbrev Q_:String:="self"
abbrev R_:String:="number"
abbrev S_:String:="kind"
noncomputable abbrev T_:String:="add"
abbrev U_:String:="is_whole"
abbrev V_:String:="row"
abbrev W_:String:="program"
abbrev X_:String:="clerk"
noncomputable abbrev Y_:String:="skip"
abbrev Z_:String:="put"
abbrev ac1:String:="told"
noncomputable abbrev ac2:String:="carry"
abbrev an3:String:="part"
abbrev aq0:String:="neighbours"
abbrev aq1:String:="other"
abbrev aq2:String:="place"
abbrev aq3:String:="range"
abbrev aq4:String:="bounds_of"
abbrev aq5:String:="setting"
abbrev aq6:String:="len"
abbrev aq7:String:="thing"
abbrev aq8:String:="ahead"
abbrev aq9:String:="_law_k"
noncomputable section
noncomputable section
def dt:=@if_neg
def dL:=@if_pos
def dV:=@absurd
def ec:=@of_decide_eq_true
def ee:=@decide_eq_true
def eF:=@decide_eq_false
def eV:=@of_decide_eq_false
def eX:=@beq_eq_false_iff_ne
def eY:=@beq_iff_eq
def f0:=@congrArg
def Eq.f4:=@Eq.trans
def Iff.f4:=@Iff.trans
def List.Perm.f4:=@List.Perm.trans
def HEq.f4:=@HEq.trans
def Eq.f5:=@Eq.symm
def Iff.f5:=@Iff.symm
def List.Perm.f5:=@List.Perm.symm
def Ne.f5:=@Ne.symm
theorem dk{p:Prop}(h:p:=by decide +kernel):p:=h
theorem qc{p:Prop}(h:autoParam p a4):p:=h
theorem om{p:Prop}(h:p:=by omega):p:=h
theorem li{p:Prop}(h:p:=by lia):p:=h
abbrev fY:List PySem.Str:=["self","told"]
abbrev g5:List PySem.Str:=["self","clerk"]
abbrev fF:List PySem.Str:=["machine"]
abbrev fC:List PySem.Str:=["self"]
abbrev gl:List PySem.Str:=["self","clerk","step"]
abbrev gi:List PySem.Str:=["self","name"]
abbrev ii:List PySem.Str:=["_law_draw_here","_law_names","_law_size"]
abbrev hU:List PySem.Str:=["_law_machine","_law_many"]
abbrev io:List PySem.Str:=["_law_moves","_law_draw_here","_law_late"]
noncomputable abbrev ib:List PySem.Str:=["self","name","number","deed"]
abbrev il:List PySem.Str:=["_law_row","_law_many","_law_due"]
abbrev i8:List PySem.Str:=["self","program","kind"]
abbrev i7:List PySem.Str:=["_law_script","_law_k"]
abbrev hZ:List PySem.Str:=["self","clerk","name"]
abbrev hF:List PySem.Str:=["numbers","why"]
abbrev hE:List PySem.Str:=["row","befores"]
abbrev ia:List PySem.Str:=["step","place","regs"]
abbrev h6:List PySem.Str:=["_law_machine"]
abbrev gW:List PySem.Str:=["_law_script"]
namespace L2
end L2
namespace L3
end L3
namespace L4
end L4
namespace L5
end L5
namespace HT
open PySem.W
noncomputable def G0(tb:String->Option Builtin)(p:k_)(w:j_)(a:Nat)(b:Option f_):Nat->SharedT->Thread->Option SharedT
 | 0,_,_=>b_
 | n+1,s,t=>match through t with
  | true=>a_ s
  | false=>match stepOk a b t with
   | false=>b_
   | true=>match stepT (denote tb) p w s t with
    | some (s',t')=>G0 tb p w a b n s' t'
    | none=>b_
theorem UQ{w:j_}:∀{n:Nat}{s a:SharedT}{t:Thread},G0 tb p w n₀ ann n s t=a_ a->topRun tb p w n₀ ann n s.abs t=a_ a.abs
 | 0,_,_,_,h=>by cases h
 | n+1,s,a,t,h=>by
  unfold G0 at h;unfold topRun;cases c:through t with
  | true=>rw[c]at h;cases h;rfl
  | false=>
   rw[c]at h;cases d:stepOk n₀ ann t with
   | false=>rw[d]at h;cases h
   | true=>
    rw[d]at h;cases b:stepT (denote tb) p w s t with
    | none=>rw[b]at h;cases h
    | some r=>obtain⟨e,f⟩:=r;rw[b]at h;rw[stepT_spec b];exact UQ h
noncomputable def W7:List bE->Nat->BT->BT
 | [],_,t=>t
 | o::r,i,t=>W7 r (i+1)<|t.ins i o
def Pq(P:Params):BT:=W7 (qi P).objs.toList 0 .nil
def D1(P:Params):Nat:=(qi P).objs.size
def Pr(P:Params):Life:=(qi P).life
def alP(P:Params):Option Value:=(qi P).nsMap fw "__annotations__"
theorem boot_abs(P:Params):absHeap (Pq P) (D1 P) (Pr P)=qi P:=by kernel_rfl
theorem aiA(P:Params):((qi P).isNs fw,(qi P).objs.size)=(c_,D1 P):=by kernel_rfl
def X6(P:Params)(os:bt):SharedT:=⟨Pq P,D1 P,Pr P,#[],LV,Mo,os⟩
def oJ(p:k_)(w:j_)(N:Nat)(os:bt):Option SharedT:=G0 C9 p w (D1 w.params) (alP w.params) N (X6 w.params os)<|topStub p
def held(p:k_)(P:Params)(s:g_):Bool:=staticsOk (FK p.main.body) (qi P) s.heap&&namesBound p s.heap&&gensDone s&&laidKept (qi P) s.heap
theorem both{a d e:Type}{o:Option a}{f:a->d}{g:a->e}{b:d}{c:e}(h1:o.map f=a_ b)(h2:o.map g=a_ c):o.map (λs=>(f s,g s))=a_ (b,c):=by
 cases o with
 | none=>cases h1
 | some s=>cases h1;cases h2;rfl
theorem adt{w:j_}(a:(s₀.heap.isNs fw&&s₀.gens.size==0)=c_)(r:topRun C9 p w s₀.heap.objs.size (s₀.heap.nsMap fw "__annotations__") N s₀ (topStub p)=a_ s₁)(b:(staticsOk (FK p.main.body) s₀.heap s₁.heap&&namesBound p s₁.heap&&gensDone s₁&&laidKept s₀.heap s₁.heap)=c_):topFrom C9 p w N s₀=a_ s₁:=by
 unfold topFrom;rw[a];dsimp only;rw[r];dsimp only[Option.bind];rw[b]
theorem aib(e:opening p=plainProg p.main.scope.names)(b:Nat.ble 600 N=c_)(f:∀s,fenceModules? p s=a_ s)(run:∀(w:j_)(os:bt),(oJ p w N os).map (λs=>(held p w.params s.abs,(openSeen q loose (FK p.main.body) Xt c_ s.abs,Yf s.abs)))=a_ (c_,(openGood q loose,Ya w))):LeftO p q loose Xt Yf Ya N:=λw=>by
 obtain⟨⟨h,c,d,k,os⟩,g,i⟩:=sU.mp<|boot_open e b f w;obtain⟨rfl,rfl,rfl,rfl⟩:h=qi w.params/\c=Nd []/\d=LV/\k=Mo:=by simpa using i
 obtain⟨j,r,l⟩:=sU.mp<|run w os;obtain⟨l1,l2⟩:=yQ l;obtain⟨m,n⟩:=yQ<|aiA w.params;have a:=UQ r
 have ea:(X6 w.params os).abs=⟨qi w.params,Nd [],LV,Mo,os⟩:=by
  show (⟨absHeap (Pq w.params) (D1 w.params)<|Pr w.params,_,_,_,_⟩:g_)=_;rw[boot_abs];rfl
 rw[ea]at a;have t:topFrom C9 p w N ⟨qi w.params,Nd [],LV,Mo,os⟩=a_ j.abs:=adt (by rw[m];rfl) (by show topRun C9 p w (qi w.params).objs.size _ N _ _=_;rw[n];exact a) l1;unfold openEnds;rw[g];show (topFrom C9 p w N _).map _=_;rw[t];exact f0 a_ l2
end HT
namespace TL
open PySem.SeqAt L2 L3
noncomputable def qv:Program:=W.view PySem.Challenge.rw_traylate_k41_a_row_or_a_ring.prog [0,2,3,4,5,6,7,8,10,11,12,13,14,15,16,17,18,19,20,21,22,23,24,25,27,28,29,30,31,32,33,34,36,37,38,39,41,42,43,44,46,47,48,50,51,52,53,55,56,57,58,59,60,61,62,63,64,65]
end TL
section
open PySem.W
abbrev TL.rn(w:j_)(os:bt):=HT.oJ PySem.Challenge.rw_traylate_k41_a_row_or_a_ring.row.prog w 12926 os
noncomputable abbrev TL.lo:List bx:=["Machine","KINDS"]
theorem TL.lw:looseW TL.qv []=TL.lo:=by kernel_rfl
theorem TL.lwS:W.OpenLaw.wellSaid PySem.Challenge.rw_traylate_k41_a_row_or_a_ring=true:=by kernel_rfl
theorem TL.l0(w:j_)(os:bt):(TL.rn w os).map (λs=>((s.abs.heap.keysOk TL.lo ((recsOf TL.qv).map (·.name)) ((litsOf TL.qv).map (·.1))<|(clssOf TL.qv TL.lo).map (·.name)),((plainSeenE TL.qv TL.lo s.abs))))=a_ (c_,(plainGoodE TL.qv TL.lo)):=by kernel_rfl
theorem TL.l1(w:j_)(os:bt):(TL.rn w os).map (λs=>(wideSeen TL.qv s.abs,clsSeenW TL.qv [] s.abs))=a_ (wideGood TL.qv,clsGoodW TL.qv []):=by kernel_rfl
theorem TL.l2(w:j_)(os:bt):(TL.rn w os).map (λs=>((plainSeenD TL.qv [] s.abs),((HT.held PySem.Challenge.rw_traylate_k41_a_row_or_a_ring.row.prog w.params s.abs),((s.abs.heap.bmainOk&&(valsOk TL.qv s.abs.heap&&(!importsNone TL.qv||s.abs.heap.noSeerOk)))))))=a_ (plainGoodD TL.qv [],(c_,(c_))):=by kernel_rfl
theorem TL.l3(w:j_)(os:bt):(TL.rn w os).map (λs=>((((recsOf TL.qv).map λd=>s.abs.heap.tab0Ok d.name).take 22 |>.all id),((s.abs.heap.bltView))))=a_ (c_,(bltViewBooted)):=by kernel_rfl
theorem TL.l4(w:j_)(os:bt):(TL.rn w os).map (λs=>((recsOf TL.qv).map λd=>s.abs.heap.tab0Ok d.name).drop 22 |>.all id)=a_ true:=by kernel_rfl
theorem TL.l5(w:j_)(os:bt):(TL.rn w os).map (λs=>(((((recsOf TL.qv).map (·.name)).map<|s.abs.heap.shapeAt fw).take 18),(((ownsOf TL.qv).all (λo=>s.abs.heap.ownExcOk o.name o.chain o.bm o.newId&&s.abs.heap.quietOk o.name)&&(s.abs.heap.noLimitOk&&s.abs.heap.noDigitsOk)),((pinSeenD TL.qv (drecsOf TL.qv) s.abs),((s.abs.heap.accountedOkI (FK PySem.Challenge.rw_traylate_k41_a_row_or_a_ring.row.prog.main.body)&&(s.abs.heap.isNs fw&&(s.abs.heap.isNs tP&&(tablesOk TL.qv s.abs.heap&&((W.xlAt TL.qv [] s.abs&&W.recOk PySem.Challenge.rw_traylate_k41_a_row_or_a_ring.row.records s.abs)&&(s.abs.gens.size==0)))))))))))=a_ ((((recsOf TL.qv).take 18).map λd=>a_ d.shape),(c_,(pinGoodD<|drecsOf TL.qv,(c_)))):=by kernel_rfl
theorem TL.l6(w:j_)(os:bt):(TL.rn w os).map (λs=>(((recsOf TL.qv).map (·.name)).map<|s.abs.heap.shapeAt fw).drop 18)=a_ ((((recsOf TL.qv).drop 18).map λd=>a_ d.shape)):=by kernel_rfl
end
namespace L2
def d7(s:aK)(j:Nat):aK:=match s with
 | .ClassDef _ _ _ body _ _ _ _ _ _ _=>body.getD j<|.Pass ⟨0,0,0,0⟩
 | _=>.Pass ⟨0,0,0,0⟩
noncomputable def nv(s:aK):Arguments:=match s with
 | .FunctionDef _ a _ _ _ _ _ _ _ _=>a
 | _=>{posonlyargs:=[],args:=[],vararg:=b_,kwonlyargs:=[],kw_defaults:=[],kwarg:=b_,defaults:=[]}
noncomputable def jV(s:aK):List aK:=match s with
 | .FunctionDef _ _ b _ _ _ _ _ _ _=>b
 | _=>[]
noncomputable def aU(s:aK):bK:=match s with
 | .FunctionDef _ _ _ _ _ _ sc _ _ _=>sc
 | _=>{kind:=.function,names:=[],isGenerator:=d_,isCoroutine:=d_}
end L2
namespace TL
open L2 L3
abbrev nL:Int:=1000000000000000000000000000000000000000000000000000000000000
def top(i:Nat):aK:=PySem.Challenge.pw_traylate_k41_a_row_or_a_ring.main.body.getD i<|.Pass ⟨0,0,0,0⟩
abbrev HU:aK:=d7 (top 14) 0
abbrev Du:aK:=top 22
abbrev Di:aK:=top 23
abbrev He:aK:=top 24
abbrev Np:aK:=top 25
abbrev HS:aK:=d7 (top 15) 0
abbrev HV:aK:=d7 (top 16) 0
abbrev HR:aK:=d7 (top 17) 0
abbrev Hy:aK:=d7 (top 18) 0
abbrev Hv:aK:=d7 (top 19) 0
abbrev Hw:aK:=d7 (top 21) 0
end TL
namespace L2
abbrev mQ:Addr:=87
end L2
namespace L2
open L3
open Sem (wp)
noncomputable abbrev BJ:List Value:=[.type "ValueError",.type "Exception",.type "BaseException",.type "object"]
end L2
namespace TL
open L2 L3
abbrev Nl:aK:=top 22
abbrev Jn:aK:=d7 (top 47) 0
abbrev OX:aK:=d7 (top 47) 1
abbrev MG:aK:=d7 (top 47) 2
abbrev Gu:aK:=d7 (top 47) 3
abbrev N5:aK:=d7 (top 47) 4
abbrev Nn:aK:=d7 (top 47) 5
abbrev MF:aK:=d7 (top 47) 6
abbrev Nm:aK:=top 48
end TL
namespace L2
abbrev jZ:String:="BaseException.__getattribute__"
end L2
namespace L2
open L3
noncomputable def vo:List f_->Bool
 | .ref _::r=>vo r
 | .type a::r=>a=="ValueError"&&(r==[.type "Exception",.type "BaseException",.type "object"])
 | _=>d_
noncomputable def OK(K:u_)(C:e_)(a:List f_)(b:String):Bool:=
 match yR C K with
 | some {cls:=qh "type",dict:=_,data:=Data.cls cd,slots:=sl}=>
  match cd.mro,sl.toList with
  | bV C'::bm,[_,_,_,_,a_ (yN n),_]=>C'==C&&n==b&&!cd.hasDel&&W.tailIn K a bm&&W.nsOkIn K cd.ns
  | _,_=>d_
 | _=>d_
end L2
namespace TL
open PySem.SeqAt L2 L3 L4
abbrev HA:aK:=d7 (top 14) 5
abbrev Gg:aK:=d7 (top 19) 3
abbrev Gb:aK:=d7 (top 20) 0
abbrev Hx:aK:=d7 (top 53) 0
abbrev Og:aK:=d7 (top 53) 1
abbrev N8:aK:=d7 (top 53) 2
abbrev MM:aK:=d7 (top 53) 3
abbrev Nr:aK:=d7 (top 53) 4
abbrev P4:aK:=d7 (top 53) 5
abbrev Nu:aK:=d7 (top 53) 6
abbrev Oa:aK:=d7 (top 53) 7
abbrev Nv:aK:=d7 (top 53) 8
abbrev Nt:aK:=d7 (top 53) 9
abbrev Od:aK:=d7 (top 53) 10
abbrev O8:aK:=d7 (top 53) 11
abbrev MK:aK:=d7 (top 53) 12
abbrev ME:aK:=d7 (top 53) 18
abbrev Ob:aK:=d7 (top 53) 20
abbrev O3:aK:=d7 (top 53) 23
abbrev P6:aK:=top 42
abbrev O5:aK:=top 43
abbrev L9:aK:=top 44
abbrev MJ:aK:=top 50
abbrev Lw:aK:=top 52
abbrev O4:aK:=top 51
abbrev O6:aK:=top 55
abbrev Em:aK:=top 28
abbrev Oe:aK:=top 29
abbrev Nx:aK:=top 31
abbrev Nw:aK:=top 30
abbrev Hf:aK:=top 32
abbrev Nz:aK:=top 37
abbrev OY:aK:=top 38
abbrev Oc:aK:=top 36
abbrev N9:aK:=top 56
abbrev N':aK:=top 57
abbrev Nq:aK:=d7 (top 53) 13
abbrev PZ:aK:=d7 (top 8) 0
abbrev O0:aK:=top 27
abbrev MN:aK:=top 33
abbrev Ny:aK:=top 34
abbrev O7:aK:=d7 (top 53) 21
abbrev N7:aK:=top 39
abbrev OZ:aK:=top 61
abbrev N4:aK:=top 63
abbrev O2:aK:=top 62
abbrev P7:aK:=top 58
abbrev QK:aK:=top 60
abbrev P0:aK:=top 59
abbrev N6:aK:=top 64
abbrev zJ:aK:=top 65
end TL
namespace HT
open PySem.W
theorem uj{a d e:Type}{o:Option a}{f:a->d}{g:a->e}{b:d}{c:e}(h:o.map (λs=>(f s,g s))=a_ (b,c)):o.map f=a_ b:=by
 cases o with
 | none=>cases h
 | some s=>
  have h':(f s,g s)=(b,c):=cI h;exact f0 a_ (yQ h').1
theorem pF{a d e:Type}{o:Option a}{f:a->d}{g:a->e}{b:d}{c:e}(h:o.map (λs=>(f s,g s))=a_ (b,c)):o.map g=a_ c:=by
 cases o with
 | none=>cases h
 | some s=>
  have h':(f s,g s)=(b,c):=cI h;exact f0 a_ (yQ h').2
theorem vP{a:Type}{o:Option a}{f g:a->Bool}(h1:o.map f=a_ c_)(h2:o.map g=a_ c_):o.map (λs=>f s&&g s)=a_ true:=by
 cases o with
 | none=>cases h1
 | some s=>
  have p:f s=true:=cI h1;show a_ (f s&&g s)=a_ c_;rw[p];exact h2
theorem xN{a:Type}{o:Option a}{f g:a->Bool}(h:o.map (λs=>f s&&g s)=a_ c_):o.map f=a_ c_/\o.map g=a_ true:=by
 cases o with
 | none=>cases h
 | some s=>
  have p:=Tr.mp<|cI h;exact⟨f0 a_ p.1,f0 a_ p.2⟩
theorem td{a b c:Type}{o:Option a}{F:a->List b}{l:List c}{g:c->b}(k:Nat)(h1:o.map (λs=>(F s).take k)=a_ ((l.take k).map g))(h2:o.map (λs=>(F s).drop k)=a_ ((l.drop k).map g)):o.map F=a_ (l.map g):=by
 cases o with
 | none=>cases h1
 | some s=>
  refine f0 a_ ?_;rw[<-jn k<|F s,show (F s).take k=(l.take k).map g from cI h1,show (F s).drop k=(l.drop k).map g from cI h2,<-dN,jn]
theorem NW{a:Type}{o:Option a}{F:a->List Bool}(k:Nat)(h1:o.map (λs=>((F s).take k).all id)=a_ c_)(h2:o.map (λs=>((F s).drop k).all id)=a_ c_):o.map (λs=>(F s).all id)=a_ true:=by
 cases o with
 | none=>cases h1
 | some s=>
  refine f0 a_ ?_;show (F s).all id=c_;rw[<-jn k<|F s,List.all_append,show ((F s).take k).all id=c_ from cI h1,show ((F s).drop k).all id=c_ from cI h2];rfl
theorem mkS(h1:d=D)(h2:o=c_)(h3:g=c_)(h4:b=c_)(h5:n=c_):(⟨d,o,[],g,b,n,0⟩:Seen)=⟨D,c_,[],c_,c_,c_,0⟩:=by
 subst h1 h2 h3 h4 h5;rfl
theorem tb_{a b:Type}{o:Option a}{l:List b}{f:a->b->Bool}(h:o.map (λs=>(l.map λd=>f s d).all id)=a_ c_):o.map (λs=>l.all λd=>f s d)=a_ true:=by
 cases o with
 | none=>cases h
 | some s=>
  refine f0 a_ ?_;have e:(l.map λd=>f s d).all id=true:=cI h;rw[CV]at e;exact e
theorem ahf{w:j_}{N:Nat}{os:bt}{f:g_->Bool}(g:looseW q loose=L)(h3:(oJ p w N os).map (λs=>s.abs.heap.keysOk L ((recsOf q).map (·.name)) ((litsOf q).map (·.1))<|(clssOf q L).map (·.name))=a_ c_)(h5:(oJ p w N os).map (λs=>s.abs.heap.accountedOkI mods&&(s.abs.heap.isNs fw&&(s.abs.heap.isNs tP&&(tablesOk q s.abs.heap&&(f s.abs&&(s.abs.gens.size==0))))))=a_ c_)(h1:(oJ p w N os).map (λs=>((recsOf q).map (·.name)).map<|s.abs.heap.shapeAt fw)=a_ ((recsOf q).map λd=>a_ d.shape))(h:(oJ p w N os).map (λs=>(ownsOf q).all (λo=>s.abs.heap.ownExcOk o.name o.chain o.bm o.newId&&s.abs.heap.quietOk o.name)&&(s.abs.heap.noLimitOk&&s.abs.heap.noDigitsOk))=a_ c_)(h2:(oJ p w N os).map (λs=>s.abs.heap.bltView)=a_ bltViewBooted)(i:(oJ p w N os).map (λs=>(recsOf q).all λd=>s.abs.heap.tab0Ok d.name)=a_ c_)(b:(oJ p w N os).map (λs=>s.abs.heap.bmainOk&&(valsOk q s.abs.heap&&(!importsNone q||s.abs.heap.noSeerOk)))=a_ c_)(h4:(oJ p w N os).map (λs=>(pinSeenD q (drecsOf q) s.abs,(plainSeenE q L s.abs,(plainSeenD q loose s.abs,(wideSeen q s.abs,clsSeenW q loose s.abs)))))=a_ ((pinGoodD<|drecsOf q,(plainGoodE q L,(plainGoodD q loose,(wideGood q,clsGoodW q loose)))))):(oJ p w N os).map (λs=>openSeen q loose mods f c_ s.abs)=a_ (openGood q loose):=by
 subst g;obtain⟨j,h5⟩:=xN h5;obtain⟨c,h5⟩:=xN h5;obtain⟨e,h5⟩:=xN h5;obtain⟨k,h5⟩:=xN h5;obtain⟨l,m⟩:=xN h5;obtain⟨b1,b2⟩:=xN h;obtain⟨c1,b⟩:=xN b;obtain⟨n,r⟩:=xN b
 have sn:(oJ p w N os).map (λs=>seen ((recsOf q).map (·.name)) (ownsOf q) [] {heap:=s.abs.heap,drawn:=s.abs.drawn,toks:=s.abs.toks,os:=s.abs.os})=a_ (expectedOf q):=by
  generalize oJ p w N os=o at h1 c e b1 b2 ⊢;cases o with
  | none=>cases h1
  | some s=>
   refine f0 a_ ?_;exact mkS (cI h1) (cI b1) (cI c) (cI e)<|cI b2
 have tb:(oJ p w N os).map (λs=>tabsOk q s.abs)=a_ true:=vP (vP (vP i c1) n) r;have a:=both sn<|both h2<|both (vP (vP (vP (vP (vP (vP h3 j) c) e) k) l) m)<|both tb h4;exact a
end HT
namespace HT
open PySem.W
theorem NI{g:e_->Option bE}:∀l:List e_,(l.filterMap λa=>(g a).map λo=>(a,o)).lookup a=a_ o->g a=a_ o
 | [],h=>by cases h
 | b::r,h=>by
  rw[KS]at h;cases e:g b with
  | none=>rw[e]at h;exact NI r h
  | some x=>
   rw[e]at h;dsimp only[Option.map]at h;rw[mV]at h;cases q:a==b with
   | true=>rw[q]at h;cases h;rw[eY.mp q];exact e
   | false=>rw[q]at h;exact NI r h
noncomputable def rf:Option (Option f_)->e_
 | some (a_ (.ref a))=>a
 | _=>0
def Jq:Option (Option f_)->Bool
 | some (a_ (.ref _))=>c_
 | _=>d_
theorem oh(h:Jq o=c_):o=a_ (a_<|.ref<|rf o):=by
 unfold Jq at h
 split at h
 .rfl
 .cases h
noncomputable def zX(o:Option (Option f_))(n:Int):Bool:=match o with
 | some (a_ (.int m _))=>decide<|m=n
 | _=>d_
theorem DI(h:zX o n=c_):∃t,o=a_ (a_<|.int n t):=by
 unfold zX at h
 split at h
 .rename_i m t;exact⟨t,by rw[ec h]⟩
 .cases h
noncomputable def QO(o:Option CFound)(f:e_):Bool:=match o with
 | some (.val (.ref a))=>Ds a f
 | _=>d_
theorem ajM(h:QO o f=c_):o=a_ (.val<|.ref f):=by
 unfold QO at h
 split at h
 .rw[Nat.eq_of_beq_eq_true h]
 .cases h
abbrev sq:=bx×bx×Arguments×FuncBody×bK×e_×List (bx×e_)×f_×e_
def br(K:Frag)(f:e_):Option sq:=match K.lookup f with
 | some ⟨_,_,.func d,_⟩=>a_ (d.name,d.qualname,d.params,d.body,d.scope,d.globals,d.closure,d.defaults,d.builtins)
 | _=>b_
noncomputable def codeOk(K:Frag)(f:e_)(q:bx):Bool:=match K.lookup f with
 | some ⟨_,_,.func d,_⟩=>codeIn K d.code q
 | _=>d_
theorem xK{K:Frag}(h:br K f=a_ (n,q,A,.stmts B,S,fw,[],.none,tP))(a:codeOk K f q'=c_):∃(oc:f_)(od:Option e_)(kV b pm:f_)(an:Option e_)(cd ct:f_)(sl:Array (Option f_)),K.lookup f=a_ ⟨oc,od,.func<|fnOf n q A B S .none kV b pm an cd ct,sl⟩/\codeIn K cd q'=true:=by
 unfold br at h;unfold codeOk at a
 split at h
 .rename_i oc od d sl e
  rw[e]at a;obtain⟨d1,c,g,i,j,k,l,m,d9,o,p,r,s,t,u⟩:=d;simp only[FC,acR]at h;obtain⟨rfl,rfl,rfl,rfl,rfl,rfl,rfl,rfl,rfl⟩:=h;exact⟨oc,od,_,_,_,_,_,_,sl,e,a⟩
 .cases h
def Iz(K:Frag)(f:e_):Option sq:=match K.lookup f with
 | some ⟨_,_,.func d,_⟩=>a_ (d.name,d.qualname,d.params,d.body,d.scope,d.globals,d.closure,.none,d.builtins)
 | _=>b_
noncomputable def IC(K:Frag)(f:e_)(x:bx):Bool:=match K.lookup f with
 | some ⟨_,_,.func d,_⟩=>(match d.defaults with
  | .ref T=>(match K.lookup T with
   | some ⟨_,_,.seq its _,_⟩=>(match its.toList with
    | [.str y _]=>decide<|y=x
    | _=>d_)
   | _=>d_)
  | _=>d_)
 | _=>d_
theorem ajW{K:Frag}(h:Iz K f=a_ (n,q,A,.stmts B,S,fw,[],.none,tP))(a:codeOk K f q'=c_)(hd:IC K f x=c_):∃(oc:f_)(od:Option e_)(T:e_)(kV i pm:f_)(an:Option e_)(cd ct:f_)(sl:Array (Option f_))(c1:f_)(d1:Option e_)(n1:Nat)(wt:Array (Option f_))(tk:Nat),K.lookup f=a_ ⟨oc,od,.func<|fnOf n q A B S (.ref T) kV i pm an cd ct,sl⟩/\codeIn K cd q'=c_/\K.lookup T=a_ ⟨c1,d1,.seq #[.str x tk] n1,wt⟩:=by
 unfold Iz at h;unfold codeOk at a;unfold IC at hd
 split at h
 .rename_i oc od d sl e
  rw[e]at a hd;obtain⟨d1,m,o,p,r,s,t,j,d9,u,v,w,z,C,D⟩:=d;simp only[FC,acR]at h;obtain⟨rfl,rfl,rfl,rfl,rfl,rfl,rfl,_,rfl⟩:=h;cases j with
  | ref T=>
   have hd:(match K.lookup T with
    | some ⟨_,_,.seq b _,_⟩=>(match b.toList with
     | [.str y _]=>decide<|y=x
     | _=>d_)
    | _=>d_)=true:=hd
   split at hd
   .rename_i c1 k b n1 wt c
    split at hd
    .rename_i y tk g
     rw[ec hd]at g
     have l:b=#[.str x tk]:=by
      have:=f0 List.toArray g;simpa using this
     rw[l]at c;exact⟨oc,od,T,_,_,_,_,_,_,sl,c1,k,n1,wt,tk,e,a,c⟩
    .cases hd
   .cases hd
  | _=>cases hd
 .cases h
noncomputable def xJ(h:i_)(as:List e_)(T:e_):Frag:=as.filterMap λa=>(if Ds a T=c_ then b_ else h.get? a).map λo=>(a,o)
theorem U7(e:(xJ h as T).lookup a=a_ o):a≠T/\h.get? a=a_ o:=by
 have z:=NI (g:=λa=>if Ds a T=c_ then b_ else h.get? a) _ e
 by_cases y:Ds a T=c_
 .rw[dL y]at z;cases z
 .rw[dt y]at z;exact⟨λq=>y (by rw[q];exact Nat.beq_refl T),z⟩
theorem agB(h:i_)(as:List e_)(T:e_):(xJ h as T).In h:=λ_ _ e=>(U7 e).2
theorem agA(h:i_)(as:List e_)(T:e_):(xJ h as T).lookup T=none:=by
 cases e:(xJ h as T).lookup T with
 | none=>rfl
 | some o=>exact dV xz (U7 e).1
noncomputable def gT(s:SharedT)(a:e_):Option bE:=match Nat.ble (a+1) s.n with
 | true=>alive<|(s.tree.get a).getD default
 | false=>b_
theorem Zy(s:SharedT)(a:e_):s.abs.heap.get? a=gT s a:=by
 show (absHeap s.tree s.n s.life).get? a=gT s a;unfold gT;cases h:Nat.ble (a+1) s.n with
 | true=>
  have h1:a<s.n:=Nat.le_of_ble_eq_true h;unfold Heap.get?;rw[absHeap_at,dL h1];generalize (s.tree.get a).getD default=o;show (match a_ o with | some ⟨_,_,.freed,_⟩=>b_ | o=>o)=alive o;obtain⟨c,d,b,sl⟩:=o;cases b <;> rfl
 | false=>exact abs_get_none λz=>by rw[Nat.ble_eq_true_of_le (show a+1<=s.n from z)]at h;cases h
def xI(s:SharedT)(as:List e_)(T:e_):Frag:=as.filterMap λa=>match Ds a T with
 | true=>b_
 | false=>(gT s a).map λo=>(a,o)
theorem agz(s:SharedT)(as:List e_)(T:e_):xJ s.abs.heap as T=xI s as T:=by
 unfold xJ xI
 congr 1
 funext a
 rw[Zy];cases Ds a T <;> rfl
noncomputable def zD:Option bE->Bool
 | some ⟨.none,b_,.fields vs,sl⟩=>vs.size==0&&sl.size==0
 | _=>d_
theorem ags(h:zD o=c_):o=a_ (tabObj #[]):=by
 unfold zD at h
 split at h
 .rename_i vs sl
  rw[kE]at h;have a:=aa0<|eY.mp h.1;have b:=aa0<|eY.mp h.2;subst a;subst b;rfl
 .cases h
def vv(as:List e_)(T:e_)(c:Frag->Bool×List (Option sq))(val:Bool×List (Option sq)):Hook:=
 ⟨Bool×(Bool×List (Option sq)),λs=>(zD<|s.heap.get? T,c<|xJ s.heap as T),λ_=>(c_,val),λ_ h=>∃K:Frag,K.In h/\K.lookup T=b_/\h.get? T=a_ (tabObj #[])/\c K=val,λ_ s e=>⟨_,agB s.heap as T,agA _ _ _,ags (yQ e).1,(yQ e).2⟩,λ_ _ _⟨K,a,n,t,b⟩k=>⟨K,a.keeps k,n,k _ _ t,b⟩⟩
theorem ajD{a:Frag->Bool×List (Option sq)}{val:Bool×List (Option sq)}{o:Option SharedT}(h1:o.map (λs=>zD<|gT s T)=a_ c_)(h2:o.map (λs=>a<|xI s as T)=a_ val):o.map (λs=>(vv as T a val).obs s.abs)=a_ (c_,val):=by
 have e:(λs:SharedT=>(vv as T a val).obs s.abs)=λs=>(zD<|gT s T,a<|xI s as T):=by
  funext s
  show (zD<|s.abs.heap.get? T,a<|xJ s.abs.heap as T)=_;rw[Zy,agz]
 rw[e];exact both h1 h2
noncomputable def vR:f_->e_
 | .ref q=>q
 | _=>0
noncomputable def vB:f_->Bool
 | .ref _=>c_
 | _=>d_
theorem akK(h:vB v=c_):v=.ref (vR v):=by cases v <;> first | rfl | cases h
def BI(K:Frag)(f:e_):Addr:=match K.lookup f with
 | some ⟨_,_,.func d,_⟩=>vR d.code
 | _=>0
def ID(K:Frag)(f:e_):Bool:=match K.lookup f with
 | some ⟨_,_,.func d,_⟩=>vB d.code
 | _=>d_
theorem ajY{K:Frag}(h:br K f=a_ (n,q,A,.stmts B,S,fw,[],.none,tP))(d:codeOk K f q'=c_)(a:ID K f=c_):∃(oc:f_)(od:Option e_)(kV b pm:f_)(an:Option e_)(ct:f_)(sl:Array (Option f_)),K.lookup f=a_ ⟨oc,od,.func<|fnOf n q A B S .none kV b pm an (.ref<|BI K f) ct,sl⟩/\codeIn K (.ref<|BI K f) q'=true:=by
 obtain⟨oc,od,kV,b,pm,an,cd,ct,sl,e,c⟩:=xK h d
 have g:cd=.ref (BI K f):=by
  unfold ID at a;unfold BI;rw[e]at a ⊢;exact akK a
 rw[g]at e c;exact⟨oc,od,kV,b,pm,an,ct,sl,e,c⟩
noncomputable def tU:List f_->List bx->Bool
 | [],[]=>c_
 | .str y _::us,x::xs=>decide (y=x)&&tU us xs
 | _,_=>d_
def tupS(K:Frag)(a:e_)(xs:List bx):Bool:=match K.lookup a with
 | some ⟨.type "tuple",_,.seq its _,_⟩=>tU its.toList xs
 | _=>d_
end HT
namespace TL
open PySem.SeqAt L2 L3
def gN(K:u_)(x:bx):Addr:=HT.rf<|W.nsIn K fw x
def gM(K:u_)(c:e_)(x:bx):Addr:=HT.rf<|w_ K (.ref c) x
abbrev rN(K:u_)(x:bx):Prop:=HT.Jq (W.nsIn K fw x)=c_
abbrev zN(K:u_)(x:bx):Prop:=W.nsIn K fw x=a_ b_
abbrev no(K:u_)(c:e_)(x:bx):Prop:=w_ K (.ref c) x=a_ b_
abbrev fN(K:u_)(x:bx):Prop:=rN K x/\HT.codeOk K (gN K x) x=c_/\x_ K (.ref<|gN K x)=c_
abbrev fM(K:u_)(c:e_)(m q:bx):Prop:=HT.Jq (w_ K (.ref c) m)=c_/\HT.codeOk K (gM K c m) q=c_/\x_ K (.ref<|gM K c m)=c_/\W.isFn K (.ref<|gM K c m)=c_
abbrev cK(K:u_)(x:bx):Prop:=rN K x/\W.plainGet K (gN K x) Str.empty=c_/\F_ K (gN K x)=c_/\W.plainOver K (gN K x)=c_/\w_ K (.ref<|gN K x) "__setattr__"=a_ (a_<|.builtin "object.__setattr__")
abbrev mK(K:u_)(c:e_):Prop:=W.makesIn K c=c_/\x_ K (.ref c)=c_
def fp(n q:bx)(st:aK):Option HT.sq:=a_ (n,q,nv st,.stmts<|jV st,aU st,fw,[],.none,tP)
abbrev nE(K:u_):Addr:=gN K "Waiting"
abbrev vp(K:u_):Addr:=gN K "Step"
abbrev iq(K:u_):Addr:=gN K "Put"
abbrev iu(K:u_):Addr:=gN K "Add"
abbrev ip(K:u_):Addr:=gN K "Set"
abbrev ij(K:u_):Addr:=gN K "Look"
abbrev ie(K:u_):Addr:=gN K "Swap"
abbrev ig(K:u_):Addr:=gN K "Skip"
abbrev ng(K:u_):Addr:=gN K "Clear"
abbrev gK(K:u_):Addr:=gN K "Tray"
abbrev cN(K:u_):Addr:=gN K "Machine"
abbrev WW(K:u_):Addr:=gN K "KINDS"
abbrev lQ(K:u_):Addr:=gN K "is_whole"
abbrev lM(K:u_):Addr:=gN K "bounds_of"
abbrev lP(K:u_):Addr:=gN K "is_step"
abbrev lO(K:u_):Addr:=gN K "step_of"
abbrev BM(K:u_):Addr:=gM K (vp K) "__init__"
abbrev ON(K:u_):Addr:=gM K (iq K) "__init__"
abbrev OP(K:u_):Addr:=gM K (iu K) "__init__"
abbrev OM(K:u_):Addr:=gM K (ip K) "__init__"
abbrev NU(K:u_):Addr:=gM K (ij K) "__init__"
abbrev NS(K:u_):Addr:=gM K (ie K) "__init__"
abbrev NT(K:u_):Addr:=gM K (ig K) "__init__"
abbrev qA(K:u_):Addr:=gM K (vp K) "empties"
abbrev XZ(K:u_):Addr:=gM K (ie K) "empties"
abbrev X0(K:u_):Addr:=gM K (ng K) "empties"
abbrev amh(K:u_):Addr:=gN K "has_clerks"
abbrev ami(K:u_):Addr:=gN K "fits"
abbrev amf(K:u_):Addr:=gN K "look_over"
abbrev ZF(K:u_):Addr:=gM K (gK K) "__init__"
abbrev al3(K:u_):Addr:=gM K (gK K) "add"
abbrev al0(K:u_):Addr:=gM K (gK K) "latest"
abbrev PB(K:u_):Addr:=gM K (gK K) "fronts"
abbrev alY(K:u_):Addr:=gM K (gK K) "take"
abbrev al1(K:u_):Addr:=gM K (gK K) "is_empty"
abbrev al2(K:u_):Addr:=gM K (gK K) "listed"
abbrev alZ(K:u_):Addr:=gN K "tray_of"
abbrev OO(K:u_):Addr:=gM K (cN K) "__init__"
abbrev amB(K:u_):Addr:=gM K (cN K) "at_end"
abbrev amd(K:u_):Addr:=gM K (cN K) "may_do"
abbrev ams(K:u_):Addr:=gM K (cN K) "carries"
abbrev ame(K:u_):Addr:=gM K (cN K) "moves"
abbrev amm(K:u_):Addr:=gM K (cN K) "do"
abbrev aml(K:u_):Addr:=gM K (cN K) "do_step"
abbrev amk(K:u_):Addr:=gM K (cN K) "do_set"
abbrev amo(K:u_):Addr:=gM K (cN K) "do_look"
abbrev amj(K:u_):Addr:=gM K (cN K) "do_swap"
abbrev amr(K:u_):Addr:=gM K (cN K) "carry"
abbrev amu(K:u_):Addr:=gM K (cN K) "come"
abbrev amb(K:u_):Addr:=gM K (cN K) "on_board"
abbrev al5(K:u_):Addr:=gM K (cN K) "settle"
abbrev alX(K:u_):Addr:=gM K (cN K) "waiting"
abbrev amq(K:u_):Addr:=gM K (cN K) "deeds"
abbrev al'(K:u_):Addr:=gM K (cN K) "over"
abbrev amn(K:u_):Addr:=gM K (cN K) "deeds_done"
abbrev al8(K:u_):Addr:=gN K "place_behind"
abbrev amg(K:u_):Addr:=gN K "has_form_of_move"
abbrev al4(K:u_):Addr:=gN K "steps_of"
abbrev amc(K:u_):Addr:=gN K "neighbours"
abbrev amv(K:u_):Addr:=gN K "by_own"
abbrev amx(K:u_):Addr:=gN K "by_seen"
abbrev amw(K:u_):Addr:=gN K "by_over"
abbrev amz(K:u_):Addr:=gN K "comers_behind"
abbrev amA(K:u_):Addr:=gN K "by_ahead"
abbrev al7(K:u_):Addr:=gN K "refuse_waiting"
abbrev amy(K:u_):Addr:=gN K "before"
abbrev al9(K:u_):Addr:=gN K "pairs_ahead"
abbrev al6(K:u_):Addr:=gN K "ring_of"
abbrev amt(K:u_):Addr:=gN K "counted_out"
abbrev ama(K:u_):Addr:=gN K "order"
abbrev YX(K:u_):Addr:=gM K (nE K) "__init__"
abbrev aky(K:u_):Addr:=gN K "_law_draw"
abbrev akq(K:u_):Addr:=gN K "_law_step"
abbrev akv(K:u_):Addr:=gN K "_law_program"
abbrev akx(K:u_):Addr:=gN K "_law_befores"
abbrev akr(K:u_):Addr:=gN K "_law_row_is_right"
abbrev akt(K:u_):Addr:=gN K "_law_ring_is_right"
abbrev aku(K:u_):Addr:=gN K "_law_refused"
abbrev akw(K:u_):Addr:=gN K "_law_pick"
abbrev akp(K:u_):Addr:=gN K "_law_first_waits"
abbrev aks(K:u_):Addr:=gN K "_law_right"
abbrev ako(K:u_):Addr:=gN K "law"
abbrev d9(p:Prop)[Decidable p]:Bool:=decide p
noncomputable def BU(K:u_)(_:Unit):List Bool:=[d9 (rN K "Waiting"),d9<|cK K "Step",d9<|cK K "Put",d9<|mK K<|iq K,d9<|no K (iq K) "parts",d9<|no K (iq K) "reg",d9<|no K (iq K) "number",d9<|cK K "Add",d9<|mK K<|iu K,d9<|no K (iu K) "parts",d9<|no K (iu K) "reg",d9<|no K (iu K) "other",d9<|cK K "Set",d9<|mK K<|ip K,d9<|no K (ip K) "parts",d9<|no K (ip K) "name",d9<|no K (ip K) "reg",d9<|cK K "Look",d9<|mK K<|ij K,d9<|no K (ij K) "parts",d9<|no K (ij K) "reg",d9<|no K (ij K) "name",d9<|cK K "Swap",d9<|mK K<|ie K,d9<|no K (ie K) "parts",d9<|no K (ie K) "reg",d9<|no K (ie K) "name",d9<|cK K "Skip",d9<|mK K<|ig K,d9<|no K (ig K) "parts",d9<|no K (ig K) "reg",d9<|no K (ig K) "place",d9<|cK K "Clear",d9<|mK K<|ng K,d9<|no K (ng K) "parts",d9<|cK K "Tray",d9<|mK K<|gK K,d9<|no K (gK K) "kind",d9<|no K (gK K) "turn",d9<|no K (gK K) "queues",d9<|cK K "Machine",d9<|mK K<|cN K,d9<|no K (cN K) "trays",d9<|no K (cN K) "program",d9<|no K (cN K) "kind",d9<|no K (cN K) "steps",d9<|no K (cN K) "places",d9<|no K (cN K) "counts",d9<|no K (cN K) "regs",d9<|no K (cN K) "cells",d9<|no K (cN K) "acts",d9<|no K (cN K) "comers",d9<|fN K "is_whole",d9<|fN K "bounds_of",d9<|fN K "is_step",d9<|fN K "step_of",d9<|fM K (vp K) "__init__" "Step.__init__",d9<|fM K (iq K) "__init__" "Put.__init__",d9<|fM K (iu K) "__init__" "Add.__init__",d9<|fM K (ip K) "__init__" "Set.__init__",d9<|fM K (ij K) "__init__" "Look.__init__",d9<|fM K (ie K) "__init__" "Swap.__init__",d9<|fM K (ig K) "__init__" "Skip.__init__",d9<|fM K (vp K) "empties" "Step.empties",d9<|fM K (ie K) "empties" "Swap.empties",d9<|fM K (ng K) "empties" "Clear.empties",d9<|fN K "has_clerks",d9<|fN K "fits",d9<|fN K "look_over",d9<|fM K (gK K) "__init__" "Tray.__init__",d9<|fM K (gK K) "add" "Tray.add",d9<|fM K (gK K) "latest" "Tray.latest",d9<|fM K (gK K) "fronts" "Tray.fronts",d9<|HT.ID K (PB K)=c_,d9<|W.codeHdIn K (HT.BI K<|PB K) 499=c_,d9<|fM K (gK K) "take" "Tray.take",d9<|fM K (gK K) "is_empty" "Tray.is_empty",d9<|fM K (gK K) "listed" "Tray.listed",d9<|fN K "tray_of",d9<|fM K (cN K) "__init__" "Machine.__init__",d9<|HT.IC K (OO K) "row"=c_,d9<|fM K (cN K) "at_end" "Machine.at_end",d9<|fM K (cN K) "may_do" "Machine.may_do",d9<|fM K (cN K) "carries" "Machine.carries",d9<|fM K (cN K) "moves" "Machine.moves",d9<|fM K (cN K) "do" "Machine.do",d9<|fM K (cN K) "do_step" "Machine.do_step",d9<|fM K (cN K) "do_set" "Machine.do_set",d9<|fM K (cN K) "do_look" "Machine.do_look",d9<|fM K (cN K) "do_swap" "Machine.do_swap",d9<|fM K (cN K) "carry" "Machine.carry",d9<|fM K (cN K) "come" "Machine.come",d9<|fM K (cN K) "on_board" "Machine.on_board",d9<|fM K (cN K) "settle" "Machine.settle",d9<|fM K (cN K) "waiting" "Machine.waiting",d9<|fM K (cN K) "deeds" "Machine.deeds",d9<|fM K (cN K) "over" "Machine.over",d9<|fM K (cN K) "deeds_done" "Machine.deeds_done",d9<|fN K "place_behind",d9<|fN K "has_form_of_move",d9<|fN K "steps_of",d9<|fN K "neighbours",d9<|fN K "by_own",d9<|fN K "by_seen",d9<|fN K "by_over",d9<|fN K "comers_behind",d9<|fN K "by_ahead",d9<|fN K "refuse_waiting",d9<|fN K "before",d9<|fN K "pairs_ahead",d9<|fN K "ring_of",d9<|fN K "counted_out",d9<|fN K "order",d9<|fM K (nE K) "__init__" "Waiting.__init__",d9<|fN K "_law_draw",d9<|fN K "_law_step",d9<|fN K "_law_program",d9<|fN K "_law_befores",d9<|fN K "_law_row_is_right",d9<|fN K "_law_ring_is_right",d9<|fN K "_law_refused",d9<|fN K "_law_pick",d9<|fN K "_law_first_waits",d9<|fN K "_law_right",d9<|fN K "law",d9<|w_ K (.ref<|iq K) "empties"=a_ (a_<|.ref<|qA K),d9<|w_ K (.ref<|iu K) "empties"=a_ (a_<|.ref<|qA K),d9<|w_ K (.ref<|ip K) "empties"=a_ (a_<|.ref<|qA K),d9<|w_ K (.ref<|ij K) "empties"=a_ (a_<|.ref<|qA K),d9<|w_ K (.ref<|ig K) "empties"=a_ (a_<|.ref<|qA K),d9<|w_ K (.ref<|ng K) "__init__"=a_ (a_<|.ref<|BM K),d9<|W.specialIn K (.ref<|vp K) "__getattribute__"=a_ (a_<|.builtin "type.__getattribute__"),d9<|W.readsIn K (vp K) (.type "type")=c_,d9<|HT.QO (W.findCls K (.ref<|vp K) (.type "type") "__init__") (BM K)=c_,d9<|zN K "isinstance",d9<|zN K "int",d9<|zN K "bool",d9<|zN K "str",d9<|zN K "tuple",d9<|zN K "len",d9<|zN K "all",d9<|zN K "zip",d9<|zN K "enumerate",d9<|zN K "range",d9<|zN K "list",d9<|zN K "min",d9<|zN K "sorted",d9<|zN K "dict",d9<|zN K "reversed",d9<|zN K "set",d9<|HT.zX (W.nsIn K fw "TOP") nL=c_,d9<|HT.zX (W.nsIn K fw "NAMES") 12=c_,d9<|HT.zX (W.nsIn K fw "REGISTERS") 4=c_,d9<|HT.zX (W.nsIn K fw "LONGEST") 120=c_,d9<|HT.zX (W.nsIn K fw "CLERKS") 4=c_,d9<|rN K "KINDS",d9<|HT.tupS K (WW K) ["row","name","none"]=c_,d9<|W.specialIn K (.builtin "object.__class__") "__get__"=a_ (a_<|.builtin "getset_descriptor.__get__"),d9<|W.takesIn K (.builtin "object.__class__")=a_ c_,d9<|w_ K (.ref<|iq K) "__class__"=a_ (a_<|.builtin "object.__class__"),d9<|A_ K (iq K) (.type "object")=a_ c_,d9<|v_ K (.ref<|iq K) (.ref<|iq K)=a_ c_,d9<|v_ K (.ref<|iq K) (.ref<|iu K)=a_ d_,d9<|v_ K (.ref<|iq K) (.ref<|ip K)=a_ d_,d9<|v_ K (.ref<|iq K) (.ref<|ij K)=a_ d_,d9<|v_ K (.ref<|iq K) (.ref<|ie K)=a_ d_,d9<|v_ K (.ref<|iq K) (.ref<|ig K)=a_ d_,d9<|w_ K (.ref<|iu K) "__class__"=a_ (a_<|.builtin "object.__class__"),d9<|A_ K (iu K) (.type "object")=a_ c_,d9<|v_ K (.ref<|iu K) (.ref<|iq K)=a_ d_,d9<|v_ K (.ref<|iu K) (.ref<|iu K)=a_ c_,d9<|v_ K (.ref<|iu K) (.ref<|ip K)=a_ d_,d9<|v_ K (.ref<|iu K) (.ref<|ij K)=a_ d_,d9<|v_ K (.ref<|iu K) (.ref<|ie K)=a_ d_,d9<|v_ K (.ref<|iu K) (.ref<|ig K)=a_ d_,d9<|w_ K (.ref<|ip K) "__class__"=a_ (a_<|.builtin "object.__class__"),d9<|A_ K (ip K) (.type "object")=a_ c_,d9<|v_ K (.ref<|ip K) (.ref<|iq K)=a_ d_,d9<|v_ K (.ref<|ip K) (.ref<|iu K)=a_ d_,d9<|v_ K (.ref<|ip K) (.ref<|ip K)=a_ c_,d9<|v_ K (.ref<|ip K) (.ref<|ij K)=a_ d_,d9<|v_ K (.ref<|ip K) (.ref<|ie K)=a_ d_,d9<|v_ K (.ref<|ip K) (.ref<|ig K)=a_ d_,d9<|w_ K (.ref<|ij K) "__class__"=a_ (a_<|.builtin "object.__class__"),d9<|A_ K (ij K) (.type "object")=a_ c_,d9<|v_ K (.ref<|ij K) (.ref<|iq K)=a_ d_,d9<|v_ K (.ref<|ij K) (.ref<|iu K)=a_ d_,d9<|v_ K (.ref<|ij K) (.ref<|ip K)=a_ d_,d9<|v_ K (.ref<|ij K) (.ref<|ij K)=a_ c_,d9<|v_ K (.ref<|ij K) (.ref<|ie K)=a_ d_,d9<|v_ K (.ref<|ij K) (.ref<|ig K)=a_ d_,d9<|w_ K (.ref<|ie K) "__class__"=a_ (a_<|.builtin "object.__class__"),d9<|A_ K (ie K) (.type "object")=a_ c_,d9<|v_ K (.ref<|ie K) (.ref<|iq K)=a_ d_,d9<|v_ K (.ref<|ie K) (.ref<|iu K)=a_ d_,d9<|v_ K (.ref<|ie K) (.ref<|ip K)=a_ d_,d9<|v_ K (.ref<|ie K) (.ref<|ij K)=a_ d_,d9<|v_ K (.ref<|ie K) (.ref<|ie K)=a_ c_,d9<|v_ K (.ref<|ie K) (.ref<|ig K)=a_ d_,d9<|w_ K (.ref<|ng K) "__class__"=a_ (a_<|.builtin "object.__class__"),d9<|A_ K (ng K) (.type "object")=a_ c_,d9<|v_ K (.ref<|ng K) (.ref<|iq K)=a_ d_,d9<|v_ K (.ref<|ng K) (.ref<|iu K)=a_ d_,d9<|v_ K (.ref<|ng K) (.ref<|ip K)=a_ d_,d9<|v_ K (.ref<|ng K) (.ref<|ij K)=a_ d_,d9<|v_ K (.ref<|ng K) (.ref<|ie K)=a_ d_,d9<|v_ K (.ref<|ng K) (.ref<|ig K)=a_ d_,d9<|w_ K (.ref<|ig K) "__class__"=a_ (a_<|.builtin "object.__class__"),d9<|A_ K (ig K) (.type "object")=a_ c_,d9<|v_ K (.ref<|ig K) (.ref<|iq K)=a_ d_,d9<|v_ K (.ref<|ig K) (.ref<|iu K)=a_ d_,d9<|v_ K (.ref<|ig K) (.ref<|ip K)=a_ d_,d9<|v_ K (.ref<|ig K) (.ref<|ij K)=a_ d_,d9<|v_ K (.ref<|ig K) (.ref<|ie K)=a_ d_,d9<|v_ K (.ref<|ig K) (.ref<|ig K)=a_ c_,d9<|OK K (nE K) BJ "ValueError.__new__"=c_,d9<|x_ K (.ref<|nE K)=c_,d9<|w_ K (.ref<|nE K) "__setattr__"=a_ (a_<|.builtin "object.__setattr__"),d9<|(W.clsIn K<|nE K).any (λcd=>vo cd.mro&&cd.hasDict)=c_,d9<|w_ K (.ref<|nE K) "clerk"=a_ b_,d9<|y_ K (.ref<|nE K) (.type "BaseException")=a_ c_,d9<|y_ K (.ref<|nE K) (.ref<|nE K)=a_ c_,d9<|w_ K (.ref<|nE K) (iD "__getattribute__")=a_ (a_<|.builtin jZ),d9<|w_ K (.ref<|nE K) (iD "__getattr__")=a_ b_,d9<|A_ K (nE K) (.type "BaseException")=a_ c_]
def seen(K:u_):Bool:=(BU K ()).all id
noncomputable def sj:List Nat:=[3,2,0,1,6,31,44,56,75,87,99,118,172,193,212,238,264,304,323,349,529,737,24,30,37,43,49,55,61,74,80,86,92,98,104,117,123,171,179,192,198,211,217,237,243,263,269,303,309,322,328,348,474,528,560,736,19,21,70,72,113,115,132,134,139,141,146,148,153,155,160,162,167,169,188,190,207,209,226,228,233,235,252,254,259,261,278,280,285,287,292,294,299,301,318,320,337,339,344,346,356,358,363,365,368,370,375,377,382,384,387,389,392,394,397,399,404,406,411,413,418,420,425,427,430,432,435,437,442,444,449,451,454,456,461,463,468,470,481,483,488,490,495,497,500,502,507,509,512,514,517,519,524,526,538,540,543,545,548,550,555,557,568,570,575,577,582,584,587,589,592,594,599,601,606,608,613,615,620,622,627,629,634,636,641,643,648,650,655,657,662,664,669,671,676,678,683,685,690,692,697,699,704,706,711,713,718,720,725,727,732,734,746,748,753,755,758,760,763,765,768,770,773,775,780,782,785,787,792,794,799,801,806,808,4,5,7,8,9,10,11,12,13,14,15,16,17,18,20,22,23,25,26,27,28,29,32,33,34,35,36,38,39,40,41,42,45,46,47,48,50,51,52,53,54,57,58,59,60,62,63,64,65,66,67,68,69,71,73,76,77,78,79,81,82,83,84,85,88,89,90,91,93,94,95,96,97,100,101,102,103,105,106,107,108,109,110,111,112,114,116,119,120,121,122,124,125,126,127,128,129,130,131,133,135,136,137,138,140,142,143,144,145,147,149,150,151,152,154,156,157,158,159,161,163,164,165,166,168,170,173,174,175,176,177,178,180,181,182,183,184,185,186,187,189,191,194,195,196,197,199,200,201,202,203,204,205,206,208,210,213,214,215,216,218,219,220,221,222,223,224,225,227,229,230,231,232,234,236,239,240,241,242,244,245,246,247,248,249,250,251,253,255,256,257,258,260,262,265,266,267,268,270,271,272,273,274,275,276,277,279,281,282,283,284,286,288,289,290,291,293,295,296,297,298,300,302,305,306,307,308,310,311,312,313,314,315,316,317,319,321,324,325,326,327,329,330,331,332,333,334,335,336,338,340,341,342,343,345,347,350,351,352,353,354,355,357,359,360,361,362,364,366,367,369,371,372,373,374,376,378,379,380,381,383,385,386,388,390,391,393,395,396,398,400,401,402,403,405,407,408,409,410,412,414,415,416,417,419,421,422,423,424,426,428,429,431,433,434,436,438,439,440,441,443,445,446,447,448,450,452,453,455,457,458,459,460,462,464,465,466,467,469,471,472,473,475,476,477,478,479,480,482,484,485,486,487,489,491,492,493,494,496,498,499,501,503,504,505,506,508,510,511,513,515,516,518,520,521,522,523,525,527,530,531,532,533,534,535,536,537,539,541,542,544,546,547,549,551,552,553,554,556,558,559,561,562,563,564,565,566,567,569,571,572,573,574,576,578,579,580,581,583,585,586,588,590,591,593,595,596,597,598,600,602,603,604,605,607,609,610,611,612,614,616,617,618,619,621,623,624,625,626,628,630,631,632,633,635,637,638,639,640,642,644,645,646,647,649,651,652,653,654,656,658,659,660,661,663,665,666,667,668,670,672,673,674,675,677,679,680,681,682,684,686,687,688,689,691,693,694,695,696,698,700,701,702,703,705,707,708,709,710,712,714,715,716,717,719,721,722,723,724,726,728,729,730,731,733,735,738,739,740,741,742,743,744,745,747,749,750,751,752,754,756,757,759,761,762,764,766,767,769,771,772,774,776,777,778,779,781,783,784,786,788,789,790,791,793,795,796,797,798,800,802,803,804,805,807]
noncomputable def rK(K:u_):List (Option HT.sq):=[HT.br K (lQ K),HT.br K<|lM K,HT.br K<|lP K,HT.br K<|lO K,HT.br K<|BM K,HT.br K<|ON K,HT.br K<|OP K,HT.br K<|OM K,HT.br K<|NU K,HT.br K<|NS K,HT.br K<|NT K,HT.br K<|qA K,HT.br K<|XZ K,HT.br K<|X0 K,HT.br K<|amh K,HT.br K<|ami K,HT.br K<|amf K,HT.br K<|ZF K,HT.br K<|al3 K,HT.br K<|al0 K,HT.br K<|PB K,HT.br K<|alY K,HT.br K<|al1 K,HT.br K<|al2 K,HT.br K<|alZ K,HT.Iz K<|OO K,HT.br K<|amB K,HT.br K<|amd K,HT.br K<|ams K,HT.br K<|ame K,HT.br K<|amm K,HT.br K<|aml K,HT.br K<|amk K,HT.br K<|amo K,HT.br K<|amj K,HT.br K<|amr K,HT.br K<|amu K,HT.br K<|amb K,HT.br K<|al5 K,HT.br K<|alX K,HT.br K<|amq K,HT.br K<|al' K,HT.br K<|amn K,HT.br K<|al8 K,HT.br K<|amg K,HT.br K<|al4 K,HT.br K<|amc K,HT.br K<|amv K,HT.br K<|amx K,HT.br K<|amw K,HT.br K<|amz K,HT.br K<|amA K,HT.br K<|al7 K,HT.br K<|amy K,HT.br K<|al9 K,HT.br K<|al6 K,HT.br K<|amt K,HT.br K<|ama K,HT.br K<|YX K,HT.br K<|aky K,HT.br K<|akq K,HT.br K<|akv K,HT.br K<|akx K,HT.br K<|akr K,HT.br K<|akt K,HT.br K<|aku K,HT.br K<|akw K,HT.br K<|akp K,HT.br K<|aks K,HT.br K<|ako K]
noncomputable def qz:List (Option HT.sq):=[fp "is_whole" "is_whole" Du,fp "bounds_of" "bounds_of" Di,fp "is_step" "is_step" He,fp "step_of" "step_of" Np,fp "__init__" "Step.__init__" HU,fp "__init__" "Put.__init__" HS,fp "__init__" "Add.__init__" HV,fp "__init__" "Set.__init__" HR,fp "__init__" "Look.__init__" Hy,fp "__init__" "Swap.__init__" Hv,fp "__init__" "Skip.__init__" Hw,fp "empties" "Step.empties" HA,fp "empties" "Swap.empties" Gg,fp "empties" "Clear.empties" Gb,fp "has_clerks" "has_clerks" P6,fp "fits" "fits" O5,fp "look_over" "look_over" L9,fp "__init__" "Tray.__init__" Jn,fp "add" "Tray.add" OX,fp "latest" "Tray.latest" MG,fp "fronts" "Tray.fronts" Gu,fp "take" "Tray.take" N5,fp "is_empty" "Tray.is_empty" Nn,fp "listed" "Tray.listed" MF,fp "tray_of" "tray_of" Nm,fp "__init__" "Machine.__init__" Hx,fp "at_end" "Machine.at_end" Og,fp "may_do" "Machine.may_do" N8,fp "carries" "Machine.carries" MM,fp "moves" "Machine.moves" Nr,fp "do" "Machine.do" P4,fp "do_step" "Machine.do_step" Nu,fp "do_set" "Machine.do_set" Oa,fp "do_look" "Machine.do_look" Nv,fp "do_swap" "Machine.do_swap" Nt,fp "carry" "Machine.carry" Od,fp "come" "Machine.come" O8,fp "on_board" "Machine.on_board" MK,fp "settle" "Machine.settle" Nq,fp "waiting" "Machine.waiting" ME,fp "deeds" "Machine.deeds" Ob,fp "over" "Machine.over" O3,fp "deeds_done" "Machine.deeds_done" O7,fp "place_behind" "place_behind" Lw,fp "has_form_of_move" "has_form_of_move" O4,fp "steps_of" "steps_of" MJ,fp "neighbours" "neighbours" Em,fp "by_own" "by_own" Oe,fp "by_seen" "by_seen" Nw,fp "by_over" "by_over" Nx,fp "comers_behind" "comers_behind" Hf,fp "by_ahead" "by_ahead" MN,fp "refuse_waiting" "refuse_waiting" O0,fp "before" "before" Ny,fp "pairs_ahead" "pairs_ahead" Nz,fp "ring_of" "ring_of" OY,fp "counted_out" "counted_out" Oc,fp "order" "order" N7,fp "__init__" "Waiting.__init__" PZ,fp "_law_draw" "_law_draw" O6,fp "_law_step" "_law_step" N9,fp "_law_program" "_law_program" N',fp "_law_befores" "_law_befores" P7,fp "_law_row_is_right" "_law_row_is_right" P0,fp "_law_ring_is_right" "_law_ring_is_right" QK,fp "_law_refused" "_law_refused" OZ,fp "_law_pick" "_law_pick" O2,fp "_law_first_waits" "_law_first_waits" N4,fp "_law_right" "_law_right" N6,fp "law" "law" zJ]
def ajF:Pos:=match zJ with
 | .FunctionDef _ _ _ _ _ _ _ _ _ p=>p
 | _=>default
def dl:DefRec:=⟨"law",nv zJ,jV zJ,aU zJ,ajF⟩
end TL
open PySem PySem.W PyProof.Rows in
theorem TL.mark_:True:=trivial
section
open PySem.W
theorem TL.l7(w:j_)(os:bt):(TL.rn w os).map (λs=>(((HT.zD<|HT.gT s 499,TL.rK<|HT.xI s TL.sj 499)),(((((TL.BU (HT.xI s TL.sj 499) ()).drop 90).drop 50).all id))))=a_ ((c_,TL.qz),(c_)):=by kernel_rfl
theorem TL.l8(w:j_)(os:bt):(TL.rn w os).map (λs=>((TL.BU (HT.xI s TL.sj 499) ()).take 90).all id)=a_ true:=by kernel_rfl
theorem TL.l9(w:j_)(os:bt):(TL.rn w os).map (λs=>(((TL.BU (HT.xI s TL.sj 499) ()).drop 90).take 50).all id)=a_ true:=by kernel_rfl
theorem TL.r2(w:j_)(os:bt):(TL.rn w os).map (λs=>W.openSeen TL.qv [] (FK PySem.Challenge.rw_traylate_k41_a_row_or_a_ring.row.prog.main.body) (λs=>W.xlAt TL.qv [] s&&W.recOk PySem.Challenge.rw_traylate_k41_a_row_or_a_ring.row.records s) c_ s.abs)=a_ (W.openGood TL.qv []):=HT.ahf TL.lw (HT.uj<|TL.l0 w os) (HT.pF<|HT.pF<|HT.pF<|TL.l5 w os) (HT.td 18 (HT.uj<|TL.l5 w os)<|TL.l6 w os) (HT.uj<|HT.pF<|TL.l5 w os) (HT.pF<|TL.l3 w os) (HT.tb_<|HT.NW 22 (HT.uj<|TL.l3 w os)<|TL.l4 w os) (HT.pF<|HT.pF<|TL.l2 w os)<|HT.both (HT.uj<|HT.pF<|HT.pF<|TL.l5 w os)<|HT.both (HT.pF<|TL.l0 w os)<|HT.both (HT.uj<|TL.l2 w os)<|TL.l1 w os
theorem TL.r3(w:j_)(os:bt):(TL.rn w os).map (λs=>(HT.vv TL.sj 499 (λK=>(TL.seen K,TL.rK K)) (c_,TL.qz)).obs s.abs)=a_ (c_,(c_,TL.qz)):=HT.ajD (HT.uj<|HT.uj<|TL.l7 w os)<|HT.both (HT.NW 90 (TL.l8 w os)<|HT.NW 50 (TL.l9 w os)<|HT.pF<|TL.l7 w os)<|HT.pF<|HT.uj<|TL.l7 w os
end
namespace L2
universe u0 u1 u2 u3 u4 u5 u6 u7 u8 u9
section
variable{A:Sort u0}{B:Sort u1}{C:Sort u2}{D:Sort u3}{E:Sort u4}{F:Sort u5}{I:Sort u6}{J:Sort u7}{L:Sort u8}{M:Sort u9}{G:Prop}
theorem oA{p q:Prop}(H:p/\q)(K:p->q->G):G:=by
 obtain⟨k,m⟩:=H;exact K k m
theorem oE{p:A->Prop}(H:∃a,p a)(K:∀a,p a->G):G:=by
 obtain⟨a,k⟩:=H;exact K a k
theorem eM{p q r:Prop}(k:p)(m:q)(n:r):p/\q/\r:=⟨k,m,n⟩
theorem au{p q:A->Prop}(a:A)(k:p a)(m:q a):∃a,p a/\q a:=⟨a,k,m⟩
theorem nN{p:A->B->Prop}(a:A)(b:B)(k:p a b):∃a b,p a b:=⟨a,b,k⟩
theorem du{p q r:Prop}(H:p/\q/\r)(K:p->q->r->G):G:=by
 obtain⟨k,m,n⟩:=H;exact K k m n
theorem aq{p q:A->Prop}(H:∃a,p a/\q a)(K:∀a,p a->q a->G):G:=by
 obtain⟨a,k,m⟩:=H;exact K a k m
theorem Eo{p:A->B->Prop}(H:∃a b,p a b)(K:∀a b,p a b->G):G:=by
 obtain⟨a,b,k⟩:=H;exact K a b k
theorem c8{p q r:A->Prop}(a:A)(k:p a)(m:q a)(n:r a):∃a,p a/\q a/\r a:=⟨a,k,m,n⟩
theorem fh{p q:A->B->Prop}(a:A)(b:B)(k:p a b)(m:q a b):∃a b,p a b/\q a b:=⟨a,b,k,m⟩
theorem nF{p q r s:Prop}(H:p/\q/\r/\s)(K:p->q->r->s->G):G:=by
 obtain⟨k,m,n,o⟩:=H;exact K k m n o
theorem aP{p q r:A->Prop}(H:∃a,p a/\q a/\r a)(K:∀a,p a->q a->r a->G):G:=by
 obtain⟨a,k,m,n⟩:=H;exact K a k m n
theorem b9{p q:A->B->Prop}(H:∃a b,p a b/\q a b)(K:∀a b,p a b->q a b->G):G:=by
 obtain⟨a,b,k,m⟩:=H;exact K a b k m
theorem P'{p:A->B->C->Prop}(H:∃a b c,p a b c)(K:∀a b c,p a b c->G):G:=by
 obtain⟨a,b,c,k⟩:=H;exact K a b c k
theorem lE{p q r s:A->Prop}(a:A)(k:p a)(m:q a)(n:r a)(o:s a):∃a,p a/\q a/\r a/\s a:=⟨a,k,m,n,o⟩
theorem di{p q r:A->B->Prop}(a:A)(b:B)(k:p a b)(m:q a b)(n:r a b):∃a b,p a b/\q a b/\r a b:=⟨a,b,k,m,n⟩
theorem eh{p:A->B->C->D->Prop}(a:A)(b:B)(c:C)(d:D)(k:p a b c d):∃a b c d,p a b c d:=⟨a,b,c,d,k⟩
theorem oj{p q r s t:Prop}(H:p/\q/\r/\s/\t)(K:p->q->r->s->t->G):G:=by
 obtain⟨k,m,n,o,h⟩:=H;exact K k m n o h
theorem c7{p q r s:A->Prop}(H:∃a,p a/\q a/\r a/\s a)(K:∀a,p a->q a->r a->s a->G):G:=by
 obtain⟨a,k,m,n,o⟩:=H;exact K a k m n o
def cZ{p q r:A->B->Prop}(H:∃a b,p a b/\q a b/\r a b)(K:∀a b,p a b->q a b->r a b->G):G:=by
 obtain⟨a,b,k,m,n⟩:=H;exact K a b k m n
def zB{p q:A->B->C->Prop}(H:∃a b c,p a b c/\q a b c)(K:∀a b c,p a b c->q a b c->G):G:=by
 obtain⟨a,b,c,k,m⟩:=H;exact K a b c k m
def alf{p:A->B->C->D->Prop}(H:∃a b c d,p a b c d)(K:∀a b c d,p a b c d->G):G:=by
 obtain⟨a,b,c,d,k⟩:=H;exact K a b c d k
def fG{p q r s t:A->Prop}(a:A)(k:p a)(m:q a)(n:r a)(o:s a)(h:t a):∃a,p a/\q a/\r a/\s a/\t a:=⟨a,k,m,n,o,h⟩
def qo{p q r s:A->B->Prop}(a:A)(b:B)(k:p a b)(m:q a b)(n:r a b)(o:s a b):∃a b,p a b/\q a b/\r a b/\s a b:=⟨a,b,k,m,n,o⟩
def rG{p q r:A->B->C->Prop}(a:A)(b:B)(c:C)(k:p a b c)(m:q a b c)(n:r a b c):∃a b c,p a b c/\q a b c/\r a b c:=⟨a,b,c,k,m,n⟩
def qk{p q r s t u:Prop}(H:p/\q/\r/\s/\t/\u)(K:p->q->r->s->t->u->G):G:=by
 obtain⟨k,m,n,o,h,h1⟩:=H;exact K k m n o h h1
def Ov{p q r s t:A->Prop}(H:∃a,p a/\q a/\r a/\s a/\t a)(K:∀a,p a->q a->r a->s a->t a->G):G:=by
 obtain⟨a,k,m,n,o,h⟩:=H;exact K a k m n o h
def iG{p q r s:A->B->Prop}(H:∃a b,p a b/\q a b/\r a b/\s a b)(K:∀a b,p a b->q a b->r a b->s a b->G):G:=by
 obtain⟨a,b,k,m,n,o⟩:=H;exact K a b k m n o
def fE{p q r:A->B->C->Prop}(H:∃a b c,p a b c/\q a b c/\r a b c)(K:∀a b c,p a b c->q a b c->r a b c->G):G:=by
 obtain⟨a,b,c,k,m,n⟩:=H;exact K a b c k m n
def kL{p q:A->B->C->D->Prop}(H:∃a b c d,p a b c d/\q a b c d)(K:∀a b c d,p a b c d->q a b c d->G):G:=by
 obtain⟨a,b,c,d,k,m⟩:=H;exact K a b c d k m
def f9{p:A->B->C->D->E->Prop}(H:∃a b c d e,p a b c d e)(K:∀a b c d e,p a b c d e->G):G:=by
 obtain⟨a,b,c,d,e,k⟩:=H;exact K a b c d e k
def lC{p q r s t u:A->Prop}(a:A)(k:p a)(m:q a)(n:r a)(o:s a)(h:t a)(h1:u a):∃a,p a/\q a/\r a/\s a/\t a/\u a:=⟨a,k,m,n,o,h,h1⟩
def Xv{p q r s t u v:Prop}(H:p/\q/\r/\s/\t/\u/\v)(K:p->q->r->s->t->u->v->G):G:=by
 obtain⟨k,m,n,o,h,h1,h2⟩:=H;exact K k m n o h h1 h2
def ahY{p q r s t u:A->Prop}(H:∃a,p a/\q a/\r a/\s a/\t a/\u a)(K:∀a,p a->q a->r a->s a->t a->u a->G):G:=by
 obtain⟨a,k,m,n,o,h,h1⟩:=H;exact K a k m n o h h1
def Dk{p q r s t:A->B->Prop}(H:∃a b,p a b/\q a b/\r a b/\s a b/\t a b)(K:∀a b,p a b->q a b->r a b->s a b->t a b->G):G:=by
 obtain⟨a,b,k,m,n,o,h⟩:=H;exact K a b k m n o h
def m8{p q r s t:A->B->C->Prop}(a:A)(b:B)(c:C)(k:p a b c)(m:q a b c)(n:r a b c)(o:s a b c)(h:t a b c):∃a b c,p a b c/\q a b c/\r a b c/\s a b c/\t a b c:=⟨a,b,c,k,m,n,o,h⟩
def dO{p q r s t u:A->B->Prop}(H:∃a b,p a b/\q a b/\r a b/\s a b/\t a b/\u a b)(K:∀a b,p a b->q a b->r a b->s a b->t a b->u a b->G):G:=by
 obtain⟨a,b,k,m,n,o,h,h1⟩:=H;exact K a b k m n o h h1
def Vy{p q r s t u:A->B->C->Prop}(H:∃a b c,p a b c/\q a b c/\r a b c/\s a b c/\t a b c/\u a b c)(K:∀a b c,p a b c->q a b c->r a b c->s a b c->t a b c->u a b c->G):G:=by
 obtain⟨a,b,c,k,m,n,o,h,h1⟩:=H;exact K a b c k m n o h h1
def mZ{p q r s t u:A->B->C->D->Prop}(a:A)(b:B)(c:C)(d:D)(k:p a b c d)(m:q a b c d)(n:r a b c d)(o:s a b c d)(h:t a b c d)(h1:u a b c d):∃a b c d,p a b c d/\q a b c d/\r a b c d/\s a b c d/\t a b c d/\u a b c d:=⟨a,b,c,d,k,m,n,o,h,h1⟩
def LJ{p q r s t u:A->B->C->D->E->Prop}(H:∃a b c d e,p a b c d e/\q a b c d e/\r a b c d e/\s a b c d e/\t a b c d e/\u a b c d e)(K:∀a b c d e,p a b c d e->q a b c d e->r a b c d e->s a b c d e->t a b c d e->u a b c d e->G):G:=by
 obtain⟨a,b,c,d,e,k,m,n,o,h,h1⟩:=H;exact K a b c d e k m n o h h1
def wX{p:A->B->C->D->E->F->I->J->L->M->Prop}(H:∃a b c d e f g i j l,p a b c d e f g i j l)(K:∀a b c d e f g i j l,p a b c d e f g i j l->G):G:=by
 obtain⟨a,b,c,d,e,f,g,i,j,l,k⟩:=H;exact K a b c d e f g i j l k
end
def w0{p:Prop}(h:autoParam p a2):p:=h
def w1{a:Nat}: a<=a:=aD a
def w2{a:Nat}: 0<=a:=aY a
def w3{a b:Nat}(h:autoParam (a<b) a2):a<=b:=dH h
def w4{a b c:Nat}(h:autoParam (a<=b) a2)(g:autoParam (b<=c) a4):a<=c:=cF h g
def w5{a b c:Nat}(h:autoParam (a<b) a2)(g:autoParam (b<=c) a4):a<=c:=cF (dH h) g
def w6{a b c:Nat}(h:autoParam (a=b) a2)(g:autoParam (b<=c) a4):a<=c:=cF (mY h) g
def w7{a b c:Nat}(h:autoParam (a=b) a2)(g:autoParam (b<=c) a2):a<=c:=cF (mY h) g
def w8{a b c d:Nat}(h:autoParam (a=b) a2)(g:autoParam (b<=c) a2)(k:autoParam (c<=d) a4):a<=d:=cF (mY h)<|cF g k
def w9{a b c d:Nat}(h:autoParam (b=a) a2)(g:autoParam (b<=c) a2)(k:autoParam (c<=d) a4):a<=d:=cF (mY h.f5)<|cF g k
def wa{a b c:Nat}(h:autoParam (a<b) a2)(g:autoParam (b<=c) a4):a<c:=f7 h g
def wb{a b c:Nat}(h:autoParam (a<=b) a2)(g:autoParam (b<c) a4):a<c:=yD h g
def wd{a b c d:Nat}(h:autoParam (a=b) a2)(g:autoParam (b<=c) a2)(k:autoParam (c<d) a4):a<d:=yD (mY h)<|yD g k
def wf{a b c:Nat}(h:autoParam (a<b) a2)(g:autoParam (b=c) a2):a<c:=Tu h g
def wg{a b c:Nat}(h:autoParam (a<b) a2)(g:autoParam (c=b) a2):a<c:=Tu h g.f5
def wh{a b c:Nat}(h:autoParam (a<b) a2)(g:autoParam (b<=c) a2):a<c:=f7 h g
def wi{a b c:Nat}(h:autoParam (a<=b) a2)(g:autoParam (b<c) a2):a<c:=yD h g
def wk{a b c m:Nat}(h:autoParam (a=b+m*c) a2)(g:autoParam (a<b) a4):False:=by omega
def wl{a b c m:Nat}(h:autoParam (b+m*c=a) a2)(g:autoParam (a<b) a4):False:=by omega
def wo{a b c:Nat}(h:autoParam (a=b) a2)(g:autoParam (b=c) a2):a=c:=h.f4 g
def wp{a b c:Nat}(h:autoParam (a=b) a2)(g:autoParam (c=b) a2):a=c:=h.f4 g.f5
def wr{a b c:Nat}(h:autoParam (a=b) a2)(g:autoParam (c<b) a2):c<a:=Tu g h.f5
def ws{a b c:Nat}(h:autoParam (a=b) a2)(g:autoParam (b<=c) a2):a<=c:=cF (mY h) g
def wu{a b c d e:Nat}(h:autoParam (a=b) a2)(g:autoParam (b=c) a2)(k:autoParam (c<=d) a2)(m:autoParam (d<=e) a4):a<=e:=cF (mY<|h.f4 g)<|cF k m
def xa{a b c d e:Nat}(h:autoParam (a<b) a2)(g:autoParam (b=c) a2)(k:autoParam (c<=d) a2)(m:autoParam (d<=e) a4):a<e:=f7 h<|cF (mY g)<|cF k m
def xc{a b c d e:Nat}(h:autoParam (a<b) a2)(g:autoParam (b=c) a2)(k:autoParam (c<=d) a2)(m:autoParam (d<=e) a4):a<=e:=cF (dH h)<|cF (mY g)<|cF k m
def xd{a:Nat}: a<=a+1:=jT a
def xe{a b:Nat}(h:autoParam (a<b) a2):a<=b+1:=tj<|dH h
def xf{a b:Nat}(h:autoParam (a<b) a2):a+1<=b:=h
def xi{a b c e:Nat}(h:autoParam (a<=b+1) a2)(g:autoParam (b<=c) a2)(k:autoParam (c+1<e) a4):a<e:=yD h<|yD (tm g) k
def xl{a n:Nat}: min a n<=a:=yH a n
def xm{a:Int}(h:autoParam (0<=a) a2):a=(a.toNat:Int):=(KU h).f5
end L2
namespace L2
abbrev dc:=Option Int ⊕ bx
instance apR:Coe (Option Int) dc:=⟨.inl⟩
noncomputable def alB:f_->Bool
 | .none=>c_
 | _=>d_
def DX:dc->f_->Bool
 | .inl (a_ k),v=>Value.isInt k v
 | .inl b_,v=>alB v
 | .inr x,v=>Value.isStrOf x v
noncomputable def anq(w:j_):dc->Int
 | .inl (a_ k)=>hashInt k
 | .inl b_=>4238894112
 | .inr x=>hashStr w x
def tO:∀{k:dc}{v:f_},DX k v=c_->(∃i t,k=.inl (a_ i)/\v=gq i t)\/(k=.inl b_/\v=jt)\/∃x t,k=.inr x/\v=q9 x t
 | .inl (a_ i),v,h=>by
  obtain⟨t,e⟩:=Value.isInt_shape (k:=i) (v:=v) h;exact .inl ⟨i,t,xz,e⟩
 | .inl b_,v,h=>by
  cases v <;> first | exact .inr (.inl ⟨xz,xz⟩) | cases h
 | .inr x,v,h=>by
  obtain⟨t,e⟩:=Value.isStrOf_shape (x:=x) (v:=v) h;exact .inr<|.inr ⟨x,t,xz,e⟩
def aeP(i:Int)(t:Tok):DX (.inl<|a_ i) (.int i t)=true:=by simp[DX,Value.isInt]
def ajJ(a b:Int):decide ((.inl (a_ a):dc)=.inl (a_ b))=(a==b):=by
 by_cases e:a=b
 .subst e;simp
 simp[e]
def ajI(a b:bx):decide ((.inr a:dc)=.inr b)=decide (a=b):=by
 by_cases e:a=b
 .subst e;simp
 simp 
def aeU{w:j_}(h:Q 4238894112 {s with toks:=s.toks+1}):am (ap prog w) A (pyHash .none) Q E s:=by
 refine W.pyHash_slot xz F.slot_NoneType_hash F.entry_NoneType_hash (F.args_NoneType_hash_1 _) xz (.inl xz)<|ah<|aI ?_
 exact gn (wpAny_ret_mkInt (Q:=λv a=>∃n t,v=gq n t/\Q (reduceHash n) a) ⟨_,_,xz,h⟩) (λfin a z=>by
  obtain⟨v,e,n,t,b,q⟩:=z;exact⟨n,t,by rw[e,b],q⟩) λ_ _ x=>x
def jd(prog:k_)(w:j_):PySem.KeyKind prog w dc where
 is:=DX
 hash:=anq w
 inj:=λv a b ha f=>by
  rcases tO ha with ⟨i,t,rfl,rfl⟩ | ⟨rfl,rfl⟩ | ⟨x,t,rfl,rfl⟩ <;> rcases tO f with ⟨j,u,rfl,e⟩ | ⟨rfl,e⟩ | ⟨y,u,rfl,e⟩ <;> first | rfl | (injection e with d _;rw[d]) | exact nomatch e
 byValue:=λk v h=>by
  rcases tO h with ⟨i,t,rfl,rfl⟩ | ⟨rfl,rfl⟩ | ⟨x,t,rfl,rfl⟩ <;> rfl
 pyHash:=λc h=>by
  obtain⟨i,t,rfl,rfl⟩|⟨rfl,rfl⟩|⟨x,t,rfl,rfl⟩:=tO c
  .exact wpAny_pyHash_int h
  .exact aeU h
  .exact wpAny_pyHash_str h
 eqBool:=λg c h=>by
  obtain⟨i,t,rfl,rfl⟩|⟨rfl,rfl⟩|⟨x,t,rfl,rfl⟩:=tO g
  .obtain⟨j,u,rfl,rfl⟩|⟨rfl,rfl⟩|⟨y,u,rfl,rfl⟩:=tO c
   .rw[ajJ]at h;exact K2 h
   .exact abQ i t _ _ _ _ h
   .exact abU i t y u _ _ _ _ h
  .obtain⟨j,u,rfl,rfl⟩|⟨rfl,rfl⟩|⟨y,u,rfl,rfl⟩:=tO c
   .exact abP j u _ _ _ _ h
   .exact kG (Lg (λ_=>ah<|A7<|aI h) λz=>dV xz z)
   .exact abO y u _ _ _ _ h
  .obtain⟨j,u,rfl,rfl⟩|⟨rfl,rfl⟩|⟨y,u,rfl,rfl⟩:=tO c
   .exact abT x t j u _ _ _ _ h
   .exact abN x t _ _ _ _ h
   .rw[ajI]at h;exact wpAny_eqBool_str h
 «strs»:=λk x t v h=>by
  obtain⟨i,u,rfl,e⟩|⟨rfl,e⟩|⟨y,u,rfl,e⟩:=tO h
  .exact nomatch e
  .exact nomatch e
  .injection e with d _
   subst d;cases v <;> rfl
set_option genInjectivity true in
inductive V where
 | aJ | bl (b:Bool) | int (i:Int) | str (x:bx) | qI (b:Array UInt8) | v9 (b:UInt64) | ref (a:e_) | ty (n:String)
 deriving DecidableEq
def d0:V->f_->Prop
 | .aJ,u=>u=jt
 | .bl b,u=>u=wZ b
 | .int i,u=>∃t,u=gq i t
 | .str x,u=>∃t,u=q9 x t
 | .qI b,u=>∃t,u=Value.bytes b t
 | .v9 b,u=>∃t,u=UL b t
 | .ref a,u=>u=bV a
 | .ty n,u=>u=qh n
abbrev d4:List V->List f_->Prop:=aA d0
def d4.length(r:d4 xs us):xs.length=us.length:=r_ r
theorem d4.get:∀{xs:List V}{us:List f_}{i:Nat}{x:V},d4 xs us->xs[i]?=a_ x->∃u,us[i]?=a_ u/\d0 x u
 | _,_,_,_,.nil,e=>by simp at e
 | _,_,0,_,.cons r _,e=>by simp at e;subst e;exact⟨_,xz,r⟩
 | _,_,i+1,x,.cons _ t,e=>by
  obtain⟨u,h1,h2⟩:=d4.get (i:=i) (x:=x) t (by simpa using e);exact⟨u,by simpa using h1,h2⟩
theorem d4.set(r:d0 x u):∀{xs:List V}{us:List f_}(i:Nat),d4 xs us->d4 (xs.set i x) (us.set i u)
 | _,_,_,.nil=>.nil
 | _,_,0,.cons _ t=>.cons r t
 | _,_,i+1,.cons q t=>.cons q<|d4.set r i t
theorem d4.append(h:d4 xs us)(s:d4 ys Y):d4 (xs++ys) (us++Y):=by
 induction h with|nil=>exact s|cons r _ i=>exact .cons r i
theorem d4.take:∀{xs:List V}{us:List f_}(n:Nat),d4 xs us->d4 (xs.take n) (us.take n)
 | _,_,0,_=>.nil
 | _,_,_+1,.nil=>.nil
 | _,_,n+1,.cons r t=>.cons r<|d4.take n t
theorem d4.drop:∀{xs:List V}{us:List f_}(n:Nat),d4 xs us->d4 (xs.drop n) (us.drop n)
 | _,_,0,r=>r
 | _,_,_+1,.nil=>.nil
 | _,_,n+1,.cons _ t=>d4.drop n t
def i0:Option V->Option f_->Prop
 | some v,a_ u=>d0 v u
 | none,b_=>True
 | _,_=>False
def KV{κ:Type}:List (κ×V)->List (κ×f_)->Prop:=aA λ(p:κ×V)(q:κ×f_)=>p.1=q.1/\d0 p.2 q.2
noncomputable def kV:dc->V
 | .inl (a_ i)=>.int i
 | .inl b_=>.aJ
 | .inr x=>.str x
inductive HO where
  | lst (xs:List V)
  | tup (xs:List V)
  | dK (fv:List (dc×V)) | dT (fv:List (List dc×V))
  | set (S:Int->Bool) (n:Nat)
  | ins (C dx:e_) (fs:List (bx×V))
  | own (x:e_)
  | xd (fs:List (bx×V))
  | met (f x:e_)
  | QL (lo hi:Int)
  | gZ (o:bE) (u:HO)
  | fX (ps:Array f_)
  | ext (φ:i_->Prop)
abbrev Hp:=e_->Option HO
noncomputable def cB(H:Hp)(a:e_)(o:HO):Hp:=λb=>if b=a then a_ o else H b
def av:cB H a o a=a_ o:=by unfold cB;rw[dL rfl]
def ag(h:b≠a):cB H a o b=H b:=by unfold cB;rw[dt h]
def pf:cB (cB H a o) a u=cB H a u:=by
 funext b;unfold cB;split <;> rfl
def gv{H:Hp}{a b:e_}{o u:HO}(h:H a=a_ o)(h':H b=a_ u)(d:o≠u):a≠b:=by
 intro e;subst e;rw[h]at h';exact d<|cI h'
def a7{H:Hp}{a b:e_}{o:HO}(h:H a=a_ o)(h':H b=b_):a≠b:=by
 intro e;subst e;rw[h]at h';cases h'
section
variable(P:k_)(w:j_)
noncomputable def dj(H:Hp)(h:i_)(a:e_):HO->Prop
 | .lst xs=>xs.length<=bp/\∃(b:List f_)(n:Nat),d4 xs b/\h.get? a=a_ {cls:=.type "list",data:=.seq b.toArray n}
 | .tup xs=>xs.length<=bp/\∃b:List f_,d4 xs b/\IsTup h a b.toArray
 | .dK fv=>fv.length<=bp/\(a==qg)=d_/\∃vs,KV fv vs/\h.DictOf (jd P w) a vs
 | .dT fv=>fv.length<=bp/\(a==qg)=d_/\∃xs:List (List dc×e_×f_),aA (λ(p:List dc×V)(q:List dc×e_×f_)=>p.1=q.1/\H q.2.1=a_ (.tup<|p.1.map kV)/\d0 p.2 q.2.2) fv xs/\
   ∃o es c,h.get? a=a_ o/\o.ExactDict/\o.data=.dict es c/\es.toList=xs.map (entryOfKey<|Bb<|jd P w)/\(xs.map (·.1)).Nodup
 | .set S n=>h.SetOf (intKind P w) a S n
 | .ins C dx fs=>H dx=a_ (.own a)/\fs.length<=1000/\dx≠a/\h.get? a=a_ (W.instObj C dx)/\
   ∃mA,h.Ns1 dx mA/\(∀f,i0 (fs.lookup f)<|mA f)/\PySem.Within mA (fs.map (·.1))
 | .own _=>∃o,h.get? a=a_ o
 | .xd fs=>∃mA,h.Ns1 a mA/\∀f,i0 (fs.lookup f)<|mA f
 | .QL lo hi=>∃t u v,h.get? a=a_ {cls:=.type "range",data:=.fields #[.int lo t,.int hi u,.int 1 v]}
 | .gZ o u=>h.get? a=a_ o/\dj H h a u
 | .fX ps=>h.get? a=a_ {cls:=.none,data:=.fields ps}
 | .met f x=>h.get? a=a_ (W.methodObj (.ref f)<|.ref x)
 | .ext φ=>φ h/\(∃o,h.get? a=a_ o)/\∀h1 h2:i_,φ h1->(∀o,h1.get? a=a_ o->h2.get? a=a_ o)->φ h2
def dR(H:Hp)(h:i_):Prop:=∀a o,H a=a_ o->dj P w H h a o
end
section
variable{P:k_}{w:j_}{H H':Hp}{h h':i_}{a:e_}{o:HO}
def dj.lt(x:dj P w H h a o):a<h.zH:=by
 cases o with
 | lst xs=>obtain⟨_,_,_,_,e⟩:=x;exact bH e
 | tup xs=>obtain⟨_,_,_,p⟩:=x;exact p.lt
 | dK fv=>obtain⟨_,_,_,_,o,_,_,e,_⟩:=x;exact bH e
 | dT fv=>obtain⟨_,_,_,_,o,_,_,e,_⟩:=x;exact bH e
 | set S n=>obtain⟨o,_,_,_,e,_⟩:=x;exact bH e
 | ins C dx fs=>obtain⟨_,_,_,e,_⟩:=x;exact bH e
 | own y=>obtain⟨_,e⟩:=x;exact bH e
 | xd fs=>obtain⟨_,⟨_,_,_,e,_⟩,_⟩:=x;exact bH e
 | QL lo hi=>obtain⟨_,_,_,e⟩:=x;exact bH e
 | gZ ob u=>obtain⟨e,_⟩:=x;exact bH e
 | fX ps=>exact bH x
 | met f y=>exact bH x
 | ext φ=>obtain⟨_,⟨_,e⟩,_⟩:=x;exact bH e
theorem df{c d:Type}{F G:c->d->Prop}{l:List c}{m:List d}(h:aA F l m)(f:∀a b,F a b->G a b):aA G l m:=by
 induction h with|nil=>exact .nil|cons r _ i=>exact .cons (f _ _ r) i
def dj.ou(x:dj P w H h a o)(k:∀b u,(b=a\/H b=a_ (.own a))->h.get? b=a_ u->h'.get? b=a_ u)(l:∀b,H b=a_ (.own a)->H' b=a_ (.own a))(m:∀b xs,H b=a_ (.tup xs)->H' b=a_ (.tup xs)):dj P w H' h' a o:=by
 induction o with
 | lst xs=>obtain⟨z,j,n,r,e⟩:=x;exact⟨z,j,n,r,k _ _ (.inl xz) e⟩
 | tup xs=>obtain⟨z,j,r,g,e,c⟩:=x;exact⟨z,j,r,g,k _ _ (.inl xz) e,c⟩
 | dK fv=>obtain⟨z,y,vs,r,g,es,i,e,c⟩:=x;exact⟨z,y,vs,r,g,es,i,k _ _ (.inl xz) e,c⟩
 | dT fv=>
  obtain⟨z,y,xs,r,g,es,i,e,c⟩:=x;exact⟨z,y,xs,df r λp q z=>⟨z.1,m _ _ z.2.1,z.2.2⟩,g,es,i,k _ _ (.inl xz) e,c⟩
 | set S n=>obtain⟨g,es,i,t,e,c⟩:=x;exact⟨g,es,i,t,k _ _ (.inl xz) e,c⟩
 | ins C dx fs=>
  obtain⟨d,z,ne,e,mA,⟨od,es,i,s,c⟩,r⟩:=x;exact⟨l _ d,z,ne,k _ _ (.inl xz) e,mA,⟨od,es,i,k _ _ (.inr d) s,c⟩,r⟩
 | own y=>obtain⟨g,e⟩:=x;exact⟨g,k _ _ (.inl xz) e⟩
 | xd fs=>obtain⟨mA,⟨od,es,i,e,c⟩,r⟩:=x;exact⟨mA,⟨od,es,i,k _ _ (.inl xz) e,c⟩,r⟩
 | QL lo hi=>obtain⟨t,u,v,e⟩:=x;exact⟨t,u,v,k _ _ (.inl xz) e⟩
 | gZ g u ih=>obtain⟨e,q⟩:=x;exact⟨k _ _ (.inl xz) e,ih q⟩
 | fX ps=>
  have e:=x;exact k a _ (.inl xz) e
 | met f y=>
  have e:=x;exact k a _ (.inl xz) e
 | ext φ=>obtain⟨p,⟨o,e⟩,st⟩:=x;exact⟨st _ _ p λo q=>k _ _ (.inl xz) q,⟨o,k _ _ (.inl xz) e⟩,st⟩
def dR.lt(x:dR P w H h)(e:H a=a_ o):a<h.zH:=(x a o e).lt
def dR.fresh(x:dR P w H h)(e:h.zH<=a):H a=none:=by
 rcases q:H a with _|u;rfl;exact dV (f7 (x.lt q) e)<|jR _
def dR.kept(x:dR P w H h)(k:∀b u,h.get? b=a_ u->h'.get? b=a_ u):dR P w H h':=λa o e=>
 (x a o e).ou (λb u _ q=>k b u q) (λ_ q=>q) λ_ _ q=>q
def dR.laid(x:dR P w H h)(k:∀b u,h.get? b=a_ u->h'.get? b=a_ u)(f:h.zH<=a)(new:dj P w (cB H a o) h' a o):dR P w (cB H a o) h':=λb u e=>by
 have hn:=x.fresh f
 by_cases d:b=a
 .subst d;rw[av]at e;cases e;exact new
 rw[ag d]at e;exact(x b u e).ou (λc v _ q=>k c v q) (λc q=>by rw[ag<|a7 q hn];exact q) λc xs q=>by rw[ag<|a7 q hn];exact q
end
def Rd(H:Hp)(a:e_)(u:HO):Prop:=H a=a_ u\/∃o,H a=a_ (.gZ o u)
def Rd.ok{P:k_}{w:j_}(r:Rd H a u)(x:dR P w H h):dj P w H h a u:=by
 obtain r|⟨o,r⟩:=r
 .exact x a u r
 obtain⟨_,q⟩:=x a _ r;exact q
def Eu:Option HO->Prop
 | some (.lst _)=>True
 | some (.dK _)=>True
 | some (.dT _)=>True
 | some (.set _ _)=>True
 | some (.ins _ _ _)=>True
 | some (.ext _)=>True
 | _=>False
section
variable{P:k_}{w:j_}{H:Hp}{h h':i_}{x e:e_}{o':HO}
def dR.write(ok:dR P w H h)(a:Eu (H x))(i:e=x\/H e=a_ (.own x))(k:∀b u,b≠e->h.get? b=a_ u->h'.get? b=a_ u)(m:∃u,h'.get? e=a_ u)(new:dj P w (cB H x o') h' x o'):dR P w (cB H x o') h':=λb u q=>by
 have j:∀c y,H c=a_ (.own y)->c≠x:=λc y r z=>by subst z;rw[r]at a;exact a
 have n:∀c xs,H c=a_ (.tup xs)->c≠x:=λc xs r z=>by subst z;rw[r]at a;exact a
 by_cases d:b=x
 .subst d;rw[av]at q;cases q;exact new
 rw[ag d]at q
 by_cases f:b=e
 .have l:H b=a_ (.own x):=by
   obtain z|z:=i
   .exact dV (f.f4 z) d
   rw[f];exact z
  rw[q]at l;cases l;obtain⟨v,o⟩:=m;exact⟨v,by rw[f];exact o⟩
 refine(ok b u q).ou (λc v g r=>k c v ?_ r) (λc r=>by rw[ag<|j c b r];exact r) λc xs r=>by rw[ag<|n c _ r];exact r
 obtain rfl|g:=g
 .exact f
 rintro rfl;obtain z|z:=i
 .exact j c b g z
 rw[g]at z;cases z;exact d xz
end
structure Un(fs ex:List e_)(H H':Hp)(h h':i_):Prop where
 keep:∀b o,h.get? b=a_ o->H b=b_->b∉fs->b∉ex->h'.get? b=a_ o
 slot:∀b o,h.get? b=a_ o->H b=b_->b∈fs->b∉ex->∃sl,h'.get? b=a_ {o with slots:=sl}
 free:∀b o,h.get? b=a_ o->H b=b_->b∉ex->H' b=b_
 there:∀b o,h.get? b=a_ o->b∉ex->∃o',h'.get? b=a_ o'
 pD:∀b xs,H b=a_ (.tup xs)->H' b=a_ (.tup xs)
 oC:∀b o u,H b=a_ (.gZ o u)->H' b=a_ (.gZ o u)
 oq:∀b ps,H b=a_ (.fX ps)->∃more,H' b=a_ (.fX<|ps++more)
section
variable{fs oU ex ex':List e_}{H H1 H2:Hp}{h h1 h2 h':i_}{a x e:e_}{o:HO}
def Un.any(u:Un fs ex H H1 h h1)(q:h.get? b=a_ ob)(n:H b=b_)(c:b∉ex):∃sl,h1.get? b=a_ {ob with slots:=sl}:=by
 by_cases d:b∈fs
 .exact u.slot b _ q n d c
 exact⟨ob.slots,u.keep b _ q n d c⟩
def Un.kept(k:∀b u,h.get? b=a_ u->h'.get? b=a_ u):Un fs ex H H h h':=
 ⟨λb c q _ _ _=>k b c q,λb c q _ _ _=>⟨c.slots,k b c q⟩,λ_ _ _ n _=>n,λb c q _=>⟨c,k b c q⟩,λ_ _ q=>q,λ_ _ _ q=>q,λ_ ps q=>⟨#[],by rw[q];simp⟩⟩
def Un.refl:Un fs ex H H h h:=Un.kept λ_ _ q=>q
def Un.laid(k:∀b u,h.get? b=a_ u->h'.get? b=a_ u)(c:h.zH<=a)(hn:H a=b_):Un fs ex H (cB H a o) h h' where
 keep:=λb u q _ _ _=>k b u q
 slot:=λb u q _ _ _=>⟨u.slots,k b u q⟩
 free:=λb u q n _=>by rw[ag<|dg<|f7 (bH q) c];exact n
 there:=λb u q _=>⟨u,k b u q⟩
 pD:=λb xs q=>by rw[ag<|a7 q hn];exact q
 oC:=λb u xs q=>by rw[ag<|a7 q hn];exact q
 oq:=λb ps q=>⟨#[],by rw[ag<|a7 q hn,q];simp⟩
def Un.write(c:Eu (H x))(i:e=x\/H e=a_ (.own x))(k:∀b u,b≠e->h.get? b=a_ u->h'.get? b=a_ u)(j:∃u,h'.get? e=a_ u):Un fs ex H (cB H x o) h h':=by
 have d:∀b,H b=b_->b≠x:=λb n z=>by subst z;rw[n]at c;exact c
 have f:∀b,H b=b_->b≠e:=λb n z=>by
  subst z;obtain r|r:=i
  .exact d b n r
  rw[n]at r;cases r
 have hm:∀b u,H b=a_ u->¬Eu (a_ u)->b≠x:=λb u q nm z=>by subst z;rw[q]at c;exact nm c
 refine⟨λb u q n _ _=>k b u (f b n) q,λb u q n _ _=>⟨u.slots,k b u (f b n) q⟩,λb u q n _=>by rw[ag<|d b n];exact n,λb u q _=>?_,λb xs q=>by rw[ag (hm b _ q λz=>z)];exact q,λb u xs q=>by rw[ag (hm b _ q λz=>z)];exact q,λb ps q=>⟨#[],by rw[ag (hm b _ q λz=>z),q];simp⟩⟩
 by_cases g:b=e
 .subst g;exact j
 exact⟨u,k b u g q⟩
end
def Jl(h:i_)(H:Hp):List Addr:=(List.range h.zH).filter λa=>(H a).isSome
def uh(h:i_)(H:Hp):Heap:=W.hideAll h<|Jl h H
def aeT(h:i_)(H:Hp):(uh h H).zH=h.zH:=W.hideAll_size _ _
def agt(e:h.get? b=a_ o)(n:H b=b_):(uh h H).get? b=a_ o:=
 W.hideAll_get _ e λhm=>by
  have q:=(lu.mp hm).2;rw[n]at q;simp at q
def ahX(e:(uh h H).get? b=a_ o):h.get? b=a_ o/\H b=none:=by
 have a:=W.of_hideAll _ e;refine⟨a,?_⟩;rcases q:H b with _|x;rfl;have hm:b∈Jl h H:=lu.mpr ⟨iC.mpr<|bH a,by simp[q]⟩;have z:(uh h H).get? b=none:=W.hideAll_none _ hm;rw[z]at e;cases e
def Hr(g h:i_)(L:e_):List (e_×bE):=(List.range h.zH).filterMap λa=>if a=L\/(g.get? a).isSome=c_ then b_ else (h.get? a).map λo=>(a,o)
def ac'(h1:a≠L)(h2:g.get? a=b_)(h3:h.get? a=a_ o):(a,o)∈Hr g h L:=
 oX.mpr ⟨a,iC.mpr<|bH h3,by simp[h1,h2,h3]⟩
def acB(a:p∈Hr g h L):p.1≠L/\g.get? p.1=b_/\h.get? p.1=a_ p.2:=by
 obtain⟨b,_,e⟩:=oX.mp a
 split at e
 .cases e
 rename_i hn
 cases q:h.get? b with
 | none=>rw[q]at e;simp at e
 | some u=>
  rw[q]at e;simp only[FP,FC]at e;subst e;refine⟨λz=>hn<|.inl z,?_,q⟩;rcases r:g.get? b with _|v;rfl;exact(hn<|.inr<|by simp[r]).elim
def af':News g L h (Hr g h L):=λp d=>let ⟨a,b,c⟩:=acB d;⟨c,a,b⟩
structure Mod(K:u_)(mg:bx->Option f_)(base:i_):Prop where
 se:K.In base
 glob:base.Ns fw mg
 blt:∃mb,base.Ns tP mb/\∀x:bx,x ≠ "__name__"->mb x=tI x
 nolimit:base.NoLimit
structure Cx where
 prog:k_
 w:j_
 K:u_
 mg:bx->Option f_
 base:i_
 A:h_
 N:List bx
 s₀:g_
 H₀:Hp
 env:Env
 outer:List Env
 stack:List Env
 ex:List e_
 fn:bx->Bool
 calm:Bool
 pn:List (e_×bE)
 xe:f_->g_->Prop
noncomputable def kX(l:List Env):List Addr:=l.filterMap (·.frame)
abbrev Cx.fs(X:Cx):List Addr:=kX X.outer
def QU(sc:bK)(x:bx):Prop:=sc.names.lookup x=a_ .local\/sc.names.lookup x=a_ .cell\/sc.names.lookup x=a_ .free
def iv(sc:bK)(x:bx):Prop:=sc.names.lookup x=a_ .local\/sc.names.lookup x=a_ .cell
def Look(env:Env)(h:i_)(m:bx->Option f_)(x:bx)(u:f_):Prop:=
 (env.kindOf x=a_ .local/\m x=a_ u)\/((env.kindOf x=a_ .cell\/env.kindOf x=a_ .free)/\∃c,env.cells.lookup x=a_ c/\h.IsCell c (a_ u))
structure Cx.Ok(X:Cx):Prop where
 mod:Mod X.K X.mg X.base
 kind:X.env.scope.kind=.function
 glob:X.env.globals=fw
 blt:X.env.builtins=tP
 above:X.s₀.zS<=X.env.locals
 inj:∀x y c,X.env.cells.lookup x=a_ c->X.env.cells.lookup y=a_ c->x=y
 has:∀x,(X.env.kindOf x=a_ .cell\/X.env.kindOf x=a_ .free)->∃c,X.env.cells.lookup x=a_ c
 uA:∀x c,X.fn x=c_->X.env.cells.lookup x=a_ c->X.s₀.zS<=c
 hd:X.calm=c_->X.A.handled=b_
 frames:X.A.frames=a_ X.stack
 v3:X.stack=X.outer\/(X.stack=X.env::X.outer/\X.env.frame=a_ X.env.locals)
 sg:∀b∈X.ex,b≠X.env.locals/\∀x c,X.env.cells.lookup x=a_ c->c≠b
 bs:∀b o,X.base.get? b=a_ o->X.s₀.heap.get? b=a_ o/\X.H₀ b=b_
 mH:X.base.zH<=X.s₀.zS
 ug:∀b o,X.base.get? b=a_ o->b∉X.ex
 rW:∀b∈X.ex,b∉X.fs
 lH:X.s₀.heap.FunFrames X.base X.outer
 qH:∀b∈X.fs,X.H₀ b=b_
structure cP(X:Cx)(p_:List (e_×bE))(σ:List (Option V))(H:Hp)(s:g_):Prop where
 ok:X.Ok
 os:s.os=X.s₀.os
 bare:AllBare s.gens
 base:Un X.fs X.ex X.H₀ H X.s₀.heap s.heap
 loc:∃m,s.heap.Ns X.env.locals m/\∀(i:Nat)(x:bx)(v:V),X.N[i]?=a_ x->σ[i]?=a_ (a_ v)->QU X.env.scope x->∃u,d0 v u/\Look X.env s.heap m x u
 cell:∀x c,X.env.cells.lookup x=a_ c->∃v,s.heap.IsCell c v
 free:H X.env.locals=b_
 jg:∀x c,X.env.cells.lookup x=a_ c->H c=b_
 pin:∀p∈X.pn++p_,s.heap.get? p.1=a_ p.2/\H p.1=b_/\p.1≠X.env.locals/\p.1∉X.fs/\∀v,p.2.data≠.cell v
 aE:dR X.prog X.w H s.heap
 len:σ.length=X.N.length
section
variable{X:Cx}{p_:List (e_×bE)}{σ:List (Option V)}{H H':Hp}{s:g_}{h':i_}
def Cx.Ok.anm(ok:X.Ok)(e:X.base.get? b=a_ o):b∉X.fs:=λa=>by
 have:=(ok.lH.mem a).1;rw[e]at this;cases this
def cP.bs(I:cP X p_ σ H s):∀b o,X.base.get? b=a_ o->s.heap.get? b=a_ o/\H b=none:=λb o e=>
 ⟨I.base.keep b o (I.ok.bs b o e).1 (I.ok.bs b o e).2 (I.ok.anm e)<|I.ok.ug b o e,I.base.free b o (I.ok.bs b o e).1 (I.ok.bs b o e).2<|I.ok.ug b o e⟩
def cP.bk(I:cP X p_ σ H s):∀b o,X.base.get? b=a_ o->s.heap.get? b=a_ o:=λb o e=>(I.bs b o e).1
def cP.mod(I:cP X p_ σ H s):Mod X.K X.mg X.base:=I.ok.mod
def cP.dI(I:cP X p_ σ H s):X.K.In s.heap:=I.ok.mod.se.keeps I.bk
def cP.nolimit(I:cP X p_ σ H s):s.heap.NoLimit:=I.ok.mod.nolimit.keeps I.bk
def cP.fr(I:cP X p_ σ H s):∃m,Fr X.base X.env.locals s.heap m:=
 let ⟨m,hn,_⟩:=I.loc
 ⟨m,hn,I.bk,cF I.ok.mH I.ok.above⟩
def cP.lt(I:cP X p_ σ H s):X.env.locals<s.zS:=let ⟨_,hn,_⟩:=I.loc;hn.lt
def cP.sz(I:cP X p_ σ H s):X.s₀.zS<=s.zS:=cF I.ok.above<|dH I.lt
def cP.Z1(I:cP X p_ σ H s)(h:s.zS<=a):a∉X.fs:=λb=>by
 obtain⟨_,o,c,_⟩:=I.ok.lH.mem b;exact dV (f7 (bH c)<|cF I.sz h)<|jR _
def cP.wj(I:cP X p_ σ H s):∀x c,X.env.cells.lookup x=a_ c->c≠X.env.locals:=λx c e z=>by
 obtain⟨v,o,a,hd⟩:=I.cell x c e;obtain⟨m,⟨o',es,f,b,d,_⟩,_⟩:=I.loc;rw[z,b]at a;cases a;rw[d]at hd;cases hd
def cP.lH(I:cP X p_ σ H s):s.heap.FunFrames X.base X.outer:=by
 have all:∀(l:List Env),(∀b∈kX l,b∈X.fs)->X.s₀.heap.FunFrames X.base l->s.heap.FunFrames X.base l:=by
  intro l
  induction l with
  | nil=>intro _ _;trivial
  | cons env r ih=>
   intro f g;obtain⟨h,⟨L,o,a,hn,i,hd⟩,j⟩:=g;have c:=f L (by unfold kX;rw[KS,a];exact gg);obtain⟨sl,e⟩:=I.base.slot L o i (I.ok.qH L c) c λz=>I.ok.rW L z c;exact⟨h,⟨L,_,a,hn,e,hd⟩,ih (λb d=>f b<|by unfold kX;rw[KS,a];exact eI _ d) j⟩
 exact all _ (λ_ d=>d) I.ok.lH
def cP.stack(I:cP X p_ σ H s):s.heap.FunFrames X.base X.stack:=by
 obtain e|⟨e,a⟩:=I.ok.v3
 .rw[e];exact I.lH
 rw[e];obtain⟨m,hn,_⟩:=I.loc;exact .cons (by rw[I.ok.kind];decide) a hn (Heap.get?_none_of_le<|cF I.ok.mH I.ok.above) I.lH
def cP.Ht(I:cP X p_ σ H s):∀b∈kX X.stack,b∈X.env.locals::X.fs:=λb a=>by
 obtain e|⟨e,c⟩:=I.ok.v3
 .rw[e]at a;exact eI _ a
 rw[e]at a;unfold kX at a;rw[KS,c]at a;exact a
def cP.G6(I:cP X p_ σ H s):∀b∈kX X.stack,H b=none:=λb a=>by
 rcases bq.mp (I.Ht b a)with e | a
 .rw[e];exact I.free
 obtain⟨_,o,c,_⟩:=I.ok.lH.mem a;exact I.base.free b o c (I.ok.qH b a) λz=>I.ok.rW b z a
def cP.step{g':Array GenState}{t':Nat}{d':Drawn}{ch:List e_}(I:cP X p_ σ H s)(j:∀b∈ch,(b∈X.ex\/X.s₀.zS<=b)/\b≠X.env.locals/\(∀x c,X.env.cells.lookup x=a_ c->c≠b)/\∀p∈X.pn++p_,p.1≠b)(keep:∀b o,b≠X.env.locals->b∉X.fs->b∉ch->s.heap.get? b=a_ o->H b=b_->h'.get? b=a_ o)(slot:∀b o,b≠X.env.locals->b∈X.fs->b∉ch->s.heap.get? b=a_ o->H b=b_->∃sl,h'.get? b=a_ {o with slots:=sl})(free:∀b o,b∉ch->s.heap.get? b=a_ o->H b=b_->H' b=b_)(there:∀b o,b∉ch->s.heap.get? b=a_ o->∃o',h'.get? b=a_ o')(pD:∀b xs,H b=a_ (.tup xs)->H' b=a_ (.tup xs))(oC:∀b o u,H b=a_ (.gZ o u)->H' b=a_ (.gZ o u))(oq:∀b ps,H b=a_ (.fX ps)->∃more,H' b=a_ (.fX<|ps++more))(ns:∀m,s.heap.Ns X.env.locals m->h'.Ns X.env.locals m)(aE:dR X.prog X.w H' h')(G:AllBare g'):cP X p_ σ H' {s with heap:=h',gens:=g',drawn:=d',toks:=t'}:=by
 have B:∀b o,X.s₀.heap.get? b=a_ o->b≠X.env.locals:=λb o e=>dg<|f7 (bH e) I.ok.above
 have A:∀b o,X.s₀.heap.get? b=a_ o->b∉X.ex->b∉ch:=λb o e a g=>by
  rcases(j b g).1 with z | z
  .exact a z
  exact dV (f7 (bH e) z) (jR _)
 have C:∀x c,X.env.cells.lookup x=a_ c->∀v,s.heap.IsCell c v->h'.IsCell c v:=λx c e v⟨o,h,hd⟩=>by
  have t:c∉ch:=λz=>(j c z).2.2.1 x c e xz
  by_cases D:c∈X.fs
  .obtain⟨sl,q⟩:=slot c o (I.wj x c e) D t h<|I.jg x c e;exact⟨_,q,hd⟩
  exact⟨o,keep c o (I.wj x c e) D t h<|I.jg x c e,hd⟩
 refine⟨I.ok,I.os,G,⟨λb o e n g a=>?_,λb o e n g a=>?_,λb o e n a=>?_,λb o e a=>?_,λb xs e=>pD b _<|I.base.pD b _ e,λb o xs e=>oC b o _<|I.base.oC b o _ e,λb ps e=>?_⟩,?_,λx c e=>?_,?_,λx c e=>?_,λp E=>?_,aE,I.len⟩
 .exact keep b o (B b o e) g (A b o e a) (I.base.keep b o e n g a) (I.base.free b o e n a)
 .obtain⟨sl,f⟩:=I.base.slot b o e n g a;obtain⟨J,y⟩:=slot b _ (B b o e) g (A b o e a) f<|I.base.free b o e n a;exact⟨J,y⟩
 .obtain⟨o',f⟩:=I.base.there b o e a;exact free b _ (A b o e a) f<|I.base.free b o e n a
 .obtain⟨o',f⟩:=I.base.there b o e a;exact there b _ (A b o e a) f
 .obtain⟨K,f⟩:=I.base.oq b _ e;obtain⟨L,y⟩:=oq b _ f;exact⟨K++L,by rw[y,Array.append_assoc]⟩
 .obtain⟨m,hn,M⟩:=I.loc;refine⟨m,ns m hn,λi x v f y N=>?_⟩;obtain⟨u,r,l⟩:=M i x v f y N;refine⟨u,r,?_⟩;obtain l|⟨k,c,e,z⟩:=l
  .exact .inl l
  exact .inr ⟨k,c,e,C x c e _ z⟩
 .obtain⟨v,z⟩:=I.cell x c e;exact⟨v,C x c e v z⟩
 .obtain⟨m,⟨o,_,_,h,_⟩,_⟩:=I.loc;exact free _ o (λz=>(j _ z).2.1 xz) h I.free
 .obtain⟨v,o,h,hd⟩:=I.cell x c e;exact free c o (λz=>(j c z).2.2.1 x c e xz) h<|I.jg x c e
 obtain⟨e,n,ne,F,d⟩:=I.pin p E;have t:p.1∉ch:=λz=>(j _ z).2.2.2 p E rfl;exact⟨keep _ _ ne F t e n,free _ _ t e n,ne,F,d⟩
def cP.un{t':Nat}(I:cP X p_ σ H s)(u:Un X.fs [] H H' s.heap h')(aE:dR X.prog X.w H' h'):cP X p_ σ H' {s with heap:=h',toks:=t'}:=by
 obtain⟨m,⟨o,es,j,c,r⟩,_⟩:=id I.loc;obtain⟨sl,f⟩:=u.any c I.free (by simp)
 exact I.step (g':=s.gens) (d':=s.drawn) (ch:=[]) (λ_ z=>nomatch z) (λb o _ a _ e n=>u.keep b o e n a<|by simp) (λb o _ a _ e n=>u.slot b o e n a<|by simp) (λb o _ e n=>u.free b o e n<|by simp) (λb o _ e=>u.there b o e<|by simp) u.pD u.oC u.oq (λk hm=>by
  obtain⟨o',g,h,d,i⟩:=hm;rw[c]at d;cases d;exact⟨_,g,h,f,i⟩) aE I.bare
def cP.call{g':Array GenState}{t':Nat}{d':Drawn}{ch:List e_}(I:cP X p_ σ H s)(u:Un (kX X.stack) ch H H' s.heap h')(aE:dR X.prog X.w H' h')(i:AllBare g')(f:∀b∈ch,(b∈X.ex\/X.s₀.zS<=b)/\b≠X.env.locals/\(∀x c,X.env.cells.lookup x=a_ c->c≠b)/\∀p∈X.pn++p_,p.1≠b):cP X p_ σ H' {s with heap:=h',gens:=g',drawn:=d',toks:=t'}:=by
 obtain⟨m,⟨o,es,t,g,r⟩,_⟩:=id I.loc;obtain⟨sl,d⟩:=u.any g I.free λz=>(f _ z).2.1 xz
 exact I.step (ch:=ch) f (λb o d j a e n=>u.keep b o e n (λz=>(bq.mp<|I.Ht b z).elim d j) a) (λb o _ _ a e n=>u.any e n a) (λb o a e n=>u.free b o e n a) (λb o a e=>u.there b o e a) u.pD u.oC u.oq (λv hm=>by
  obtain⟨o',k,l,h,q⟩:=hm;rw[g]at h;cases h;exact⟨_,k,l,d,q⟩) aE i
def cP.turned{t':Nat}{it:e_}(I:cP X p_ σ H s)(k:∀b o,b≠it->s.heap.get? b=a_ o->h'.get? b=a_ o)(hn:H it=b_)(d:it≠X.env.locals)(h1:it∈X.ex\/X.s₀.zS<=it)(h2:∀x c,X.env.cells.lookup x=a_ c->c≠it)(h3:∀p∈X.pn++p_,p.1≠it):cP X p_ σ H {s with heap:=h',toks:=t'}:=by
 have f:∀b u,H b=a_ u->b≠it:=λb u e z=>by rw[z,hn]at e;cases e
 refine I.step (g':=s.gens) (d':=s.drawn) (ch:=[it]) (λb g=>?_) (λb o _ _ a e _=>k b o (λz=>a<|by simp[z]) e) (λb o _ _ a e _=>⟨o.slots,k b o (λz=>a<|by simp[z]) e⟩) (λ_ _ _ _ n=>n)
  (λb o a e=>⟨o,k b o (λz=>a<|by simp[z]) e⟩) (λ_ _ e=>e) (λ_ _ _ e=>e) (λb ps e=>⟨#[],by rw[e];simp⟩) (λm hm=>?_) (λb u e=>?_) I.bare
 .have e:b=it:=by simpa using g
  subst e;exact⟨h1,d,h2,h3⟩
 .obtain⟨o,es,h,i,r⟩:=hm;exact⟨o,es,h,k _ o (b8 d) i,r⟩
 refine(I.aE b u e).ou (λc v a q=>k c v ?_ q) (λ_ q=>q) λ_ _ q=>q;obtain z|z:=a
 .rw[z];exact f b u e
 exact f c _ z
def cP.tok(I:cP X p_ σ H s)(t:Nat):cP X p_ σ H {s with toks:=t}:=I.un Un.refl I.aE
def cP.kept(I:cP X p_ σ H s)(k:∀b u,s.heap.get? b=a_ u->h'.get? b=a_ u):cP X p_ σ H {s with heap:=h',toks:=t'}:=I.un (Un.kept k)<|I.aE.kept k
def cP.laid(I:cP X p_ σ H s)(k:∀b u,s.heap.get? b=a_ u->h'.get? b=a_ u)(c:s.zS<=a)(new:dj X.prog X.w (cB H a o) h' a o):cP X p_ σ (cB H a o) {s with heap:=h',toks:=t'}:=I.un (Un.laid k c<|I.aE.fresh c)<|I.aE.laid k c new
def cP.write(I:cP X p_ σ H s)(a:Eu (H x))(c:e=x\/H e=a_ (.own x))(k:∀b u,b≠e->s.heap.get? b=a_ u->h'.get? b=a_ u)(d:∃u,h'.get? e=a_ u)(new:dj X.prog X.w (cB H x o) h' x o):cP X p_ σ (cB H x o) {s with heap:=h',toks:=t'}:=I.un (Un.write a c k d)<|I.aE.write a c k d new
def cP.weak(I:cP X p_ σ H s)(a:σ'.length=σ.length)(w:∀(i:Nat)v,σ'[i]?=a_ (a_ v)->σ[i]?=a_ (a_ v)):cP X p_ σ' H s:=
 ⟨I.ok,I.os,I.bare,I.base,let ⟨m,hn,sH⟩:=I.loc;⟨m,hn,λi x v b c d=>sH i x v b (w i v c) d⟩,I.cell,I.free,I.jg,I.pin,I.aE,a.f4 I.len⟩
def cP.xr(I:cP X p_ σ H s)(h:∀p∈amC,s.heap.get? p.1=a_ p.2/\H p.1=b_/\p.1≠X.env.locals/\p.1∉X.fs/\∀v,p.2.data≠.cell v):cP X amC σ H s:=
 ⟨I.ok,I.os,I.bare,I.base,I.loc,I.cell,I.free,I.jg,λp a=>(cp.mp a).elim (λz=>I.pin p<|jo _ z)<|h p,I.aE,I.len⟩
def MS{N:List bx}(c:N.Nodup){i j:Nat}{x:bx}(a:N[i]?=a_ x)(b:N[j]?=a_ x):i=j:=by
 obtain⟨h1,d⟩:=bu.mp a;obtain⟨h2,e⟩:=bu.mp b;exact(ack c).mp (d.f4 e.f5)
def Vm{M:bL}{A:h_}{E:f_->g_->Prop}{i:Nat}{x:bx}{v:V}{u:f_}{Q:Unit->g_->Prop}(I:cP X p_ σ H s)(W:X.N.Nodup)(hi:X.N[i]?=a_ x)(t:iv X.env.scope x)(r:d0 v u)
  (h:∀G,cP X p_ (σ.set i<|a_ v) H G->(∃a,o7 a s.heap G.heap/\(a=X.env.locals\/X.env.cells.lookup x=a_ a))->Q () G) (hf:X.fn x=c_\/X.env.scope.names.lookup x=a_ .local:=by first | exact .inl xz | exact .inr xz | assumption):am M A (storeName X.env x u) Q E s:=by
 obtain⟨m,hn,Y⟩:=id I.loc;have QD:(X.env.scope.kind==.class||(X.env.scope.kind==.module&&X.env.locals != X.env.globals))=false:=by rw[I.ok.kind];rfl
 have Z:i < σ.length:=by rw[I.len];exact(bu.mp hi).1
 have wj:=I.wj
 have tracked:∀{a:e_}{h':i_},(∃o,s.heap.get? a=a_ o/\H a=b_)->o7 a s.heap h'->dR X.prog X.w H h':=λ{a h'}ha f b ob e=>by
  obtain⟨_,_,ZK⟩:=ha;refine(I.aE b _ e).ou (λc J l q=>(f.2 c ?_).f4 q) (λ_ q=>q) λ_ _ q=>q;rintro rfl;obtain rfl|l:=l
  .rw[ZK]at e;cases e
  rw[ZK]at l;cases l
 obtain C|C:=t
 .refine wpAny_storeName_local C hn (λh' yq f=>?_) QD;obtain⟨oL,_,_,hoL,_⟩:=id hn;refine h _ ⟨I.ok,I.os,I.bare,⟨λb o e n D t=>?_,λb o e n D t=>?_,I.base.free,λb o e t=>?_,I.base.pD,I.base.oC,I.base.oq⟩,⟨_,yq,λj y K g B L=>?_⟩,λy c e=>?_,I.free,I.jg,λp O=>?_,tracked ⟨oL,hoL,I.free⟩ f,by simpa using I.len⟩ ⟨_,f,.inl xz⟩
  .exact(f.2 b<|dg<|f7 (bH e) I.ok.above).f4 (I.base.keep b o e n D t)
  .obtain⟨sl,g⟩:=I.base.slot b o e n D t;exact⟨sl,(f.2 b<|dg<|f7 (bH e) I.ok.above).f4 g⟩
  .obtain⟨o',g⟩:=I.base.there b o e t;exact⟨o',(f.2 b<|dg<|f7 (bH e) I.ok.above).f4 g⟩
  .by_cases F:j=i
   .subst F;rw[hi]at g;cases g;rw[lU Z]at B;cases B;exact⟨u,r,.inl ⟨C,by simp⟩⟩
   rw[Cw<|b8 F]at B;obtain⟨P,R,q⟩:=Y j y K g B L;refine⟨P,R,?_⟩;obtain⟨k,e⟩|⟨k,c,e,z⟩:=q
   .refine .inl ⟨k,?_⟩;have:y≠x:=λe=>F<|MS W g<|e ▸ hi;simp[this,e]
   exact .inr ⟨k,c,e,z.sameBut f<|wj y c e⟩
  .obtain⟨J,z⟩:=I.cell y c e;exact⟨J,z.sameBut f<|wj y c e⟩
  obtain⟨e,n,ne,S,d⟩:=I.pin p O;exact⟨(f.2 _ ne).f4 e,n,ne,S,d⟩
 have T:X.fn x=true:=by
  obtain z|z:=hf
  .exact z
  rw[z]at C;cases C
 obtain⟨c,l⟩:=I.ok.has x<|.inl C;obtain⟨J,z⟩:=I.cell x c l;refine wpAny_storeName_cell I.ok.kind C l z λh' sL f=>?_;obtain⟨oc,Ar,an9⟩:=id z;refine h {s with heap:=h'} ⟨I.ok,I.os,I.bare,⟨λb o e n D t=>?_,λb o e n D t=>?_,I.base.free,λb o e t=>?_,I.base.pD,I.base.oC,I.base.oq⟩,⟨m,hn.sameBut f<|b8<|wj x c l,λj y K g B L=>?_⟩,λy U e=>?_,I.free,I.jg,λp O=>?_,tracked ⟨oc,Ar,I.jg x c l⟩ f,by simpa using I.len⟩ ⟨c,f,.inr l⟩
 .exact(f.2 b<|dg<|f7 (bH e)<|I.ok.uA x c T l).f4 (I.base.keep b o e n D t)
 .obtain⟨sl,g⟩:=I.base.slot b o e n D t;exact⟨sl,(f.2 b<|dg<|f7 (bH e)<|I.ok.uA x c T l).f4 g⟩
 .obtain⟨o',g⟩:=I.base.there b o e t;exact⟨o',(f.2 b<|dg<|f7 (bH e)<|I.ok.uA x c T l).f4 g⟩
 .by_cases F:j=i
  .subst F;rw[hi]at g;cases g;rw[lU Z]at B;cases B;exact⟨u,r,.inr ⟨.inl C,c,l,sL⟩⟩
  rw[Cw<|b8 F]at B;obtain⟨P,R,q⟩:=Y j y K g B L;refine⟨P,R,?_⟩;obtain q|⟨k,U,e,z'⟩:=q
  .exact .inl q
  refine .inr ⟨k,U,e,z'.sameBut f ?_⟩;rintro rfl;exact F<|MS W g<|I.ok.inj _ _ _ e l ▸ hi
 .by_cases hcc:U=c
  .subst hcc;exact⟨_,sL⟩
  obtain⟨w2,z2⟩:=I.cell y _ e;exact⟨w2,z2.sameBut f hcc⟩
 obtain⟨e,n,ne,S,d⟩:=I.pin p O;refine⟨(f.2 _ ?_).f4 e,n,ne,S,d⟩;intro q;rw[q,Ar]at e;exact d _ (by rw[<-(cI e)];exact an9)
def Mu(I:cP X p_ σ H s)(b:X.N.Nodup)(hi:X.N[i]?=a_ x)(c:iv X.env.scope x)(r:d0 v u)
  (h:∀a,cP X p_ (σ.set i<|a_ v) H a->Q () a) (d:X.fn x=c_\/X.env.scope.names.lookup x=a_ .local:=by first | exact .inl xz | exact .inr xz | assumption):am M A (storeName X.env x u) Q E s:=
 Vm I b hi c r (λa e _=>h a e) d
def cP.Pp(I:cP X p_ σ H s)(a:s'.os=s.os)(u:Un (kX X.stack) ch H H' s.heap s'.heap)(aE:dR X.prog X.w H' s'.heap)(d:AllBare s'.gens)(f:∀b∈ch,(b∈X.ex\/X.s₀.zS<=b)/\b≠X.env.locals/\(∀x c,X.env.cells.lookup x=a_ c->c≠b)/\∀p∈X.pn++p_,p.1≠b):cP X p_ σ H' s':=by
 obtain⟨h',g',d',t',o'⟩:=s';have e:=a;subst e;exact I.call u aE d f
end
abbrev XK:=f_->Option e_->Hp->Prop
abbrev St:=List<|Option V
abbrev VK:=V->Hp->Prop
abbrev TE:=St->Hp->VK->Prop
abbrev TT:=St->Hp->(Bool->Hp->Prop)->Prop
abbrev TA:=St->Hp->(List V->Hp->Prop)->Prop
structure Ends where
 nx:St->Hp->Prop
 rt:VK
 bk:St->Hp->Prop:=λ_ _=>False
 ct:St->Hp->Prop:=λ_ _=>False
abbrev TS:=Ends->St->Hp->Prop
def EP(X:Cx)(p_:List (e_×bE))(σ:St)(Q:VK)(u:f_)(a:g_):Prop:=∃v H',cP X p_ σ H' a/\d0 v u/\Q v H'
def TP(X:Cx)(p_:List (e_×bE))(σ:St)(Q:Bool->Hp->Prop)(b:Bool)(a:g_):Prop:=∃H',cP X p_ σ H' a/\Q b H'
def AP(X:Cx)(p_:List (e_×bE))(σ:St)(Q:List V->Hp->Prop)(us:List f_)(a:g_):Prop:=∃vs H',cP X p_ σ H' a/\d4 vs us/\Q vs H'
def SP(X:Cx)(p_:List (e_×bE))(D:Ends)(f:Flow)(b:g_):Prop:=
 match f with
 | .next=>∃a H',cP X p_ a H' b/\D.nx a H'
 | .brk=>∃a H',cP X p_ a H' b/\D.bk a H'
 | .cont=>∃a H',cP X p_ a H' b/\D.ct a H'
 | .ret u=>∃v a H',cP X p_ a H' b/\d0 v u/\D.rt v H'
def PE(X:Cx)(e:b4)(t:TE):Prop:=
 ∀(p_:List (e_×bE))(s:g_)(σ:St)(H:Hp)(Q:VK),cP X p_ σ H s->t σ H Q->am (ap X.prog X.w) X.A (eval e X.env) (EP X p_ σ Q) X.xe s
def PT(X:Cx)(e:b4)(t:TT):Prop:=
 ∀(p_:List (e_×bE))(s:g_)(σ:St)(H:Hp)(Q:Bool->Hp->Prop),cP X p_ σ H s->t σ H Q->am (ap X.prog X.w) X.A (isTrue e X.env<|eval e X.env) (TP X p_ σ Q) X.xe s
def PW(X:Cx)(e:b4)(t:TT):Prop:=
 ∀(a:Sem f_)(p_:List (e_×bE))(s:g_)(σ:St)(H:Hp)(Q:Bool->Hp->Prop),cP X p_ σ H s->t σ H Q->am (ap X.prog X.w) X.A (isTrue e X.env a) (TP X p_ σ Q) X.xe s
def PW.pt{t:TT}(h:PW X e t):PT X e t:=h _
def PA(X:Cx)(es:List b4)(t:TA):Prop:=
 ∀(a:Pos)(p_:List (e_×bE))(s:g_)(σ:St)(H:Hp)(Q:List V->Hp->Prop),cP X p_ σ H s->t σ H Q->am (ap X.prog X.w) X.A (spliced<|bc a<|bY es X.env) (AP X p_ σ Q) X.xe s
def PS(X:Cx)(st:aK)(t:TS):Prop:=
 ∀(p_:List (e_×bE))(s:g_)(σ:St)(H:Hp)(D:Ends),cP X p_ σ H s->t D σ H->am (ap X.prog X.w) X.A (exec st X.env) (SP X p_ D) X.xe s
def fH(X:Cx)(st:List aK)(t:TS):Prop:=
 ∀(p_:List (e_×bE))(s:g_)(σ:St)(H:Hp)(D:Ends),cP X p_ σ H s->t D σ H->am (ap X.prog X.w) X.A (execs st X.env) (SP X p_ D) X.xe s
def aR{b:Type}{t:Sem b}{Q Q':b->g_->Prop}{M:bL}(h:am M A t Q E s)(c:∀a s,Q a s->Q' a s):am M A t Q' E s:=gn h c λ_ _ x=>x
def QJ{X:Cx}{K:VK}{t:Sem f_}{M:bL}(h:am M A t (EP X p_ σ K) E s)(k:∀v s x H,cP X p_ σ H s->d0 x v->K x H->Q' v s):am M A t Q' E s:=aR h λv s z=>cZ z<|k v s
def thT{X:Cx}{K:Bool->Hp->Prop}{t:Sem Bool}{Q':Bool->g_->Prop}{M:bL}(h:am M A t (TP X p_ σ K) E s)(k:∀v s H,cP X p_ σ H s->K v H->Q' v s):am M A t Q' E s:=aR h λv s z=>aq z<|k v s
def zT{X:Cx}{K:List V->Hp->Prop}{t:Sem (List f_)}{Q':List f_->g_->Prop}{M:bL}(h:am M A t (AP X p_ σ K) E s)(k:∀v s x H,cP X p_ σ H s->d4 x v->K x H->Q' v s):am M A t Q' E s:=aR h λv s z=>cZ z<|k v s
section
variable{X:Cx}
def rS(i:Nat):TE:=λσ H Q=>∃v,σ[i]?=a_ (a_ v)/\Q v H
abbrev tC(v:V):TE:=λ_ H Q=>Q v H
def ajc(f:X.N[i]?=a_ x)(g:QU X.env.scope x)(hd:autoParam ((x==("__debug__":bx))=false) a4)(j:autoParam ((x==("__classdict__":bx))=false) a4):PE X (.Name x pos) (rS i):=by
 intro p_ s σ H Q I h;obtain⟨v,e,h⟩:=h;obtain⟨m,hn,k⟩:=I.loc;obtain⟨u,r,l⟩:=k i x v f e g;have fin:EP X _ _ Q u s:=⟨v,H,I,r,h⟩;obtain⟨a,hm⟩|⟨a,c,b,d⟩:=l
 .exact wpAny_Name (wpAny_loadName_local I.ok.kind a hn hm fin) hd
 obtain a|a:=a
 .exact wpAny_Name (wpAny_loadName_cell I.ok.kind a b d fin) hd
 exact wpAny_Name (wpAny_loadName_free I.ok.kind a b d fin j) hd
def ax{i j pos}:PE X (.Constant (.int i) j pos) (tC<|.int i):=λ_ _ _ H _ I h=>wpAny_Constant_int ⟨.int i,H,I.tok _,⟨_,xz⟩,h⟩
def iV{b j pos}:PE X (.Constant (.bool b) j pos) (tC<|.bl b):=λ_ _ _ H _ I h=>Constant_bool ⟨.bl b,H,I,xz,h⟩
def og{j pos}:PE X (.Constant .none j pos) (tC .aJ):=λ_ _ _ H _ I h=>Constant_none ⟨.aJ,H,I,xz,h⟩
def cU{x j pos}:PE X (.Constant (.str x) j pos) (tC<|.str x):=λ_ _ _ H _ I h=>Calls.Constant_str ⟨.str x,H,I.tok _,⟨_,xz⟩,h⟩
def Gl(X:Cx)(x:bx):Prop:=X.env.kindOf x=a_ .globalImplicit
def zh(I:cP X p_ σ H s)(a:Gl X x)(hm:X.mg x=a_ u)(h:Q u s)
  (hd:autoParam ((x==("__debug__":bx))=false) a4):am (ap X.prog X.w) X.A (eval (.Name x pos) X.env) Q E s:=
 aa' I.ok.kind a (Calls.loadGlobal_global (by rw[I.ok.glob];exact I.mod.glob.keeps I.bk) hm h) hd
def qm(I:cP X p_ σ H s)(a:Gl X x)(hm:X.mg x=b_)(b:tI x=a_ u)(h:Q u s)
  (hn:autoParam (x ≠ "__name__") a4) (hd:autoParam ((x==("__debug__":bx))=false) a4):am (ap X.prog X.w) X.A (eval (.Name x pos) X.env) Q E s:=by
 obtain⟨mb,h1,h2⟩:=I.mod.blt;exact aa' I.ok.kind a (Calls.loadGlobal_builtin (I.ok.glob▸I.mod.glob.keeps I.bk) hm (I.ok.blt▸h1.keeps I.bk) ((h2 x hn).f4 b) h) hd
def gD(a:Gl X x)(hm:X.mg x=a_ u)(r:d0 v u)(hd:autoParam ((x==("__debug__":bx))=false) a4):PE X (.Name x pos) (tC v):=
 λ_ _ _ H _ I h=>zh I a hm ⟨v,H,I,r,h⟩ hd
def nj(a:Gl X x)(hm:X.mg x=b_)(b:tI x=a_ u)(r:d0 v u)(hn:autoParam (x ≠ "__name__") a4)(hd:autoParam ((x==("__debug__":bx))=false) a4):PE X (.Name x pos) (tC v):=
 λ_ _ _ H _ I h=>qm I a hm b ⟨v,H,I,r,h⟩ hn hd
variable{a b:b4}{ta tb:TE}{pos:Pos}
def PC(X:Cx)(c:CmpOp)(a b:b4)(t:TE):Prop:=
 ∀(p_:List (e_×bE))(s:g_)(σ:St)(H:Hp)(Q:VK),cP X p_ σ H s->t σ H Q->
  am (ap X.prog X.w) X.A (eval a X.env) (λv d=>am (ap X.prog X.w) X.A (eval b X.env) (λu e=>am (ap X.prog X.w) X.A (ja c v u) (EP X p_ σ Q) X.xe e) X.xe d) X.xe s
def tB(t:TE):TT:=λσ H Q=>t σ H λx d=>∃c,x=.bl c/\Q c d
def Dw{e:CmpOp}{t:TE}(h:PC X e a b t)(h1:FY e b=false:=by first | exact apt _ qc qc | rfl):PT X (.Compare a [e] [b] pos) (tB t):=by
 refine λp_ s σ H Q I hw=>aby (aR (h _ s _ H _ I hw) λv s1 h1=>aR h1 λu s2 h2=>aR h2 λc k⟨x,f,g,i,j⟩=>?_) h1;obtain⟨d,rfl,q⟩:=j;cases i;exact pZ ⟨f,g,q⟩
def gu{t:TE}(h:PE X e t)(f:∀c,isTrue e X.env c=(do let v <-c;standAt e.pos;holding [v] (truthy v)):=by intro _;rfl):PT X e (tB t):=by
 refine λp_ s σ H Q I hw=>isTrue_plain (aR (h _ s _ H _ I hw) λv s1⟨x,g,i,j,k⟩=>?_)<|f _;obtain⟨d,rfl,q⟩:=k;cases j;exact pZ ⟨g,i,q⟩
variable{tA JF:TT}{rest:List b4}
def am'(t u:TT):TT:=λσ H Q=>t σ H λc d=>if c=c_ then u σ d Q else Q d_ d
def tOr(t u:TT):TT:=λσ H Q=>t σ H λc d=>if c=c_ then Q c_ d else u σ d Q
def am7(t:TT):TT:=λσ H Q=>t σ H λc d=>Q (!c) d
def pw_and1(ha:PT X a tA):PW X (.BoolOp .And [a] pos) tA:=by
 refine λwh p_ s σ H Q I h=>isTrue_and (aR (ha _ s _ H Q I h) λc s1 e=>?_);rcases c with _|_;exact e;exact isTrue_and_nil e
def pw_or1(ha:PT X a tA):PW X (.BoolOp .Or [a] pos) tA:=by
 refine λwh p_ s σ H Q I h=>isTrue_or (aR (ha _ s _ H Q I h) λc s1 e=>?_);rcases c with _|_;exact isTrue_or_nil e;exact e
def pw_and(ha:PT X a tA)(f:PW X (.BoolOp .And (b::rest) pos) JF):PW X (.BoolOp .And (a::b::rest) pos) (am' tA JF):=by
 refine λwh p_ s σ H Q I h=>isTrue_and (aR (ha _ s _ H _ I h) λc s1⟨g,d,e⟩=>?_);rcases c with _|_;exact⟨g,d,e⟩;exact f _ _ _ _ _ Q d e
def pw_or(ha:PT X a tA)(f:PW X (.BoolOp .Or (b::rest) pos) JF):PW X (.BoolOp .Or (a::b::rest) pos) (tOr tA JF):=by
 refine λwh p_ s σ H Q I h=>isTrue_or (aR (ha _ s _ H _ I h) λc s1⟨g,d,e⟩=>?_);rcases c with _|_;exact f _ _ _ _ _ Q d e;exact⟨g,d,e⟩
def kK(ha:PT X a tA):PT X (.UnaryOp .Not a pos) (am7 tA):=by
 exact λp_ s σ H Q I h=>isTrue_not<|ha _ s _ H _ I h
def akY(ta tb:TE):TE:=λσ H Q=>ta σ H λx d=>∃c,x=.bl c/\if c=c_ then tb σ d Q else Q (.bl d_) d
def am6(ta tb:TE):TE:=λσ H Q=>ta σ H λx d=>∃c,x=.bl c/\if c=c_ then Q (.bl c_) d else tb σ d Q
def akR(ta:TE):TE:=λσ H Q=>ta σ H λx d=>∃c,x=.bl c/\Q (.bl<|!c) d
def Bu{op}{t:TE}(h:PE X a t):PE X (.BoolOp op [a] pos) t:=λp_ s σ H Q I hw=>BoolOp_one<|h _ s _ H Q I hw
def Dy(ha:PE X a ta)(f:PE X (.BoolOp .And (b::rest) pos) tb):PE X (.BoolOp .And (a::b::rest) pos) (akY ta tb):=by
 refine λp_ s σ H Q I h=>BoolOp_and (aR (ha _ s _ H _ I h) λv s1⟨x,g,e,i,d⟩=>?_);obtain⟨c,rfl,d⟩:=d;cases i;refine pZ ?_;rcases c with _|_;exact⟨.bl _,g,e,xz,d⟩;exact f _ _ _ _ Q e d
def ak7(ha:PE X a ta)(f:PE X (.BoolOp .Or (b::rest) pos) tb):PE X (.BoolOp .Or (a::b::rest) pos) (am6 ta tb):=by
 refine λp_ s σ H Q I h=>BoolOp_or (aR (ha _ s _ H _ I h) λv s1⟨x,g,e,i,d⟩=>?_);obtain⟨c,rfl,d⟩:=d;cases i;refine pZ ?_;rcases c with _|_;exact f _ _ _ _ Q e d;exact⟨.bl _,g,e,xz,d⟩
def Om(ha:PE X a ta):PE X (.UnaryOp .Not a pos) (akR ta):=by
 refine λp_ s σ H Q I h=>UnaryOp_ (aR (ha _ s _ H _ I h) λv s1⟨x,e,f,g,d⟩=>?_);obtain⟨c,rfl,d⟩:=d;cases g;exact not_of<|pZ ⟨.bl<|!c,e,f,xz,d⟩
def tIf(t:TT)(ta tb:TE):TE:=λσ H Q=>t σ H λc d=>if c=c_ then ta σ d Q else tb σ d Q
def MP(g:PT X c tA)(ha:PE X a ta)(i:PE X b tb):PE X (.IfExp c a b pos) (tIf tA ta tb):=by
 refine λp_ s σ H Q I h=>wpAny_IfExp (aR (g _ s _ H _ I h) λd s1⟨j,e,f⟩=>?_);rcases d with _|_;exact i _ _ _ _ Q e f;exact ha _ _ _ _ Q e f
end
def ao(K:u_)(H:Hp)(a:e_)(xs:List V):Prop:=
 Rd H a (.lst xs)\/
  ∃(o:bE)(b:Array f_)(n:Nat),K.lookup a=a_ o/\o.cls=.type "list"/\o.dict=b_/\o.data=.seq b n/\b.size<=bp/\d4 xs b.toList
def aF(K:u_)(H:Hp)(a:e_)(xs:List V):Prop:=
 Rd H a (.tup xs)\/
  ∃(o:bE)(b:Array f_)(n:Nat),K.lookup a=a_ o/\o.cls=.type "tuple"/\o.data=.seq b n/\b.size<=bp/\d4 xs b.toList
noncomputable def anx:f_->Option V
 | .none=>a_ .aJ
 | .bool b=>a_<|.bl b
 | .int i _=>a_<|.int i
 | .str x _=>a_<|.str x
 | .bytes b _=>a_<|.qI b
 | .float b _=>a_<|.v9 b
 | .ref a=>a_<|.ref a
 | .type n=>a_<|.ty n
 | _=>b_
def d0.abs(r:d0 x u):anx u=a_ x:=by
 cases x with
 | aJ=>cases r;rfl
 | bl _=>cases r;rfl
 | int _=>obtain⟨t,rfl⟩:=r;rfl
 | str _=>obtain⟨t,rfl⟩:=r;rfl
 | qI _=>obtain⟨t,rfl⟩:=r;rfl
 | v9 _=>obtain⟨t,rfl⟩:=r;rfl
 | ref _=>cases r;rfl
 | ty _=>cases r;rfl
def d0.inj(r:d0 x u)(q:d0 y u):x=y:=cI<|r.abs.f5.f4 q.abs
theorem d4.inj(h:d4 xs us)(k:d4 ys us):xs=ys:=by
 induction h generalizing ys with|nil=>cases k;rfl|cons r _ i=>cases k with|cons s k=>rw[r.inj s,i k]
section
variable{X:Cx}{p_:List (e_×bE)}{σ:St}{H:Hp}{s:g_}{a:e_}{xs ys:List V}
def ao.of{K:u_}(h:H a=a_ (.lst xs)):ao K H a xs:=.inl<|.inl h
def aF.of{K:u_}(h:H a=a_ (.tup xs)):aF K H a xs:=.inl<|.inl h
def cP.list(I:cP X p_ σ H s)(h:ao X.K H a xs):∃b:List f_,d4 xs b/\PlainL s.heap a b.toArray/\xs.length<=bp:=by
 obtain h|⟨o,b,n,c,d,hd,f,g,r⟩:=h
 .obtain⟨z,b,n,r,e⟩:=h.ok I.aE;exact⟨b,r,⟨_,n,e,xz,xz,xz⟩,z⟩
 refine⟨b.toList,r,⟨o,n,I.dI a o c,d,hd,by simpa using f⟩,?_⟩;have e:=r.length;simp only[fQ]at e;omega
def cP.tuple(I:cP X p_ σ H s)(h:aF X.K H a xs):∃b:List f_,d4 xs b/\IsTup s.heap a b.toArray/\xs.length<=bp:=by
 obtain h|⟨o,b,n,c,d,f,g,r⟩:=h
 .obtain⟨z,b,r,p⟩:=h.ok I.aE;exact⟨b,r,p,z⟩
 refine⟨b.toList,r,⟨o,I.dI a o c,d,n,by simpa using f⟩,?_⟩;have e:=r.length;simp only[fQ]at e;omega
def cP.WC(I:cP X p_ σ H s)(h:ao X.K H a xs)(h':ao X.K H a ys):xs=ys:=by
 obtain⟨c,r,⟨o,n,e,_,_,d⟩,_⟩:=I.list h;obtain⟨mz,f,⟨o',g,b,_,_,d'⟩,_⟩:=I.list h';rw[e]at b;cases b;rw[d]at d';injection d' with d1 _
 have:c=mz:=by simpa using f0 Array.toList d1
 subst this;exact r.inj f
def cP.Vl(I:cP X p_ σ H s)(h:aF X.K H a xs)(h':aF X.K H a ys):xs=ys:=by
 obtain⟨c,r,⟨o,e,_,n,d⟩,_⟩:=I.tuple h;obtain⟨mz,f,⟨o',b,_,g,d'⟩,_⟩:=I.tuple h';rw[e]at b;cases b;rw[d]at d';injection d' with d1 _
 have:c=mz:=by simpa using f0 Array.toList d1
 subst this;exact r.inj f
end
noncomputable abbrev Cx.uf(X:Cx)(E:f_->g_->Prop):Cx:={X with xe:=E}
abbrev Cx.yf(X:Cx):Cx:=X.uf λ_ _=>False
def Cx.Ok.uf{X:Cx}(ok:X.Ok)(E:f_->g_->Prop):(X.uf E).Ok:=
 ⟨ok.mod,ok.kind,ok.glob,ok.blt,ok.above,ok.inj,ok.has,ok.uA,ok.hd,ok.frames,ok.v3,ok.sg,ok.bs,ok.mH,ok.ug,ok.rW,ok.lH,ok.qH⟩
def Cx.Ok.xw{X:Cx}(ok:(X.uf E).Ok):X.Ok:=
 ⟨ok.mod,ok.kind,ok.glob,ok.blt,ok.above,ok.inj,ok.has,ok.uA,ok.hd,ok.frames,ok.v3,ok.sg,ok.bs,ok.mH,ok.ug,ok.rW,ok.lH,ok.qH⟩
section
variable{X:Cx}{p_:List (e_×bE)}{σ:St}{H:Hp}{s:g_}{E:f_->g_->Prop}
def cP.uf(I:cP X p_ σ H s)(E:f_->g_->Prop):cP (X.uf E) p_ σ H s:=⟨I.ok.uf E,I.os,I.bare,I.base,I.loc,I.cell,I.free,I.jg,I.pin,I.aE,I.len⟩
def cP.xw(I:cP (X.uf E) p_ σ H s):cP X p_ σ H s:=⟨I.ok.xw,I.os,I.bare,I.base,I.loc,I.cell,I.free,I.jg,I.pin,I.aE,I.len⟩
def SP.xw(h:SP (X.uf E) p_ D f s'):SP X p_ D f s':=by
 rcases f with _|_|_|u
 ·obtain⟨a,H',I,q⟩:=h;exact⟨a,H',I.xw,q⟩
 ·obtain⟨a,H',I,q⟩:=h;exact⟨a,H',I.xw,q⟩
 ·obtain⟨a,H',I,q⟩:=h;exact⟨a,H',I.xw,q⟩
 obtain⟨v,a,H',I,r,q⟩:=h;exact⟨v,a,H',I.xw,r,q⟩
def fH.yf{st:List aK}{t:TS}(h:fH X.yf st t):fH X st t:=λp_ s σ H D I hw=>
 gn (h p_ s σ H D (I.uf _) hw) (λ_ _ q=>q.xw) λ_ _ z=>i9 z
end
section
variable{X:Cx}{st:aK}{rest:List aK}{t u:TS}{e:b4}{te:TE}{pos:Pos}
abbrev akS:TS:=λD σ H=>D.nx σ H
abbrev am4(t u:TS):TS:=λD σ H=>t {D with nx:=u D} σ H
def cj:fH X [] akS:=λ_ _ σ H _ I h=>CI ⟨σ,H,I,h⟩
def ay(h1:PS X st t)(h2:fH X rest u):fH X (st::rest) (am4 t u):=by
 refine λp_ s σ H D I h=>wpAny_execs_cons (aR (h1 _ s _ H {D with nx:=u D} I h) λf s1 q=>?_);rcases f with _|v|_|_
 ·obtain⟨b,H',a,q⟩:=q;exact h2 _ _ _ _ D a q
 ·exact q
 ·exact q
 exact q
def aB(h1:PS X st t):fH X [st] t:=by
 refine λp_ s σ H D I h=>wpAny_execs_cons (aR (h1 _ s _ H D I h) λf s1 q=>?_);rcases f with _|v|_|_;exact CI q;exact q;exact q;exact q
def cP.quiet(I:cP X p_ σ H s):interactive X.env=false:=by simp[interactive,I.ok.kind]
abbrev akU(te:TE):TS:=λD σ H=>te σ H λ_ H1=>D.nx σ H1
def dC(a:PE X e te)(b:autoParam (Dc e b_ pos.line X.env=pure false) a3):PS X (.Expr e pos) (akU te):=by
 exact λp_ s σ H D I h=>wpAny_Expr_any (aR (a _ s _ H _ I h) λv s1⟨x,c,d,g,f⟩=>⟨σ,c,d,f⟩) I.quiet b
abbrev am5(te:TE):TS:=λD σ H=>te σ H D.rt
def a8(a:PE X e te):PS X (.Return (a_ e) pos) (am5 te):=by
 exact λp_ s σ H D I h=>wpAny_Return_some (aR (a _ s _ H _ I h) λv s1⟨x,b,c,d,f⟩=>⟨x,σ,b,c,d,f⟩)
abbrev PM(c:TT)(t u:TS):TS:=λD σ H=>c σ H λb H1=>if b=c_ then t D σ H1 else u D σ H1
def bX{a b:List aK}(i:PT X c tc)(ha:fH X a t)(j:fH X b u):PS X (.If c a b pos) (PM tc t u):=by
 refine λp_ s σ H D I h=>wpAny_If (aR (i _ s _ H _ I h) λd s1⟨k,f,g⟩=>?_);rcases d with _|_;exact j _ _ _ _ D f g;exact ha _ _ _ _ D f g
def aiO:TS:=λ_ _ _=>False
def xb:fH X sts aiO:=λ_ _ _ _ _ _ h=>h.elim
end
abbrev TG:=V->St->Hp->(St->Hp->Prop)->Prop
abbrev z8:=List V->St->Hp->(St->Hp->Prop)->Prop
def PG(X:Cx)(b:b4)(t:TG):Prop:=
 ∀(p_:List (e_×bE))(s:g_)(σ:St)(H:Hp)(v:V)(u:f_)(Q:St->Hp->Prop),cP X p_ σ H s->d0 v u->t v σ H Q->
  am (ap X.prog X.w) X.A (assign b X.env u) (λ_ c=>∃a H',cP X p_ a H' c/\Q a H') X.xe s
def Jz(X:Cx)(ts:List b4)(t:z8):Prop:=
 ∀(p_:List (e_×bE))(s:g_)(σ:St)(H:Hp)(vs:List V)(us:List f_)(Q:St->Hp->Prop),cP X p_ σ H s->d4 vs us->t vs σ H Q->
  am (ap X.prog X.w) X.A (assignInOrder ((C3 ts X.env).map (·.2)) us) (λ_ b=>∃a H',cP X p_ a H' b/\Q a H') X.xe s
abbrev Ec:=V->V->V->Hp->(Hp->Prop)->Prop
def Ql(X:Cx)(t:Ec):Prop:=
 ∀(p_:List (e_×bE))(s:g_)(σ:St)(H:Hp)(o i v:V)(ov a u:f_)(Q:Hp->Prop),cP X p_ σ H s->d0 o ov->d0 i a->d0 v u->t o i v H Q->
  am (ap X.prog X.w) X.A (setItem ov a u) (λ_ b=>∃H',cP X p_ σ H' b/\Q H') X.xe s
abbrev Jw:=V->V->Hp->VK->Prop
def QW(X:Cx)(a:Operator)(t:Jw):Prop:=
 ∀(p_:List (e_×bE))(s:g_)(σ:St)(H:Hp)(x y:V)(v u:f_)(Q:VK),cP X p_ σ H s->d0 x v->d0 y u->t x y H Q->
  am (ap X.prog X.w) X.A (inplaceOp a v u) (EP X p_ σ Q) X.xe s
section
variable{X:Cx}{pos:Pos}
abbrev kM(i:Nat):TG:=λv σ H Q=>Q (σ.set i<|a_ v) H
def bC(a:X.N.Nodup)(hi:X.N[i]?=a_ x)(b:iv X.env.scope x)(c:X.fn x=c_\/X.env.scope.names.lookup x=a_ .local:=by first | exact .inl xz | exact .inr xz | assumption):PG X (.Name x pos) (kM i):=by
 exact λp_ s σ H v u Q I r h=>wpAny_assign_Name<|Mu I a hi b r (λe d=>⟨_,H,d,h⟩) c
def Z9:z8:=λvs σ H Q=>vs=[]/\Q σ H
def Pj(t:TG)(u:z8):z8:=λvs σ H Q=>∃v r,vs=v::r/\t v σ H λa H'=>u r a H' Q
def ni:Jz X [] Z9:=by
 intro p_ s σ H vs us Q I r h;obtain⟨e,h⟩:=h;subst e;cases r;exact assignInOrder_nil ⟨σ,H,I,h⟩
def eT{es:List b4}{t:TG}{u:z8}(h1:PG X e t)(h2:Jz X es u)
  (a:autoParam ((C3 (e::es) X.env).map (·.2)=assign e X.env::(C3 es X.env).map (·.2)) a3):Jz X (e::es) (Pj t u):=by
 intro p_ s σ H vs us Q I r h;obtain⟨v,vr,b,h⟩:=h;subst b;cases r with
 | cons r rr=>
  rw[a];exact assignInOrder_cons (aR (h1 _ s _ H _ _ _ I r h) λ_ s1⟨f,g,c,d⟩=>h2 _ _ _ _ _ _ Q c rr d)
def Z8(K:u_)(n:Nat)(t:z8):TG:=λv σ H Q=>∃a xs,v=.ref a/\aF K H a xs/\xs.length=n/\t xs σ H Q
def nz{k:Nat}{t:z8}(d:X.calm=c_)(h:Jz X es t)
  (hn:autoParam ((C3 es X.env).length=n) a3) (cV:autoParam ((C3 es X.env).findIdx? (·.1)=none) a3):PG X (.Tuple es k pos) (Z8 X.K n t):=by
 intro p_ s σ H v u Q I r hw;obtain⟨a,xs,f,g,i,hw⟩:=hw;subst f;cases r;obtain⟨m,c,j,p⟩:=I.tuple g;refine assign_Tuple_tuple (I.ok.hd d) j (by simp[hn,<-i,c.length]) cV λh' l=>?_;exact h _ _ _ H _ _ Q (I.kept (t':=s.toks) λb o e=>l b o (dg<|bH e) e) (by simpa using c) hw
def ans(a b:TE)(t:Ec):TG:=λv σ H Q=>a σ H λo c=>b σ c λi d=>t o i v d λe=>Q σ e
def Bt{t:Ec}(b:PE X o to)(hi:PE X i ti)(c:Ql X t)
  (ha:∀v,assign (.Subscript o i pos) X.env v=(do
   let ov <-holding [v] (eval o X.env)
   let a <-holding [v,ov] (eval i X.env)
   standAt pos
   holding [v,ov,a] (setItem ov a v)
   release [v,ov,a] []):=by intro _;rfl):PG X (.Subscript o i pos) (ans to ti t):=by
 intro p_ s σ H v u Q I r h;rw[ha];refine ah<|kG (aR (b _ s _ H _ I h) λov s1⟨x,n,d,e,f⟩=>ah<|kG<|aR (hi _ _ _ _ _ d f) λa s2⟨y,p,g,r2,j⟩=>?_);exact ah<|FX<|ah<|kG (aR (c _ _ _ _ x y v _ _ u _ g e r2 r j) λ_ q⟨k,l,m⟩=>wpAny_release ⟨σ,k,l,m⟩)
abbrev PQ(te:TE)(g:TG):TS:=λD σ H=>te σ H λx H1=>g x σ H1 D.nx
def Bs(a:PE X e te)(b:PG X tg g)(c:autoParam (swapsWithSole [tg] e pos.line X.env=pure false) a3)(hw:autoParam (swappedStores [tg] e X.env=pure none) a3)
  (h1:autoParam ((C3 [tg] X.env).map (·.2)=[assign tg X.env]) a3):PS X (.Assign [tg] e pos) (PQ te g):=by
 refine λp_ s σ H D I h=>wpAny_Assign_stores (aR (a _ s _ H _ I h) λv s1⟨x,j,d,f,i⟩=>?_) c hw;rw[h1];exact aR (b _ _ _ _ x v _ d f i) λ_ s2 q=>q
def bP{i:Nat}(a:X.N.Nodup)(hi:X.N[i]?=a_ x)(b:iv X.env.scope x)(c:PE X e te)(d:autoParam (Dc e (a_<|.Name x pos') pos.line X.env=pure false) a3)(f:X.fn x=c_\/X.env.scope.names.lookup x=a_ .local:=by first | exact .inl xz | exact .inr xz | assumption):
  PS X (.Assign [.Name x pos'] e pos) (PQ te<|kM i):=by
 intro p_ s σ H D I h;exact wpAny_Assign_Name (aR (c _ s _ H _ I h) λv s1⟨y,g,j,k,l⟩=>Mu j a hi b k (λs2 m=>⟨_,g,m,l⟩) f) d
def akX(a b c:TE)(d:V->V->Hp->VK->Prop)(e:Jw)(f:Ec):TS:=λD σ H=>a σ H λo g=>b σ g λi h=>d o i h λx j=>c σ j λy k=>e x y k λz l=>f o i z l λm=>D.nx σ m
def mu(X:Cx)(t:V->V->Hp->VK->Prop):Prop:=
 ∀(p_:List (e_×bE))(s:g_)(σ:St)(H:Hp)(o i:V)(ov a:f_)(Q:VK),cP X p_ σ H s->d0 o ov->d0 i a->t o i H Q->
  am (ap X.prog X.w) X.A (getItem ov a) (EP X p_ σ Q) X.xe s
def NB{b:V->V->Hp->VK->Prop}{c:Jw}{d:Ec}{f:Operator}(j:PE X o to)(hi:PE X i ti)(k:mu X b)(l:PE X e te)(m:QW X f c)(n:Ql X d)
  (ha:∀ov a new,augStore i ov a new=(do holding [new,ov,a] (setItem ov a new);release [new,ov,a] [];pure .next):=by intros;rfl):PS X (.AugAssign (.Subscript o i Ee) f e pos) (akX to ti te b c d):=by
 intro p_ s σ H D I h;refine wpAny_AugAssign_SubscriptAny (aR (j _ s _ H _ I h) λov s1⟨J,K,p,g,q⟩=>aR (hi _ _ _ _ _ p q) λa s2⟨L,M,r,r2,t⟩=>?_) ha;refine aR (k _ _ _ _ _ _ _ _ _ r g r2 t) λN O⟨P,Q,u,r3,w⟩=>aR (l _ _ _ _ _ u w) λv R⟨S,T,x,y,z⟩=>?_;exact aR (m _ _ _ _ _ _ _ v _ x r3 y z) λnew U⟨W,Y,A,B,C⟩=>aR (n _ _ _ _ _ _ _ _ _ _ _ A g r2 B C) λ_ Z⟨E,F,G⟩=>⟨σ,E,F,G⟩
def kD(f:Int->Int->Int):Jw:=λx y H Q=>∃i j,x=.int i/\y=.int j/\Q (.int<|f i j) H
def YJ:QW X .Add (kD λi j=>i+j):=by
 intro p_ s σ H x y v u Q I a r2 h;obtain⟨i,j,b,c,q⟩:=h;subst b;subst c;obtain⟨t,rfl⟩:=a;obtain⟨t',rfl⟩:=r2;exact iadd_int ⟨.int _,H,I.tok _,⟨_,xz⟩,q⟩
def ajN:QW X .Sub (kD λi j=>i-j):=by
 intro p_ s σ H x y v u Q I a r2 h;obtain⟨i,j,b,c,q⟩:=h;subst b;subst c;obtain⟨t,rfl⟩:=a;obtain⟨t',rfl⟩:=r2;exact isub_int ⟨.int _,H,I.tok _,⟨_,xz⟩,q⟩
end
section
variable{X:Cx}{pos:Pos}
def aiM(c:TT)(tb:TS):TS:=λD σ H=>∃W:Nat->St->Hp->Prop,(∃m,W m σ H)/\∀m σ H,W m σ H->
 c σ H λb a=>if b=c_ then ∃N:St->Hp->Prop,(∀d H',N d H'->∃e,e<m/\W e d H')/\tb {D with nx:=N,ct:=N,bk:=D.nx} σ a else D.nx σ a
def MO{body:List aK}(l:eU (ap X.prog X.w) X.A X.env X.xe)(q:PT X c tc)(r:fH X body tb):PS X (.While c body [] pos) (aiM tc tb):=by
 intro p_ s σ H D I h;obtain⟨W,⟨t,w0⟩,turn⟩:=h;refine wpAny_While<|codeAny_whileLoop (λn u=>∃m H',cP X p_ m H' u/\W n m H') ?_ t ⟨σ,H,I,w0⟩;rintro n s1 ⟨x,B,y,w1⟩;refine AR l (aR (q _ _ _ _ _ y<|turn n _ _ w1) λb s2⟨z,o,e⟩=>?_);rcases b with _|_
 ·rw[dt dW];exact CI ⟨x,z,o,e⟩
 obtain⟨N,p,e⟩:=e;rw[dL rfl];refine AR l (aR (r _ _ _ _ _ o e) λf C g=>?_);cases f with
 | next=>
  obtain⟨a,d,i,j⟩:=g;obtain⟨k,hm,w3⟩:=p a d j;exact⟨k,hm,a,d,i,w3⟩
 | cont=>
  obtain⟨a,d,i,j⟩:=g;obtain⟨k,hm,w3⟩:=p a d j;exact⟨k,hm,a,d,i,w3⟩
 | brk=>exact g
 | ret v=>exact g
end
structure It where
 go:Nat->Hp->Prop
 vZ:Nat->Hp->V->Hp->Prop
 stop:Nat->Hp->Prop
def gw(X:Cx)(p_:List (e_×bE))(H:Hp)(b:e_):Prop:=
 H b=b_/\b≠X.env.locals/\b∉X.fs/\(b∈X.ex\/X.s₀.zS<=b)/\(∀x c,X.env.cells.lookup x=a_ c->c≠b)/\∀p∈X.pn++p_,p.1≠b
def cP.gX(I:cP X p_ σ H s)(a:s.zS<=b)(hn:H' b=b_):gw X p_ H' b:=by
 refine⟨hn,tJ<|f7 I.lt a,I.Z1 a,.inr<|cF I.sz a,λx c e z=>?_,λp d z=>?_⟩
 .obtain⟨v,q⟩:=I.cell x c e;exact dV (f7 q.lt<|by rw[z];exact a)<|jR _
 exact dV (f7 (bH (I.pin p d).1)<|by rw[z];exact a)<|jR _
structure Turn(P:k_)(w:j_)(K:u_)(tg:b4)(J:It)(fp:List e_)(it:e_)(tn:Nat->i_->Prop):Prop where
 mem:it∈fp
 obj:∀i h,tn i h->∀b∈fp,∃o,h.get? b=a_ o/\∀v,o.data≠.cell v
 keep:∀i h h',tn i h->(∀b∈fp,∀o,h.get? b=a_ o->h'.get? b=a_ o)->tn i h'
 item:∀(X:Cx),X.prog=P->X.w=w->X.K=K->X.calm=c_->∀(i:Nat)(p_:List (e_×bE))(s:g_)(σ:St)(H:Hp)(E:f_->g_->Prop),cP X p_ σ H s->(∀b∈fp,gw X p_ H b)->tn i s.heap->J.go i H->
  am (ap P w) X.A (pyNext (.ref it)) (λr s1=>∃u,r=a_ u/\
   am (ap P w) X.A (Lh tg (.ref it) u) (λ_ s2=>∃x H',cP X p_ σ H' s2/\d0 x u/\J.vZ i H x H'/\tn (i+1) s2.heap/\∀b∈fp,H' b=b_) E s1) E s
 done:∀(X:Cx),X.prog=P->X.w=w->X.K=K->X.calm=c_->∀(i:Nat)(p_:List (e_×bE))(s:g_)(σ:St)(H:Hp)(E:f_->g_->Prop),cP X p_ σ H s->(∀b∈fp,gw X p_ H b)->tn i s.heap->J.stop i H->
  am (ap P w) X.A (pyNext<|.ref it) (λr s1=>r=b_/\cP X p_ σ H s1) E s
 self:∀(A:h_)(i:Nat)(s:g_)(Q:f_->g_->Prop)(E:f_->g_->Prop),tn i s.heap->Q (.ref it) s->am (ap P w) A (pyIter<|.ref it) Q E s
abbrev TI:=St->Hp->(It->Hp->Prop)->Prop
def nH(X:Cx)(p_:List (e_×bE))(σ:St)(tg:b4)(R:It->Hp->Prop)(a:f_)(s2:g_):Prop:=
 ∃(it:e_)(fp:List e_)(tn:Nat->i_->Prop)(J:It)(H':Hp),a=.ref it/\cP X p_ σ H' s2/\Turn X.prog X.w X.K tg J fp it tn/\tn 0 s2.heap/\(∀b∈fp,gw X p_ H' b)/\R J H'
def PI(X:Cx)(tg a:b4)(wi:TI):Prop:=
 ∀(p_:List (e_×bE))(s:g_)(σ:St)(H:Hp)(R:It->Hp->Prop),cP X p_ σ H s->wi σ H R->
  am (ap X.prog X.w) X.A (eval a X.env) (λv s1=>am (ap X.prog X.w) X.A (pyIter v) (nH X p_ σ tg R) X.xe s1) X.xe s
def Ib(b:s.heap.get? it=a_ o)(c:o.cls=.type n)(hd:o.data=.fields vs)(hn:["enumerate","zip","dict_itemiterator","dict_reverseitemiterator","odict_iterator","itertools.zip_longest","itertools.pairwise"].contains n=d_)(a:Q () s):am M A (Lh tg (.ref it) u) Q E s:=by
 unfold Lh
 cases tg <;> first
  | exact aI a
  | (cases u <;> first
    | exact aI a
    | (refine ah (wpAny_load b ?_);rw[c,hd];show am M A (if (["enumerate","zip","dict_itemiterator","dict_reverseitemiterator","odict_iterator","itertools.zip_longest","itertools.pairwise"].contains n&&vs[0]? == a_ (bv _))=c_ then _ else _) Q E s;rw[dt (by intro h;rw[hn,FV]at h;cases h)];exact aI a))
def Ey(K:u_)(a:e_):It:=
 ⟨λi H=>∃xs x,ao K H a xs/\xs[i]?=a_ x,λi H x H'=>H'=H/\∀xs,ao K H a xs->xs[i]?=a_ x,λi H=>∃xs,ao K H a xs/\xs.length<=i⟩
def nT(K:u_)(a:e_):It:=
 ⟨λi H=>∃xs x,aF K H a xs/\xs[i]?=a_ x,λi H x H'=>H'=H/\∀xs,aF K H a xs->xs[i]?=a_ x,λi H=>∃xs,aF K H a xs/\xs.length<=i⟩
def z9(lo:Int)(n:Nat):It:=⟨λi _=>i<n,λi H x H'=>H'=H/\x=.int (lo+i),λi _=>n<=i⟩
def ad9{P:k_}{w:j_}{K:u_}(a it:e_):Turn P w K tg (Ey K a) [it] it (λi h=>h.IsListIter it a i) where
 mem:=by simp
 obj:=λi h st b f=>by
  have e:b=it:=by simpa using f
  subst e;obtain⟨o,e,c,d⟩:=st;exact⟨o,e,λv z=>by rw[d]at z;cases z⟩
 keep:=λi h h' st k=>st.at λo e=>k it (by simp) o e
 item:=by
  intro X l hw m D i p_ s σ H E I g st n;subst l hw m;obtain⟨xs,x,j,q⟩:=n;obtain⟨F,r,p,G⟩:=I.list j;obtain⟨u,J,L⟩:=r.get q;obtain⟨t,y,M,A,B,C⟩:=g it (by simp);refine abo st p.isList (x:=u) (by simpa using J) λh' aw N=>?_;have O:cP X p_ σ H {s with heap:=h'}:=I.turned (t':=s.toks) (λb o f e=>(N.2 b f).f4 e) t y A B C;obtain⟨o,e,c,d⟩:=id aw;exact⟨u,xz,Ib (s:={s with heap:=h'}) e c d qc ⟨x,H,O,L,⟨xz,λys Q=>by rw[I.WC Q j];exact q⟩,aw,λb f=>(g b f).1⟩⟩
 done:=by
  intro X l hw m D i p_ s σ H E I g st n;subst l hw m;obtain⟨xs,j,q⟩:=n;obtain⟨F,r,p,G⟩:=I.list j;obtain⟨t,y,M,A,B,C⟩:=g it (by simp);have S:=r.length;exact abw (I.ok.hd D) st p.isList (by simp;omega) λh' R=>⟨xz,I.turned (t':=s.toks) (λb o f e=>R b o f e) t y A B C⟩
 self:=λ_ _ _ _ _ st h=>wpAny_pyIter_listiter st h
def adq{P:k_}{w:j_}{K:u_}(a it:e_):Turn P w K tg (nT K a) [it] it (λi h=>h.IsTupleIter it a i) where
 mem:=by simp
 obj:=λi h st b f=>by
  have e:b=it:=by simpa using f
  subst e;obtain⟨o,e,c,d⟩:=st;exact⟨o,e,λv z=>by rw[d]at z;cases z⟩
 keep:=λi h h' st k=>st.at λo e=>k it (by simp) o e
 item:=by
  intro X l hw m F i p_ s σ H E I g st n;subst l hw m;obtain⟨xs,x,j,q⟩:=n;obtain⟨r,t,p,G⟩:=I.tuple j;obtain⟨u,J,L⟩:=t.get q;obtain⟨y,A,M,B,C,D⟩:=g it (by simp);refine wpAny_pyNext_tuple_item st (show s.heap.IsTuple a r.toArray from p) (x:=u) (by simpa using J) λh' aw N=>?_;have O:cP X p_ σ H {s with heap:=h'}:=I.turned (t':=s.toks) (λb o f e=>(N.2 b f).f4 e) y A B C D;obtain⟨o,e,c,d⟩:=id aw;exact⟨u,xz,Ib (s:={s with heap:=h'}) e c d qc ⟨x,H,O,L,⟨xz,λys Q=>by rw[I.Vl Q j];exact q⟩,aw,λb f=>(g b f).1⟩⟩
 done:=by
  intro X l hw m F i p_ s σ H E I g st n;subst l hw m;obtain⟨xs,j,q⟩:=n;obtain⟨r,t,p,G⟩:=I.tuple j;obtain⟨y,A,M,B,C,D⟩:=g it (by simp);have S:=t.length;exact wpAny_pyNext_tuple_end (I.ok.hd F) st (show s.heap.IsTuple a r.toArray from p) (by simp;omega) λh' R=>⟨xz,I.turned (t':=s.toks) (λb o f e=>R b o f e) y A B C D⟩
 self:=λ_ _ _ _ _ st h=>wpAny_pyIter_tupleiter st h
def ads{P:k_}{w:j_}{K:u_}(it:e_)(lo:Int)(n:Nat):Turn P w K tg (z9 lo n) [it] it (λi h=>IsRangeIter h it (lo+(i:Nat)*1) ((n:Int)-(i:Nat)) 1) where
 mem:=by simp
 obj:=λi h st b a=>by
  have e:b=it:=by simpa using a
  subst e
  exact⟨_,st,λv z=>by
   have u:Data.fields _=Data.cell v:=z;cases u⟩
 keep:=λi h h' st k=>k it (by simp) _ st
 item:=by
  intro X d hw f g i p_ s σ H E I c st j;subst d hw f;obtain⟨l,m,x,p,q,r⟩:=c it (by simp);refine (Walks.range (prog:=X.prog) (w:=X.w) (I.ok.hd g) it lo 1 n).item i s _ _ j st λv h' tk y aw A=>?_;obtain⟨t,rfl⟩:=y;have B:cP X p_ σ H {s with heap:=h',toks:=tk}:=I.turned (λb o a e=>A b o (by simpa using a) e) l m p q r;refine⟨_,xz,Ib (s:={s with heap:=h',toks:=tk}) (n:="range_iterator") aw xz xz qc ⟨.int<|lo+i,H,B,⟨t,?_⟩,⟨xz,xz⟩,aw,λb a=>(c b a).1⟩⟩;rw[Int.mul_one]
 done:=by
  intro X d hw f g i p_ s σ H E I c st j;subst d hw f;obtain⟨l,m,x,p,q,r⟩:=c it (by simp);exact wpAny_pyNext_range_end (I.ok.hd g) st (by have:n<=i:=j;omega) λh' C=>⟨xz,I.turned (t':=s.toks) (λb o a e=>C b o a e) l m p q r⟩
 self:=λ_ _ _ _ _ st h=>wpAny_pyIter_rangeiter st h
section
variable{X:Cx}{tg:b4}
def alE(K:u_)(tl:TE):TI:=λσ H R=>tl σ H λx b=>∃a,x=.ref a/\(∃xs,ao K b a xs)/\R (Ey K a) b
def Z5(K:u_)(tl:TE):TI:=λσ H R=>tl σ H λx b=>∃a,x=.ref a/\(∃xs,aF K b a xs)/\R (nT K a) b
def rB(d:PE X l tl):PI X tg l (alE X.K tl):=by
 refine λp_ s σ H R I h=>aR (d _ s _ H _ I h) λv s1⟨x,f,c,g,i⟩=>?_;obtain⟨a,e,⟨xs,j⟩,q⟩:=i;subst e;cases g;obtain⟨m,n,p,r⟩:=c.list j;refine CD p.isList ⟨s1.zS,[s1.zS],_,_,f,xz,c.kept λb o e=>bh _ e,ad9 a _,⟨_,dU _ xz,xz,xz⟩,λb k=>?_,q⟩;have e:b=s1.zS:=by simpa using k
 subst e;exact c.gX (aD _)<|c.aE.fresh<|aD _
def vt(d:PE X l tl):PI X tg l (Z5 X.K tl):=by
 refine λp_ s σ H R I h=>aR (d _ s _ H _ I h) λv s1⟨x,f,c,g,i⟩=>?_;obtain⟨a,e,⟨xs,j⟩,q⟩:=i;subst e;cases g;obtain⟨m,n,p,r⟩:=c.tuple j;refine wpAny_pyIter_tuple p ⟨s1.zS,[s1.zS],_,_,f,xz,c.kept λb o e=>bh _ e,adq a _,⟨_,dU _ xz,xz,xz⟩,λb k=>?_,q⟩;have e:b=s1.zS:=by simpa using k
 subst e;exact c.gX (aD _)<|c.aE.fresh<|aD _
def Ws{lo hi:Int}{t u v:Tok}{tk:Nat}(I:cP X p_ σ H s)(h1:-(2^62)<=lo)(h2:lo<2^62)(h3:-(2^62)<=hi)(h4:hi<2^62)(q:R (z9 lo (hi-lo).toNat) H):am (ap X.prog X.w) X.A (pyIter<|.ref s.zS) (nH X p_ σ tg R) E {s with heap:=s.heap.push {cls:=.type "range",data:=.fields #[.int lo t,.int hi u,.int 1 v]},toks:=tk}:=by
 refine wpAny_pyIter_range (IsRange.new ..) (small_one h1 h2 h3 h4) ?_;have a:cP X _ _ H {s with heap:=s.heap.push {cls:=.type "range",data:=.fields #[.int lo t,.int hi u,.int 1 v]},toks:=tk}:=I.kept λb o e=>bh _ e;refine⟨(s.heap.push {cls:=.type _,data:=.fields #[.int _ t,.int _ u,.int 1 v]}).zH,[(s.heap.push {cls:=.type _,data:=.fields #[.int _ t,.int _ u,.int 1 v]}).zH],_,_,H,xz,a.kept λb o e=>bh _ e,ads _ _ (hi-lo).toNat,?_,λb c=>?_,q⟩
 .have d:lo+((0:Nat):Int)*1=lo:=by simp
  have f:(((hi-lo).toNat:Nat):Int)-((0:Nat):Int)=Builtin.Range.rangeSize lo hi 1:=by rw[rangeSize_one];split <;> omega
  rw[d,f];exact dU _ xz
 have e:b=(s.heap.push {cls:=.type "range",data:=.fields #[.int lo t,.int hi u,.int 1 v]}).zH:=by simpa using c
 subst e;exact a.gX (aD _)<|a.aE.fresh<|aD _
def alD(a:TA):TI:=λσ H R=>a σ H λvs b=>∃j:Int,vs=[.int j]/\-(2^62)<=j/\j<2^62/\R (z9 0 j.toNat) b
def alC(a:TA):TI:=λσ H R=>a σ H λvs b=>∃i j:Int,vs=[.int i,.int j]/\(-(2^62)<=i/\i<2^62/\-(2^62)<=j/\j<2^62)/\R (z9 i (j-i).toNat) b
def ju(c:Gl X "range")(hm:X.mg "range"=b_)(ha:PA X [a] ta)(d:autoParam (bY [a] X.env=[(d_,eval a X.env)]) a3):PI X tg (.Call (.Name "range" p) [a] [] pos) (alD ta):=by
 refine λp_ s σ H R I h=>Call_<|qm I c hm boot_range<|wM (aR (ha _ _ s _ H _ I h) λus s1⟨vs,l,f,g,b⟩=>?_) d xz;obtain⟨j,e,b,i,q⟩:=b;subst e;cases g with
 | cons r k=>
  cases k;obtain⟨t,rfl⟩:=r;exact call_range_1<|Ws f om om b i (by simpa using q)
def aek(g:Gl X "range")(hm:X.mg "range"=b_)(ha:PA X [a,b] ta)(k:autoParam (bY [a,b] X.env=[(d_,eval a X.env),(d_,eval b X.env)]) a3)(f:autoParam (bY [b] X.env=[(d_,eval b X.env)]) a3):
  PI X tg (.Call (.Name "range" p) [a,b] [] pos) (alC ta):=by
 refine λp_ s σ H R I h=>Call_<|qm I g hm boot_range<|wM (aR (ha _ _ s _ H _ I h) λus s1⟨vs,v,l,m,c⟩=>?_) (by rw[k,f]) (by rw[f];rfl);obtain⟨i,j,e,⟨c,n,o,u⟩,q⟩:=c;subst e;cases m with
 | cons r d=>
  cases d with
  | cons r' d=>
   cases d;obtain⟨t,rfl⟩:=r;obtain⟨t',rfl⟩:=r';exact call_range_2<|Ws l c n o u q
def am9(wi:TI)(g:TG)(tb:TS):TS:=λD σ H=>wi σ H λJ c=>∃W:Nat->Nat->St->Hp->Prop,(∃m,W 0 m σ c)/\∀i m σ H,W i m σ H->
 (J.stop i H/\D.nx σ H)\/(J.go i H/\∃N:St->Hp->Prop,(∀a H',N a H'->∃b,b<m/\W (i+1) b a H')/\∀x H',J.vZ i H x H'->g x σ H' λd e=>tb {D with nx:=N,ct:=N,bk:=D.nx} d e)
def Dx(fp:List e_)(h:i_):List (e_×bE):=fp.filterMap λb=>(h.get? b).map λo=>(b,o)
def A6{fp:List e_}(a:b∈fp)(e:h.get? b=a_ o):(b,o)∈Dx fp h:=oX.mpr ⟨b,a,by rw[e];rfl⟩
def Vx{fp:List e_}(a:p∈Dx fp h):p.1∈fp/\h.get? p.1=a_ p.2:=by
 obtain⟨b,c,e⟩:=oX.mp a;rcases q:h.get? b with _|o
 ·rw[q]at e;cases e
 rw[q]at e;have d:=cI e;subst d;exact⟨c,q⟩
def cP.pinned{fp:List e_}(I:cP X p_ σ H s)(f:∀b∈fp,gw X p_ H b)(g:∀b∈fp,∃o,s.heap.get? b=a_ o/\∀v,o.data≠.cell v):cP X (p_++Dx fp s.heap) σ H s:=
 I.xr λp h=>(cp.mp h).elim (λz=>I.pin p<|f6 _ z) λz=>by
  obtain⟨a,e⟩:=Vx z;obtain⟨i,j,k,_⟩:=f p.1 a;obtain⟨o,c,d⟩:=g p.1 a;rw[e]at c;cases c;exact⟨e,i,j,k,d⟩
def cP.Gr(I:cP X (p_++pl) σ H s):cP X p_ σ H s:=I.xr λp a=>I.pin p<|f6 _<|jo _ a
def ik{body:List aK}{wi:TI}(p:eU (ap X.prog X.w) X.A X.env X.xe)(E:X.calm=c_)(hi:PI X tg iter wi)(R:PG X tg g)(a:fH X body tb)
  (S:∀x,TC iter X.env x=pure x:=by intro _;rfl):PS X (.For tg iter body [] pos) (am9 wi g tb):=by
 refine λp_ s σ H D I h=>wpAny_For (aR (hi _ s _ H _ I h) λv s1 h1=>aR h1 λJX s2 h2=>?_) S;obtain⟨it,fp,tn,J,U,e,V,T,Y,F,W,⟨Z,w0⟩,turn⟩:=h2;subst e;have y:∀{H':Hp},(∀b∈fp,H' b=b_)->∀b∈fp,gw X _ _ b:=λhn b a=>⟨hn b a,(F b a).2⟩;refine codeAny_forLoop_any (λn G=>∃i q H',cP X p_ q H' G/\tn i G.heap/\(∀b∈fp,H' b=b_)/\W i n q H') ?_ Z ⟨0,σ,U,V,Y,λb a=>(F b a).1,w0⟩;rintro n s3 ⟨i,K,L,M,O,P,w3⟩;obtain⟨stop,qn⟩|⟨go,N,hN,step⟩:=turn i n K L w3
 .refine AR p (aR (T.done X xz xz xz E i _ _ _ _ _ M (y P) O stop) λr s4⟨z,I4⟩=>?_);subst z;exact CI ⟨K,L,I4,qn⟩
 refine AR p (aR (T.item X xz xz xz E i _ _ _ _ _ M (y P) O go) λr s4⟨u,z,h4⟩=>?_);subst z;refine AR p (aR h4 λ_ s5⟨x,H5,I5,r5,y5,B,SD⟩=>?_);have SQ:=I5.pinned (y SD)<|T.obj _ _ B;refine AR p (aR (R _ _ _ _ x u _ SQ r5<|step x _ y5) λ_ s6⟨σ6,H6,I6,q6⟩=>AR p<|aR (a _ _ _ _ _ I6 q6) λf C l=>?_)
 have Q:∀{c:St}{j:Hp},cP X (p_++Dx fp s5.heap) c j C->N c j->∃m,m<n/\∃i q H',cP X p_ q H' C/\tn i C.heap/\(∀b∈fp,H' b=b_)/\W i m q H':=λ{c j}k t=>by
  obtain⟨m',hm,w7⟩:=hN c j t;refine⟨m',hm,i+1,c,j,k.Gr,T.keep _ _ _ B λb a o e=>(k.pin _<|f6 _<|f6 _<|A6 a e).1,λb a=>?_,w7⟩;obtain⟨o,e,d⟩:=T.obj _ _ B b a;exact(k.pin _<|f6 _<|f6 _<|A6 a e).2.1
 cases f with
 | next=>obtain⟨c,j,k,t⟩:=l;exact Q k t
 | cont=>obtain⟨c,j,k,t⟩:=l;exact Q k t
 | brk=>obtain⟨c,j,k,l⟩:=l;exact⟨c,j,k.Gr,l⟩
 | ret v=>obtain⟨x7,c,j,k,r7,l⟩:=l;exact⟨x7,c,j,k.Gr,r7,l⟩
end
def Df{K:u_}{a:e_}{xs:List V}{g:TG}{tb:TS}{D:Ends}{σ:St}{H:Hp}(b:Nat->St->Hp->Prop)(j:b 0 σ H)(k:∀i σ H,i<=xs.length->b i σ H->ao K H a xs)(l:∀i x σ H,xs[i]?=a_ x->b i σ H->g x σ H λc d=>tb {D with nx:=b<|i+1,ct:=b<|i+1,bk:=D.nx} c d)(hd:∀σ H,b xs.length σ H->D.nx σ H):∃W:Nat->Nat->St->Hp->Prop,(∃m,W 0 m σ H)/\∀i m σ H,W i m σ H->((Ey K a).stop i H/\D.nx σ H)\/((Ey K a).go i H/\∃N:St->Hp->Prop,(∀f H',N f H'->∃h,h<m/\W (i+1) h f H')/\∀x H',(Ey K a).vZ i H x H'->g x σ H' λc d=>tb {D with nx:=N,ct:=N,bk:=D.nx} c d):=by
 refine⟨λi m σ H=>m=xs.length-i/\i<=xs.length/\b i σ H,⟨xs.length,by simp,aY _,j⟩,?_⟩;rintro i m σ H ⟨rfl,hi,p⟩;have q:=k i _ H hi p
 by_cases n:i<xs.length
 .refine .inr ⟨⟨xs,xs[i],q,by simp ⟩,b<|i+1,λf H' o=>⟨xs.length-(i+1),om,xz,n,o⟩,λx H' y=>?_⟩;obtain⟨e,y⟩:=y;subst e;exact l i x _ _ (y _ q) p
 have e:i=xs.length:=om;subst e;exact .inl ⟨⟨xs,q,aD _⟩,hd _ H p⟩
def nY{lo:Int}{n:Nat}{g:TG}{tb:TS}{D:Ends}{σ:St}{H:Hp}(a:Nat->St->Hp->Prop)(j:a 0 σ H)(k:∀i σ H,i<n->a i σ H->g (.int<|lo+i) σ H λb c=>tb {D with nx:=a<|i+1,ct:=a<|i+1,bk:=D.nx} b c)(hd:∀σ H,a n σ H->D.nx σ H):∃W:Nat->Nat->St->Hp->Prop,(∃m,W 0 m σ H)/\∀i m σ H,W i m σ H->((z9 lo n).stop i H/\D.nx σ H)\/((z9 lo n).go i H/\∃N:St->Hp->Prop,(∀d H',N d H'->∃h,h<m/\W (i+1) h d H')/\∀x H',(z9 lo n).vZ i H x H'->g x σ H' λb c=>tb {D with nx:=N,ct:=N,bk:=D.nx} b c):=by
 refine⟨λi m σ H=>m=n-i/\i<=n/\a i σ H,⟨n,by simp,aY _,j⟩,?_⟩;rintro i m σ H ⟨rfl,hi,p⟩
 by_cases f:i<n
 .refine .inr ⟨f,a<|i+1,λd H' l=>⟨n-(i+1),om,xz,f,l⟩,λx H' y=>?_⟩;obtain⟨e,y⟩:=y;subst e y;exact k i _ _ f p
 have e:i=n:=om;subst e;exact .inl ⟨aD _,hd _ H p⟩
abbrev R2:=V->V->Hp->VK->Prop
def fo(X:Cx)(f:f_->f_->Sem f_)(r:R2):Prop:=
 ∀(p_:List (e_×bE))(s:g_)(σ:St)(H:Hp)(x y:V)(v u:f_)(Q:VK),cP X p_ σ H s->d0 x v->d0 y u->r x y H Q->
  am (ap X.prog X.w) X.A (f v u) (EP X p_ σ Q) X.xe s
def QV(X:Cx)(f:f_->Sem f_)(r:V->Hp->VK->Prop):Prop:=
 ∀(p_:List (e_×bE))(s:g_)(σ:St)(H:Hp)(x:V)(v:f_)(Q:VK),cP X p_ σ H s->d0 x v->r x H Q->
  am (ap X.prog X.w) X.A (f v) (EP X p_ σ Q) X.xe s
def kP(X:Cx)(f:f_)(r:List V->Hp->VK->Prop):Prop:=
 ∀(p_:List (e_×bE))(s:g_)(σ:St)(H:Hp)(xs:List V)(us:List f_)(Q:VK),cP X p_ σ H s->d4 xs us->r xs H Q->
  am (ap X.prog X.w) X.A (call f us) (EP X p_ σ Q) X.xe s
abbrev zU(r:R2)(ta tb:TE):TE:=λσ H Q=>ta σ H λx H1=>tb σ H1 λy H2=>r x y H2 Q
abbrev tUn(r:V->Hp->VK->Prop)(ta:TE):TE:=λσ H Q=>ta σ H λx H1=>r x H1 Q
def rI(C:Int->Int->Prop)(g:Int->Int->V):R2:=λx y H Q=>∃i j,x=.int i/\y=.int j/\C i j/\Q (g i j) H
def zV(g:Int->Int->V):R2:=λx y H Q=>∃i j,x=.int i/\y=.int j/\Q (g i j) H
def rU(g:Int->V):V->Hp->VK->Prop:=λx H Q=>∃i,x=.int i/\Q (g i) H
section
variable{X:Cx}{a b c:b4}{ta tb tc:TE}{pos:Pos}
def Qj(ha:PE X a ta)(g:PE X b tb){R:V->V->Hp->Prop}(I:cP X p_ σ H s)(h:ta σ H λx e=>tb σ e λy d=>R x y d){f:f_->f_->Sem f_}(i:∀v u s2 x y d,cP X p_ σ d s2->d0 x v->d0 y u->R x y d->am (ap X.prog X.w) X.A (f v u) Q X.xe s2):am (ap X.prog X.w) X.A (eval a X.env) (λv j=>am (ap X.prog X.w) X.A (eval b X.env) (λu k=>am (ap X.prog X.w) X.A (f v u) Q X.xe k) X.xe j) X.xe s:=by
 refine aR (ha _ s _ H _ I h) λv s1⟨x,e,l,m,n⟩=>aR (g _ _ _ _ _ l n) λu s2⟨y,d,o,r2,p⟩=>?_;exact i v u _ x y _ o m r2 p
def bg{d:Operator}{r:R2}(e:fo X (vm d) r)(ha:PE X a ta)(f:PE X b tb):PE X (.BinOp a d b pos) (zU r ta tb):=by
 exact λp_ s σ H Q I h=>wpAny_BinOp (Qj ha f I h λv u s2 x y k g i j q=>e _ _ _ _ x y v u Q g i j q)
def HW(d:QV X (unaryOp op) r)(ha:PE X a ta):PE X (.UnaryOp op a pos) (tUn r ta):=by
 exact λp_ s σ H Q I h=>UnaryOp_ (aR (ha _ s _ H _ I h) λv s1⟨x,i,e,f,g⟩=>d _ _ _ _ x v Q e f g)
def En{f:f_->f_->Sem f_}{C:Int->Int->Prop}{g:Int->Int->Int}(d:∀(i j:Int)(t u:Tok)(s:g_)(Q:f_->g_->Prop)(E:f_->g_->Prop),C i j->Q (.int (g i j) s.toks) {s with toks:=s.toks+1}->am (ap X.prog X.w) X.A (f (.int i t)<|.int j u) Q E s):fo X f (rI C λi j=>.int<|g i j):=by
 intro p_ s σ H x y v u Q I e k h;obtain⟨i,j,rfl,rfl,l,q⟩:=h;obtain⟨t,rfl⟩:=e;obtain⟨t',rfl⟩:=k;exact d i j t _ s _ _ l ⟨.int<|g i j,H,I.tok _,⟨_,xz⟩,q⟩
def ZZ{f:f_->f_->Sem f_}{g:Int->Int->Int}(d:∀(i j:Int)(t u:Tok)(s:g_)(Q:f_->g_->Prop)(E:f_->g_->Prop),Q (.int (g i j) s.toks) {s with toks:=s.toks+1}->am (ap X.prog X.w) X.A (f (.int i t)<|.int j u) Q E s):fo X f (zV λi j=>.int<|g i j):=by
 intro p_ s σ H x y v u Q I e k h;obtain⟨i,j,rfl,rfl,q⟩:=h;obtain⟨t,rfl⟩:=e;obtain⟨t',rfl⟩:=k;exact d i j t _ s _ _ ⟨.int<|g i j,H,I.tok _,⟨_,xz⟩,q⟩
def P9{f:f_->f_->Sem f_}{g:Int->Int->Bool}(d:∀(i j:Int)(t u:Tok)(s:g_)(Q:f_->g_->Prop)(E:f_->g_->Prop),Q (.bool<|g i j) s->am (ap X.prog X.w) X.A (f (.int i t)<|.int j u) Q E s):fo X f (zV λi j=>.bl<|g i j):=by
 intro p_ s σ H x y v u Q I e k h;obtain⟨i,j,rfl,rfl,q⟩:=h;obtain⟨t,rfl⟩:=e;obtain⟨t',rfl⟩:=k;exact d i j t _ s _ _ ⟨.bl<|g i j,H,I,xz,q⟩
def anA(i j:Int):Prop:=0<j/\j<1073741824
def anz(i j:Int):Prop:=0<=j/\j<=1000000/\i.natAbs<2^64
def Qn(i j:Int):Prop:=(-(2^64)<i/\i<2^64)\/(-(2^64)<j/\j<2^64)
def Qn.ok(h:Qn i j):IntMulOk i j:=by
 obtain⟨h1,h2⟩|⟨h1,h2⟩:=h
 .exact .of_left (intBits_le_64 h1 h2)
 exact .of_right (intBits_le_64 h1 h2)
def adp(k:Nat):(0:Int)<=2^k:=by
 rw[two_pow_cast];exact Tw _
def jv:fo X (vm .Add) (zV λi j=>.int<|i+j):=ZZ λ_ _ _ _ _ _ _ q=>add_int q
def Oo:fo X (vm .Sub) (zV λi j=>.int<|i-j):=ZZ λ_ _ _ _ _ _ _ q=>sub_int q
def zt:fo X (vm .Mult) (rI Qn λi j=>.int<|i*j):=En λ_ _ _ _ _ _ _ d q=>mul_int q d.ok
def oa:fo X (vm .FloorDiv) (rI anA λi j=>.int<|i/j):=En λi j _ _ _ _ _ d q=>by
 have h1:=d.1;have h2:=d.2;exact floordiv_int om (by rw[aa9 i om];exact q)<|.inl<|PyProof.noPylong_small om
def gE:fo X (vm .Mod) (rI (λ_ j=>0<j) λi j=>.int<|i%j):=En λi j _ _ _ _ _ d q=>by
 exact mod_int' om (by rw[Int.fmod_eq_emod_of_nonneg i om];exact q)
def ajg:fo X (vm .Pow) (rI anz λi j=>.int<|i^j.toNat):=En λ_ _ _ _ _ _ _ d q=>pow_int_small d.1 d.2.1 d.2.2 q
def ajf:fo X (vm .RShift) (rI (λ_ j=>0<=j) λi j=>.int<|i/2^j.toNat):=En λi j _ _ _ _ _ d q=>
 rshift_int d (by rw[aa9 i<|adp _];exact q)
def unI{f:f_->Sem f_}{g:Int->Int}(d:∀(i:Int)(t:Tok)(s:g_)(Q:f_->g_->Prop)(E:f_->g_->Prop),Q (.int (g i) s.toks) {s with toks:=s.toks+1}->am (ap X.prog X.w) X.A (f<|.int i t) Q E s):QV X f (rU λi=>.int<|g i):=by
 intro p_ s σ H x v Q I e h;obtain⟨i,rfl,q⟩:=h;obtain⟨t,rfl⟩:=e;exact d i t s _ _ ⟨.int<|g i,H,I.tok _,⟨_,xz⟩,q⟩
def Hs:QV X (unaryOp .USub) (rU λi=>.int<|-i):=unI λ_ _ _ _ _ q=>neg_int q
end
noncomputable def PY:V->V->Bool
 | .aJ,.aJ=>c_ | .aJ,.int _=>c_ | .int _,.aJ=>c_ | .aJ,.bl _=>c_ | .bl _,.aJ=>c_ | .aJ,.str _=>c_ | .str _,.aJ=>c_
 | .int _,.int _=>c_ | .bl _,.bl _=>c_ | .str _,.str _=>c_ | .qI _,.qI _=>c_
 | .int _,.str _=>c_ | .str _,.int _=>c_ | .bl _,.str _=>c_ | .str _,.bl _=>c_
 | _,_=>d_
def jw:R2:=λx y H Q=>PY x y=c_/\Q (.bl<|decide<|x=y) H
def rNe:R2:=λx y H Q=>PY x y=c_/\Q (.bl<|!decide (x=y)) H
def xv:decide (V.int i=V.int j)=(i==j):=by
 rw[Ll];simp
def YT:decide (V.bl i=V.bl j)=(i==j):=by
 rw[Ll];simp
def XO:decide (V.str i=V.str j)=(i==j):=by
 rw[Ll];simp
def XQ:decide (V.qI i=V.qI j)=(i.toList==j.toList):=by
 rw[Ll];cases i;cases j;simp
section
variable{X:Cx}{a b c:b4}{ta tb tc:TE}{pos:Pos}
def fb{k k':Bool}(I:cP X p_ σ H s)(q:Q (.bl k) H)(e:k=k'):EP X p_ σ Q (.bool k') s:=by
 subst e;exact⟨.bl k,H,I,xz,q⟩
def dF:fo X (ja .Eq) jw:=by
 intro p_ s σ H x y v u Q I f d h;obtain⟨e,q⟩:=h;cases x with
 | aJ=>
  cases f;cases y with
  | aJ=>cases d;exact PySem.EqNone.eq_none_none<|fb I q (by simp)
  | bl j=>cases d;exact PySem.EqNone.eq_none_bool<|fb I q (by simp)
  | int j=>obtain⟨t',rfl⟩:=d;exact PySem.EqNone.eq_none_int<|fb I q (by simp)
  | str j=>obtain⟨t',rfl⟩:=d;exact PySem.EqNone.eq_none_str<|fb I q (by simp)
  | _=>exact dV e dW
 | bl i=>
  cases f;cases y with
  | aJ=>cases d;exact PySem.EqNone.eq_bool_none<|fb I q (by simp)
  | bl j=>cases d;exact eq_bool<|fb I q YT
  | str j=>obtain⟨t',rfl⟩:=d;exact PySem.EqMixed.eq_bool_str<|fb I q (by simp)
  | _=>exact dV e dW
 | int i=>
  obtain⟨t,rfl⟩:=f;cases y with
  | aJ=>cases d;exact PySem.EqNone.eq_int_none<|fb I q (by simp)
  | int j=>obtain⟨t',rfl⟩:=d;exact eq_int<|fb I q xv
  | str j=>obtain⟨t',rfl⟩:=d;exact PySem.EqMixed.eq_int_str<|fb I q (by simp)
  | _=>exact dV e dW
 | str i=>
  obtain⟨t,rfl⟩:=f;cases y with
  | aJ=>cases d;exact PySem.EqNone.eq_str_none<|fb I q (by simp)
  | bl j=>cases d;exact PySem.EqMixed.eq_str_bool<|fb I q (by simp)
  | int j=>obtain⟨t',rfl⟩:=d;exact PySem.EqMixed.eq_str_int<|fb I q (by simp)
  | str j=>obtain⟨t',rfl⟩:=d;exact eq_str<|fb I q XO
  | _=>exact dV e dW
 | qI i=>
  obtain⟨t,rfl⟩:=f;cases y with
  | qI j=>obtain⟨t',rfl⟩:=d;exact W.eq_bytes<|fb I q XQ
  | _=>exact dV e dW
 | _=>cases y <;> exact dV (show d_=c_ from e) dW
def xG:fo X (ja .NotEq) rNe:=by
 intro p_ s σ H x y v u Q I f d h;obtain⟨e,q⟩:=h;cases x with
 | aJ=>
  cases f;cases y with
  | aJ=>cases d;exact PySem.EqNone.ne_none_none<|fb I q (by simp)
  | bl j=>cases d;exact PySem.EqNone.ne_none_bool<|fb I q (by simp)
  | int j=>obtain⟨t',rfl⟩:=d;exact PySem.EqNone.ne_none_int<|fb I q (by simp)
  | str j=>obtain⟨t',rfl⟩:=d;exact PySem.EqNone.ne_none_str<|fb I q (by simp)
  | _=>exact dV e dW
 | bl i=>
  cases f;cases y with
  | aJ=>cases d;exact PySem.EqNone.ne_bool_none<|fb I q (by simp)
  | bl j=>cases d;exact ne_bool<|fb I q<|f0 _ YT
  | str j=>obtain⟨t',rfl⟩:=d;exact PySem.EqMixed.ne_bool_str<|fb I q (by simp)
  | _=>exact dV e dW
 | int i=>
  obtain⟨t,rfl⟩:=f;cases y with
  | aJ=>cases d;exact PySem.EqNone.ne_int_none<|fb I q (by simp)
  | int j=>obtain⟨t',rfl⟩:=d;exact ne_int<|fb I q<|f0 _ xv
  | str j=>obtain⟨t',rfl⟩:=d;exact PySem.EqMixed.ne_int_str<|fb I q (by simp)
  | _=>exact dV e dW
 | str i=>
  obtain⟨t,rfl⟩:=f;cases y with
  | aJ=>cases d;exact PySem.EqNone.ne_str_none<|fb I q (by simp)
  | bl j=>cases d;exact PySem.EqMixed.ne_str_bool<|fb I q (by simp)
  | int j=>obtain⟨t',rfl⟩:=d;exact PySem.EqMixed.ne_str_int<|fb I q (by simp)
  | str j=>obtain⟨t',rfl⟩:=d;exact ne_str<|fb I q<|f0 _ XO
  | _=>exact dV e dW
 | qI i=>
  obtain⟨t,rfl⟩:=f;cases y with
  | qI j=>obtain⟨t',rfl⟩:=d;exact W.ne_bytes<|fb I q<|f0 _ XQ
  | _=>exact dV e dW
 | _=>cases y <;> exact dV (show d_=c_ from e) dW
def BA:fo X (ja .Lt) (zV λi j=>.bl<|decide<|i<j):=P9 λ_ _ _ _ _ _ _ q=>lt_int q
def Pb:fo X (ja .LtE) (zV λi j=>.bl<|decide<|i<=j):=P9 λ_ _ _ _ _ _ _ q=>le_int q
def zz:fo X (ja .Gt) (zV λi j=>.bl<|decide<|j<i):=P9 λ_ _ _ _ _ _ _ q=>gt_int q
def Ou:fo X (ja .Is) (λx y H Q=>y=.aJ/\Q (.bl<|decide<|x=.aJ) H):=by
 intro p_ s σ H x y v u Q I d e h;obtain⟨rfl,q⟩:=h;cases e;refine is_none_gen<|fb I q ?_
 cases x <;> first
  | (cases d;rfl)
  | (obtain⟨t,rfl⟩:=d;rfl)
def NF:fo X (ja .IsNot) (λx y H Q=>y=.aJ/\Q (.bl<|!decide (x=.aJ)) H):=by
 intro p_ s σ H x y v u Q I d e h;obtain⟨rfl,q⟩:=h;cases e;refine isnot_none_gen<|fb I q ?_
 cases x <;> first
  | (cases d;rfl)
  | (obtain⟨t,rfl⟩:=d;rfl)
def bo(b:b4)(h:autoParam (d≠.In) a4)(h2:autoParam (d≠.NotIn) a4):FY d b=false:=by
 have e:(d==CmpOp.In)=false:=by cases d <;> first | rfl | exact dV xz h
 have f:(d==CmpOp.NotIn)=false:=by cases d <;> first | rfl | exact dV xz h2
 cases b <;> simp[FY,e,f]
def xt{d:CmpOp}{r:R2}(e:fo X (ja d) r)(ha:PE X a ta)(f:PE X b tb)(hm:FY d b=d_):PE X (.Compare a [d] [b] pos) (zU r ta tb):=by
 exact λp_ s σ H Q I h=>wpAny_Compare1 (Qj ha f I h λv u s2 x y k g i j q=>e _ _ _ _ x y v u Q g i j q) hm
abbrev Y2(t:TE):TT:=λσ H Q=>t σ H λx H'=>∃k,x=.bl k/\Q k H'
def bA(d:fo X (ja op) r)(ha:PE X a ta)(f:PE X b tb)(hm:FY op b=d_):PT X (.Compare a [op] [b] pos) (Y2<|zU r ta tb):=by
 intro p_ s σ H Q I h
 refine aby (aR (ha p_ s σ H _ I h) λv s1⟨x,g,i,j,l⟩=>aR (f p_ s1 σ g _ i l) λu s2⟨y,m,n,r2,o⟩=>
  aR (d p_ s2 σ m x y v u _ n j r2 o) λc w⟨z,p,q,r3,k,e,t⟩=>?_) hm
 subst e;cases r3;exact pZ ⟨p,q,t⟩
def X5(r e:R2)(ta tb tc:TE):TE:=λσ H Q=>ta σ H λx f=>tb σ f λy g=>r x y g λz d=>∃k,z=.bl k/\
 (if k=c_ then tc σ d λh i=>e y h i Q else Q (.bl d_) d)
def afP(i:fo X (ja op) r)(j:fo X (ja EJ) r')(ha:PE X a ta)(l:PE X b tb)(m:PE X c tc)
  (hm:autoParam (lastMarks [op,EJ] [b,c]=false) a5):PE X (.Compare a [op,EJ] [b,c] pos) (X5 r r' ta tb tc):=by
 intro p_ s σ H Q I h
 refine Compare_chain (aR (ha p_ s σ H _ I h) λv s1⟨x,n,o,p,q⟩=>chain_link (aR (l p_ s1 σ n _ o q) λu s2⟨y,t,w,r2,A⟩=>
  aR (i p_ s2 σ t x y v u _ w p r2 A) λd F⟨z,B,f,r3,k,e,g⟩=>?_)) hm
 subst e;cases r3;refine pZ ?_;rcases k with _|_;exact ite_ff ⟨.bl _,B,f,xz,g⟩;exact ite_tt<|chain_last (aR (m _ _ _ _ _ f g) λG J⟨K,L,C,D,E⟩=>j _ _ _ _ y _ u _ Q C r2 D E)
def afG(i:fo X (ja op) r)(j:fo X (ja EJ) r')(ha:PE X a ta)(l:PE X b tb)(m:PE X c tc)
  (hm:autoParam (lastMarks [op,EJ] [b,c]=false) a5):PT X (.Compare a [op,EJ] [b,c] pos) (Y2<|X5 r r' ta tb tc):=by
 intro p_ s σ H Q I h
 refine isTrue_chain (aR (ha p_ s σ H _ I h) λv s1⟨x,n,o,p,q⟩=>test_link (aR (l p_ s1 σ n _ o q) λu s2⟨y,t,w,r2,A⟩=>
  aR (i p_ s2 σ t x y v u _ w p r2 A) λd O⟨z,B,f,r3,k,e,g⟩=>?_)) hm
 subst e;cases r3;refine pZ ?_;rcases k with _|_
 ·obtain⟨k',C,D⟩:=g;cases C;exact ite_ff ⟨B,f,D⟩
 refine ite_tt<|test_last (aR (m _ _ _ _ _ f g) λP R⟨S,T,E,F,G⟩=>aR (j _ _ _ _ y _ u _ _ E r2 F G) λd' U⟨V,J,K,L,W,M,N⟩=>?_);subst M;cases L;exact pZ ⟨J,K,N⟩
def DG:(bp:Nat)<2^63:=by rw[eA];decide
def vals1(r:d4 [x] us):∃u,us=[u]/\d0 x u:=by
 cases r with
 | cons r1 r2=>cases r2;exact⟨_,xz,r1⟩
def vals2(r:d4 [x,y] us):∃u d,us=[u,d]/\d0 x u/\d0 y d:=by
 cases r with
 | cons r1 r2=>
  cases r2 with
  | cons r3 e=>cases e;exact⟨_,_,xz,r1,r3⟩
def afb(e:X.calm=c_):kP X (.builtin "min") (λxs H Q=>∃i j,xs=[.int i,.int j]/\Q (.int (if j<i then j else i)) H):=by
 intro p_ s σ H xs us Q I r h;obtain⟨i,j,rfl,q⟩:=h;obtain⟨u,f,rfl,⟨t,rfl⟩,⟨t',rfl⟩⟩:=vals2 r;refine min_two_ints (I.ok.hd e) λh' tk k=>⟨_,H,I.kept k,?_,q⟩
 by_cases d:j<i
 .rw[dL d,dL d];exact⟨_,xz⟩
 rw[dt d,dt d];exact⟨_,xz⟩
end
structure zO(h:i_)(x dx C:e_)(mA:bx->Option f_):Prop where
 obj:h.get? x=a_ (W.instObj C dx)
 ns:h.Ns1 dx mA
 ne:dx≠x
def VE{h:i_}{dx:e_}{mA:bx->Option f_}(n:h.Ns1 dx mA):∃od,h.get? dx=a_ od/\∀name,W.lookIn name od=a_ (mA name):=by
 obtain⟨o,es,g,b,hd,c,_,hm⟩:=n;refine⟨o,b,λname=>?_⟩;have e:=hm name;unfold nsFind findBy at e;rw[<-Array.find?_toList]at e;unfold W.lookIn;rw[hd];dsimp only
 split
 .rename_i y q
  rw[q]at e;exact f0 _ e
 rename_i q
 rw[q]at e
 have a:es.toList.any (·.refKey)=false:=by
  rw[List.any_eq_false];intro y d;obtain⟨z,t,f⟩:=c y<|Array.mem_toList_iff.mp d;simp[DictEntry.refKey,f]
 have a':¬es.toList.any (·.refKey)=true:=by rw[a];exact dW
 rw[dt a'];exact f0 _ e
def zO.look(I:zO h x dx C mA):∃od,D_ h x (W.instObj C dx) C (a_ od)/\∀name,W.lookIn name od=a_ (mA name):=
 let ⟨od,ho,hl⟩:=VE I.ns
 ⟨od,⟨I.obj,xz,xz,ho⟩,hl⟩
section
variable{prog:k_}{w:j_}{A:h_}{E:f_->g_->Prop}{s:g_}{K:u_}{x dx C f:e_}{mA:bx->Option f_}{name:bx}{v:f_}
def get_map(X:K.In s.heap)(I:zO s.heap x dx C mA)(a:W.plainGet K C name=c_)(b:F_ K C=c_)(ha:w_ K (.ref C) name=a_ b_)(c:mA name=a_ v)(d:W.handedIn v=c_)(h:Q v {s with toks:=s.toks+1}):am (ap prog w) A (getAttr (.ref x) name expr) Q E s:=by
 obtain⟨od,J,e⟩:=I.look;exact W.get_value X J (W.plainGet_of a).1 (W.findObj_own b ha xz<|by rw[e,c]) d h
def agv(X:K.In s.heap)(I:zO s.heap x dx C mA)(a:W.plainGet K C name=c_)(b:w_ K (.ref C) name=a_ (a_<|.ref f))(c:W.isFn K (.ref f)=c_)(d:mA name=b_)(h:Q (.ref f,[.ref x]) s):am (ap prog w) A (yZ (.ref x) name pl) Q E s:=by
 obtain⟨od,J,e⟩:=I.look;exact W.method_fn X J (W.plainGet_of a).1 (W.plainGet_of a).2 b (eY.mp c) (by show (W.lookIn _ _).map (·.isSome)=a_ _;rw[e,d];rfl) h
def ahe(X:K.In s.heap)(I:zO s.heap x dx C mA)(d:w_ K (.ref C) "__setattr__"=a_ (a_<|.builtin "object.__setattr__"))(e:W.plainOver K C=c_)(g:W.takerIn K C name=a_ b_)(i:F_ K C=c_)(hw:PySem.Within mA ns)(o:ns.length<=bp)(h:∀h',zO h' x dx C (λy=>if y=name then a_ v else mA y)->o7 dx s.heap h'->Q () {s with heap:=h',toks:=s.toks+2}):am (ap prog w) A (setAttr (.ref x) name v) Q E s:=by
 obtain⟨od,J,p⟩:=I.look;refine W.set_plain X J d (W.osa_open X J e g λb=>?_);obtain⟨cd,j,k⟩:=W.any_some i;refine ah<|aI<|ah<|ah<|wpAny_loadPart I.obj<|ah<|W.Looks.here (W.looks_clsIn X j) ?_;rw[k];refine aI<|ah<|aI<|ah (wpAny_nsSet1 I.ns λh' a c=>?_);obtain⟨q,r,t,l,m,n⟩:=a.count<|PySem.Within.cons name v hw;exact ah<|wpAny_lookBehind l (by rw[m];exact pastItsLine_dict<|cF n<|by rw[gI];omega)<|aI<|h _ ⟨(c.2 _<|b8 I.ne).f4 I.obj,a,I.ne⟩ c
def agh(X:K.In s.heap)(hm:W.makesIn K C=c_)(hi:w_ K (.ref C) "__init__"=a_ (a_<|.ref f))(a:W.typeIn K (.ref f)=a_ (.type "function"))(h:codeAny (ap prog w) (A.under<|.builtin "type.__call__" ⟨.ref C::vs,kw⟩) (.call (.ref f) ⟨.ref (s.zS+1)::vs,kw⟩) (W.InitBack (s.zS+1) R) {s with heap:=(s.heap.push W.emptyDict).push (W.instObj C s.zS)}):codeAny (ap prog w) A (.call (.ref C) ⟨vs,kw⟩) R s:=by
 obtain⟨b,g,d,t,os⟩:=s;exact W.make_core (W.makes_of X hm) (W.looks_findIn X hi) (λself=>W.bind_fn X _ a) (.inl xz) h
end
noncomputable def aT(f:bx)(v:V):List (bx×V)->List (bx×V)
 | []=>[(f,v)]
 | (g,x)::r=>if g=f then (g,v)::r else (g,x)::aT f v r
theorem gm(f g:bx)(v:V):∀fs:List (bx×V),(aT f v fs).lookup g=if g=f then a_ v else fs.lookup g
 | []=>by
  show yR g [(f,v)]=_
  by_cases h:g=f
  .have a:(g==f)=true:=eY.mpr h;simp only[yR,a,dL h]
  have a:(g==f)=false:=eX.mpr h;simp only[yR,a,dt h]
 | (k,x)::r=>by
  rw[show aT f v ((k,x)::r)=(if k=f then (k,v)::r else (k,x)::aT f v r) from rfl]
  by_cases b:k=f
  .rw[dL b]
   by_cases h:g=k
   .have a:(g==k)=true:=eY.mpr h;simp only[yR,a,dL<|h.f4 b]
   have a:(g==k)=false:=eX.mpr h;simp only[yR,a,dt λe:g=f=>h<|e.f4 b.f5]
  rw[dt b]
  by_cases h:g=k
  .have a:(g==k)=true:=eY.mpr h;simp only[yR,a,dt λe:g=f=>b<|h.f5.f4 e]
  have a:(g==k)=false:=eX.mpr h;simp only[yR,a];exact gm f g v r
theorem Mb(f:bx)(v:V):∀fs:List (bx×V),f∈(aT f v fs).map (·.1)/\∀g,g∈fs.map (·.1)->g∈(aT f v fs).map (·.1)
 | []=>⟨by simp[aT],λg h=>by simp at h⟩
 | (k,x)::r=>by
  obtain⟨b,c⟩:=Mb f v r;rw[show aT f v ((k,x)::r)=(if k=f then (k,v)::r else (k,x)::aT f v r) from rfl]
  by_cases a:k=f
  .rw[dL a];subst a;exact⟨by simp,λg h=>by simpa using h⟩
  rw[dt a];refine⟨?_,λg h=>?_⟩
  .rw[eu];exact eI _ b
  rw[eu]at h ⊢;obtain e|e:=bq.mp h
  .exact bq.mpr (.inl e)
  exact eI _ (c g e)
theorem tM(f:bx)(v:V):∀fs:List (bx×V),(aT f v fs).length<=fs.length+1
 | []=>by simp[aT]
 | (k,x)::r=>by
  have ih:=tM f v r;rw[show aT f v ((k,x)::r)=(if k=f then (k,v)::r else (k,x)::aT f v r) from rfl]
  by_cases a:k=f
  .rw[dL a,gI,gI];omega
  rw[dt a,gI,gI];omega
def i0.some_of(r:i0 (a_ v) o):∃u,o=a_ u/\d0 v u:=by
 rcases o with _|u;exact r.elim;exact⟨u,xz,r⟩
def i0.none_of(r:i0 b_ o):o=none:=by
 rcases o with _|u;rfl;exact r.elim
def VI(r:d0 v u):W.handedIn u=true:=by
 cases v with
 | aJ=>cases r;rfl
 | bl b=>cases r;rfl
 | int i=>obtain⟨t,e⟩:=r;cases e;rfl
 | str x=>obtain⟨t,e⟩:=r;cases e;rfl
 | qI b=>obtain⟨t,e⟩:=r;cases e;rfl
 | v9 b=>obtain⟨t,e⟩:=r;cases e;rfl
 | ref a=>cases r;rfl
 | ty n=>cases r;rfl
section
variable{P:k_}{w:j_}{H H':Hp}{h h':i_}{a C dx:e_}{fs oU:List (bx×V)}
def Hk(aE:dR P w H h)(e:H a=a_ (.ins C dx fs)):∃mA,zO h a dx C mA/\(∀f,i0 (fs.lookup f)<|mA f)/\PySem.Within mA (fs.map (·.1))/\fs.length<=1000/\H dx=a_ (.own a):=by
 obtain⟨d,z,ne,b,mA,n,r,q⟩:=(aE a _ e);exact⟨mA,⟨b,n,ne⟩,r,q,z,d⟩
end
structure eO(K:u_)(C:e_):Prop where
 pg:W.plainGet K C Str.empty=c_
 hd:F_ K C=c_
 po:W.plainOver K C=c_
 sa:w_ K (.ref C) "__setattr__"=a_ (a_<|.builtin "object.__setattr__")
def eO.get{K:u_}(c:eO K C)(f:bx):W.plainGet K C f=true:=c.pg
def bU(K:u_)(C:e_)(f:bx):Prop:=w_ K (.ref C) f=a_ b_
def bU.akP{K:u_}(n:bU K C f):W.takerIn K C f=a_ none:=by
 unfold W.takerIn;rw[show w_ K _ f=a_ _ from n];rfl
structure Meth(K:u_)(C:e_)(m:bx)(f:e_):Prop where
 at_:w_ K (.ref C) m=a_ (a_<|.ref f)
 fn:W.isFn K (.ref f)=c_
 kp:x_ K (.ref f)=c_
section
variable{X:Cx}{p_:List (e_×bE)}{σ:St}{H:Hp}{s:g_}{a C dx:e_}{fs:List (bx×V)}{f:bx}{v:V}{A:h_}{E:f_->g_->Prop}
def U5(I:cP X p_ σ H s)(e:H a=a_ (.ins C dx fs))(c:eO X.K C)(n:bU X.K C f)(l:fs.lookup f=a_ v)(h:∀u d,cP X p_ σ H d->d0 v u->Q u d):am (ap X.prog X.w) A (getAttr (.ref a) f b) Q E s:=by
 obtain⟨mA,O,r,_,_,_⟩:=Hk I.aE e;obtain⟨u,i,g⟩:=i0.some_of (v:=v) (o:=mA f) (by rw[<-l];exact r f);exact get_map I.dI O (c.get f) c.hd n i (VI g)<|h u _ (I.tok _) g
def LO(I:cP X p_ σ H s)(e:H a=a_ (.ins C dx fs))(c:eO X.K C)(k:Meth X.K C m g)(l:fs.lookup m=b_)(h:Q (.ref g,[.ref a]) s):am (ap X.prog X.w) A (yZ (.ref a) m pl) Q E s:=by
 obtain⟨mA,O,r,_,_,_⟩:=Hk I.aE e;exact agv I.dI O (c.get m) k.at_ k.fn (i0.none_of<|by rw[<-l];exact r m) h
def US(I:cP X p_ σ H s)(e:H a=a_ (.ins C dx fs))(c:eO X.K C)(n:bU X.K C f)(x:fs.length<1000)(k:d0 y u)(h:∀i,cP X p_ σ (cB H a<|.ins C dx<|aT f y fs) i->Q () i):am (ap X.prog X.w) A (setAttr (.ref a) f u) Q E s:=by
 obtain⟨mA,O,r,wi,_,j⟩:=Hk I.aE e;have l:(fs.map (·.1)).length<=bp:=by rw[aG,eA];omega
 refine ahe I.dI O c.sa c.po n.akP c.hd wi l λh' d m=>h _ ?_;have hd:∃o,h'.get? dx=a_ o:=let ⟨o,_,_,e',_⟩:=d.ns;⟨o,e'⟩
 refine I.write (e▸lZ) (.inr j) (λb q p z=>(m.2 b p).f4 z) hd ⟨by rw[ag O.ne];exact j,?_,O.ne,d.obj,_,d.ns,λg=>?_,λg t=>?_⟩
 .have:=tM f y fs;omega
 .rw[gm]
  by_cases q:g=f
  .rw[dL q,dL q];exact k
  rw[dt q,dt q];exact r g
 by_cases q:g=f
 .rw[q];exact(Mb f y _).1
 refine(Mb f y _).2 g (wi g λz=>t ?_);show (if g=f then a_ u else mA g)=b_;rw[dt q];exact z
def cP.made(I:cP X p_ σ H s):cP X p_ σ (cB (cB H s.zS<|.own<|s.zS+1) (s.zS+1)<|.ins C s.zS []) {s with heap:=(s.heap.push W.emptyDict).push (W.instObj C s.zS)}:=by
 have c:(s.heap.push _).get? _=a_ W.emptyDict:=dU _ xz
 have d:((s.heap.push W.emptyDict).push<|W.instObj C s.zS).get? (s.zS+1)=a_ (W.instObj C s.zS):=by
  have:=dU (s.heap.push W.emptyDict) (o:=W.instObj C s.zS) rfl;rwa[qb]at this
 have g:(s.heap.push _).Ns _ _:=⟨W.emptyDict,#[],_,c,xz,(λe h=>dV h<|by simp),λ_=>rfl⟩;refine (I.laid (o:=.own<|s.zS+1) (t':=s.toks) (λb u q=>bh _ q) (aD _) ⟨_,c⟩).laid (λb u q=>bh _ q) (mY<|qb _ _) ?_;have ne:s.zS≠s.zS+1:=dg<|CH _;refine⟨by rw[ag ne,av],aY _,ne,d,λ_=>b_,(Heap.Ns1.of_empty g).at λo q=>bh _ q,λ_=>lZ,λy i=>dV xz i⟩
def XU{w:j_}(b:yM e f env (eval e env)=eval e env)(h:am (ap prog w) A (eval e env) (λo c=>am (ap prog w) A (getAttr o f c_) Q E c) E s):am (ap prog w) A (eval (.Attribute e f pos) env) Q E s:=
 Attribute_any_ h (by rw[arm_eval_Attribute,b])
end
def PN(K:u_)(c:TE)(f:bx):TE:=λσ H Q=>c σ H λx b=>∃a C dx fs v,x=.ref a/\b a=a_ (.ins C dx fs)/\eO K C/\bU K C f/\fs.lookup f=a_ v/\Q v b
def ZU(K:u_)(c tv:TE)(f:bx):TS:=λD σ H=>tv σ H λy d=>c σ d λx b=>∃a C dx fs,x=.ref a/\b a=a_ (.ins C dx fs)/\eO K C/\bU K C f/\fs.length<1000/\
 D.nx σ (cB b a<|.ins C dx<|aT f y fs)
def lY(X:Cx)(a:Operator)(rd:V->V->Hp->VK->Prop):Prop:=
 ∀(p_:List (e_×bE))(s:g_)(σ:St)(H:Hp)(x y:V)(u v:f_)(Q:VK),cP X p_ σ H s->d0 x u->d0 y v->rd x y H Q->am (ap X.prog X.w) X.A (inplaceOp a u v) (EP X p_ σ Q) X.xe s
def ahq(K:u_)(g tv:TE)(rd:V->V->Hp->VK->Prop)(f:bx):TS:=λD σ H=>g σ H λx c=>∃a C dx fs v,x=.ref a/\c a=a_ (.ins C dx fs)/\eO K C/\bU K C f/\fs.lookup f=a_ v/\
 tv σ c λy h=>rd v y h λz d=>∃e b,d a=a_ (.ins C e b)/\b.length<1000/\D.nx σ (cB d a<|.ins C e<|aT f z b)
section
variable{X:Cx}{o e value:b4}{f:bx}{pos pos' Ee:Pos}{ta tv:TE}
def bT(b:PE X e ta)(d:yM e f X.env (eval e X.env)=eval e X.env):PE X (.Attribute e f pos) (PN X.K ta f):=by
 refine λp_ s σ H Q I h=>XU d (aR (b _ s _ H _ I h) λu s1 Z=>?_);obtain⟨x,g,i,j,a,C,dx,fs,v,ex,ea,c,n,l,q⟩:=Z;subst ex;obtain rfl:u=bV a:=j;exact U5 i ea c n l λp s2 k m=>⟨v,g,k,m,q⟩
def gL(ha:PE X o ta)(b:PE X value tv)(d:Dc value (a_<|.Attribute o f pos') pos.line X.env=pure d_):PS X (.Assign [.Attribute o f pos'] value pos) (ZU X.K ta tv f):=by
 refine λp_ s σ H D I h=>aaX (aR (b _ s _ H _ I h) λu s1⟨y,r,g,i,q⟩=>aR (ha _ _ _ _ _ g q) λov s2 Z=>?_) d;obtain⟨x,t,j,k,a,C,dx,fs,ex,ea,c,n,l,m⟩:=Z;subst ex;obtain rfl:ov=bV a:=k;exact US j ea c n l i λv p=>⟨σ,_,p,m⟩
def aei(ha:PE X o ta)(b:PE X value tv)(d:lY X op rd):PS X (.AugAssign (.Attribute o f Ee) op value pos) (ahq X.K ta tv rd f):=by
 refine λp_ s σ H D I h=>wpAny_AugAssign_AttributeAny (aR (ha _ s _ H _ I h) λov s1 Z=>?_);obtain⟨x,G,g,i,a,C,dx,fs,v,ex,ea,c,n,l,q⟩:=Z;subst ex;obtain rfl:ov=bV a:=i;exact U5 g ea c n l λu s2 j k=>aR (b _ _ _ _ _ j q) λw3 J⟨y,L,m,p,r⟩=>aR (d _ _ _ _ v y u _ _ m k p r) λw4 M⟨z,N,t,w,O,P,A,B,E⟩=>US t A c n B w λQ F=>⟨σ,_,F,E⟩
def ani:V->V->Hp->VK->Prop:=λx y H Q=>∃i j,x=.int i/\y=.int j/\Q (.int<|i+j) H
def ajO:lY X .Add ani:=by
 rintro p_ s σ H x y u v Q I a b ⟨i,j,rfl,rfl,q⟩;obtain⟨t,rfl⟩:=a;obtain⟨t',rfl⟩:=b;exact PyProof.Rows.iadd_int ⟨.int<|i+j,H,I.tok _,⟨_,xz⟩,q⟩
end
section
variable{X:Cx}{p_:List (e_×bE)}{σ:St}{H:Hp}{s:g_}{A:h_}{E:f_->g_->Prop}{Q:f_->g_->Prop}{c:f_}{b:Bool}
inductive iZ (K:u_) (H:Hp):V->f_->Prop where
 | aJ:iZ K H .aJ (.type "NoneType")
 | bl (x:Bool):iZ K H (.bl x) (.type "bool")
 | int (i:Int):iZ K H (.int i) (.type "int")
 | str (x:bx):iZ K H (.str x) (.type "str")
 | v9 (x:UInt64):iZ K H (.v9 x) (.type "float")
 | lst {a:e_} {xs:List V} (e:H a=a_ (.lst xs)):iZ K H (.ref a) (.type "list")
 | gZ {a:e_} {o:bE} {xs:List V} (e:H a=a_ (.gZ o (.lst xs))):iZ K H (.ref a) (.type "list")
 | tup {a:e_} {xs:List V} (e:H a=a_ (.tup xs)):iZ K H (.ref a) (.type "tuple")
 | dK {a:e_} {fv:List (dc×V)} (e:H a=a_ (.dK fv)):iZ K H (.ref a) (.type "dict")
 | dT {a:e_} {fv:List (List dc×V)} (e:H a=a_ (.dT fv)):iZ K H (.ref a) (.type "dict")
 | ins {a C dx:e_} {fs:List (bx×V)} (e:H a=a_ (.ins C dx fs)) (cl:eO K C) (ha:w_ K (.ref C) "__class__"=a_ (a_ (.builtin "object.__class__")))
   (hn:W.specialIn K (.builtin "object.__class__") "__get__"=a_ (a_<|.builtin "getset_descriptor.__get__")) (J5:W.takesIn K (.builtin "object.__class__")=a_ c_)
   (hm:A_ K C (.type "object")=a_ c_):iZ K H (.ref a) (.ref C)
def aeQ{u t:f_}(I:cP X p_ σ H s)(d:d0 x u)(ty:iZ X.K H x t)(e:v_ X.K t c=a_ b)(h:∀tk,Q (.bool b) {s with toks:=tk}):am (ap X.prog X.w) A (call (.builtin "isinstance") [u,c]) Q E s:=by
 cases ty with
 | aJ=>cases d;exact E_ W.kitx_none I.dI lZ e (λz=>nomatch z) h
 | bl y=>cases (show u=wZ y from d);exact E_ W.kitx_bool I.dI lZ e (λz=>nomatch z) h
 | int i=>obtain⟨t,q⟩:=(show ∃t,u=gq i t from d);cases q;exact E_ W.kitx_int I.dI lZ e (λz=>nomatch z) h
 | str y=>obtain⟨t,q⟩:=(show ∃t,u=q9 y t from d);cases q;exact E_ W.kitx_str I.dI lZ e (λz=>nomatch z) h
 | v9 y=>obtain⟨t,q⟩:=(show ∃t,u=UL y t from d);cases q;exact E_ W.kitx_float I.dI lZ e (λz=>nomatch z) h
 | @lst a xs ea=>
  cases (show u=bV a from d);obtain⟨_,_,n,_,h1⟩:=(show dj X.prog X.w H s.heap a (.lst xs) from I.aE a _ ea);exact E_ W.kitx_list I.dI ⟨_,h1,xz⟩ e (λz=>nomatch z) h
 | @gZ a ob xs ea=>
  cases (show u=bV a from d);obtain⟨_,_,_,n,_,h1⟩:=(show dj X.prog X.w H s.heap a (.gZ ob<|.lst xs) from I.aE a _ ea);exact E_ W.kitx_list I.dI ⟨_,h1,xz⟩ e (λz=>nomatch z) h
 | @tup a xs ea=>
  cases (show u=bV a from d);obtain⟨_,_,_,p⟩:=(show dj X.prog X.w H s.heap a (.tup xs) from I.aE a _ ea);obtain⟨o,h1,h2,_⟩:=p;exact E_ W.kitx_tuple I.dI ⟨o,h1,h2⟩ e (λz=>nomatch z) h
 | @dK a fv ea=>
  cases (show u=bV a from d);obtain⟨_,_,vs,_,p⟩:=(show dj X.prog X.w H s.heap a (.dK fv) from I.aE a _ ea);obtain⟨o,es,f,h1,h2,_⟩:=p;exact E_ W.kitx_dict I.dI ⟨o,h1,h2.1⟩ e (λz=>nomatch z) h
 | @dT a fv ea=>
  cases (show u=bV a from d);obtain⟨_,_,xs,_,o,es,f,h1,h2,_⟩:=(show dj X.prog X.w H s.heap a (.dT fv) from I.aE a _ ea);exact E_ W.kitx_dict I.dI ⟨o,h1,h2.1⟩ e (λz=>nomatch z) h
 | @ins a C dx fs ea cl ha hn J5 hm=>
  cases (show u=bV a from d);obtain⟨mA,O,_⟩:=Hk I.aE ea;obtain⟨od,J,_⟩:=O.look;exact E_ (W.kitx_own (cl.get _) cl.hd ha hn J5 hm) I.dI J e (λz=>nomatch z) h
end
structure eE(k:Nat)(A:h_):Prop where
 hd:A.handled=b_
 dp:A.depth+3*k+5<FU
 un:A.units+16*k+200<cLine
def eE.mono{j k:Nat}(r:eE k A)(h:j<=k):eE j A:=⟨r.hd,by have:=r.dp;omega,by have:=r.un;omega⟩
def eE.deeper{k:Nat}(r:eE (k+1) A)(env:Env):eE k (A.deeper env):=
 ⟨r.hd,by have:=r.dp;show A.depth+1+3*k+5<_;omega,by have:=r.un;show A.units+3+16*k+200<_;omega⟩
def adT{A:h_}{C:e_}{us:List f_}{a:List (bx×f_)}:(A.under<|.builtin "type.__call__" ⟨.ref C::us,a⟩).depth=A.depth+1:=by
 first | rfl | simp[UA,Code.weight,Code.isCreation,Code.isGuard,Code.isCaller,Code.frames,Code.isFrame,guardIds]
def adS{A:h_}{C:e_}{us:List f_}{a:List (bx×f_)}:(A.under<|.builtin "type.__call__" ⟨.ref C::us,a⟩).units=A.units+1:=by
 first | rfl | simp[UA,Code.cUnits,Code.frames,Code.isFrame]
def eE.make{k:Nat}(r:eE (k+1) A)(C:e_)(us:List f_)(a:List (bx×f_)):eE k (A.under<|.builtin "type.__call__" ⟨.ref C::us,a⟩):=
 ⟨r.hd,by have:=r.dp;rw[adT];omega,by have:=r.un;rw[adS];omega⟩
def eE.depth{k:Nat}(r:eE k A):A.depth<FU:=by have:=r.dp;omega
abbrev Ip:TA:=λ_ H Q=>Q [] H
abbrev HQ(ta:TE)(tr:TA):TA:=λσ H Q=>ta σ H λx H1=>tr σ H1 λxs H2=>Q (x::xs) H2
section
variable{X:Cx}{e:b4}{es:List b4}{te:TE}{t:TA}{pos:Pos}
def af:PA X [] Ip:=λ_ _ _ _ H Q I h=>CG ⟨[],H,I,.nil,h⟩
def ae(ha:PE X e te)(a:PA X es t)(b:autoParam (bY (e::es) X.env=(d_,eval e X.env)::bY es X.env) a3):PA X (e::es) (HQ te t):=by
 intro pos p_ s σ H Q I h;rw[b];exact yE (aR (ha _ s _ H _ I h) λu s1⟨x,k,c,d,f⟩=>aR (a _ _ _ _ _ _ c f) λus s2⟨xs,g,i,r2,j⟩=>⟨x::xs,g,i,.cons d r2,j⟩)
def ZO(t:TA):TE:=λσ H Q=>t σ H λxs a=>xs.length<=bp/\∀p,a p=b_->Q (.ref p) (cB a p<|.tup xs)
def am8(t:TA):TE:=λσ H Q=>t σ H λxs a=>xs.length<=bp/\∀p,a p=b_->Q (.ref p) (cB a p<|.lst xs)
def fA{x1}(h:PA X es t):PE X (.Tuple es x1 pos) (ZO t):=by
 refine λp_ s σ H Q I c=>wpAny_Tuple_spliced (aR (h _ _ s _ H _ I c) λus s1⟨xs,d,a,r,z,q⟩=>⟨by rw[<-r.length];exact z,?_⟩);refine⟨.ref _,cB _ _<|.tup _,a.laid (λb u e=>bh _ e) (aD _) ?_,xz,q _<|a.aE.fresh<|aD _⟩;exact⟨z,us,r,⟨_,dU _ xz,xz,_,xz⟩⟩
def dP(h:PA X es t):PE X (.List es pos) (am8 t):=by
 refine λp_ s σ H Q I c=>wpAny_List_spliced (aR (h _ _ s _ H _ I c) λus s1⟨xs,d,a,r,z,q⟩=>⟨by rw[<-r.length];exact z,?_⟩);refine⟨.ref _,cB _ _<|.lst _,a.laid (λb u e=>bh _ e) (aD _) ?_,xz,q _<|a.aE.fresh<|aD _⟩;exact⟨z,us,0,r,dU _ xz⟩
end
abbrev Sp:=List V->Hp->VK->XK->Prop
abbrev uB:=List Env->Hp->g_->XK->f_->g_->Prop
structure zP(P:k_)(w:j_)(K:u_)(mg:bx->Option f_)(base:i_)(A:h_)(outer:List Env)(s:g_)(H:Hp):Prop where
 frames:A.frames=a_ outer
 mod:Mod K mg base
 bs:∀b o,base.get? b=a_ o->s.heap.get? b=a_ o/\H b=b_
 mH:base.zH<=s.zS
 lH:s.heap.FunFrames base outer
 qH:∀b∈kX outer,H b=b_
 aE:dR P w H s.heap
 bare:AllBare s.gens
def CE(outer:List Env)(P:k_)(w:j_)(H:Hp)(s:g_)(Q:VK)(u:f_)(a:g_):Prop:=
 ∃v H',a.os=s.os/\AllBare a.gens/\Un (kX outer) [] H H' s.heap a.heap/\dR P w H' a.heap/\d0 v u/\Q v H'
def CR(CX:uB)(outer:List Env)(P:k_)(w:j_)(H:Hp)(s:g_)(Q:VK)(E:XK)(r:Result)(a:g_):Prop:=
 match r with
 | .ok (.ret u)=>CE outer P w H s Q u a
 | .ok _=>False
 | .error e=>CX outer H s E e a
structure aM(P:k_)(w:j_)(K:u_)(mg:bx->Option f_)(base:i_)(CX:uB)(k:Nat)(f:e_)(fd:lz)(ps:List bx)(sp:Sp):Prop where
 len:∀vs H Q E,sp vs H Q E->vs.length=ps.length
 run:∀(A:h_)(outer:List Env)(s:g_)(H:Hp)(args:Args)(us:List f_)(vs:List V)(Q:VK)(E:XK),eE k A->zP P w K mg base A outer s H->BindsTo s fd args (ps.zip us)->d4 vs us->sp vs H Q E->
  codeAny (ap P w) A (.call (.ref f) args) (CR CX outer P w H s Q E) s
def zP.make{P:k_}{w:j_}{K:u_}{mg:bx->Option f_}{fi:i_}(e:zP P w K mg fi A outer s H)(C:e_)(us:List f_)(a:List (bx×f_)):zP P w K mg fi (A.under<|.builtin "type.__call__" ⟨.ref C::us,a⟩) outer s H:=⟨by first | exact e.frames | (simpa[UA,Code.envs,Code.isFrame,pushEnvs]using e.frames),e.mod,e.bs,e.mH,e.lH,e.qH,e.aE,e.bare⟩
section
variable{X:Cx}{p_:List (e_×bE)}{σ:St}{H:Hp}{s s':g_}
def cP.IA(I:cP X p_ σ H s):zP X.prog X.w X.K X.mg X.base X.A X.stack s H:=
 ⟨I.ok.frames,I.ok.mod,I.bs,cF I.ok.mH I.sz,I.stack,I.G6,I.aE,I.bare⟩
def cP.after(I:cP X p_ σ H s)(h:CE X.stack X.prog X.w H s Q u s'):EP X p_ σ Q u s':=by
 obtain⟨v,H',os,bare,un,aE,r,q⟩:=h;obtain⟨c,g,d,t,a⟩:=s';obtain rfl:a=s.os:=os;exact⟨v,H',I.call un aE bare λb z=>dV z (by simp),r,q⟩
end
abbrev OV(sp:Sp)(dvs:List V)(E:XK)(t:TA):TE:=λσ H Q=>t σ H λvs H1=>sp (vs++dvs) H1 Q E
def DU(C:e_)(m:bx)(sp:Sp)(c:List V)(E:XK)(d:TE)(t:TA):TE:=λσ H Q=>d σ H λx b=>∃a dx fs,x=.ref a/\b a=a_ (.ins C dx fs)/\fs.lookup m=b_/\
 t σ b λvs e=>sp (x::(vs++c)) e Q E
def akT(C:e_)(sp:Sp)(b:List V)(E:XK)(t:TA):TE:=λσ H Q=>t σ H λvs a=>∀x dx,a x=b_->a dx=b_->dx≠x->
 sp (.ref x::(vs++b)) (cB (cB a dx<|.own x) x<|.ins C dx []) (λv c=>v=.aJ/\Q (.ref x) c) E
def d5(K:u_)(fd:lz)(ps:List bx)(ds:List f_):Prop:=
 ∀(s:g_)(us:List f_),K.In s.heap->(us++ds).length=ps.length->BindsTo s fd ⟨us,[]⟩ (ps.zip<|us++ds)
def d5.all{K:u_}(h:∀us:List f_,us.length=ps.length->xk fd ⟨us,[]⟩=pure (ps.zip us)):d5 K fd ps []:=λs us _ a=>by
 rw[gj]at a ⊢;exact .of_eq<|h _ a
def Passes(CX:uB)(X:Cx)(E:XK):Prop:=∀(p_:List (e_×bE))(σ:St)(H:Hp)(s:g_)(e:f_)(a:g_),cP X p_ σ H s->CX X.stack H s E e a->X.xe e a
section
variable{X:Cx}{CX:uB}{k:Nat}{f C:e_}{fd:lz}{ps:List bx}{sp:Sp}{dvs:List V}{ds:List f_}{E:XK}{x m:bx}{p pos apos:Pos}{e o:b4}{es:List b4}{ta:TE}{t:TA}
def Dv(F:aM X.prog X.w X.K X.mg X.base CX k f fd ps sp)(b:eE k X.A)(c:d5 X.K fd ps ds)(hd:d4 dvs ds)(d:Passes CX X E)(I:cP X p_ σ H s)(r:d4 vs us)(h:sp (vs++dvs) H Q E):am (ap X.prog X.w) X.A (call (.ref f) us) (EP X p_ σ Q) X.xe s:=by
 have r2:=r.append hd;have g:(us++ds).length=ps.length:=by rw[<-r2.length];exact F.len _ _ _ _ h
 refine A8 (AY (F.run _ _ s H ⟨us,[]⟩ _ _ Q E b I.IA (c s _ I.dI g) r2 h) λr j a=>?_);rcases r with e|i;exact d _ _ H s e _ I a
 cases i with
 | ret u=>exact I.after a
 | next=>exact i9 a
 | brk=>exact i9 a
 | cont=>exact i9 a
def jU(F:aM X.prog X.w X.K X.mg X.base CX k f fd ps sp)(b:eE k X.A)(c:Gl X x)(hm:X.mg x=a_ (.ref f))(d:x_ X.K (.ref f)=c_)(g:d5 X.K fd ps ds)(hd:d4 dvs ds)(i:Passes CX X E)
  (ha:PA X (e::es) t) (j:autoParam ((x==("__debug__":bx))=false) a4) (l:autoParam (bY (e::es) X.env=(d_,eval e X.env)::bY es X.env) a3) (n:autoParam ((bc pos<|bY es X.env).any (·.1)=false) a3) :
  PE X (.Call (.Name x p) (e::es) [] pos) (OV sp dvs E t):=by
 refine λp_ s σ H Q I h=>sX<|zh I c hm ?_ j;exact G_ I.ok.mod.se d (aR (ha _ _ s _ H _ I h) λus s1⟨vs,u,a,r,q⟩=>⟨a.dI,Dv F b g hd i a r q⟩) l n
def Hh(g:PE X o ta)(c:eO X.K C)(hm:Meth X.K C m f)(F:aM X.prog X.w X.K X.mg X.base CX k f fd ps sp)(i:eE k X.A)(j:d5 X.K fd ps ds)(hd:d4 dvs ds)(n:Passes CX X E)(ha:PA X (e::es) t)
  (cV:autoParam (bY (e::es) X.env=(d_,eval e X.env)::bY es X.env) a3) (v:autoParam ((bc pos<|bY es X.env).any (·.1)=false) a3)
  (y:autoParam (eval (.Call (.Attribute o m apos) (e::es) [] pos) X.env=(do
   let ov <-eval o X.env
   standAt apos.atName
   let (f,first) <-holding [ov] (yZ ov m pl)
   Dg pos f first (bc pos<|bY (e::es) X.env) (xn pos<|wY [] X.env))) a3) :
  PE X (.Call (.Attribute o m apos) (e::es) [] pos) (DU C m sp dvs E ta t):=by
 refine λp_ s σ H Q I h=>W.methodCall_KW (aR (g _ s _ H _ I h) λu s1 Z=>?_) y;obtain⟨x,D,b,z,a,dx,fs,ex,ea,l,q⟩:=Z;subst ex;obtain rfl:u=bV a:=z;refine LO b ea c hm l ?_;exact G_ I.ok.mod.se hm.kp (aR (ha _ _ _ _ _ _ b q) λus s2⟨vs,G,d,r,B⟩=>⟨d.dI,Dv (vs:=.ref a::vs) F i j hd n d (.cons xz r) B⟩) cV v
def Gw(d:PE X o ta)(c:eO X.K C)(hm:Meth X.K C m f)(F:aM X.prog X.w X.K X.mg X.base CX k f fd ps sp)(g:eE k X.A)(i:d5 X.K fd ps ds)(hd:d4 dvs ds)(j:Passes CX X E)
  (n:autoParam (eval (.Call (.Attribute o m apos) [] [] pos) X.env=(do
   let ov <-eval o X.env
   standAt apos.atName
   let (f,first) <-holding [ov] (yZ ov m pl)
   Dg pos f first (bc pos<|bY [] X.env) (xn pos<|wY [] X.env))) a3) :
  PE X (.Call (.Attribute o m apos) [] [] pos) (DU C m sp dvs E ta Ip):=by
 refine λp_ s σ H Q I h=>W.methodCall_KW (aR (d _ s _ H _ I h) λu s1 Z=>?_) n;obtain⟨x,v,b,r,a,dx,fs,ex,ea,l,q⟩:=Z;subst ex;obtain rfl:u=bV a:=r;exact LO b ea c hm l<|W.callWith_K0 b.dI hm.kp<|Dv (vs:=[.ref a]) F g i hd j b (.cons xz .nil) q
structure Mk(K:u_)(C f:e_):Prop where
 makes:W.makesIn K C=c_
 init:w_ K (.ref C) "__init__"=a_ (a_<|.ref f)
 fn:W.isFn K (.ref f)=c_
 kp:x_ K (.ref C)=c_
def afB(M:Mk X.K C f)(F:aM X.prog X.w X.K X.mg X.base CX k f fd ps sp)(d:eE (k+1) X.A)(g:d5 X.K fd ps ds)(hd:d4 dvs ds)(i:Passes CX X E)(I:cP X p_ σ H s)(r:d4 vs us)(h:∀x dx,H x=b_->H dx=b_->dx≠x->sp (.ref x::(vs++dvs)) (cB (cB H dx<|.own x) x<|.ins C dx []) (λv j=>v=.aJ/\Q (.ref x) j) E):am (ap X.prog X.w) X.A (call (.ref C) us) (EP X p_ σ Q) X.xe s:=by
 have c:=h _ _ (I.aE.fresh<|jT _) (I.aE.fresh<|aD _)<|dg<|CH _;have b:=cP.made (C:=C) I;have r2:d4 (V.ref (s.zS+1)::(vs++dvs)) _:=.cons xz<|r.append hd
 have l:(bV (s.zS+1)::us++ds).length=ps.length:=by
  have e:=r2.length;rw[F.len _ _ _ _ c]at e;exact e.f5
 refine A8<|agh I.dI M.makes M.init (eY.mp M.fn) (AY (F.run _ _ _ _ ⟨bV (s.zS+1)::us,[]⟩ _ _ _ E (d.make C _ []) (b.IA.make C _ []) (g _ _ b.dI l) r2 c) λr D a=>?_);rcases r with e|n;exact i _ _ _ _ e _ b a
 cases n with
 | ret u=>
  obtain⟨v,H',q,y,z,B⟩:=b.after a;subst z;exact⟨y,⟨V.ref<|s.zS+1,H',q,xz,B⟩⟩
 | next=>exact i9 a
 | brk=>exact i9 a
 | cont=>exact i9 a
def vn(M:Mk X.K C f)(F:aM X.prog X.w X.K X.mg X.base CX k f fd ps sp)(b:eE (k+1) X.A)(c:Gl X x)(hm:X.mg x=a_ (.ref C))(d:d5 X.K fd ps ds)(hd:d4 dvs ds)(g:Passes CX X E)
  (ha:PA X (e::es) t) (i:autoParam ((x==("__debug__":bx))=false) a4) (j:autoParam (bY (e::es) X.env=(d_,eval e X.env)::bY es X.env) a3) (l:autoParam ((bc pos<|bY es X.env).any (·.1)=false) a3) :
  PE X (.Call (.Name x p) (e::es) [] pos) (akT C sp dvs E t):=by
 refine λp_ s σ H Q I h=>sX<|zh I c hm ?_ i;exact G_ I.ok.mod.se M.kp (aR (ha _ _ s _ H _ I h) λus s1⟨vs,n,a,r,q⟩=>⟨a.dI,afB M F b d hd g a r q⟩) j l
end
structure bj(N P:List bx)(sc:bK):Prop where
 kind:sc.kind=.function
 co:sc.isCoroutine=d_
 gen:sc.isGenerator=d_
 nd:N.Nodup
 pre:N.take P.length=P
 par:∀x∈P,sc.names.lookup x=a_ .local\/sc.names.lookup x=a_ .cell
 ajo:∀y∈sc.names,y.2≠.free
def bG{N P:List bx}{sc:bK}(a:autoParam (sc.kind=.function) a3)(b:autoParam (sc.isCoroutine=false) a3)(c:autoParam (sc.isGenerator=false) a3)(d:N.Nodup:=by decide +kernel)(e:autoParam (N.take P.length=P) a3)(f:∀x∈P,sc.names.lookup x=a_ .local\/ sc.names.lookup x=a_ .cell:=by decide +kernel)(g:∀y∈sc.names,y.2≠.free:=by decide +kernel):bj N P sc:=⟨a,b,c,d,e,f,g⟩
theorem VX{kindOf:bx->Option gr}:∀{binds:List (bx×f_)}{m:bx->Option f_},(∀v,(x,v)∉binds)->bindL kindOf binds m x=m x
 | [],_,_=>rfl
 | (n,v)::r,m,h=>by
  unfold bindL;rw[VX λw hw=>h w<|eI _ hw]
  split
  .have:x≠n:=by rintro rfl;exact h v gg
   simp[this]
  rfl
theorem VZ{kindOf:bx->Option gr}:∀{binds:List (bx×f_)}{m:bx->Option f_},(∀v,(x,v)∉binds)->bindC kindOf binds m x=m x
 | [],_,_=>rfl
 | (n,v)::r,m,h=>by
  unfold bindC;rw[VZ λw hw=>h w<|eI _ hw]
  split
  .rfl
  .have:x≠n:=by rintro rfl;exact h v gg
   simp[this]
theorem VY{kindOf:bx->Option gr}:∀{P:List bx}{vs:List f_}{i:Nat}{m:bx->Option f_},P.Nodup->P[i]?=a_ x->vs[i]?=a_ v->kindOf x=a_ .local->bindL kindOf (P.zip vs) m x=a_ v
 | [],_,_,_,_,h,_,_=>by simp at h
 | _::_,[],_,_,_,_,h,_=>by simp at h
 | p::P,w::vs,0,m,nd,h1,h2,hk=>by
  simp at h1 h2;subst h1;subst h2;show bindL kindOf ((p,w)::P.zip vs) m p=_;unfold bindL;rw[VX λv a=>(vd.mp nd).1 (vc a).1,dL hk];simp
 | p::P,w::vs,i+1,m,nd,h1,h2,hk=>by
  unfold bindL;exact VY (i:=i) (vd.mp nd).2 (by simpa using h1) (by simpa using h2) hk
theorem V0{kindOf:bx->Option gr}:∀{P:List bx}{vs:List f_}{i:Nat}{m:bx->Option f_},P.Nodup->P[i]?=a_ x->vs[i]?=a_ v->kindOf x≠a_ .local->bindC kindOf (P.zip vs) m x=a_ v
 | [],_,_,_,_,h,_,_=>by simp at h
 | _::_,[],_,_,_,_,h,_=>by simp at h
 | p::P,w::vs,0,m,nd,h1,h2,hk=>by
  simp at h1 h2;subst h1;subst h2;show bindC kindOf ((p,w)::P.zip vs) m p=_;unfold bindC;rw[VZ λv a=>(vd.mp nd).1 (vc a).1,dt hk];simp
 | p::P,w::vs,i+1,m,nd,h1,h2,hk=>by
  unfold bindC;exact V0 (i:=i) (vd.mp nd).2 (by simpa using h1) (by simpa using h2) hk
noncomputable def start(N:List bx)(vs:List V):St:=vs.map a_++eQ (N.length-vs.length) b_
def qB(CX:uB)(P:k_)(w:j_)(K:u_)(mg:bx->Option f_)(base:i_)(N:List bx)(qual:bx)(scope:bK)(f:e_)(cd:f_)(A:h_)(outer:List Env)(s:g_)(H:Hp)(E:XK):Cx where
 prog:=P
 w:=w
 K:=K
 mg:=mg
 base:=base
 A:=A.deeper<|cr qual scope s.zS f cd
 N:=N
 s₀:=s
 H₀:=H
 env:=cr qual scope s.zS f cd
 outer:=outer
 stack:=cr qual scope s.zS f cd::outer
 ex:=[]
 calm:=c_
 fn:=λ_=>c_
 pn:=[]
 xe:=λe b=>am (ap P w) (A.deeper<|cr qual scope s.zS f cd) (leaving (cr qual scope s.zS f cd) e) (λ_ a=>CX outer H s E e a) (λc a=>CX outer H s E c a) b
def WT{sc:bK}{n:Nat}(h:sc.names.lookup x=a_ .cell):∃c,(cellsFrom n sc.names []).lookup x=a_ c:=by
 exact Ky.mp<|W.cellsFrom_some _ n [] (.inl h)
def aeR{CX:uB}{P:k_}{w:j_}{K:u_}{mg:bx->Option f_}{fi:i_}{scope:bK}{outer:List Env}(S:bj N ps scope)(hd:A.handled=b_)(d:zP P w K mg fi A outer s H)(B:vs.length=ps.length)(r:d4 vs us)(x:InCallC s s.zS (bindL (cr qual scope s.zS f cd).kindOf (ps.zip us) λ_=>b_) (cellsFrom (s.zS+1) scope.names []) (bindC (cr qual scope s.zS f cd).kindOf (ps.zip us) λ_=>b_) s1):cP (qB CX P w K mg fi N qual scope f cd A outer s H E) [] (start N vs) H s1:=by
 have C:ps.length<=N.length:=by have:=f0 UN S.pre;rw[dn]at this;omega
 obtain⟨h1,tk,rfl,m⟩:=x.done;have l:∀b:e_,b∉(qB CX P w K mg fi N qual scope f cd A outer s H E).ex:=λb z=>dV (show b∈([]:List _) from z) (by simp);refine⟨⟨d.mod,S.kind,xz,xz,aD _,λy z c h1 h2=>?_,λy g=>?_,λy c _ h=>?_,λ_=>hd,abM d.frames,.inr ⟨xz,xz⟩,λb z=>dV z<|l b,d.bs,d.mH,λb _ _=>l b,λb z=>dV z<|l b,d.lH,d.qH⟩,xz,d.bare,Un.kept m,⟨_,x.toInCall.ns,λi y v h1 h2 h3=>?_⟩,λy c h=>⟨_,x.cell y c h⟩,d.aE.fresh<|aD _,λy c h=>?_,λp j=>dV (show p∈([]:List (e_×bE)) from j) (by simp),d.aE.kept m,?_⟩
 .exact name_of_addr x.apart (t_ h1) (t_ h2)
 .have g:=g;obtain g|g:=g
  .exact WT g
  exact dV xz (S.ajo _<|t_ g)
 .exact dH (x.above y c<|t_ h)
 .have hi:i<vs.length:=by
   unfold start at h2
   by_cases hi:i<vs.length
   .exact hi
   rw[lR (by simpa using hi)]at h2;rw[Tc]at h2
   split at h2 <;> cases h2
  have ha:vs[i]?=a_ v:=by
   unfold start at h2;rw[iN (by simpa using hi),cH]at h2;rcases e:vs[i]? with _|a
   ·rw[e]at h2;cases h2
   rw[e]at h2;cases h2;rfl
  obtain⟨u,n,t⟩:=r.get ha
  have j:ps[i]?=a_ y:=by
   rw[<-S.pre,List.getElem?_take_of_lt om];exact h1
  have o:ps.Nodup:=by rw[<-S.pre];exact S.nd.sublist<|List.take_sublist _ _
  refine⟨u,t,?_⟩;rcases S.par y (bz j)with k | k
  .exact .inl ⟨k,VY o j n k⟩
  obtain⟨c,e⟩:=WT k;refine .inr ⟨.inl k,c,e,?_⟩;have q:=x.cell y c e;rw[V0 o j n (by show scope.names.lookup y≠_;rw[k];decide)]at q;exact q
 .exact d.aE.fresh (dH<|x.above y c<|t_ h)
 unfold start;show _=N.length;rw[ba,aG,KH];omega
def xK{P:k_}{w:j_}{K:u_}{mg:bx->Option f_}{fi:i_}{k:Nat}{body:List aK}{j kV doc pm aN ct oc:f_}(p:K.lookup f=a_ ⟨oc,od,.func<|B_ name qual params body scope j kV doc pm an aN ct,jz⟩)(z:W.codeIn K aN qual=c_)(S:bj N ps scope)(len:∀vs H Q E,sp vs H Q E->vs.length=ps.length)(B:∀(A:h_)(outer:List Env)(s:g_)(H:Hp)(vs:List V)(Q:VK)(E:XK),eE k (A.deeper<|cr qual scope s.zS f aN)->sp vs H Q E->∃t,fH (qB CX P w K mg fi N qual scope f aN A outer s H E) body t/\t {nx:=λ_ H'=>Q .aJ H',rt:=Q} (start N vs) H):aM P w K mg fi CX (k+1) f (B_ name qual params body scope j kV doc pm an aN ct) ps sp:=by
 refine⟨len,λA outer s H args us vs Q E g c C r l=>?_⟩;have m:=c.mod.se.keeps λb o e=>(c.bs b o e).1;have D:=c.mod.nolimit.keeps λb o e=>(c.bs b o e).1
 have F:∀y∈ps.zip us,scope.names.lookup y.1=a_ .local\/(scope.names.lookup y.1=a_ .cell/\((cellsFrom (s.zS+1) scope.names []).lookup y.1).isSome=c_):=λ⟨n,v⟩G=>by
  obtain q|q:=S.par n (vc G).1
  .exact .inl q
  exact .inr ⟨q,W.cellsFrom_some _ _ _<|.inl q⟩
 refine codeAny_call_function g.depth (m _ _ p) xz S.co S.gen xz (W.codeRec_of m z)<|C _ _ _ _ ?_;refine wpAny_newFunctionEnv_cells S.kind F λenv L s1 x=>?_;subst L;refine⟨D.keeps x.toInCall.keep,codeAny_func ?_⟩;obtain⟨t,M,O⟩:=B A outer s H vs Q E (g.deeper _) l;have I:cP (qB CX P w K _ _ N _ _ f _ A _ s H E) [] (start N _) H s1:=aeR S g.hd c (len _ _ _ _ l) r x;refine gn (M [] s1 _ H _ I O) (λR h a=>?_) λe h a=>a
 have fin:∀{d:St}{H':Hp}{v:V}{u:f_},cP (qB CX P w K mg fi N qual scope f aN A outer s H E) [] d H' h->d0 v u->Q v H'->CE outer P w H s Q u h:=
  λ{d H' v u}J i q=>⟨v,H',J.os,J.bare,J.base,J.aE,i,q⟩
 cases R with
 | ret u=>
  obtain⟨v,d,H',J,i,q⟩:=a;exact fin J i q
 | next=>
  obtain⟨d,H',J,q⟩:=a;exact fin (v:=V.aJ) J xz q
 | brk=>
  obtain⟨_,_,_,q⟩:=a;exact i9 q
 | cont=>
  obtain⟨_,_,_,q⟩:=a;exact i9 q
section
variable{X:Cx}{x:bx}{p pos:Pos}{e:b4}{es:List b4}{t:TA}{id T:String}{r:List V->Hp->VK->Prop}
def Jm(r:List V->Hp->VK->Prop)(t:TA):TE:=λσ H Q=>t σ H λvs a=>r vs a Q
def bw(a:kP X (.builtin id) r)(b:Gl X x)(hm:X.mg x=b_)(c:tI x=a_ (.builtin id))(ha:PA X (e::es) t)(hn:autoParam (x ≠ "__name__") a4)(d:autoParam ((x==("__debug__":bx))=false) a4)
  (f:autoParam (bY (e::es) X.env=(d_,eval e X.env)::bY es X.env) a3) (g:autoParam ((bc pos<|bY es X.env).any (·.1)=false) a3):PE X (.Call (.Name x p) (e::es) [] pos) (Jm r t):=by
 intro p_ s σ H Q I h;exact sX<|qm I b hm c (PyProof.Rows.callWith_builtin1 (aR (ha _ _ s _ H _ I h) λus s1⟨vs,l,i,j,k⟩=>a _ _ _ _ _ _ Q i j k) f g) hn d
def q8(a:kP X (.type T) r)(b:Gl X x)(hm:X.mg x=b_)(c:tI x=a_ (.type T))(ha:PA X (e::es) t)(hn:autoParam (x ≠ "__name__") a4)(d:autoParam ((x==("__debug__":bx))=false) a4)
  (f:autoParam (bY (e::es) X.env=(d_,eval e X.env)::bY es X.env) a3) (g:autoParam ((bc pos<|bY es X.env).any (·.1)=false) a3):PE X (.Call (.Name x p) (e::es) [] pos) (Jm r t):=by
 intro p_ s σ H Q I h;exact sX<|qm I b hm c (wM (aR (ha _ _ s _ H _ I h) λus s1⟨vs,l,i,j,k⟩=>a _ _ _ _ _ _ Q i j k) f g) hn d
end
end L2
namespace HT
section
variable{prog:k_}{w:j_}{A:h_}{E:f_->g_->Prop}{s:g_}
noncomputable def cC(n d:Nat):Option Int->Nat
 | none=>d
 | some v=>if v<0 then (v+(n:Int)).toNat else min v.toNat n
def Wq(n d:Nat):cC n d b_=d:=rfl
def Xo(n d k:Nat):cC n d (a_ (k:Int))=min k n:=by
 show (if k<0 then (k+(n:Int)).toNat else min (k:Int).toNat n)=min k n;rw[dt om,jQ]
def ai4(n d:Nat)(hd:d<=n)(o:Option Int):cC n d o<=n:=by
 rcases o with _|v;exact hd
 show (if v<0 then (v+n).toNat else min _ n)<=n
 by_cases a:v<0
 .rw[dL a];omega
 rw[dt a];exact Nat.min_le_right _ _
def XR(v:Int)(n d:Nat):(if v<0 then max (v+(n:Int)) 0 else min v (n:Int))=((cC n d (a_ v):Nat):Int):=by
 show (if v<0 then max _ 0 else min v _)=(((if v<0 then (v+n).toNat else min _ n):Nat):Int)
 by_cases a:v<0
 .simp only[dL a];omega
 simp only[dt a];omega
def ad1(lo hi:Option Int)(n:Nat):S7 lo hi 1 (n:Int)=(((cC n 0 lo:Nat):Int),((cC n n hi:Nat):Int)):=by
 have h1:¬(1<0):=om;unfold S7;refine rA ?_ ?_
 .rcases lo with _|v;rfl;exact XR v n 0
 rcases hi with _|v;rfl;exact XR v n n
def adB(i j:Nat):Kx (i:Int) (j:Int) 1=j-i:=by
 unfold Kx;have h1:1 > 0:=om;simp only[h1,if_true,Int.ediv_one]
 split <;> omega
def UR(p:IsPart v o)(h:Q o s):am (ap prog w) A (Builtin.Slice.slicePartIndex v) Q E s:=by
 rcases p with _|⟨i,t⟩;exact slicePart_none h;exact slicePart_int h
def acb{sl:e_}{lo hi:Option Int}{n:Nat}{Q:Int×Int×Nat->g_->Prop}(c:s.heap.IsSliceOf sl vl vu .none)(pl:IsPart vl lo)(d:IsPart vu hi)(h:Q (((cC n 0 lo:Nat):Int),1,cC n n hi-cC n 0 lo) s):am (ap prog w) A (aba (.ref sl)<|pure (n:Int)) Q E s:=by
 obtain⟨os,a,e,b⟩:=id c;refine ah<|ah<|jS a b xz<|ah<|jS a b xz<|ah<|jS a b xz<|aI<|ah<|slicePart_none ?_;rw[dt qc];refine ah<|UR pl<|ah<|UR d<|ah<|aI ?_;show am _ _ (match S7 lo hi 1 (n:Int)with | (lo,hi)=>pure (lo,(1:Int),Kx lo hi 1)) _ _ s;rw[ad1 _ _ n];show am _ _ (pure (((cC n 0 lo:Nat):Int),(1:Int),Kx ((cC n 0 lo:Nat):Int) ((cC n n hi:Nat):Int) 1)) _ _ s;rw[adB];exact aI h
def afK(xs:Array f_)(i k:Nat):((List.range k).filterMap λ(m:Nat)=>xs[((i:Int)+(m:Int)*1).toNat]?).toArray=((xs.toList.drop i).take k).toArray:=by
 have e:(λ(m:Nat)=>xs[((i:Int)+(m:Int)*1).toNat]?)=λm=>xs[i+m]?:=by
  funext m
  have:(i+(m:Int)*1).toNat=i+m:=om;rw[this]
 rw[e];have:=pick_run xs i k;rw[List.filterMap_map]at this;have a:((λx=>xs[x]?) ∘ λx=>i+x)=λm=>xs[i+m]?:=rfl;rw[a]at this;rw[this]
def abZ{t sl:e_}{lo hi:Option Int}(a:IsTup s.heap t items)(c:s.heap.IsSliceOf sl vl vu .none)(pl:IsPart vl lo)(d:IsPart vu hi)(hw:¬(cC items.size 0 lo=0/\cC items.size items.size hi=items.size))(h:Q (.ref s.zS) {s with heap:=s.heap.push {cls:=.type "tuple",data:=.seq ((items.toList.drop<|cC items.size 0 lo).take<|cC items.size items.size hi-cC items.size 0 lo).toArray}})(j:items.size<=bp):am (ap prog w) A (getItem (.ref t)<|.ref sl) Q E s:=by
 have b:sizeOk (.seq ((items.toList.drop<|cC items.size 0 lo).take<|cC items.size items.size hi-cC items.size 0 lo).toArray):=by
  show ((items.toList.drop<|cC _ 0 _).take<|cC _ _ _-cC _ 0 _).toArray.size<=bp;rw[de,dn,oZ,fQ];omega
 have k:cC _ _ _<=items.size:=ai4 _ _ (aD _) hi;obtain⟨os,e,f,l⟩:=id c;have g:s.TypeIs (.ref _) "slice":=⟨os,e,f⟩;unfold getItem
 try with_reducible refine kG ?_
 first | refine ah (aI ?_) | skip
 refine ah<|wpAny_sequenceKey a.typeIs qc (ah<|yz a.typeIs SX<|uZ SX a.typeIs entry_tuple_getitem ?_<|args_tuple_getitem _ _);show am _ _ (Builtin.Tuple.tupleItemsOf (.ref t) >>= _) _ _ s;refine ah<|tupleItemsOf_ a (ah<|F3 g ?_);rw[dL qc];refine ah<|acb c pl d ?_
 have i:¬((((cC items.size 0 lo:Nat):Int)==0&&(1:Int)==1&&(cC items.size items.size hi-cC items.size 0 lo)==items.size)=c_):=by
  intro q;rw[kE,kE]at q;have n:=iE q.1.1;have o:=iE q.2;exact hw ⟨om,om⟩
 show am _ _ (if (((cC items.size 0 lo:Nat):Int)==0&&(1:Int)==1&&(cC items.size items.size hi-cC items.size 0 lo)==items.size)=c_ then _ else _) _ _ s;rw[dt i,afK]
 first
  | exact ah (m:=Cu _) (p0 (aI ⟨_,rfl,aI h⟩) b)
  | exact ah (m:=Cu _) (p0 (ah (aI (aI ⟨_,rfl,aI h⟩))) b)
  | exact ah (ah (m:=Cu _) (p0 (aI (aI ⟨_,rfl,aI h⟩)) b))
  | exact ah (ah (m:=Cu _) (p0 (aI ⟨_,rfl,aI h⟩) b))
end
end HT
namespace L2
abbrev TO:=St->Hp->(Option Int->Hp->Prop)->Prop
def PO(X:Cx)(e:Option b4)(t:TO):Prop:=
 ∀(p_:List (e_×bE))(s:g_)(σ:St)(H:Hp)(Q:Option Int->Hp->Prop),cP X p_ σ H s->t σ H Q->
  am (ap X.prog X.w) X.A (evalPart e X.env) (λu a=>∃o H',cP X p_ σ H' a/\IsPart u o/\Q o H') X.xe s
def ag9:TO:=λ_ H Q=>Q b_ H
def akQ(t:TE):TO:=λσ H Q=>t σ H λx a=>∃i,x=.int i/\Q (a_ i) a
def intsAre_of:∀{us:List f_},d4 (ns.map V.int) us->IntsAre us ns:=by
 induction ns with
 | nil=>intro us r;rw[LG]at r;cases r;exact .nil
 | cons n ns ih=>
  intro us r;rw[eu]at r;cases r with
  | cons r1 r2=>
   obtain⟨t,e⟩:=r1;subst e;exact .cons n t<|ih r2
section
variable{X:Cx}{e:b4}{te:TE}{lo hi:Option b4}{tl th:TO}{pos p2:Pos}
def ze:PO X b_ ag9:=by
 intro p_ s σ H Q I h;rw[evalPart_none];exact aI ⟨b_,H,I,.none,h⟩
def zd(h:PE X e te):PO X (a_ e) (akQ te):=by
 intro p_ s σ H Q I hw;rw[evalPart_some];refine aR (h _ s _ H _ I hw) λu s1⟨x,a,b,c,d⟩=>?_;obtain⟨i,rfl,q⟩:=d;obtain⟨t,rfl⟩:=c;exact⟨a_ i,a,b,.int i t,q⟩
def Jx(X:Cx)(r:V->Option Int->Option Int->Hp->VK->Prop):Prop:=
 ∀(p_:List (e_×bE))(s:g_)(σ:St)(H:Hp)(x:V)(v a b:f_)(lo hi:Option Int)(sl:e_)(Q:VK),cP X p_ σ H s->d0 x v->s.heap.IsSliceOf sl a b .none->IsPart a lo->IsPart b hi->r x lo hi H Q->
  ∃T id,yV (.type T) "__getitem__"=pure (a_<|.builtin id)/\s.TypeIs v T/\am (ap X.prog X.w) X.A (getItem v<|.ref sl) (EP X p_ σ Q) X.xe s
def tSl(r:V->Option Int->Option Int->Hp->VK->Prop)(te:TE)(tl th:TO):TE:=λσ H Q=>te σ H λx a=>tl σ a λl b=>th σ b λu c=>r x l u c Q
def y6(f:Jx X r)(g:PE X e te)(i:PO X lo tl)(j:PO X hi th):PE X (.Subscript e (.Slice lo hi b_ p2) pos) (tSl r te tl th):=by
 intro p_ s σ H Q I h;refine Subscript_ (aR (g _ s _ H _ I h) λv s1⟨x,E,k,m,n⟩=>wpAny_Slice<|aR (i _ _ _ _ _ k n) λc s2⟨l,F,o,pl,p⟩=>aR (j _ _ _ _ _ o p) λd a⟨u,t,w,y,z⟩=>?_);rw[evalPart_none];refine aI ?_;have A:cP X _ _ _ {a with heap:=a.heap.push {cls:=.type "slice",data:=.fields #[c,d,.none]}}:=w.kept λb G q=>bh _ q;obtain⟨T,id,B,C,D⟩:=f p_ {a with heap:=a.heap.push {cls:=.type "slice",data:=.fields #[c,d,.none]}} σ t x v c d l u a.zS Q A m (Heap.IsSliceOf.new ..) pl y z;exact tail_any C B D (by with_unfolding_all rfl)
def oG(xs:List V)(lo hi:Option Int):List V:=(xs.drop<|HT.cC xs.length 0 lo).take<|HT.cC xs.length xs.length hi-HT.cC xs.length 0 lo
def UI(xs:List V)(lo hi:Option Int):(oG xs lo hi).length<=xs.length:=by
 unfold oG;rw[dn,oZ];omega
def ZV(K:u_):V->Option Int->Option Int->Hp->VK->Prop:=λx lo hi H Q=>∃a xs,x=.ref a/\aF K H a xs/\
 ¬(HT.cC xs.length 0 lo=0/\HT.cC xs.length xs.length hi=xs.length)/\∀p,H p=b_->Q (.ref p) (cB H p<|.tup<|oG xs lo hi)
def N2:Jx X (ZV X.K):=by
 intro p_ s σ H x v m n lo hi sl Q I g i pl j h;obtain⟨a,xs,rfl,k,hw,q⟩:=h;cases g;obtain⟨l,r,d,f⟩:=I.tuple k;have c:l.toArray.size=xs.length:=by rw[de];exact r.length.f5
 refine⟨"tuple",_,SX.lookup,d.typeIs,HT.abZ d i pl j (c▸hw) ?_<|c▸f⟩;rw[c];refine⟨.ref _,_,I.laid (λb o q=>bh _ q) (aD _) ?_,xz,q _<|I.aE.fresh<|aD _⟩;exact⟨cF (UI _ _ _) f,_,(r.drop<|HT.cC _ 0 _).take<|HT.cC _ _ _-HT.cC _ 0 _,V2 _ _⟩
end
noncomputable def pO(n:Nat)(i:Int):Option Nat:=if 0<=i then (if i<n then a_ i.toNat else b_) else if -(n:Int)<=i then a_ (i+n).toNat else b_
def gd{a:Type}(xs:List a)(i:Int):Option a:=(pO xs.length i).bind λj=>xs[j]?
def XC(h:pO n i=a_ j):Mn i n=a_ j/\j<n/\-(n:Int)<=i/\i<n:=by
 unfold pO at h
 by_cases a:0<=i
 .rw[dL a]at h
  by_cases h1:i<n
  .rw[dL h1]at h;have e:=cI h;exact⟨by rw[seqIndex_of a h1,e],om,om,h1⟩
  rw[dt h1]at h;cases h
 rw[dt a]at h
 by_cases h1:-n<=i
 .rw[dL h1]at h;have e:=cI h;exact⟨by rw[Uv om h1,e],om,h1,om⟩
 rw[dt h1]at h;cases h
def XW{a:Type}{xs:List a}{i:Int}{v:a}(h:gd xs i=a_ v):∃j,Mn i xs.length=a_ j/\xs[j]?=a_ v/\j<xs.length/\-(xs.length:Int)<=i/\i<xs.length:=by
 unfold gd at h;rcases e:pO xs.length i with _|j
 ·rw[e]at h;cases h
 rw[e]at h;obtain⟨h1,h2,h3,h4⟩:=XC e;exact⟨j,h1,h,h2,h3,h4⟩
def bZ{a:Type}{xs:List a}{j:Nat}{v:a}(h:xs[j]?=a_ v):gd xs (j:Int)=a_ v:=by
 have b:=(bu.mp h).1
 have e:pO xs.length (j:Int)=a_ j:=by
  unfold pO;rw[dL om,dL om];simp
 unfold gd;rw[e];exact h
def WV{a:Type}(xs:List a)(v:a):gd (xs++[v]) (-1)=a_ v:=by
 have b:(xs++[v]).length=xs.length+1:=by simp
 have e:pO (xs++[v]).length (-1)=a_ xs.length:=by
  unfold pO;rw[b,dt qc,dL om]
  congr 1
  omega
 unfold gd;rw[e];simp
def aiE(b:b4):Prop:=∀o i,subscripted b d_ o i=operate [o,i] (getItem o i)
def Ex(X:Cx)(r:R2):Prop:=
 ∀(value a:b4)(p_:List (e_×bE))(s:g_)(σ:St)(H:Hp)(x y:V)(v u:f_)(Q:VK),cP X p_ σ H s->d0 x v->d0 y u->r x y H Q->
  subscripted a d_ v u=operate [v,u] (getItem v u)->am (ap X.prog X.w) X.A (Um value a v u) (EP X p_ σ Q) X.xe s
def MtR(X:Cx)(id:String)(r:V->List V->Hp->VK->Prop):Prop:=
 ∀(p_:List (e_×bE))(s:g_)(σ:St)(H:Hp)(x:V)(xs:List V)(v:f_)(us:List f_)(Q:VK),cP X p_ σ H s->d0 x v->d4 xs us->r x xs H Q->
  am (ap X.prog X.w) X.A (call (.builtin id) (v::us)) (EP X p_ σ Q) X.xe s
section
variable{X:Cx}{a b:b4}{ta tb:TE}{pos:Pos}
def aO{r:R2}(c:Ex X r)(ha:PE X a ta)(d:PE X b tb)(e:aiE b:=by intro _ _;rfl):PE X (.Subscript a b pos) (zU r ta tb):=by
 exact λp_ s σ H Q I h=>Subscript_ (Qj ha d I h λv u s2 x y j f g i q=>c a b _ _ _ _ x y v u Q f g i q<|e _ _)
def BE(K:u_):R2:=λx y H Q=>∃p xs i v,x=.ref p/\y=.int i/\ao K H p xs/\gd xs i=a_ v/\Q v H
def D9(K:u_):R2:=λx y H Q=>∃p xs i v,x=.ref p/\y=.int i/\aF K H p xs/\gd xs i=a_ v/\Q v H
def cG:Ex X (BE X.K):=by
 intro value C p_ s σ H x y v u Q I g k h d;obtain⟨p,xs,i,z,rfl,rfl,l,m,q⟩:=h;cases g;obtain⟨t,rfl⟩:=k;obtain⟨n,r,pl,D⟩:=I.list l;obtain⟨j,h1,h2,h3,h4,h5⟩:=XW m;obtain⟨w,e,o⟩:=r.get h2;have A:=r.length;have hn:=DG;have fin:EP X _ _ Q w s:=⟨z,H,I,o,q⟩
 by_cases f:0<=i
 .have c:i.toNat=j:=by
   rw[seqIndex_of f h5]at h1;exact cI h1
  exact item_listR pl.isList f om (by rw[c];simpa using e) fin d
 have c:(i+(n.toArray.size:Int)).toNat=j:=by
  rw[Uv om h4]at h1;rw[de,<-A];exact cI h1
 exact abp (x:=w) pl.isList.typeIs slot_list_getitem.lookup
  (wpAny_getItem_list_neg (Q:=λr B=>r=w/\EP X p_ σ Q r B) pl.isList om (by rw[de] <;> omega) om (by rw[c];simpa using e) ⟨xz,fin⟩) d
def cw:Ex X (D9 X.K):=by
 intro value n p_ s σ H x y v u Q I c d h e;obtain⟨p,xs,i,z,rfl,rfl,f,g,q⟩:=h;cases c;obtain⟨t,rfl⟩:=d;obtain⟨o,r,pl,A⟩:=I.tuple f;obtain⟨j,h1,h2,h3,h4,h5⟩:=XW g;obtain⟨w,k,l⟩:=r.get h2;have hn:=DG;have fin:EP X _ _ Q w s:=⟨z,H,I,l,q⟩
 exact abp (x:=w) pl.typeIs slot_tuple_getitem.lookup
  (getItem_tuple (j:=j) (Q:=λr m=>r=w/\EP X p_ σ Q r m) pl om om (by rw[de,<-r.length];exact h1) (by simpa using k) ⟨xz,fin⟩) e
def adR(c:List f_)(n j:Nat)(u:f_):nX (·.setIfInBounds j u) {cls:=.type "list",data:=.seq c.toArray n}={cls:=.type "list",data:=.seq (c.set j u).toArray n}:=by
 simp[nX]
def cP.lst(I:cP X p_ σ H s)(h:H p=a_ (.lst xs)):∃(c:List f_)(n:Nat),d4 xs c/\s.heap.get? p=a_ {cls:=.type "list",data:=.seq c.toArray n}/\xs.length<=bp:=by
 obtain⟨z,c,n,r,e⟩:=I.aE p _ h;exact⟨c,n,r,e,z⟩
def cP.ajC{p_:List (e_×bE)}{σ:St}{H:Hp}{s:g_}{p:e_}{xs ys:List V}{d mz:List f_}{n c:Nat}{f:bE->bE}(I:cP X p_ σ H s)(h:H p=a_ (.lst xs))(i:s.heap.get? p=a_ {cls:=.type "list",data:=.seq d.toArray n})(g:f {cls:=.type "list",data:=.seq d.toArray n}={cls:=.type "list",data:=.seq mz.toArray c})(r:d4 ys mz)(j:ys.length<=bp)(t:Nat):cP X p_ σ (cB H p<|.lst ys) {s with heap:=s.heap.update p f,toks:=t}:=by
 have e:(s.heap.update p f).get? p=a_ {cls:=.type "list",data:=.seq mz.toArray c}:=by
  rw[Cv f i (by rw[g] <;> rfl),g]
 exact I.write (by rw[h];trivial) (.inl xz) (λb u k q=>(yA _ _<|b8 k).f4 q) ⟨_,e⟩ ⟨j,mz,c,r,e⟩
def ak4:V->V->V->Hp->(Hp->Prop)->Prop:=λo i v H Q=>∃p xs k j,o=.ref p/\i=.int k/\H p=a_ (.lst xs)/\pO xs.length k=a_ j/\Q (cB H p<|.lst<|xs.set j v)
def set_list:Ql X ak4:=by
 intro p_ s σ H o i v ov B u Q I w x y h;obtain⟨p,xs,k,j,rfl,rfl,f,z,q⟩:=h;cases w;obtain⟨t,rfl⟩:=x;obtain⟨g,n,r,c,A⟩:=I.lst f;obtain⟨h1,h2,h3,h4⟩:=XC z;have d:=r.length;have hn:=DG
 have l:cP X p_ σ (cB H p<|.lst<|xs.set j v) {s with heap:=s.heap.update p (nX (·.setIfInBounds j u))}:=
  I.ajC f c (adR g n j u) (r.set y j) (by rw[qa];exact A) s.toks
 by_cases m:0<=k
 .have e:k.toNat=j:=by
   rw[seqIndex_of m h4]at h1;exact cI h1
  exact W.ki_setAt c m om (by rw[de,<-d];exact h4)<|e▸⟨_,l,q⟩
 have e:(k+(g.toArray.size:Int)).toNat=j:=by
  rw[Uv om h3]at h1;rw[de,<-d];exact cI h1
 exact W.ki_setBack c om (by rw[de,<-d];exact h3) om<|e▸⟨_,l,q⟩
def js(i:Int)(n d:Nat):max 0 (min (if i<0 then i+(n:Int) else i) (n:Int))=((HT.cC n d (a_ i):Nat):Int):=by
 show _=(((if i<0 then (i+n).toNat else min i.toNat n:Nat)):Int)
 by_cases h:i<0
 .rw[dL h,dL h];lia
 rw[dt h,dt h];lia
def acT(lo hi:Option Int)(n:Nat):(sliceBounds lo hi b_ n).1=((HT.cC n 0 lo:Nat):Int)/\(sliceBounds lo hi b_ n).2.1=((HT.cC n n hi:Nat):Int)/\(sliceBounds lo hi b_ n).2.2=1:=by
 refine⟨?_,?_,xz⟩
 .rcases lo with _|i;rfl;exact(js i n 0)
 rcases hi with _|i;rfl;exact(js i n n)
def acI(c:List f_)(lo hi:Option Int):slicePick c.toArray lo hi b_=((c.drop<|HT.cC c.length 0 lo).take<|HT.cC c.length c.length hi-HT.cC c.length 0 lo).toArray:=by
 obtain⟨h1,h2,h3⟩:=acT _ _ _;unfold slicePick;rw[h1,h2,h3];simp only[sliceRange_one,pick_run,de] <;> rfl
def anc(K:u_):V->Option Int->Option Int->Hp->VK->Prop:=λx lo hi H Q=>∃a xs,x=.ref a/\ao K H a xs/\∀p,H p=b_->Q (.ref p) (cB H p<|.lst<|oG xs lo hi)
def G9:Jx X (anc X.K):=by
 intro p_ s σ H x v k l lo hi sl Q I d e pl f h;obtain⟨a,xs,rfl,g,q⟩:=h;cases d;obtain⟨m,r,c,i⟩:=I.list g;have j:=r.length;refine⟨"list",_,slot_list_getitem.lookup,c.isList.typeIs,wpAny_getItem_list_slice c.isList e pl f .none (by simp) ?_<|by rw[de] <;> omega⟩;rw[acI,<-j];refine⟨.ref _,_,I.laid (λb n q=>bh _ q) (aD _) ?_,xz,q _<|I.aE.fresh<|aD _⟩;exact⟨cF (UI _ _ _) i,_,0,(r.drop<|HT.cC _ 0 _).take<|HT.cC _ _ _-HT.cC _ 0 _,dU _ xz⟩
def vH:V->Bool
 | .aJ=>c_
 | .bl _=>c_
 | .int _=>c_
 | .str _=>c_
 | _=>d_
noncomputable def sh:V->V->Bool
 | .aJ,.aJ=>c_
 | .bl a,.bl b=>a==b
 | .bl a,.int b=>(if a then 1 else 0)==b
 | .int a,.bl b=>a==(if b then 1 else 0)
 | .int a,.int b=>a==b
 | .str a,.str b=>a==b
 | _,_=>d_
def aj4(d:d0 y u)(c:d0 x v)(f:vH y=c_)(e:vH x=c_):iP A s u v (sh y x):=by
 cases y with
 | aJ=>
  cases d;cases x with
  | aJ=>cases c;exact iP.same _
  | bl b=>cases c;exact iP.none_bool b
  | int b=>obtain⟨t,rfl⟩:=c;exact abP b t
  | str b=>obtain⟨t,rfl⟩:=c;exact abO b t
  | _=>exact dV e dW
 | bl a=>
  cases d;cases x with
  | aJ=>cases c;exact iP.bool_none a
  | bl b=>cases c;exact iP.bool_bool a b
  | int b=>obtain⟨t,rfl⟩:=c;exact iP.bool_int a b t
  | str b=>obtain⟨t,rfl⟩:=c;exact iP.bool_str a b t
  | _=>exact dV e dW
 | int a=>
  obtain⟨t',rfl⟩:=d;cases x with
  | aJ=>cases c;exact abQ a _
  | bl b=>cases c;exact iP.int_bool a _ b
  | int b=>obtain⟨t,rfl⟩:=c;exact iP.int_int a _ b t
  | str b=>obtain⟨t,rfl⟩:=c;exact abU a _ b t
  | _=>exact dV e dW
 | str a=>
  obtain⟨t',rfl⟩:=d;cases x with
  | aJ=>cases c;exact abN a _
  | bl b=>cases c;exact iP.str_bool a _ b
  | int b=>obtain⟨t,rfl⟩:=c;exact abT a _ b t
  | str b=>obtain⟨t,rfl⟩:=c;exact iP.str_str a _ b t
  | _=>exact dV e dW
 | _=>exact dV f dW
def wc(x:V)(u:f_):Bool:=match u with
 | .none=>sh .aJ x
 | .bool b=>sh (.bl b) x
 | .int i _=>sh (.int i) x
 | .str z _=>sh (.str z) x
 | _=>d_
def YQ(r:d0 y u)(f:vH y=c_):wc x u=sh y x:=by
 cases y with
 | aJ=>cases r;rfl
 | bl b=>cases r;rfl
 | int i=>obtain⟨t,rfl⟩:=r;rfl
 | str z=>obtain⟨t,rfl⟩:=r;rfl
 | _=>exact dV f dW
theorem NQ(h:d4 xs us)(f:xs.all vH=c_):us.any (wc x)=xs.any λy=>sh y x:=by
 induction h with|nil=>rfl|cons r _ i=>rw[CS,kE]at f;rw[vf,vf,YQ r f.1,i f.2]
theorem MT(d:d0 x v)(e:vH x=c_)(h:d4 xs us)(f:xs.all vH=c_):∀u∈us,iP A s u v<|wc x u:=by
 induction h with
 |nil=>intro u c;cases c
 |cons r _ i=>
  intro g c;rw[CS,kE]at f;obtain rfl|c:=bq.mp c
  .rw[YQ r f.1];exact aj4 r d f.1 e
  exact i f.2 g c
def Ep(x:V)(xs:List V):Bool:=xs.any λy=>sh y x
def rIn(K:u_)(c:Bool):R2:=λx y H Q=>∃p xs,y=.ref p/\(ao K H p xs\/aF K H p xs)/\vH x=c_/\xs.all vH=c_/\Q (.bl (if c then !Ep x xs else Ep x xs)) H
def Ut:fo X (ja .NotIn) (rIn X.K c_):=by
 intro p_ s σ H x y v u Q I e g h;obtain⟨p,xs,rfl,c,f,fs,q⟩:=h;cases g;obtain c|c:=c
 .obtain⟨d,r,pl,i⟩:=I.list c;refine SeqAt.notIn_listAt _ pl.isList (λw hw=>MT e f r fs w<|by simpa using hw) ⟨.bl _,H,I,xz,?_⟩;rw[show d.toArray.any (wc x)=d.any (wc x) by simp,NQ r fs];exact q
 obtain⟨d,r,pl,i⟩:=I.tuple c;refine SeqAt.notIn_tupleAt _ pl (λw hw=>MT e f r fs w<|by simpa using hw) ⟨.bl _,H,I,xz,?_⟩;rw[show d.toArray.any (wc x)=d.any (wc x) by simp,NQ r fs];exact q
def dE:kP X (.builtin "len") (λxs H Q=>∃p ys,xs=[.ref p]/\(ao X.K H p ys\/aF X.K H p ys)/\Q (.int ys.length) H):=by
 intro p_ s σ H xs us Q I r h;obtain⟨p,ys,rfl,c,q⟩:=h;obtain⟨u,rfl,f⟩:=vals1 r;cases f;have hn:=DG;obtain c|c:=c
 .obtain⟨g,d,pl,i⟩:=I.list c;have e:=d.length;exact Calls.call_len_list pl.isList (by simp only[de] <;> omega) ⟨.int _,H,I.tok _,⟨s.toks+1,by rw[de,e]⟩,q⟩
 obtain⟨g,d,pl,i⟩:=I.tuple c;have e:=d.length;exact len_tuple pl (by simp only[de] <;> omega) ⟨.int _,H,I.tok _,⟨s.toks+1,by rw[de,e]⟩,q⟩
def LD:kP X (.type "list") (λxs H Q=>∃p ys,xs=[.ref p]/\(ao X.K H p ys\/aF X.K H p ys)/\∀l,H l=b_->Q (.ref l) (cB H l<|.lst ys)):=by
 intro p_ s σ H xs us Q I r h;obtain⟨p,ys,rfl,g,q⟩:=h;obtain⟨u,rfl,m⟩:=vals1 r;cases m
 have fin:∀(c:List f_),d4 ys c->ys.length<=bp->∀(h':i_)(d:Nat),(∀b o',s.heap.get? b=a_ o'->h'.get? b=a_ o')->
   h'.get? s.zS=a_ {cls:=.type "list",dict:=b_,data:=.seq c.toArray d,slots:=#[]}->EP X p_ σ Q (.ref s.zS) {s with heap:=h'}:=λc f i h' d kp e=>
  ⟨.ref s.zS,_,I.laid (t':=s.toks) kp (aD _) (show dj X.prog X.w _ h' _ (.lst ys) from ⟨i,c,d,f,e⟩),xz,q _<|I.aE.fresh<|aD _⟩
 obtain g|g:=g
 .obtain⟨c,f,pl,i⟩:=I.list g;have t:=f.length;obtain⟨o,j,k,n,hd⟩:=pl.isList;exact call_list_seq p (.inl xz) j k hd (λh' d kp e=>fin c f i h' d kp e) (by simp only[de] <;> omega)
 obtain⟨c,f,pl,i⟩:=I.tuple g;have t:=f.length;obtain⟨o,j,k,n,hd⟩:=pl;exact call_list_seq p (.inr xz) j k hd (λh' d kp e=>fin c f i h' d kp e) (by simp only[de] <;> omega)
def CO:kP X (.type "tuple") (λxs H Q=>∃p ys,xs=[.ref p]/\((ao X.K H p ys/\∀l,H l=b_->Q (.ref l) (cB H l<|.tup ys))\/(aF X.K H p ys/\Q (.ref p) H))):=by
 intro p_ s σ H xs us Q I r h;obtain⟨p,ys,rfl,h⟩:=h;obtain⟨u,rfl,j⟩:=vals1 r;cases j;obtain⟨c,q⟩|⟨c,q⟩:=h
 .obtain⟨d,f,pl,g⟩:=I.list c;have m:=f.length;refine call_tuple_list pl.isList (λh' kp=>?_) (by simp only[de] <;> omega);have i:=I.kept (t':=s.toks) kp
  have k:cP X p_ σ (cB H h'.zH<|.tup ys) {s with heap:=h'.push {cls:=.type "tuple",data:=.seq d.toArray}}:=
   i.laid (t':=s.toks) (λb o e=>bh _ e) (aD _) (show dj X.prog X.w _ _ _ (.tup ys) from ⟨g,d,f,V2 _ _⟩)
  exact⟨.ref _,_,k,xz,q _<|i.aE.fresh<|aD _⟩
 obtain⟨d,f,pl,g⟩:=I.tuple c;exact call_tuple_same pl ⟨.ref p,H,I,xz,q⟩
def jp(K:u_)(T:String)(x:V)(H:Hp):Prop:=match x with
 | .str _=>T="str"
 | .int _=>T="int"
 | .ref p=>(T="list"/\∃xs,ao K H p xs)\/(T="tuple"/\∃o,K.lookup p=a_ o/\o.cls=.type "tuple"/\o.dict=b_)\/
   (T="dict"/\((∃fv,H p=a_ (.dK fv))\/∃fv,H p=a_ (.dT fv)))\/(T="set"/\∃S n,H p=a_ (.set S n))
 | _=>False
def aiL(I:cP X p_ σ H s)(r:d0 x v)(ty:jp X.K T x H):s.TypeIs v T/\∀a,v=.ref a->∃g,s.heap.get? a=a_ g/\g.dict=none:=by
 cases x with
 | str z=>
  obtain⟨t,rfl⟩:=r;cases ty;exact⟨typeIs_str s z t,λ_ e=>nomatch e⟩
 | int i=>
  obtain⟨t,rfl⟩:=r;cases ty;exact⟨typeIs_int s i t,λ_ e=>nomatch e⟩
 | ref p=>
  cases r;obtain⟨rfl,xs,h⟩|⟨rfl,o,d,j,hd⟩|⟨rfl,d⟩|⟨rfl,S,n,d⟩:=ty
  .obtain⟨k,_,pl,_⟩:=I.list h;refine⟨pl.isList.typeIs,λa e=>?_⟩;cases e;obtain⟨o,n,e,c,hd,_⟩:=pl;exact⟨o,e,hd⟩
  .refine⟨⟨o,I.dI p o d,j⟩,λa e=>?_⟩;cases e;exact⟨o,I.dI _ o d,hd⟩
  .have z:∃o,s.heap.get? p=a_ o/\o.ExactDict:=by
    obtain⟨fv,d⟩|⟨fv,d⟩:=d
    .obtain⟨_,_,_,_,o,_,_,e,ex,_⟩:=I.aE p _ d;exact⟨o,e,ex⟩
    obtain⟨_,_,_,_,o,_,_,e,ex,_⟩:=I.aE p _ d;exact⟨o,e,ex⟩
   obtain⟨o,e,ex⟩:=z;refine⟨⟨o,e,ex.1⟩,λa f=>?_⟩;cases f;exact⟨o,e,ex.2.1⟩
  obtain⟨o,_,_,_,e,ex,_⟩:=I.aE p _ d;refine⟨⟨o,e,ex.1⟩,λa f=>?_⟩;cases f;exact⟨o,e,ex.2.1⟩
 | _=>exact i9 ty
abbrev tBM(K:u_)(T:String)(r:V->List V->Hp->VK->Prop)(to:TE)(t:TA):TE:=λσ H Q=>to σ H λx H1=>jp K T x H1/\t σ H1 λxs H2=>r x xs H2 Q
variable{o e:b4}{es:List b4}{to:TE}{t:TA}{name:bx}{apos gx:Pos}{T id:String}{r:V->List V->Hp->VK->Prop}
def je(g:PlainAttrs T)(slot:Slot T name id)(i:typeOf (.builtin id)=pure (.type "method_descriptor"))(hm:MtR X id r)(j:PE X o to)(ha:PA X (e::es) t)
  (k:autoParam (yM o name X.env (eval o X.env)=eval o X.env) a3)
  (l:autoParam (((bc gx<|bY (e::es) X.env).all (λx=>!x.1)&&(xn gx<|wY [] X.env).all (λx=>x.1.isSome)
   && decide ((e::es).length+([]:List Keyword).length+(if ([]:List Keyword).isEmpty then 0 else 1)<30))=true) a3)
  (m:autoParam ((apos.endLine==gx.line)=true) a3) (n:autoParam (bY (e::es) X.env=(d_,eval e X.env)::bY es X.env) a3) (p:autoParam ((bc gx<|bY es X.env).any (·.1)=false) a3) :
  PE X (.Call (.Attribute o name apos) (e::es) [] gx) (tBM X.K T r to t):=by
 refine λp_ s σ H Q I h=>wpAny_Call_method_late k l m xz (aR (j _ s _ H _ I h) λv s1⟨x,y,c,d,ty,q⟩=>?_);obtain⟨h1,h2⟩:=aiL c d ty;refine⟨T,id,g,slot,i,h1,h2,?_⟩;have f:=ha gx _ _ _ _ _ c q;rw[n]at f ⊢;exact KD (by show (d_||(bc _<|bY _ _).any (·.1))=d_;rw[p] <;> rfl)<|KO (aR f λus s2⟨vs,z,u,r2,w⟩=>hm _ _ _ _ x _ v _ Q u d r2 w)
end
def Ew(X:Cx)(id:String)(r:V->List V->Hp->VK->Prop):Prop:=
 ∀(p_:List (e_×bE))(s:g_)(σ:St)(H:Hp)(x:V)(xs:List V)(v:f_)(us:List f_)(Q:VK),cP X p_ σ H s->d0 x v->d4 xs us->r x xs H Q->
  am (ap X.prog X.w) X.A (call (.builtin id) (v::us)) (EP X p_ σ Q) X.xe s
def d4.one(h:d4 [x] us):∃u,us=[u]/\d0 x u:=by
 cases h with|cons r h=>cases h;exact⟨_,xz,r⟩
theorem d4.eraseIdx:∀{xs:List V}{us:List f_}(i:Nat),d4 xs us->d4 (xs.eraseIdx i) (us.eraseIdx i)
 | _,_,_,.nil=>.nil
 | _,_,0,.cons _ t=>t
 | _,_,i+1,.cons r t=>.cons r<|d4.eraseIdx i t
theorem d4.rep(h:d4 xs us):∀k:Nat,d4 (eQ k xs).flatten (eQ k us).flatten
 | 0=>.nil
 | k+1=>by
  rw[AM,AM,FD,FD];exact d4.append h<|d4.rep h k
theorem VF{a:Type}:∀(l:List a)(i:Nat),(l.eraseIdx i).length<=l.length
 | [],_=>aD _
 | _::_,0=>jT _
 | _::r,i+1=>tm<|VF r i
theorem foldl_rep(a:List f_):∀(k:Nat)(b:List f_),C4 (λc d=>c++d) b.toArray (eQ k a.toArray)=(b++(eQ k a).flatten).toArray
 | 0,b=>by simp
 | k+1,b=>by
  have e:b.toArray++a.toArray=(b++a).toArray:=by simp
  have f:(b++a)++(eQ k a).flatten=b++(eQ (k+1) a).flatten:=by
   rw[AM,FD,dw]
  rw[<-f,<-foldl_rep a k<|b++a,<-e,AM,List.foldl_cons]
section
variable{X:Cx}{p_:List (e_×bE)}{σ:St}{H:Hp}{s:g_}{l b:e_}{xs ys zs:List V}
def cP.Iv{a mz:List f_}{n:Nat}{f:Array f_->Array f_}{t':Nat}(I:cP X p_ σ H s)(c:H l=a_ (.lst xs))(e:s.heap.get? l=a_ {cls:=.type "list",data:=.seq a.toArray n})(d:f a.toArray=mz.toArray)(g:d4 ys mz)(h:ys.length<=bp):cP X p_ σ (cB H l<|.lst ys) {s with heap:=s.heap.update l<|nX f,toks:=t'}:=by
 have q:=PySem.IsL.update e f;rw[d]at q;exact I.write (c▸trivial) (.inl xz) (λb' u i j=>(yA _ _<|b8 i).f4 j) ⟨_,q⟩ ⟨h,mz,_,g,q⟩
def cP.Z2(I:cP X p_ σ H s)(a:d4 ys its)(c:ys.length<=bp):cP X p_ σ (cB H s.zS<|.lst ys) {s with heap:=s.heap.push {cls:=.type "list",data:=.seq its.toArray},toks:=t'}:=
 I.laid (λ_ _ q=>bh _ q) (aD _) ⟨c,its,0,a,dU _ xz⟩
def cP.fresh(I:cP X p_ σ H s):H s.zS=none:=I.aE.fresh<|aD _
def cP.oB(I:cP X p_ σ H s)(c:H l=a_ (.lst xs)):xs.length<=bp/\∃(a:List f_)(n:Nat),d4 xs a/\xs.length=a.length/\s.heap.get? l=a_ {cls:=.type "list",data:=.seq a.toArray n}:=by
 obtain⟨z,a,n,r,e⟩:=I.aE l _ c;exact⟨z,a,n,r,r.length,e⟩
def Ww(h:n<=bp):KA n=false:=by
 exact eF om
end
section
variable{X:Cx}
def ahy:V->List V->Hp->VK->Prop:=λx vs H Q=>∃l xs y,x=.ref l/\vs=[y]/\H l=a_ (.lst xs)/\xs.length<bp/\Q .aJ (cB H l<|.lst<|xs++[y])
def m5:Ew X "list.append" ahy:=by
 intro p_ s σ H x vs v us Q I b c h;obtain⟨l,xs,y,rfl,rfl,a,f,q⟩:=h;cases b;obtain⟨u,rfl,d⟩:=c.one;obtain⟨z,g,n,r,i,e⟩:=I.oB a;refine yW F.slot_list_append ⟨_,e,xz⟩ F.entry_list_append (F.args_list_append_2 _ _) (PySem.list_append l _ n u<|by rw[de];omega) ⟨e,⟨.aJ,_,I.Iv a e (by simp) (r.append<|.cons d .nil) ?_,xz,q⟩⟩;rw[ba,List.length_singleton];omega
def ahw:V->List V->Hp->VK->Prop:=λx vs H Q=>∃l b xs a,x=.ref l/\vs=[.ref b]/\H l=a_ (.lst xs)/\H b=a_ (.lst a)/\xs.length+a.length<=bp/\Q .aJ (cB H l<|.lst<|xs++a)
def Gi:Ew X "list.extend" ahw:=by
 intro p_ s σ H x vs v us Q I f g h;obtain⟨l,b,xs,t,rfl,rfl,d,i,w,q⟩:=h;cases f;obtain⟨u,rfl,j⟩:=g.one;cases j;obtain⟨z,a,n,r,y,e⟩:=I.oB d;obtain⟨A,c,k,r2,B,m⟩:=I.oB i;have o:a.toArray.size+c.toArray.size<=bp:=by rw[de,de];omega
 have p:¬(!a.toArray.isEmpty&&KA (a.toArray.size+c.toArray.size))=true:=by
  rw[Ww o,Bool.and_false];exact dW
 refine yW F.slot_list_extend ⟨_,e,xz⟩ F.entry_list_extend (F.args_list_extend_2 _ _)
  (AutoSeq1.list_extend_list_list_0 l a.toArray n b c.toArray k p (by rw[de];omega) om) ⟨e,m,?_⟩
 refine⟨.aJ,_,I.Iv d e (by simp) (r.append r2) ?_,xz,q⟩;rw[ba];omega
def ai':V->List V->Hp->VK->Prop:=λx vs H Q=>∃l xs i k y,x=.ref l/\vs=[.int i]/\H l=a_ (.lst xs)/\-(2^63)<=i/\i<2^63/\Mn i xs.length=a_ k/\xs[k]?=a_ y/\Q y (cB H l<|.lst<|xs.eraseIdx k)
def agc:Ew X "list.pop" ai':=by
 intro p_ s σ H x vs v us Q I b c h;obtain⟨l,xs,i,k,y,rfl,rfl,a,h1,h2,d,f,q⟩:=h;cases b;obtain⟨u,rfl,g⟩:=c.one;obtain⟨t,rfl⟩:=g;obtain⟨z,j,n,r,m,e⟩:=I.oB a;obtain⟨w,hw,o⟩:=r.get f
 refine yW F.slot_list_pop ⟨_,e,xz⟩ F.entry_list_pop (F.args_list_pop_2 _ _)
  (MeetsSeq.list_pop_at l j.toArray n i t k w (fitsIndex_both h1 h2) (by rw[de,<-m];exact d) (by rw[<-sW];exact hw)<|by rw[de];omega) ⟨e,?_⟩
 refine⟨y,_,I.Iv a e ?_ (r.eraseIdx k) ?_,o,q⟩
 .rw[aaY]
 .have:=VF xs k;omega
def ang:R2:=λx y H Q=>∃l b xs a,x=.ref l/\y=.ref b/\H l=a_ (.lst xs)/\H b=a_ (.lst a)/\xs.length+a.length<=bp/\∀p,H p=b_->Q (.ref p) (cB H p<|.lst<|xs++a)
def Dz:fo X (vm .Add) ang:=by
 intro p_ s σ H x y v u Q I d f h;obtain⟨l,b,xs,k,rfl,rfl,g,i,m,q⟩:=h;cases d;cases f;obtain⟨z,a,n,r,o,e⟩:=I.oB g;obtain⟨p,c,t,r2,w,j⟩:=I.oB i;refine PySem.P.add_list e j ?_ (by rw[de,de];omega);have ea:a.toArray++c.toArray=(a++c).toArray:=by simp
 rw[ea];exact⟨.ref _,_,I.Z2 (r.append r2) (by rw[ba];omega),xz,q _ I.fresh⟩
def ane:R2:=λx y H Q=>∃l k xs,x=.ref l/\y=.int k/\H l=a_ (.lst xs)/\-(2^63)<=k/\k<2^63/\xs.length*k.toNat<=bp/\
 ∀p,H p=b_->Q (.ref p) (cB H p<|.lst (eQ k.toNat xs).flatten)
def len_rep{a:Type}(xs:List a)(k:Nat):(eQ k xs).flatten.length=k*xs.length:=by
 induction k with
 | zero=>simp
 | succ k ih=>rw[AM,FD,ba,ih,CU,Nat.add_comm]
def Oq:fo X (vm .Mult) ane:=by
 intro p_ s σ H x y v u Q I g i h;obtain⟨l,k,xs,rfl,rfl,j,h1,h2,f,q⟩:=h;cases g;obtain⟨t,rfl⟩:=i;obtain⟨z,b,n,r,o,e⟩:=I.oB j;have p:b.toArray.size*k.toNat<=bp:=by rw[de,<-o];exact f
 have w:¬b.toArray.size*k.toNat > (2^63-1)/8:=by
  have:bp<=(2^63-1)/8:=qc;omega
 have A:¬(!Builtin.List.listFitsIndex k)=true:=by
  rw[fitsIndex_both h1 h2];exact dW
 have B:¬KA (b.toArray.size*k.toNat)=true:=by
  rw[Ww p];exact dW
 have C:C4 (λc d=>c++d) #[] (eQ (if b.toArray.isEmpty=c_ then 0 else k.toNat) b.toArray)=(eQ k.toNat b).flatten.toArray:=by
  have D:∀m:Nat,C4 (λc d=>c++d) #[] (eQ m b.toArray)=(eQ m b).flatten.toArray:=λm=>by
   have:=foldl_rep b m [];rw[FQ]at this;exact this
  rw[D];rcases b with _|⟨a,G⟩;simp;rw[dt (by simp)]
 refine wpAny_binaryOp_repeat_ref (T:="list") (U:="int") qc ⟨_,e,xz⟩ (λE=>typeIs_int E k t) noFill_list_mul F.fills_int_mul F.slot_int_rmul repeat_list F.slot_int_index.lookup
  (yW F.slot_int_rmul (typeIs_int s k t) F.entry_int_rmul (F.args_int_rmul_2 _ _) (int___rmul___int_list k t l b.toArray n) ⟨e,xz,⟨_,e,xz⟩,yW F.slot_list_mul ⟨_,e,xz⟩ F.entry_list_mul (F.args_list_mul_2 _ _) (AutoListH.list___mul___list_int_3 l b.toArray n k t A w B) ⟨e,?_⟩⟩)
 rw[C];exact⟨.ref _,_,I.Z2 (r.rep _) (by rw[len_rep,Nat.mul_comm];exact f),xz,q _ I.fresh⟩
end
section
variable{prog:k_}{w:j_}{A:h_}{E:f_->g_->Prop}{s:g_}
end
end L2
namespace Att
open PySem.W PySem.Calls
def aco{P:Params}:∀(ns:List Int)(vs:List f_),WellAll P h vs (ns.map WData.int)->IntsAre vs ns:=by
 intro ns
 induction ns with
 | nil=>
  intro vs w;rw[LG]at w;cases w;exact .nil
 | cons n ns ih=>
  intro vs w;rw[eu]at w;cases w with
  | cons a b=>
   cases a;exact .cons _ _<|ih _ b
def aed{l:OpenLaw}{n:Nat}(hn:l.most=a_ n){P:Params}{args:List WData}(b:l.row.toRowW.claim.pre args=c_)(e:WellAll P h vals args):∃a vs ns,vals=[bV a]/\args=[WData.list (ns.map WData.int)]/\h.get? a=a_ {cls:=.type "list",data:=.seq vs.toArray}/\IntsAre vs ns/\ns.length<=n:=by
 have c:l.pre.holds [] {args:=args}=true:=(pre_splitW b).2;obtain⟨d,r,rfl,h1,h2⟩:=hasAllW_cons<|(pre_splitW b).1;obtain rfl:=hasAllW_nil h2;obtain⟨xs,rfl,h3⟩:=hasW_list h1;obtain⟨ns,rfl⟩:=items_int h3
 have f:ns.length<=n:=by
  unfold OpenLaw.pre at c
  have h4:(WTm.not<|.lt (.lit<|.int (n:Int))<|.len<|.arg 0).holds [] {args:=[.list (ns.map .int)]}=true:=by
   have h4:=(holds_andW c).1;rw[hn]at h4;exact h4
  have h5:=condW_of h4<|w_not<|w_lt w_lit<|w_len_list<|w_arg xz;rw[aG]at h5;refine TQ λq=>?_;have g:=om
  first
   | (rw[ee g]at h5;exact dV h5 qc)
   | (simp at h5;omega)
 cases e with
 | cons w1 w2=>
  cases w2;cases w1 with
  | list ho aow=>exact⟨_,_,ns,xz,xz,ho,aco _ _ aow,f⟩
def aej(l:OpenLaw)(args:List WData):l.row.toRowW.claim.post args (.bool c_) args=true:=
 postW_of (r:=l.row.toRowW) (X:=(c_==c_))
  (show WShape.has [] (.bool c_) .bool=c_ by first | rfl | decide | simp[WShape.has,WShape.arms,WShape.armsAll])
  (show (WTm.eq .res<|.lit<|.bool c_).value [] {args:=args,res:=a_<|.bool c_,after:=args}=a_ (.bool<|c_==c_) from w_eq_bool (w_res xz) w_lit) xz
def adi{l:OpenLaw}{n:Nat}{XP:(bx->Option f_)->i_->Prop}{YP:j_->i_->Prop}{d:DefRec}(hn:l.most=a_ n)(h:d.params.defaults=[])(call:∀(w:j_)(s₀ b:g_)(mg mb:bx->Option f_)(c:e_)(o:bE)(pm cd doc:f_)(a:e_)(vs:List f_)(ns:List Int),Ground q loose [] XP w s₀ mg mb b.heap->YP w b.heap->b.heap.get? c=a_ o->o.data=.func (docDef d.name d.params d.body d.scope pm cd doc)->b.heap.CodeRec cd d.name->mg d.name=a_ (.ref c)->b.heap.get? a=a_ {cls:=.type "list",data:=.seq vs.toArray}->IntsAre vs ns->ns.length<=n->b.gens=#[]->codeAny (ap l.prog w) callerA (.call (.ref c) ⟨[.ref a],[]⟩) (λr e=>r=.ok (.ret<|.bool c_)/\OldK b.heap e.heap/\e.os=b.os/\AllBare e.gens) b):WalkO q loose XP YP l.row.toRowW d [] (λf vs=>PySem.call f vs):=by
 intro w s₀ b mg mb G Y c o pm cd doc i kV j hd k g m p args z as s A B t C;obtain rfl:i=.none:=Dflts.none g h;obtain rfl:kV=.none:=Dflts.noKw g;obtain⟨a,vs,ns,rfl,rfl,u,v,x⟩:=aed hn s t;refine enter_call (AY (call w _ _ _ _ _ o _ _ _ a _ _ G Y j (fd_plain hd) k m u v x p) λr e y=>?_);obtain⟨rfl,h2,h3,h4⟩:=y;exact⟨.inl ⟨.bool _,.bool _,[],xz,λ_=>rfl,.bool _,aej l _,λ_=>⟨KZ,λ_ hm=>(nomatch hm)⟩⟩,h2,h3,h4⟩
end Att
namespace L2
theorem LY(h:IntsAre vs ns):d4 (ns.map V.int) vs:=by
 induction h with|nil=>exact .nil|cons n t _ i=>exact .cons ⟨t,xz⟩ i
abbrev aS:uB:=λ_ _ _ _ _ _=>False
abbrev E0:XK:=λ_ _ _=>False
def dh:Passes aS X E0:=λ_ _ _ _ _ _ _ h=>h.elim
structure aW(K:u_)(x qual:bx)(st:aK)(f:e_)(fd:lz):Prop where
 ex:∃(oc:f_)(od:Option e_)(kV doc pm:f_)(an:Option e_)(aN ct:f_)(jz:Array (Option f_)),fd=B_ x qual (nv st) (jV st) (aU st) .none kV doc pm an aN ct/\K.lookup f=a_ ⟨oc,od,.func fd,jz⟩/\W.codeIn K aN qual=c_
 kp:x_ K (.ref f)=c_
section
variable{P:k_}{w:j_}{K:u_}{mg:bx->Option f_}{fi:i_}
def aW.ok{st:aK}{k:Nat}{sp:Sp}(F:aW K x qual st f fd)(S:bj N ps (aU st))
  (a:∀(aN:f_)(A:h_)(outer:List Env)(s:g_)(H:Hp)(vs:List V)(Q:VK)(E:XK),eE k (A.deeper<|cr qual (aU st) s.zS f aN)->sp vs H Q E->
   ∃t,fH (qB aS P w K mg fi N qual (aU st) f aN A outer s H E).yf (jV st) t/\t {nx:=λ_ H'=>Q .aJ H',rt:=Q} (start N vs) H) (len:∀vs H Q E,sp vs H Q E->vs.length=ps.length:=by intro _ _ _ _ h;(repeat obtain⟨_,h⟩:=h);subst_vars;rfl):aM P w K mg fi aS (k+1) f fd ps sp:=by
 obtain⟨oc,od,kV,doc,pm,an,aN,ct,jz,rfl,b,c⟩:=F.ex;refine xK b c S len λA outer s H vs Q E d e=>?_;obtain⟨t,h,q⟩:=a aN A outer s H vs Q E d e;exact⟨t,h.yf,q⟩
def aW.binds{st:aK}(F:aW K x qual st f fd)(h:∀(kV doc pm:f_)(an:Option e_)(aN ct:f_)(us:List f_),us.length=ps.length->xk (B_ x qual (nv st) (jV st) (aU st) .none kV doc pm an aN ct) ⟨us,[]⟩=pure (ps.zip us)):d5 K fd ps []:=by
 obtain⟨oc,od,kV,doc,pm,an,aN,ct,jz,rfl,a,b⟩:=F.ex;exact .all<|h _ _ _ _ _ _
def YL{st:aK}{od an:Option e_}{jz:Array (Option f_)}{kV doc pm aN ct:f_}(l:K.lookup f=a_ ⟨oc,od,.func<|B_ x qual (nv st) (jV st) (aU st) .none kV doc pm an aN ct,jz⟩)(c:W.codeIn K aN qual=c_)(k:x_ K (.ref f)=c_):aW K x qual st f (B_ x qual (nv st) (jV st) (aU st) .none kV doc pm an aN ct):=⟨⟨oc,od,kV,doc,pm,an,aN,ct,jz,xz,l,c⟩,k⟩
end
def ic(h:n<=1000):n<bp:=yD h qc
section
variable{X:Cx}
def pv(i:Nat)(a:autoParam (X.N[i]?=a_ x) a3)(b:QU X.env.scope x:=by first | exact aL xz | exact pA (aL xz) | exact pA (pA xz))(hd:autoParam ((x==("__debug__":bx))=false) a4)
  (c:autoParam ((x==("__classdict__":bx))=false) a4):PE X (.Name x pos) (rS i):=ajc a b hd c
end
def dG{A B:Prop}(h:B):if d_=c_ then A else B:=by
 rw[dt dW];exact h
def lG{A B:Prop}(h:A):if c_=c_ then A else B:=by
 rw[dL rfl];exact h
def Ia{c A B:Prop}[Decidable c](a:c)(h:B):if (!decide c)=c_ then A else B:=by
 rw[ee a];exact dG h
def ak(H H':Hp):Prop:=∀b o,H b=a_ o->H' b=a_ o
def ak.f8(H:Hp):ak H H:=λ_ _ h=>h
def ak.f4(a:ak H H1)(b:ak H1 H2):ak H H2:=λc o h=>b c o<|a c o h
def ak.free(e:ak H H')(h:H' l=Option.none):H l=Option.none:=by
 rcases q:H l with _|o;rfl;rw[e l o q]at h;cases h
section
variable{K:u_}{σ:St}{H:Hp}{Q:VK}{p C dx:e_}{xs:List V}{v:V}{i:Nat}{j:Int}{fs:List (bx×V)}{f:bx}
def vr(h:σ[i]?=a_ (a_ v))(q:Q v H):rS i σ H Q:=⟨v,h,q⟩
def rT(s:aF K H p xs)(a:gd xs j=a_ v)(q:Q v H):D9 K (.ref p) (.int j) H Q:=⟨_,_,_,_,xz,xz,s,a,q⟩
def rL(s:ao K H p xs)(a:gd xs j=a_ v)(q:Q v H):BE K (.ref p) (.int j) H Q:=⟨_,_,_,_,xz,xz,s,a,q⟩
def cL(s:ao K H p xs)(a:gd xs j=a_ v)(q:Q v H):tC (.int j) σ H λy b=>BE K (.ref p) y b Q:=⟨_,_,_,_,xz,xz,s,a,q⟩
def vT(h:σ[i]?=a_ (a_<|.ref p))(s:aF K H p xs)(a:gd xs j=a_ v)(q:Q v H):zU (D9 K) (rS i) (tC<|.int j) σ H Q:=⟨_,h,_,_,_,_,xz,xz,s,a,q⟩
def vL(h:σ[i]?=a_ (a_<|.ref p))(s:ao K H p xs)(a:gd xs j=a_ v)(q:Q v H):zU (BE K) (rS i) (tC<|.int j) σ H Q:=⟨_,h,_,_,_,_,xz,xz,s,a,q⟩
def vF(h:σ[i]?=a_ (a_<|.ref p))(e:H p=a_ (.ins C dx fs))(c:eO K C)(n:bU K C f)(l:fs.lookup f=a_ v)(q:Q v H):PN K (rS i) f σ H Q:=⟨_,h,_,_,_,_,_,xz,e,c,n,l,q⟩
def vM{t:TA}(h:σ[i]?=a_ (a_<|.ref p))(e:H p=a_ (.ins C dx fs))(l:fs.lookup m=b_)(q:t σ H λvs a=>sp (.ref p::(vs++dvs)) a Q E):DU C m sp dvs E (rS i) t σ H Q:=⟨_,h,_,_,_,xz,e,l,q⟩
end
section
variable{K:u_}{σ:St}{H:Hp}{Q:VK}{p C dx:e_}{v:V}{fs:List (bx×V)}{f:bx}
def rM{R:Prop}(e:H p=a_ (.ins C dx fs))(l:fs.lookup m=b_)(q:R):∃a dx fs,V.ref p=.ref a/\H a=a_ (.ins C dx fs)/\fs.lookup m=b_/\R:=⟨_,_,_,xz,e,l,q⟩
def tk{R:Bool->Prop}{k:Bool}(q:R k):∃k',V.bl k=.bl k'/\R k':=⟨k,xz,q⟩
def rq{R:Bool->Prop}(s:PY x y=c_)(q:R (decide<|x=y)):jw x y H λz _=>∃k,z=.bl k/\R k:=⟨s,_,xz,q⟩
end
def rZ{t:TS}(h:fH X ss t)(q:t D σ H):∃t,fH X ss t/\t D σ H:=⟨t,h,q⟩
section
variable{K:u_}{σ:St}{H:Hp}{Q:VK}{p:e_}{xs:List V}{v:V}{i j:Nat}
def iI(h:σ[i]?=a_ (a_<|.ref p))(e:H p=a_ (.tup xs))(a:xs[j]?=a_ v)(q:Q v H):zU (D9 K) (rS i) (tC<|.int (j:Int)) σ H Q:=vT h (aF.of e) (bZ a) q
def cl1(e:H p=a_ (.lst xs))(a:xs[j]?=a_ v)(q:Q v H):tC (.int (j:Int)) σ H λy b=>BE K (.ref p) y b Q:=cL (σ:=σ) (ao.of e) (bZ a) q
end
end L2
namespace L3
def tests(a:List b4)(env:Env):Sem Bool:=
 forIn a c_ λc r=>if r=c_ then (do let ok <-isTrue c env (eval c env);pure (Lj ok)) else pure (Lj r)
section
variable{prog:k_}{w:j_}{A:h_}{R:Result->g_->Prop}{s:g_}
def ae'(J:Nat->g_->Prop)(l:∀e a,EE e a->notedBy (ap prog w) A env (λe a=>R (.error e) a) e a)(turn:∀n s,J n s->am (ap prog w) A (pyNext it) (λr b=>(r=b_->R (.ok .next) b)/\∀v,r=a_ v->am (ap prog w) A (Lh tg it v) (λ_ d=>am (ap prog w) A (assign tg env v) (λ_ f=>am (ap prog w) A (tests ifs env) (λok c=> (ok=c_->am (ap prog w) A (eval elt env) (λx g=>am (ap prog w) A (call (.builtin "list.append") [acc,x]) (λ_ i=>∃m,m<n/\J m i) EE g) EE c)/\ (ok=d_->∃m,m<n/\J m c)) EE f) EE d) EE b) EE s)(n:Nat)(h:J n s):codeAny (ap prog w) A (.compLoop (.ListComp elt [⟨tg,iter,ifs,0⟩] sc pos) 0 it acc env) R s:=by
 refine codeAny_loop xz J (λn s o=>?_) n h;refine wpAny_noted<|gn ?_ (λ_ _ q=>q) l;rw[compTurn_list];refine ah<|FX<|ah (gn (turn n s o) (λr b j=>?_) λ_ _ q=>q);rcases r with _|v;exact aI<|j.1 xz
 refine ah (gn (j.2 v xz) (λ_ d p=>?_) λ_ _ q=>q);refine ah (gn p (λ_ f t=>?_) λ_ _ q=>q);refine ah (gn t (λok c k=>?_) λ_ _ q=>q);cases ok with
 | false=>exact aI ⟨xz,k.2 xz⟩
 | true=>
  refine ah<|ah (gn (k.1 xz) (λx g u=>?_) λ_ _ q=>q);exact ah (gn u (λ_ i y=>aI<|aI ⟨xz,y⟩) λ_ _ q=>q)
def aeb(h:Q c_ s):am (ap prog w) A (tests [] env) Q E s:=aI h
def aea(h:am (ap prog w) A (isTrue c env<|eval c env) Q E s):am (ap prog w) A (tests [c] env) Q E s:=by
 unfold tests;rw[AS];exact ah<|ah (gn h (λok a q=>aI<|aI q) λ_ _ q=>q)
noncomputable def gY(cells:List (bx×e_)):List (bx×gr)->List (bx×e_)->List (bx×e_)
 | [],acc=>acc
 | (n,k)::r,acc=>if k==.free then gY cells r (match cells.lookup n with | some c=>(n,c)::acc | none=>acc) else gY cells r acc
theorem Vd:∀(names:List (bx×gr))(a:List (bx×e_)),(∀p∈names,p.2=.free->∃c,env.cells.lookup p.1=a_ c)->
  (forIn names a λ(x:bx×gr)(cs:List (bx×e_))=>match x with
   | (name,kind)=>if (kind==tH)=c_ then (do let c <-cellOf env name;pure (Lj ((name,c)::cs))) else (pure (Lj cs):Sem (ForInStep<|List<|bx×e_)))=pure (gY env.cells names a)
 | [],a,_=>rfl
 | (n,k)::r,a,h=>by
  have ih:=λa=>Vd r a λp f=>h p<|eI _ f;rw[AS]
  by_cases b:(k==tH)=c_
  .obtain⟨c,d⟩:=h (n,k) gg (by simpa using b);have e:cellOf env n=pure c:=by unfold cellOf;rw[d]
   dsimp only;rw[dL b,e];unfold gY;rw[dL b,d];exact ih _
  dsimp only;rw[dt b];unfold gY;rw[dt b];exact ih _
def LR(h:∀p∈sc.names,p.2=.free->∃c,env.cells.lookup p.1=a_ c):closureFor sc env=pure (gY env.cells sc.names []):=by
 unfold closureFor;simp only[(Vd sc.names [] h)];rfl
theorem GH:∀(names:List (bx×gr))(a:List (bx×e_)),(∀x c,a.lookup x=a_ c->cells.lookup x=a_ c)->∀x c,(gY cells names a).lookup x=a_ c->cells.lookup x=a_ c
 | [],a,h,x,c,e=>h x c e
 | (n,k)::r,a,h,x,c,e=>by
  unfold gY at e
  split at e
  .refine GH r _ (λy d q=>?_) x c e
   split at q
   .rename_i g f
    by_cases b:y=n
    .subst b;rw[AL]at q;cases q;exact f
    rw[mV,(eX.mpr b)]at q;exact h y d q
   exact h y d q
  exact GH r a h x c e
theorem Mj:∀(names:List (bx×gr))(a:List (bx×e_))(x:bx),(∃c,a.lookup x=a_ c)->∃c,(gY cells names a).lookup x=a_ c
 | [],a,x,h=>h
 | (n,k)::r,a,x,h=>by
  unfold gY
  split
  .refine Mj r _ x ?_
   split
   .rename_i d e
    by_cases b:x=n
    .subst b;exact⟨d,AL⟩
    rw[mV,(eX.mpr b)];exact h
   exact h
  exact Mj r a x h
theorem GJ:∀(names:List (bx×gr))(b:List (bx×e_))(x:bx),(x,tH)∈names->(∃c,cells.lookup x=a_ c)->∃c,(gY cells names b).lookup x=a_ c
 | [],b,x,h,_=>by cases h
 | (n,k)::r,b,x,h,a=>by
  unfold gY;obtain e|e:=bq.mp h
  .cases e;obtain⟨c,a⟩:=a;rw[dL<|beq_self_eq_true _,a];exact Mj r _ n ⟨c,AL⟩
  split
  .exact GJ r _ x e a
  exact GJ r b x e a
end
end L3
namespace L2
open L3
def oF(X:Cx)(sc:bK)(N:List bx)(s:g_)(H:Hp)(ex:List e_)(C:e_)(EE:f_->g_->Prop):Cx:=
 {X with N:=N,s₀:=s,H₀:=H,env:=compEnvC sc (gY X.env.cells sc.names []) C X.env,outer:=X.stack,ex:=ex,fn:=λ_=>d_,pn:=[],xe:=EE}
def B0(X:Cx)(sc:bK)(N:List bx)(s:g_)(H:Hp)(ex:List e_)(C:e_):Cx:=oF X sc N s H ex C λ_ _=>False
structure dJ(X:Cx)(sc:bK)(N:List bx)(idx:List Nat):Prop where
 kind:sc.kind=.function
 HB:∀y∈sc.names,y.2≠.cell
 locs:∀y∈sc.names,y.2=.local->sc.names.lookup y.1=a_ .local
 frees:∀y∈sc.names,y.2=.free->X.env.scope.names.lookup y.1=a_ .cell
 le:idx.length<=N.length
 cap:∀(k i:Nat)(x:bx),idx[k]?=a_ i->N[k]?=a_ x->X.N[i]?=a_ x/\sc.names.lookup x=a_ .free
noncomputable def my(idx:List Nat)(n:Nat)(σ:St):St:=idx.map (λi=>(σ[i]?).join)++eQ (n-idx.length) b_
def Na(h:idx.length<=n):(my idx n σ).length=n:=by
 unfold my;rw[ba,aG,KH];lia
def Nb{n k:Nat}(h:(my idx n σ)[k]?=a_ (a_ v)):∃i,idx[k]?=a_ i/\σ[i]?=a_ (a_ v):=by
 unfold my at h
 by_cases a:k<idx.length
 .rw[iN (by simpa using a),cH]at h;rcases e:idx[k]? with _|i
  ·rw[e]at h;cases h
  rw[e]at h;have h':(σ[i]?).join=a_ v:=cI h;refine au i xz ?_;cases b:σ[i]? with
  | none=>rw[b]at h';cases h'
  | some o=>rw[b]at h';rw[show o=a_ v from h']
 rw[lR (by simpa using a),Tc]at h
 split at h
 .cases h
 cases h
noncomputable def rl(env:Env)(p:bx×gr):bx×gr:=if (p.2==tH&&env.scope.kind==.function&&env.kindOf p.1==a_ .cell)=c_ then (p.1,gr.cell) else p
def Oh{k:gr}(h:(k==tH&&env.scope.kind==.function&&env.kindOf n==a_ .cell)=c_):rl env (n,k)=(n,.cell):=dL h
def Xp{k:gr}(h:¬(k==tH&&env.scope.kind==.function&&env.kindOf n==a_ .cell)=c_):rl env (n,k)=(n,k):=dt h
theorem Ur(b:env.scope.kind=.function):∀{names:List (bx×gr)}{x:bx},names.lookup x=a_ .free->env.kindOf x=a_ .cell->(names.map<|rl env).lookup x=a_ .cell
 | [],_,h,_=>by simp at h
 | (n,k)::r,x,h,hc=>by
  rw[eu]
  by_cases c:x=n
  .subst c;rw[AL]at h;cases h;rw[Oh (by rw[b,hc];decide),AL]
  have a:=eX.mpr c;rw[mV,a]at h;have e:=(@Ur env b r x) h hc
  by_cases q:(k==tH&&env.scope.kind==.function&&env.kindOf n==a_ .cell)=c_
  .rw[Oh q,mV,a];exact e
  rw[Xp q,mV,a];exact e
theorem Lx:∀{names:List (bx×gr)}{x:bx}{kd:gr},(names.map<|rl env).lookup x=a_ kd->(x,kd)∈names\/(x,tH)∈names
 | [],_,_,h=>by simp at h
 | (n,k)::r,x,kd,h=>by
  have ih:=@Lx env r x kd;rw[eu]at h
  by_cases q:(k==tH&&env.scope.kind==.function&&env.kindOf n==a_ .cell)=c_
  .rw[Oh q]at h
   by_cases a:x=n
   .subst a
    have b:k=.free:=by
     rw[kE,kE]at q;exact iE q.1.1
    subst b;exact .inr gg
   have c:=eX.mpr a;rw[mV,c]at h;exact(ih h).elim (λe=>.inl<|eI _ e) λe=>.inr<|eI _ e
  rw[Xp q]at h
  by_cases a:x=n
  .subst a;rw[AL]at h;cases h;exact .inl gg
  rw[mV,(eX.mpr a)]at h;exact(ih h).elim (λe=>.inl<|eI _ e) λe=>.inr<|eI _ e
def cP.adopt(I:cP X p_ σ H s)(hn:H a=b_)(g:X.s₀.zS<=a)(h:a≠X.env.locals)(i:∀x c,X.env.cells.lookup x=a_ c->c≠a)(j:∀p∈X.pn++p_,p.1≠a)(new:dj X.prog X.w (cB H a o) s.heap a o):cP X p_ σ (cB H a o) s:=by
 have ne:∀b u,H b=a_ u->b≠a:=λb u e=>a7 e hn;refine⟨I.ok,I.os,I.bare,⟨I.base.keep,I.base.slot,λb u q n k=>?_,I.base.there,λb xs q=>?_,λb u xs q=>?_,λb ps q=>?_⟩,I.loc,I.cell,?_,λx c e=>?_,λp d=>?_,λb u q=>?_,I.len⟩
 .rw[ag<|dg<|f7 (bH q) g];exact I.base.free b u q n k
 .have e:=I.base.pD b _ q;rw[ag<|ne b _ e];exact e
 .have e:=I.base.oC b u _ q;rw[ag<|ne b _ e];exact e
 .exact oE (I.base.oq b _ q) λm e=>⟨m,by rw[ag<|ne b _ e];exact e⟩
 .rw[ag<|b8 h];exact I.free
 .rw[ag<|i x c e];exact I.jg x c e
 .exact du (I.pin p d) λl r t=>eM l ((ag<|j p d)▸r) t
 by_cases f:b=a
 .subst f;rw[av]at q;cases q;exact new
 rw[ag f]at q;exact(I.aE b u q).ou (λ_ _ _ z=>z) (λc z=>by rw[ag<|ne c _ z];exact z) λc xs z=>by rw[ag<|ne c _ z];exact z
section
variable{X:Cx}{p_:List (e_×bE)}{σ:St}{H:Hp}{s:g_}{sc:bK}{N:List bx}{idx:List Nat}{fp:List e_}
noncomputable abbrev eZ:bE:={cls:=.type "list",data:=.seq ([]:List f_).toArray}
abbrev nh(s:g_):Shared:={s with heap:=s.heap.push eZ}
def afk(I:cP X p_ σ H s)(h:gw X p_ H b):X.base.get? b=none:=by
 rcases e:X.base.get? b with _|o;rfl
 obtain z|z:=h.2.2.2.1
 .exact dV z (I.ok.ug b o e)
 exact dV (f7 (bH e)<|cF I.ok.mH z) (jR _)
def agQ(I:cP X p_ σ H s)(S:dJ X sc N idx)(g:∀b∈fp,gw X p_ H b)(J:∀b∈fp,∃o,s.heap.get? b=a_ o){t:Nat}(K:h'.Ns (s.heap.push eZ).zH m)(j:∀b o,(s.heap.push eZ).get? b=a_ o->h'.get? b=a_ o):cP (oF X sc N (nh s) H (s.zS::fp) (s.heap.push eZ).zH EE) [] (my idx N.length σ) H {nh s with heap:=h',toks:=t}:=by
 have f:cP X _ _ H (nh s):=I.kept λb o e=>bh _ e;have B:(s.heap.push eZ).zH=s.zS+1:=qb _ _;have d:∀x c,(gY _ _ []).lookup x=a_ c->X.env.cells.lookup x=a_ c:=GH sc.names [] (λx c e=>by cases e)
 have L:∀x c,(gY X.env.cells sc.names []).lookup x=a_ c->c<s.zS:=λx c e=>by
  exact oE (I.cell x c<|d x c e) λv z=>z.lt
 have v9:∀b∈fp,b<s.zS:=λb a=>by
  exact oE (J b a) λo e=>bH e
 have M:∀x,((relabel sc X.env).names.lookup x=a_ .cell\/(relabel sc X.env).names.lookup x=a_ .free)->(x,tH)∈sc.names:=λx h=>by
  obtain h|h:=h
  .rcases Lx h with e | e
   .exact dV xz (S.HB _ e)
   exact e
  rcases Lx h with e | e
  .exact e
  exact e
 have has:∀x,(x,tH)∈sc.names->∃c,(gY X.env.cells sc.names []).lookup x=a_ c:=λx e=>
  GJ sc.names [] x e (I.ok.has x<|.inl<|S.frees _ e xz)
 refine⟨⟨I.ok.mod,S.kind,I.ok.glob,I.ok.blt,aD _,λx y c n w=>I.ok.inj x y c (d x c n)<|d y c w,λx h=>has x<|M x h,λx c h=>(by cases h),I.ok.hd,I.ok.frames,.inl xz,λb a=>?_,f.bs,cF I.ok.mH f.sz,λb o e a=>?_,λb a=>?_,f.stack,f.G6⟩,I.os ▸ xz,I.bare,Un.kept j,⟨m,K,λk x v n w T=>?_⟩,λx c e=>?_,f.aE.fresh<|aD _,λx c e=>I.jg x c<|d x c e,λp O=>dV (show p∈([]:List (e_×bE)) from O) (by simp),f.aE.kept j,Na S.le⟩
 .obtain e|a:=bq.mp a
  .subst e;exact⟨by rw[B];exact dg<|CH _,λx c e=>dg<|L x c e⟩
  refine⟨by rw[B];exact dg<|TH<|v9 b a,λx c e=>(g b a).2.2.2.2.1 x c<|d x c e⟩
 .obtain z|a:=bq.mp a
  .subst z;exact dV (bH<|I.bk _ _ e)<|jR _
  have C:X.base.get? b=a_ o:=e;rw[afk I<|g b a]at C;cases C
 .intro P;have D:=I.Ht b P;obtain z|a:=bq.mp a
  .subst z;obtain e|e:=bq.mp D
   .exact dV I.lt (by rw[<-e];exact jR _)
   exact I.Z1 (aD _) e
  obtain e|e:=bq.mp D
  .exact(g b a).2.1 e
  exact(g b a).2.2.1 e
 .refine aq (Nb w) λi h1 h2=>oA (S.cap k i x h1 n) λh3 h4=>?_;have E:=t_ h4;have A:=S.frees _ E rfl;refine aq I.loc λU V Q=>aq (Q i x v h3 h2<|.inr<|.inl A) λu r l=>au u r<|.inr ⟨.inl<|Ur I.ok.kind h4 A,?_⟩;obtain⟨q,_⟩|⟨_,c,R,z⟩:=l
  .have F:X.env.scope.names.lookup x=a_ .local:=q;rw[A]at F;cases F
  refine oE (has x E) λW G=>?_;have:=d x _ G;rw[R]at this;cases this;exact au c G (z.keeps λb o e=>j b o<|bh _ e)
 exact oE (I.cell x c<|d x c e) λv z=>⟨v,z.keeps λb o e=>j b o<|bh _ e⟩
def agP(I:cP X p_ σ H s)(d:∀b∈fp,gw X p_ H b)(a:cP (oF X sc N (nh s) H (s.zS::fp) (s.heap.push eZ).zH EE) pl σ' H' s'):cP X p_ σ H' s':=by
 have f:cP X _ _ H (nh s):=I.kept λb o e=>bh _ e;refine f.Pp (a.os.f4 xz) a.base a.aE a.bare λb c=>?_
 have q:gw X p_ H b:=by
  obtain e|c:=bq.mp c
  .subst e;exact I.gX (aD _)<|I.aE.fresh<|aD _
  exact d b c
 exact⟨q.2.2.2.1,q.2.1,q.2.2.2.2.1,q.2.2.2.2.2⟩
end
abbrev Es:=St->Hp->(Bool->Hp->Prop)->Prop
def pE:Es:=λ_ H Q=>Q c_ H
def Et(X:Cx)(a:List b4)(t:Es):Prop:=
 ∀(p_:List (e_×bE))(s:g_)(σ:St)(H:Hp)(Q:Bool->Hp->Prop),cP X p_ σ H s->t σ H Q->am (ap X.prog X.w) X.A (tests a X.env) (TP X p_ σ Q) X.xe s
def jD:Et X [] pE:=λ_ _ _ H _ I h=>aeb ⟨H,I,h⟩
def xp{t:TT}(h:PT X c t):Et X [c] t:=λp_ s σ H Q I q=>aea<|h _ s _ H Q I q
def D4(n:Nat)(σ a:St):Prop:=a.length=σ.length/\∀i,i<n->a[i]?=σ[i]?
def Px(J:It)(g:TG)(f:Es)(h:TE)(j:St)(k:Hp)(K:List V->Hp->Prop):Prop:=
 ∃W:Nat->Nat->List V->Hp->Prop,(∃m,W 0 m [] k)/\∀i m ys H,W i m ys H->
  (J.stop i H/\K ys H)\/
  (J.go i H/\ys.length<bp/\∃N:List V->Hp->Prop,(∀a H',N a H'->∃c,c<m/\W (i+1) c a H')/\
   ∀x H',J.vZ i H x H'->g x j H' λd l=>f d l λb e=>if b=c_ then h d e (λy n=>N (ys++[y]) n) else N ys e)
def OU(wi:TI)(g:TG)(b:Es)(c:TE)(idx:List Nat)(n:Nat):TE:=λσ H Q=>wi σ H λJ d=>
 Px J g b c (my idx n σ) d λys a=>ys.length<=bp/\∀p,a p=b_->Q (.ref p) (cB a p<|.lst ys)
def D5(n:Nat)(g:TG):Prop:=∀x σ H Q,g x σ H Q->g x σ H λa b=>Q a b/\D4 n σ a
def MU{n k:Nat}(h:n<=k):D4 n σ (σ.set k v):=⟨qa,λi hi=>Cw li⟩
def jr{n k:Nat}(h:n<=k):D5 n (kM k):=λx σ H Q q=>⟨q,MU h⟩
def yT{K:u_}{n k l:Nat}(h:n<=k)(h':n<=l):D5 n (Z8 K 2<|Pj (kM k)<|Pj (kM l) Z9):=λx σ H Q q=>by
 refine iG q λa xs f g j b=>b9 b λv r m b=>cZ b λc o p s q=>⟨a,⟨xs,f,g,j,v,r,m,c,o,p,s,q,?_⟩⟩;have d:D4 n _ (σ.set k<|a_ v):=MU h;have e:D4 n _ ((σ.set k<|a_ v).set l<|a_ c):=MU h';exact⟨e.1.f4 d.1,λi hi=>(e.2 i hi).f4<|d.2 i hi⟩
def V4(I:cP X p_ σ2 H s)(k:D4 idx.length (my idx n σ) σ2):cP X p_ (my idx n σ) H s:=
 I.weak k.1.f5 λi v e=>by
  refine aq (Nb e) λj h1 _=>?_;rw[k.2 i (bu.mp h1).1];exact e
def gC{K:List V->Hp->Prop}(P:Nat->List V->Hp->Prop)(hn:n<=bp)(f:P 0 [] H1)(h:∀i ys H,P i ys H->ys.length<=i)(j:∀i ys H,i<n->P i ys H->J.go i H)(cV:∀ys H,P n ys H->J.stop n H)(k:∀i ys H,i<n->P i ys H->∀x H',J.vZ i H x H'->g x σ0 H' λc l=>tc c l λb d=>if b=c_ then te c d (λy o=>P (i+1) (ys++[y]) o) else P (i+1) ys d)(hd:∀ys H,P n ys H->K ys H):Px J g tc te σ0 H1 K:=by
 refine⟨λi m ys H=>m=n-i/\i<=n/\P i ys H,⟨n,by simp,aY _,f⟩,?_⟩;rintro i m ys H ⟨rfl,hi,p⟩
 by_cases a:i<n
 .refine .inr (eM (j i _ H a p) (by have:=h i _ H p;lia) ⟨P<|i+1,λr H' q=>⟨n-(i+1),om,xz,a,q⟩,k i _ H a p⟩)
 have e:i=n:=li;subst e;exact .inl ⟨cV _ H p,hd _ H p⟩
section
variable{X:Cx}{tg elt iter:b4}{ifs:List b4}{wi:TI}{g:TG}{tc:Es}{te:TE}{sc:bK}{N:List bx}{idx:List Nat}{pos:Pos}
def WR{K:List V->Hp->Prop}{RR:e_->f_->Result->g_->Prop}(hc:X.calm=c_)(S:dJ X sc N idx)(gk:D5 idx.length g){fp:List e_}{tn:Nat->i_->Prop}{J:It}(hg:PG (oF X sc N (nh s) H (s.zS::fp) (s.heap.push eZ).zH EE) tg g)(ht:Et (oF X sc N (nh s) H (s.zS::fp) (s.heap.push eZ).zH EE) ifs tc)(he:PE (oF X sc N (nh s) H (s.zS::fp) (s.heap.push eZ).zH EE) elt te)(I:cP X p_ σ H s)(T:Turn X.prog X.w X.K tg J fp it tn)(st:tn 0 s.heap)(U:∀b∈fp,gw X p_ H b)(hW:Px J g tc te (my idx N.length σ) H K)(Su:∀e d,EE e d->notedBy (ap X.prog X.w) X.A (compEnvC sc (gY X.env.cells sc.names []) (s.heap.push eZ).zH X.env) (λe d=>RR (s.heap.push eZ).zH (.ref s.zS) (.error e) d) e d)(hR:∀(d:g_)(ys:List V)(H':Hp)(m:bx->Option f_)(c:List f_)(n:Nat),K ys H'->cP X p_ σ H' d->d.heap.Ns (s.heap.push eZ).zH m->H' (s.heap.push eZ).zH=b_->H' s.zS=b_->d4 ys c->d.heap.get? s.zS=a_ {cls:=.type "list",data:=.seq c.toArray n}->RR (s.heap.push eZ).zH (.ref s.zS) (.ok .next) d):am (ap X.prog X.w) X.A (newList []) (λacc s₃=>am (ap X.prog X.w) X.A (newFunctionEnv sc X.env.globals (gY X.env.cells sc.names []) [] X.env.qual b_ .none (a_ X.env)) (λaaP s₄=>codeAny (ap X.prog X.w) X.A (.compStart (.ListComp elt [⟨tg,iter,ifs,0⟩] sc pos) 0 (.ref it) acc {aaP with scope:=relabel sc X.env}) (RR aaP.locals acc) s₄) E s₃) E s:=by
 refine aq hW λW aa turn=>oE aa λm0 w0=>p0<|wpAny_newFunctionEnv S.HB (by intro y hy;cases hy) (λh' mJ J7=>?_) S.kind;have hC:(s.heap.push eZ).zH=s.zS+1:=qb _ _;have G:∀b o,(s.heap.push _).get? b=a_ o->h'.get? b=a_ o:=λb o e=>(J7.2 b<|dg<|bH e).f4<|bh _ e;have ho:∀b∈fp,∃o,s.heap.get? b=a_ o:=λb a=>let ⟨o,e,_⟩:=T.obj _ _ st b a;⟨o,e⟩
 have l:=agQ (EE:=EE) (t:=s.toks+([]:List (bx×f_)).length) I S U ho mJ G
 have fn:∀b∈fp,b≠s.zS:=λb a=>by
  exact oE (ho b a) λo e=>dg<|bH e
 have Y:∀{H':Hp}{pl:List (e_×bE)},(∀b∈fp,H' b=b_)->(∀p∈pl,p.1=s.zS)->∀b∈fp,gw (oF X sc N (nh s) H (s.zS::fp) (s.heap.push eZ).zH EE) pl H' b:=λ{H' pl}hn f b a=>by
  refine⟨(hn b a),((l.ok.sg b<|eI _ a).1),(l.ok.rW b<|eI _ a),(.inl<|eI _ a),((l.ok.sg b<|eI _ a).2),(λp Z=>?_)⟩;have pU:p∈pl:=by simpa[oF]using Z
  rw[f p pU];exact b8<|fn b a
 have loop:codeAny (ap X.prog X.w) X.A (.compLoop (.ListComp elt [⟨tg,iter,ifs,0⟩] sc pos) 0 (.ref it) (.ref s.zS)<|compEnvC sc (gY X.env.cells sc.names []) (s.heap.push eZ).zH X.env)
   (RR (s.heap.push eZ).zH<|.ref s.zS) {nh s with heap:=h',toks:=s.toks+([]:List (bx×f_)).length}:=by
  refine ae' (EE:=EE) (λn d=>∃i ys H' c k,cP (oF X sc N (nh s) H (s.zS::fp) (s.heap.push eZ).zH EE) [] (my idx N.length σ) H' d/\tn i d.heap/\(∀b∈fp,H' b=b_)/\H' s.zS=b_/\
   d4 ys c/\d.heap.get? s.zS=a_ {cls:=.type "list",data:=.seq c.toArray k}/\W i n ys H') Su ?_ m0 ?_
  .rintro n s3 ⟨i,ys,B,c,h,I3,ji,Fm,L,M,ac3,w3⟩
   have O:∀{H':Hp},H' s.zS=b_->gw (oF X sc N (nh s) H (s.zS::fp) (s.heap.push eZ).zH EE) [] H' s.zS:=λ{H'}hn=>
    ⟨hn,(l.ok.sg _ gg).1,l.ok.rW _ gg,.inl gg,(l.ok.sg _ gg).2,λp Z=>dV (show p∈([]:List (e_×bE)) from Z)<|by simp⟩
   have P3:cP (oF X sc N (nh s) H (s.zS::fp) (s.heap.push eZ).zH EE) [(s.zS,{cls:=.type "list",data:=.seq c.toArray h})] (my idx N.length σ) B s3:=I3.xr λp f=>by
    have e:p=(s.zS,{cls:=.type "list",data:=.seq c.toArray h}):=by simpa using f
    subst e;exact⟨ac3,L,((O L).2.1),((O L).2.2.1),(λv z=>by cases z)⟩
   have one:∀p∈[((s.zS,{cls:=.type "list",data:=.seq c.toArray h}):e_×bE)],p.1=s.zS:=λp f=>by
    have e:p=(s.zS,{cls:=.type "list",data:=.seq c.toArray h}):=by simpa using f
    rw[e]
   obtain⟨stop,kq⟩|⟨go,hz,NN,hNN,step⟩:=turn i n ys B w3
   .refine aR (T.done (oF X sc N (nh s) H (s.zS::fp) (s.heap.push eZ).zH EE) xz xz xz hc i _ s3 _ B _ P3 (Y Fm one) ji stop) λr s4⟨P,Q⟩=>⟨λ_=>?_,λv e=>(by rw[P]at e;cases e)⟩;exact aq Q.loc λC yq _=>hR s4 ys B C c h kq (agP I U Q) yq Q.free L M (Q.pin _<|f6 _ gg).1
   refine aR (T.item (oF X sc N (nh s) H (s.zS::fp) (s.heap.push eZ).zH EE) xz xz xz hc i _ s3 _ B _ P3 (Y Fm one) ji go) λr s4⟨u,P,h4⟩=>⟨λe=>(by rw[P]at e;cases e),λv e=>?_⟩;rw[P]at e;cases e;refine aR h4 λ_ s5⟨x,H5,I5,r5,y5,D,SD⟩=>?_;have SQ:=I5.pinned (Y SD one)<|T.obj _ _ D;refine aR (hg _ s5 _ H5 x u _ SQ r5<|gk _ _ _ _<|step x H5 y5) λ_ s6 zq=>cZ zq λσ6 H6 I6 q6 k6=>thT (ht _ s6 σ6 H6 _ I6 q6) λok s7 H7 F R=>⟨λe=>?_,λe=>?_⟩
   .subst e;rw[dL rfl]at R;refine QJ (he _ s7 σ6 H7 _ F R) λv s8 y H8 I8 r8 n8=>aq (hNN _ _ n8) λC hm w8=>?_;have j:=I8.pin (s.zS,{cls:=.type "list",data:=.seq c.toArray h})<|f6 _<|jo _ gg;have hlen:=M.length;refine wpAny_list_append_plain (items:=c.toArray) ⟨h,j.1⟩ (λh9 pl9 sb9=>?_) (by rw[de];lia);have SO:=I8.xr λp f=>I8.pin p (f6 _<|f6 _ f)
    have I9:=SO.turned (h':=h9) (t':=s8.toks) (it:=s.zS) (λb o a e=>(sb9.2 b a).f4 e) j.2.1 (O j.2.1).2.1 (.inl gg) (O j.2.1).2.2.2.2.1 (λp f=>by
     have wC:p∈Dx fp s5.heap:=by simpa[oF]using f
     exact fn p.1 (Vx wC).1)
    refine oE pl9 λk9 e9=>⟨C,⟨hm,i+1,ys++[y],H8,c++[v],k9,V4 (I9.xr λp f=>dV f<|by simp) k6,T.keep _ _ _ D λb a o e=>?_,λb a=>?_,j.2.1,M.append<|.cons r8 .nil,?_,w8⟩⟩
    .have q:=(SO.pin (b,o)<|f6 _<|A6 a e).1;exact(sb9.2 b<|fn b a).f4 q
    .exact aq (T.obj _ _ D b a) λo e _=>(SO.pin (b,o)<|f6 _<|A6 a e).2.1
    rw[e9];simp
   subst e;rw[dt dW]at R;refine aq (hNN _ _ R) λC hm w7=>?_;have j:=F.pin (s.zS,{cls:=.type "list",data:=.seq c.toArray h})<|f6 _<|jo _ gg;exact⟨C,⟨hm,i+1,ys,H7,c,h,V4 (F.xr λp f=>dV f<|by simp) k6,T.keep _ _ _ D λb a o e=>(F.pin (b,o)<|f6 _<|f6 _<|A6 a e).1,λb a=>aq (T.obj _ _ D b a) λo e _=>(F.pin (b,o)<|f6 _<|f6 _<|A6 a e).2.1,j.2.1,M,j.1,w7⟩⟩
  exact⟨0,([]),H,([]),0,l,(T.keep _ _ _ st λb a o e=>G b o<|bh _ e),(λb a=>(U b a).1),I.aE.fresh<|aD _,.nil,(G _ _<|dU _ xz),w0⟩
 exact codeAny_compStart_list loop<|T.self _ 0 _ _ _ (T.keep _ _ _ st λb a o e=>G b o<|bh _ e) loop
def jc(l:X.calm=c_)(S:dJ X sc N idx)(q:D5 idx.length g)(hi:PI X tg iter wi)
  (r:∀s H ex C,PG (B0 X sc N s H ex C) tg g) (t:∀s H ex C,Et (B0 X sc N s H ex C) ifs tc) (u:∀s H ex C,PE (B0 X sc N s H ex C) elt te)
  (w:∀x,TC iter X.env x=pure x:=by intro _;rfl):PE X (.ListComp elt [⟨tg,iter,ifs,0⟩] sc pos) (OU wi g tc te idx N.length):=by
 intro p_ s σ H Q I h;rw[eval_ListComp];refine abj xz w (LR λp y e=>I.ok.has _<|.inl<|S.frees p y e) S.kind S.locs (aR (hi _ s _ H _ I h) λv s1 h1=>aR h1 λP s2 h2=>LJ h2 λit fp tn J R e a T A B D=>?_);subst e;refine WR (RR:=λC U=>compPost _ _ _ _ _ _ C) l S q (r _ _ _ _) (t _ _ _ _) (u _ _ _ _) a T A B D (λ_ _ z=>z.elim) λV ys H' m E n i F G K j L ea=>?_;have c:(s2.heap.push eZ).zH=s2.zS+1:=qb _ _;have d:=a.gX (aD _)<|a.aE.fresh<|aD _;have f:gw X _ _ (s2.heap.push eZ).zH:=a.gX (c▸jT _)<|a.aE.fresh<|c▸jT _;have k:=a.sz;refine au m G λh' M=>(di (.ref _) _ ((cP.adopt (o:=.lst _) F j k d.2.1 d.2.2.2.2.1 d.2.2.2.2.2 ⟨i.1,E,n,L,ea⟩).turned (λb o O e=>(M.2 b O).f4 e) ?_ f.2.1 (.inr<|by rw[c];exact tj k) f.2.2.2.2.1 f.2.2.2.2.2) xz<|i.2 _ j);rw[ag<|c▸K7 _];exact K
def A4(u:X.N.Nodup)(w:X.N[i]?=a_ x)(k:X.env.scope.names.lookup x=a_ .local)(y:X.calm=c_)(S:dJ X sc N idx)(A:D5 idx.length g)(hi:PI X tg iter wi)
  (B:∀s H ex C,PG (B0 X sc N s H ex C) tg g) (E:∀s H ex C,Et (B0 X sc N s H ex C) ifs tc) (F:∀s H ex C,PE (B0 X sc N s H ex C) elt te)
  (G:autoParam (Dc (.ListComp elt [⟨tg,iter,ifs,0⟩] sc pos) (a_<|.Name x pos') anD.line X.env=pure true) a3)
  (K:∀x,TC iter X.env x=pure x:=by intro _;rfl):PS X (.Assign [.Name x pos'] (.ListComp elt [⟨tg,iter,ifs,0⟩] sc pos) anD) (PQ (OU wi g tc te idx N.length)<|kM i):=by
 intro p_ s σ H D I h;rw[exec_Assign_Name_used _ _ _ _ G];refine ah<|FX<|ah ?_;have L:=LR λp M e=>I.ok.has _<|.inl<|S.frees p M e;refine ah (gn (abj xz K L S.kind S.locs<|aR (hi _ s _ H _ I h) λv s1 h1=>aR h1 λJX s2 h2=>?_) (λ_ O q=>aI<|aI q) λ_ _ q=>q);obtain⟨it,fp,tn,J,H2,e,c,T,P,Q,R⟩:=h2;subst e;refine WR (RR:=λC acc=>compPost _ _ _ _ _ _ C) y S A (B _ _ _ _) (E _ _ _ _) (F _ _ _ _) c T P Q R (λ_ _ z=>z.elim) λO ys H' m U n l V W Y r Z ea=>?_;have f:(s2.heap.push eZ).zH=s2.zS+1:=qb _ _;have j:=c.gX (aD _)<|c.aE.fresh<|aD _;have d:gw X _ _ (s2.heap.push eZ).zH:=c.gX (f▸jT _)<|c.aE.fresh<|f▸jT _;have t:=c.sz;have I1:=cP.adopt (o:=.lst _) V r t j.2.1 j.2.2.2.2.1 j.2.2.2.2.2 ⟨l.1,U,n,Z,ea⟩
 have aox:cB H' s2.zS (.lst ys) (s2.heap.push eZ).zH=none:=by
  rw[ag<|f▸K7 _];exact Y
 refine wpAny_assign_Name<|Vm (v:=.ref _) I1 u w (.inl k) xz (λs3 I3⟨a,sb,ha⟩=>?_)<|.inr k
 have aC:(s2.heap.push eZ).zH≠a:=by
  obtain e|e:=ha
  .rw[e];exact d.2.1
  exact b8 (d.2.2.2.2.1 x a e)
 refine au m (W.sameBut sb aC) λh' sb'=>(fh _ _ (I3.turned (λb o hb e=>(sb'.2 b hb).f4 e) aox d.2.1 (.inr<|by rw[f];exact tj t) d.2.2.2.2.1 d.2.2.2.2.2)<|l.2 _ r)
end
end L2
namespace L2
open PySem.W
section
variable{cmp:Nat->Nat->(Bool->g_->Prop)->g_->Prop}{r:Nat->Int}{n:Nat}{p:Array Nat}{s:g_}
variable(hr:∀i j,i<n->j<n->r i=r j->i=j)(hc:∀i j(C:Bool->g_->Prop),i<n->j<n->i≠j->C (decide (r i<r j)) s->cmp i j C s)
include hr hc
end
end L2
namespace L2
open PySem.W
def ahZ{h:i_}{a:e_}{m b:bx->Option f_}(x:h.Ns a m)(y:h.Ns a b):m=b:=by
 obtain⟨o,es,g,e,d,_,f⟩:=x;obtain⟨o',i,j,c,d',_,f'⟩:=y;rw[e]at c;cases c;rw[d]at d';cases d'
 funext n
 exact(f n).f5.f4 (f' n)
section
variable{X:Cx}{p_:List (e_×bE)}{σ:St}{H:Hp}{s:g_}
def cP.regrown{h':i_}{m:bx->Option f_}{t':Nat}{d':Drawn}(I:cP X p_ σ H s)(h1:s.heap.Ns X.env.locals m)(h2:h'.Ns X.env.locals m)(k:∀b o,b≠X.env.locals->s.heap.get? b=a_ o->h'.get? b=a_ o):cP X p_ σ H {s with heap:=h',drawn:=d',toks:=t'}:=by
 refine I.step (g':=s.gens) (d':=d') (ch:=[]) (λ_ z=>nomatch z) (λb o a _ _ e _=>k b o a e) (λb o a _ _ e _=>⟨o.slots,k b o a e⟩) (λ_ _ _ _ n=>n) (λb o _ e=>?_) (λ_ _ e=>e) (λ_ _ _ e=>e)
  (λb ps e=>⟨#[],by rw[e];simp⟩) (λc hm=>by rw[ahZ hm h1];exact h2) (λb u e=>?_) I.bare
 .by_cases z:b=X.env.locals
  .obtain⟨o',_,_,q,_⟩:=h2;exact⟨o',by rw[z];exact q⟩
  exact⟨o,k b o z e⟩
 refine(I.aE b u e).ou (λd v hd q=>k d v (λz=>?_) q) (λ_ q=>q) λ_ _ q=>q;have fr:=I.free;rw[<-z]at fr;obtain y|y:=hd
 .rw[y,e]at fr;cases fr
 rw[y]at fr;cases fr
def adv{P:k_}{w:j_}{A:h_}{E:f_->g_->Prop}{a:e_}{vs:List f_}{n:Nat}{R:PySem.Fin->g_->Prop}(c:s.heap.get? a=a_ (ci "list" vs.toArray n))(h1:vs.length<2)(k:∀h' e,(∀b o,b≠a->s.heap.get? b=a_ o->h'.get? b=a_ o)->h'.get? a=a_ (ci "list" vs.toArray e)->R (.done<|.ret .none) {s with heap:=h'}):am (ap P w) A (Builtin.«list.sort» ⟨[.ref a],[]⟩) R E s:=by
 have hn:vs.toArray.size<2:=by rw[de];exact h1
 have d:∀m:Nat,m<2->m<=bp:=λm hm=>by rw[eA];exact w5
 obtain⟨g,h⟩:∃g,(s.heap.update a<|nX λ_=>(#[]:Array f_)).get? a=a_ (ci "list" #[] g):=⟨_,FL c λ_=>#[]⟩;rw[list_sort_plain];refine ah<|listItems_at c xz<|ah<|Lu c xz (ah<|LM h xz<|ah<|Ue (ah<|Ls (kG ?_)<|aY _)<|d _<|by simpa using h1) (d _<|by simpa using h1)<|aY _;have f:=bh (ci "list" #[] 0)<|bh (ci "tuple" vs.toArray 0) h;dsimp only;rw[dL hn,dL hn];refine ah<|aI ?_;rw[StateT.run_pure];refine ah<|aI ?_;dsimp only
 have j:(c0<|LX general' (vs.toArray.zip vs.toArray) #[] 7 b_).map (·.2)=vs.toArray:=by
  apply Lf.mp;rw[TZ,acn];rw[TU<|aD _]
 rw[j];refine ah<|LM f xz<|ah<|Lu f xz ?_ (aY _)<|cF (d _<|by simpa using h1)<|jT _;rw[dt (by simp)];refine aI<|k _ _ (λb o i e=>?_) (FL f λ_=>vs.toArray);rw[Fz _ _ _ _ i];exact bh _<|bh _ (by rw[Fz _ _ _ _ i];exact e)
end
end L2
namespace L2
open PySem.W L3
abbrev OC(X:Cx)(sc:bK)(qual:bx)(f:e_)(cd:f_)(L:e_):Env:=envX qual sc L f cd<|gY X.env.cells sc.names []
def Jt(X:Cx)(A:h_)(sc:bK)(N:List bx)(qual:bx)(f:e_)(cd:f_)(s:g_)(H:Hp):Cx:=
 {X with A:=A.deeper<|OC X sc qual f cd s.zS,N:=N,s₀:=s,H₀:=H,env:=OC X sc qual f cd s.zS,outer:=X.stack,stack:=OC X sc qual f cd s.zS::X.stack,ex:=[],fn:=λ_=>d_,calm:=c_,pn:=[],xe:=λ_ _=>False}
section
variable{X:Cx}{p_:List (e_×bE)}{σ:St}{H:Hp}{s:g_}{sc:bK}{N:List bx}{idx:List Nat}{A:h_}{f:e_}{cd:f_}{qual px:bx}{k:Nat}{v:V}{u:f_}
def aic(I:cP X p_ σ H s)(S:dJ X sc N idx)(K:A.frames=a_ X.stack)(L:A.handled=b_)(C:N[k]?=a_ px)(M:sc.names.lookup px=a_ .local)(hi:idx.length<=k)(r:d0 v u){t:Nat}(O:h'.Ns s.zS m)(hm:m px=a_ u)(kp:∀b o,s.heap.get? b=a_ o->h'.get? b=a_ o):cP (Jt X A sc N qual f cd s H) [] ((my idx N.length σ).set k<|a_ v) H {s with heap:=h',toks:=t}:=by
 have d:∀x c,(gY _ _ []).lookup x=a_ c->X.env.cells.lookup x=a_ c:=GH sc.names [] (λx c e=>by cases e);have has:=λx e=>GJ _ [] x e (I.ok.has x<|.inl<|S.frees _ e xz);have g:∀b:e_,b∉(Jt X A sc N qual f cd s H).ex:=λb z=>dV (show b∈([]:List _) from z) (by simp);refine⟨⟨I.ok.mod,S.kind,xz,xz,aD _,λx y c n a=>I.ok.inj x y c (d x c n)<|d y c a,λx h=>?_,λx c h=>(by cases h),λ_=>L,abM K,.inr ⟨xz,xz⟩,λb z=>dV z<|g b,I.bs,cF I.ok.mH I.sz,λb _ _=>g b,λb z=>dV z<|g b,I.stack,I.G6⟩,xz,I.bare,Un.kept kp,⟨m,O,λj x w n a Y=>?_⟩,λx c e=>?_,I.aE.fresh<|aD _,λx c e=>I.jg x c<|d x c e,λp P=>dV (show p∈([]:List (e_×bE)) from P) (by simp),I.aE.kept kp,by rw[qa];exact Na S.le⟩
 .have h2:=h;obtain z|z:=h2
  .exact dV xz (S.HB _<|t_ z)
  exact has x (t_ z)
 .have B:N[j]?=a_ x:=n
  by_cases D:j=k
  .subst D;rw[C]at B;cases B;have Q:j<(my idx N.length σ).length:=by rw[Na S.le];exact(bu.mp C).1
   rw[lU Q]at a;cases a;exact⟨u,r,.inl ⟨M,hm⟩⟩
  rw[Cw<|b8 D]at a;obtain⟨i,h1,h2⟩:=Nb a;obtain⟨h3,h4⟩:=S.cap j i x h1 B;have E:=t_ h4;have F:=S.frees _ E rfl;obtain⟨Z,yq,R⟩:=I.loc;obtain⟨T,U,l⟩:=R i x w h3 h2<|.inr<|.inl F;refine⟨T,U,.inr ⟨.inr h4,?_⟩⟩;obtain⟨q,_⟩|⟨_,c,V,z⟩:=l
  .have G:X.env.scope.names.lookup x=a_ .local:=q;rw[F]at G;cases G
  obtain⟨c',J⟩:=has x E;have:=d x _ J;rw[V]at this;cases this;exact⟨c,J,z.keeps kp⟩
 obtain⟨W,z⟩:=I.cell x c<|d x c e;exact⟨W,z.keeps kp⟩
def agm{body:b4}(I:cP X p_ σ H s)(S:dJ X sc N idx)(g:A.frames=a_ X.stack)(h:A.handled=b_)(i:A.depth<FU)(j:N[k]?=a_ px)(c:sc.names.lookup px=a_ .local)(hi:idx.length<=k)(r:d0 v u)(l:s.heap.get? f=a_ (kla_obj "<lambda>" qual params body sc (gY X.env.cells sc.names []) pm c' qS))(m:s.heap.CodeRec (.ref c') qual)(n:xk (kla_fn "<lambda>" qual params body sc (gY X.env.cells sc.names []) pm (.ref c') qS) ⟨[u],[]⟩=pure [(px,u)])(p:sc.isCoroutine=d_)(x:sc.isGenerator=d_)(B:PE (Jt X A sc N qual f (.ref c') s H) body te)(q:te ((my idx N.length σ).set k<|a_ v) H Q):am (ap X.prog X.w) A (call (.ref f) [u]) (EP X p_ σ Q) E s:=by
 refine A8<|kla_callFunE i l xz p x xz m ?_;rw[n];refine aI<|wpAny_newFunctionEnv S.HB (λy C=>?_) (λh1 D d=>⟨I.nolimit.fresh _ d,?_⟩) S.kind
 .have e:y=(px,u):=by simpa using C
  rw[e];exact c
 have kp:∀b o,s.heap.get? b=a_ o->h1.get? b=a_ o:=λb o e=>d.extBut b o (dg<|bH e)<|bh _ e;refine kla_codeExpr (gn (B [] _ _ H _ (aic (f:=f) (cd:=.ref c') (qual:=qual) (t:=s.toks+[(px,u)].length) I S g h j c hi r D (by simp ) kp) q) (λw s2 hw=>?_) λ_ _ z=>i9 z);obtain⟨F,G,a,r2,J⟩:=hw;exact⟨F,G,I.Pp (ch:=[]) (a.os.f4 xz) a.base a.aE a.bare λb z=>dV z (by simp),r2,J⟩
end
def B1(c:e_)(qual:bx):HO:=.ext λh=>h.CodeRec (.ref c) qual
def akd{P:k_}{w:j_}(x:h.CodeRec (.ref c) qual):dj P w H h c (B1 c qual):=by
 obtain⟨j,o,vs,t,e,q,r⟩:=id x;cases e;refine⟨x,⟨o,q⟩,λh1 h2 y k=>?_⟩;obtain⟨c1,a,b,d,f,g,i⟩:=y;cases f;exact⟨c,a,b,d,xz,k _ g,i⟩
def dm(P:e_)(a:Pos)(qual:bx)(H:Hp):Prop:=∃ps,H P=a_ (.fX ps)/\(ps=#[]\/∃c,ps=#[bv a.line,bv a.col,.ref c]/\H c=a_ (B1 c qual))
def xO(P:e_)(H H':Hp):Prop:=∀b o,b≠P->H b=a_ o->H' b=a_ o
def xO.refl{P:e_}(H:Hp):xO P H H:=λ_ _ _ e=>e
def vU(mg:bx->Option f_)(fi:i_):Prop:=∃a b,mg "__builtins__"=a_ (.ref a)/\a≠tP/\a≠fw/\fi.get? a=a_ b/\b.cls=.type "module"/\b.dict=a_ tP/\b.data=.plain
section
variable{X:Cx}{p_:List (e_×bE)}{σ:St}{H:Hp}{s:g_}
def cP.grow{P:e_}(I:cP X p_ σ H s)(a:H P=a_ (.fX ps))(k:∀b o,b≠P->s.heap.get? b=a_ o->h'.get? b=a_ o)(e:h'.get? P=a_ (tabObj<|ps++more)):cP X p_ σ (cB H P<|.fX<|ps++more) {s with heap:=h',toks:=t'}:=by
 have ne:∀b,H b=b_->b≠P:=λb n z=>by rw[z,a]at n;cases n
 refine I.step (g':=s.gens) (d':=s.drawn) (ch:=[]) (λ_ z=>nomatch z) (λb o _ _ _ q n=>k b o (ne b n) q) (λb o _ _ _ q n=>⟨o.slots,k b o (ne b n) q⟩) (λb o _ q n=>by rw[ag<|ne b n];exact n) (λb o _ q=>?_) (λb xs q=>?_) (λb o u q=>?_) (λb qs q=>?_)
  (λm hm=>?_) (λb u q=>?_) I.bare
 .by_cases z:b=P
  .exact⟨_,by rw[z];exact e⟩
  exact⟨o,k b o z q⟩
 .rw[ag<|gv q a (by intro z;cases z)];exact q
 .rw[ag<|gv q a (by intro z;cases z)];exact q
 .by_cases z:b=P
  .subst z;rw[a]at q;cases q;exact⟨more,av⟩
  exact⟨#[],by rw[ag z,q];simp⟩
 .obtain⟨o,es,g,q,r⟩:=hm;exact⟨o,es,g,k _ o (ne _ I.free) q,r⟩
 by_cases z:b=P
 .subst z;rw[av]at q;cases q;exact e
 rw[ag z]at q;refine(I.aE b u q).ou (λd v hd y=>k d v (λw=>?_) y) (λc y=>?_) λc xs y=>?_
 .obtain f|f:=hd
  .exact z (f.f5.f4 w)
  rw[w,a]at f;cases f
 .rw[ag<|gv y a (by intro z;cases z)];exact y
 rw[ag<|gv y a (by intro z;cases z)];exact y
def cP.Iu(I:cP X p_ σ H s)(g:gw X p_ H f)(e:s.heap.get? f=a_ o)(n:∀v,o.data≠.cell v):cP X (p_++[(f,o)]) σ H s:=
 I.xr λp a=>by
  obtain z|z:=cp.mp a
  .exact I.pin p (f6 _ z)
  have b:p=(f,o):=by simpa using z
  rw[b];exact⟨e,g.1,g.2.1,g.2.2.1,n⟩
def agl{body:b4}{c P:e_}(I:cP X p_ σ H s)(S:dJ X sc N idx)(t:X.env.code=.ref c)(C:CodeHd X.base c P)(B:vU X.mg X.base)(Q:defaultsOf params X.env=([],[]))(h:dm P pos (X.env.qual++"<lambda>") H)(k:∀f a H' pm g u,cP X (p_++[(f,kla_obj "<lambda>" (X.env.qual++"<lambda>") params body sc (gY X.env.cells sc.names []) pm a g)]) σ H' u->xO P H H'->dm P pos (X.env.qual++"<lambda>") H'->H' a=a_ (B1 a<|X.env.qual++"<lambda>")->R (.ref f) u):am (ap X.prog X.w) X.A (eval (.Lambda params body sc pos) X.env) R E s:=by
 have x:=LR λp T e=>I.ok.has _<|.inl<|S.frees p T e;obtain⟨ps,i,U⟩:=h;have l:=I.aE P _ i;obtain⟨V,W,b1,b2,Y,y,Z,b6,b7⟩:=B
 have D:∀b o,X.base.get? b=a_ o->b≠P:=λb o e z=>by
  have:=(I.bs b o e).2;rw[z,i]at this;cases this
 have F:=I.mod.glob.keeps I.bk
 have gP:fw≠P:=by
  obtain⟨o,es,ep,e,_⟩:=I.mod.glob;exact D _ _ e
 have G:s.heap.BuiltinsAt _ P:=⟨V,W,b1,b2,Y,D _ _ y,I.bk _ _ y,Z,b6,b7⟩;have J:=C.keeps I.bk;refine kla_eval Q ?_;obtain rfl|⟨j,rfl,K⟩:=U
 .refine kla_makeFunction x I.ok.glob F t J l lZ xz gP G λa g h' tk hx d L an2 htb=>?_
  have m:cP X p_ σ (cB H P<|.fX<|#[] ++ #[bv pos.line,bv pos.col,.ref a]) {s with heap:=h'.push<|kla_obj "<lambda>" (X.env.qual++"<lambda>") params body sc (gY X.env.cells sc.names []) ((X.mg "__name__").getD .none) a g,toks:=tk}:=
   I.grow i (λb o n e=>bh _<|hx b o n e) (bh _ htb)
  have M:=bH l;have q:=I.aE.fresh d;have O:=tJ<|f7 M d;have nc1:cB H P (.fX<|#[] ++ #[bv pos.line,bv pos.col,.ref a]) a=none:=by rw[ag O];exact q
  have fc:=I.gX d q;have r:=cF d<|dH L;have fP:=tJ<|f7 M r
  have nf:cB (cB H P<|.fX<|#[] ++ #[bv pos.line,bv pos.col,.ref a]) a (B1 a<|X.env.qual++"<lambda>") h'.zH=none:=by
   rw[ag<|tJ L,ag fP];exact I.aE.fresh r
  have I3:=(cP.adopt m nc1 (cF I.sz d) fc.2.1 fc.2.2.2.2.1 fc.2.2.2.2.2<|akd<|an2.push _).Iu (I.gX r nf) (dU _ xz) (λv z=>by cases z);refine k _ _ _ _ _ _ I3 (λb o n e=>?_) ⟨_,by rw[ag<|b8 O,av],.inr ⟨a,by simp,av⟩⟩ av;rw[ag<|a7 e q,ag n];exact e
 have hf:codeAmong pos (#[bv pos.line,bv pos.col,bV j]:Array _).toList=a_ (.ref j):=by simp[codeAmong,bv]
 refine kla_makeFunctionHit x I.ok.glob F t J l lZ hf G λg h' tk kk d=>?_;have m:cP X _ _ H {s with heap:=h'.push<|kla_obj "<lambda>" (X.env.qual++"<lambda>") params body sc (gY X.env.cells sc.names []) ((X.mg "__name__").getD .none) j g,toks:=tk}:=I.kept λb o e=>bh _<|kk b o e;exact k _ _ _ _ _ _ (m.Iu (I.gX d<|I.aE.fresh d) (dU _ xz)<|λv z=>by cases z) (xO.refl H) ⟨_,i,.inr ⟨j,xz,K⟩⟩ K
end
end L2
namespace L2
open PySem.W
def ZE(ts:List e_)(H:Hp):Prop:=(∀b,H b=b_\/(∃o xs,H b=a_ (.gZ o<|.lst xs))\/(b∈ts/\H b=a_ (.fX #[])))/\∀b∈ts,H b=a_ (.fX #[])
def aeK{P:k_}{w:j_}{K:u_}{mg mb:bx->Option f_}{k:Nat}(E:K.In s₁.heap)(G:s₁.heap.Ns fw mg)(c:s₁.heap.Ns tP mb)(W:∀x:bx,x ≠ "__name__"->mb x=tI x)(X:s₁.heap.NoLimit)(Y:s₁.gens=#[])(Z:vU mg s₁.heap)(i:∀b∈ts,s₁.heap.get? b=a_ (tabObj #[]))(htc:∀b∈ts,isCodeTable s₁.heap b)(J5:∀b∈ts,K.lookup b=b_)(ha:s₁.heap.get? a=a_ {cls:=.type "list",data:=.seq vs.toArray})(hi:IntsAre vs ns)(I:ns.length<=bp)(hr:eE k callerA)(F:∀fi:i_,K.In fi->fi.Ns fw mg->vU mg fi->aM P w K mg fi CX k fa fd [x] sp)(D7:∀(s:g_)(u:f_),BindsTo s fd ⟨[u],[]⟩ [(x,u)])(qL:∀H:Hp,ZE ts H->ao K H a (ns.map V.int)->sp [.ref a] H (λv _=>v=.bl c_) λ_ _ _=>False)(hCX:∀H e f,CX [] H s₁ (λ_ _ _=>False) e f->False):codeAny (ap P w) callerA (.call (.ref fa) ⟨[.ref a],[]⟩) (λr f=>r=.ok (.ret<|.bool c_)/\OldK s₁.heap f.heap/\f.os=s₁.os/\AllBare f.gens) s₁:=by
 have J:=LY hi;have anF:=hi.length
 have L:a∉ts:=λz=>by
  have e:=i a z;rw[ha]at e;cases e
 have M:∀H:Hp,ZE ts H->ao K H a (ns.map V.int)->dR P w H s₁.heap->(∀b,H b≠b_->b=a\/b∈ts)->(H a≠b_->K.lookup a=b_)->
   codeAny (ap P w) callerA (.call (.ref fa) ⟨[.ref a],[]⟩) (λr f=>r=.ok (.ret<|.bool c_)/\OldK s₁.heap f.heap/\f.os=s₁.os/\AllBare f.gens) s₁:=by
  intro H N hS aE O hK;have t:∀{b:e_}{o:bE},s₁.heap.get? b=a_ o->H b=b_->(uh s₁.heap H).get? b=a_ o:=λe n=>agt e n
  have Q:∀{b:e_}{o:bE},s₁.heap.get? b=a_ o->(∀xs n,o.data≠.seq xs n)->(∀xs,o.data≠.fields xs)->H b=none:=λ{b o}e d1 d2=>by
   rcases q:H b with _|u;rfl
   rcases O b (by rw[q];simp)with z | z
   .subst z;rw[ha]at e;cases e;exact dV xz<|d1 _ _
   rw[i b z]at e;cases e;exact dV xz<|d2 _
  have p:∀{b:e_}{m:bx->Option f_},s₁.heap.Ns b m->(uh s₁.heap H).Ns b m:=λ{b m}⟨o,es,ep,e,d,r⟩=>⟨o,es,ep,t e (Q e (λ_ _ z=>by rw[d]at z;cases z) λ_ z=>by rw[d]at z;cases z),d,r⟩
  have R:K.In (uh s₁.heap H):=λb o e=>t (E b o e) (by
   rcases q:H b with _|u;rfl
   rcases O b (by rw[q];simp)with z | z
   .subst z;rw[hK (by rw[q];simp)]at e;cases e
   rw[J5 b z]at e;cases e)
  have hB:vU mg (uh s₁.heap H):=by
   obtain⟨bm,y,b1,b2,b3,S,b5,b6,A⟩:=Z;exact⟨bm,y,b1,b2,b3,t S (Q S (λ_ _ z=>by rw[A]at z;cases z) λ_ z=>by rw[A]at z;cases z),b5,b6,A⟩
  have hM:Mod K mg (uh s₁.heap H):=⟨R,p G,⟨mb,p c,W⟩,let ⟨mc,h1,h2⟩:=X;⟨mc,p h1,h2⟩⟩;have e0:zP P w K mg (uh s₁.heap H) callerA [] s₁ H:=⟨xz,hM,λb o e=>ahX e,mY<|aeT _ _,trivial,λb c=>dV (show b∈([]:List e_) from c) (by simp),aE,.of_eq Y⟩;refine AY ((F _ R (p G) hB).run callerA [] s₁ H ⟨[.ref a],[]⟩ [.ref a] [.ref a] _ _ hr e0 (D7 s₁<|.ref a) (.cons xz .nil) (qL H N hS)) λr f h=>?_;cases r with
  | error e=>exact(hCX H e f h).elim
  | ok fl=>
   rcases fl with _|_|_|u;exact i9 h;exact i9 h;exact i9 h
   obtain⟨v,H',os,bare,un,T,r',q⟩:=h;have q':=q;subst q';obtain rfl:u=wZ true:=r'
   have U:∀b o,s₁.heap.get? b=a_ o->asItWas s₁.heap f.heap b o/\∃o',f.heap.get? b=a_ o':=λb o e=>by
    cases q:H b with
    | none=>
     have:=un.keep b o e q (by intro z;exact dV (show b∈([]:List e_) from z)<|by simp) (by simp);exact⟨.inl this,_,this⟩
    | some u=>
     obtain z|⟨y,xs,z⟩|⟨hm,z⟩:=N.1 b
     .rw[q]at z;cases z
     .have B:=un.oC b y _ z;obtain⟨j,_⟩:=aE b _ z;obtain⟨l,_⟩:=T b _ B;rw[e]at j;cases j;exact⟨.inl l,_,l⟩
     obtain⟨more,B⟩:=un.oq b _ z;have l:f.heap.get? b=a_ (tabObj<|#[]++more):=T b _ B;have j:=i b hm;rw[e]at j;cases j;exact⟨.inr<|.inl ⟨htc b hm,xz,#[],more,xz,l⟩,_,l⟩
   exact⟨xz,⟨λb o e=>(U b o e).1,λb o e=>(U b o e).2⟩,os,bare⟩
 have tok:∀b,b∈ts->dj P w (λb=>if b=a then b_ else if b∈ts then a_ (.fX #[]) else b_) s₁.heap b (.fX #[]):=λb c=>i b c;rcases C:K.lookup a with _|o
 ·have ne:∀b∈ts,b≠a:=λb c z=>L<|z ▸ c;refine M (λb=>if b=a then a_ (.gZ {cls:=.type "list",data:=.seq vs.toArray} (.lst<|ns.map V.int)) else if b∈ts then a_ (.fX #[]) else b_) ⟨λb=>?_,λb c=>?_⟩ (.inl<|.inr ⟨{cls:=.type "list",data:=.seq vs.toArray},dL xz⟩) (λb u z=>?_) (λb z=>?_) λ_=>C
  .by_cases c:b=a
   .exact .inr (.inl ⟨_,_,dL c⟩)
   by_cases g:b∈ts
   .exact .inr (.inr ⟨g,by dsimp only;rw[dt c,dL g]⟩)
   exact .inl (by dsimp only;rw[dt c,dt g])
  .dsimp only;rw[dt<|ne b c,dL c]
  .dsimp only at z
   by_cases c:b=a
   .rw[dL c]at z;cases z;subst c;exact⟨ha,by rw[aG];exact I,vs,_,J,ha⟩
   rw[dt c]at z
   by_cases g:b∈ts
   .rw[dL g]at z;cases z;exact i b g
   rw[dt g]at z;cases z
  by_cases c:b=a
  .exact .inl c
  by_cases g:b∈ts
  .exact .inr g
  exact dV (show (if b=a then _ else if b∈ts then _ else b_)=b_ by rw[dt c,dt g]) z
 have e:=E a o C;rw[ha]at e;cases e;have hta:∀b∈ts,(λb=>if b∈ts then a_ (HO.fX #[]) else b_) b=a_ (.fX #[]):=λb c=>dL c;refine M (λb=>if b∈ts then a_ (.fX #[]) else b_) ⟨λb=>?_,hta⟩ (.inr ⟨_,vs.toArray,_,C,xz,xz,xz,by rw[de,anF];exact I,by simpa using J⟩) (λb u z=>?_) (λb z=>?_) λz=>dV (dt L) z
 .by_cases c:b∈ts
  .exact .inr (.inr ⟨c,dL c⟩)
  exact .inl<|dt c
 .by_cases c:b∈ts
  .have D:=(dL c).f5.f4 z;cases D;exact i b c
  have D:=(dt c).f5.f4 z;cases D
 by_cases c:b∈ts
 .exact .inr c
 exact dV (dt c) z
end L2
namespace HT
open PySem.W L2
theorem Uq(h:tU us xs=c_):d4 (xs.map V.str) us/\us.length=xs.length:=by
 induction us generalizing xs with
 |nil=>cases xs;exact⟨.nil,xz⟩;exact nomatch(show d_=c_ from h)
 |cons u us i=>
  cases xs with
  |nil=>cases u<;>exact nomatch(show d_=c_ from h)
  |cons x xs=>
   cases u with
   |str y t=>have h:(decide (y=x)&&tU us xs)=true:=h;rw[kE]at h;obtain⟨a,b⟩:=i h.2;have e:=ec h.1;subst e;exact⟨.cons ⟨t,xz⟩ a,by rw[gI,gI,b]⟩
   |_=>exact nomatch(show d_=c_ from h)
def ag6{K:Frag}(h:tupS K a xs=c_)(b:xs.length<=bp)(H:Hp):aF K H a (xs.map V.str):=by
 unfold tupS at h
 split at h
 .rename_i d c n sl e
  obtain⟨r,l⟩:=Uq h;exact .inr ⟨_,c,n,e,xz,xz,by rw[<-fQ,l];exact b,r⟩
 cases h
end HT
namespace L3
def gR(b:Bool)(h:i_)(it l:e_)(i:Nat):Prop:=if b=c_ then h.IsListIter it l i else h.IsTupleIter it l i
def gU(b:Bool)(h:i_)(l:e_)(xs:Array f_):Prop:=if b=c_ then h.IsList l xs else h.IsTuple l xs
def gR.ext(x:gR b h it l i)(e:Ga c h h')(n:it≠c):gR b h' it l i:=by
 rcases b with _|_;exact x.extBut e n;exact x.extBut e n
def gU.ext(x:gU b h l xs)(e:Ga c h h')(n:l≠c):gU b h' l xs:=by
 rcases b with _|_;exact x.extBut e n;exact x.extBut e n
def gR.at(x:gR b h it l i)(e:∀o,h.get? it=a_ o->h'.get? it=a_ o):gR b h' it l i:=by
 rcases b with _|_
 ·obtain⟨o,a,r⟩:=x;exact⟨o,e o a,r⟩
 exact(show h.IsListIter it l i from x).at e
def gU.at(x:gU b h l xs)(e:∀o,h.get? l=a_ o->h'.get? l=a_ o):gU b h' l xs:=by
 rcases b with _|_
 ·obtain⟨o,a,r⟩:=x;exact⟨o,e o a,r⟩
 exact(show h.IsList l xs from x).at e
def gR.obj(x:gR b h it l i):∃o vs,h.get? it=a_ o/\o.data=.fields vs:=by
 rcases b with _|_
 ·obtain⟨o,e,_,d⟩:=x;exact⟨o,_,e,d⟩
 obtain⟨o,e,_,d⟩:=x;exact⟨o,_,e,d⟩
section
variable{prog:k_}{w:j_}{A:h_}{E:f_->g_->Prop}{s:g_}
def acK{it t:e_}(a:s.heap.IsTupleIter it t i)(b:s.heap.IsTuple t its)(f:its[i]?=a_ x)(k:∀h',h'.IsTupleIter it t (i+1)->o7 it s.heap h'->Q x {s with heap:=h'}):am (ap prog w) A (uS<|.ref it) Q E s:=by
 obtain⟨o,e,c,d⟩:=id a;obtain⟨j,g,_,l,h⟩:=b;refine ah<|yz a.typeIs Ku<|uZ Ku a.typeIs aa6 ?_<|aa4 _;show am _ _ (field (.ref it) 0 >>= _) _ _ s;refine ah<|jS e d xz ?_;rw[dt (by exact dW)];refine ah<|jS e d xz ?_;refine ah<|tG g h ?_;simp only[jQ,f];refine ah<|AU e d (by simp)<|aI ⟨x,xz,aI<|k _ ⟨_,Cv _ e<|KG<|AN d _,(TF ..).f4 c,?_⟩<|CA ..⟩;rw[AN d];simp[bv]
def acV{it t:e_}(b:A.handled=b_)(a:s.heap.IsTupleIter it t i)(f:s.heap.IsTuple t its)(g:its[i]?=b_)(k:∀h' x,Ga it s.heap h'->(∃o,h'.get? x=a_ o/\o.cls=.type "StopIteration")->E (.ref x) {s with heap:=h'}):am (ap prog w) A (uS<|.ref it) Q E s:=by
 obtain⟨o,e,c,d⟩:=id a;obtain⟨l,h,_,m,j⟩:=f;refine ah<|yz a.typeIs Ku<|uZ Ku a.typeIs aa6 ?_<|aa4 _;show am _ _ (field (.ref it) 0 >>= _) _ _ s;refine ah<|jS e d xz ?_;rw[dt (by exact dW)];refine ah<|jS e d xz ?_;refine ah<|tG h j ?_;simp only[jQ,g];refine ah<|A7<|ah<|AU e d (by simp) ?_;refine ah ?_;refine ah<|p0 ?_ (by size_fits);refine ah<|LL (by first | rfl | (rfl))<|p0 ?_ (by size_fits);refine ah<|wpAny_handled ?_
 first | rw[show A.in1.handled=b_ from b] | rw[b]
 exact ah<|aI<|wpAny_throw<|k _ _ (((CA ..).extBut.push _).push _) ⟨_,dU _ xz,xz⟩
def next_item(a:gR b s.heap it l i)(c:gU b s.heap l xs)(d:xs[i]?=a_ x)(k:∀h',gR b h' it l (i+1)->o7 it s.heap h'->Q x {s with heap:=h'}):am (ap prog w) A (uS<|.ref it) Q E s:=by
 rcases b with _|_;exact acK a c d k;exact wpAny_nextOf_list_item a c d k
def next_end(a:A.handled=b_)(c:gR b s.heap it l i)(d:gU b s.heap l xs)(e:xs[i]?=b_)(k:∀h' x,Ga it s.heap h'->(∃o,h'.get? x=a_ o/\o.cls=.type "StopIteration")->E (.ref x) {s with heap:=h'}):am (ap prog w) A (uS<|.ref it) Q E s:=by
 rcases b with _|_;exact acV a c d e k;exact wpAny_nextOf_list_end a c d e k
def afi{z TI TO f g l1 l2:e_}(D:ZipApart z TI TO f g l1 l2)(h:IsZip s.heap z TI TO .none)(O:IsPair s.heap TI (.ref f) (.ref g))(P:IsPair s.heap TO a b)(n1:gR b1 s.heap f l1 k1)(R:gR b2 s.heap g l2 k2)(S:gU b1 s.heap l1 xs)(T:gU b2 s.heap l2 ys)(U:xs[k1]?=a_ x)(V:ys[k2]?=a_ y)(W:∀h',IsZip h' z TI TO (bv s.heap.objs.size)->IsPair h' TO x y->gR b1 h' f l1 (k1+1)->gR b2 h' g l2 (k2+1)->IsPair h' s.heap.objs.size x y-> (∀c o,c≠z->c≠TO->c≠f->c≠g->s.heap.get? c=a_ o->h'.get? c=a_ o)->Q (a_<|.ref s.heap.objs.size) {s with heap:=h'}):am (ap prog w) A (pyNext<|.ref z) Q E s:=by
 have C:s.TypeIs (.ref z) "zip":=⟨_,h,xz⟩;refine ah<|AV<|yz (name:=iD "__next__") C Lk<|uZ Lk C F.entry_zip_next ?_<|F.args_zip_next_1 _;show am _ _ (field (.ref z) 2 >>= _) _ _ s;refine ah<|jS h xz (x:=.bool d_) xz ?_;refine ah<|jS h xz (x:=.ref TI) xz<|ah<|tG O xz ?_;refine ah<|ah<|jS h xz (x:=.none) xz<|aI ?_;refine ah<|A7<|ah<|jS h xz (x:=.ref TO) xz<|ah (CB h (by simp) λX r s1=>?_);have r:IsZip X z TI TO .ellipsis:=r;refine ah<|ah<|ah<|Lr ?_;refine ah (next_item (n1.ext s1.extBut D.i1z) (S.ext s1.extBut D.l1z) U λY Z s2=>aI ?_);have G:IsPair Y TO a b:=s2.extBut _ _ D.TOi1<|s1.extBut _ _ D.TOz P;refine ah<|tG G xz<|ah (To G λg3 t i=>ah<|A1<|aI ?_);have t:IsPair g3 TO x b:=t;refine ah<|ah<|Lr ?_;refine ah (next_item (((R.ext s1.extBut D.i2z).ext s2.extBut D.i12.f5).ext i.extBut D.TOi2.f5) (((T.ext s1.extBut D.l2z).ext s2.extBut D.l2i1).ext i.extBut D.l2TO) V λg4 n2' j=>aI ?_);have H:IsPair g4 TO x b:=j.extBut _ _ D.TOi2 t;refine ah<|tG H xz<|ah (To H λd l k=>ah<|A1<|aI<|aI ?_);have l:IsPair d TO x y:=l;refine ah<|tG l xz<|ah<|Ue ?_;have I:d.objs.size=s.heap.objs.size:=by rw[k.1,j.1,i.1,s2.1,s1.1]
 have J:IsZip d z TI TO .ellipsis:=k.extBut _ _ D.TOz.f5<|j.extBut _ _ D.i2z.f5<|i.extBut _ _ D.TOz.f5<|s2.extBut _ _ D.i1z.f5 r
 have k5:∀c o,c≠z->c≠TO->c≠f->c≠g->s.heap.get? c=a_ o->d.get? c=a_ o:=λc o c1 m u v e=>
  k.extBut _ _ m (j.extBut _ _ v<|i.extBut _ _ m<|s2.extBut _ _ u<|s1.extBut _ _ c1 e)
 have EO:=((Z.ext i.extBut D.TOi1.f5).ext j.extBut D.i12).ext k.extBut D.TOi1.f5;have n25:=n2'.ext k.extBut D.TOi2.f5;have K:=bH J;have hz6:IsZip (d.push {cls:=.type "tuple",data:=.seq #[x,y]}) z TI TO .ellipsis:=bh _ J;refine ah<|ah (CB hz6 (by simp) λg7 B L=>?_);have B:IsZip g7 z TI TO (bv d.objs.size):=B;refine CB B (by simp) λn p M=>?_;have p:IsZip n z TI TO (bv d.objs.size):=p;have q:∀c o,c≠z->d.get? c=a_ o->n.get? c=a_ o:=λc o c1 e=>M.extBut _ _ c1<|L.extBut _ _ c1<|bh _ e;have N:IsPair n d.objs.size x y:=M.extBut _ _ (tJ K)<|L.extBut _ _ (tJ K)<|dU _ xz;rw[I]at p N;refine aI ⟨_,xz,?_⟩;rw[I];exact aI (W n p (q _ _ D.TOz l) (EO.at λo e=>q _ o D.i1z e) (n25.at λo e=>q _ o D.i2z e) N λc o c1 m u v e=>q c o c1<|k5 c o c1 m u v e)
def agZ{z TI TO h i l1 l2:e_}(u:A.handled=b_)(D:ZipApart z TI TO h i l1 l2)(g:IsZip s.heap z TI TO .none)(K:IsPair s.heap TI (.ref h) (.ref i))(L:IsPair s.heap TO a b)(n1:gR b1 s.heap h l1 k1)(M:gR b2 s.heap i l2 k2)(v:gU b1 s.heap l1 xs)(N:gU b2 s.heap l2 ys)(O:xs[k1]?=b_\/ys[k2]?=b_)(P:∀h',(∀c o,c≠z->c≠TO->c≠h->c≠i->s.heap.get? c=a_ o->h'.get? c=a_ o)->Q b_ {s with heap:=h'}):am (ap prog w) A (pyNext<|.ref z) Q E s:=by
 have y:s.TypeIs (.ref z) "zip":=⟨_,g,xz⟩
 have fin:∀(h':i_)(e:e_),(∀c o,c≠z->c≠TO->c≠h->c≠i->s.heap.get? c=a_ o->h'.get? c=a_ o)->(∃o,h'.get? e=a_ o/\o.cls=.type "StopIteration")->
   am (ap prog w) A (do if <-Gd (.ref e) (.type "StopIteration") then pure b_ else throw (.ref e)) Q E {s with heap:=h'}:=λh' e R⟨o,S,U⟩=>
  ah (K1 (T:="StopIteration") (b:=c_) ⟨o,S,U⟩ Ug<|aI<|P _ R)
 refine ah<|AV<|yz (name:=iD "__next__") y Lk<|uZ Lk y F.entry_zip_next ?_<|F.args_zip_next_1 _;show am _ _ (field (.ref z) 2 >>= _) _ _ s;refine ah<|jS g xz (x:=.bool d_) xz ?_;refine ah<|jS g xz (x:=.ref TI) xz<|ah<|tG K xz ?_;refine ah<|ah<|jS g xz (x:=.none) xz<|aI ?_;refine ah<|A7<|ah<|jS g xz (x:=.ref TO) xz<|ah (CB g (by simp) λV k s1=>?_);have k:IsZip V z TI TO .ellipsis:=k;refine ah<|ah<|ah<|Lr ?_;cases l:xs[k1]? with
 | none=>
  refine ah (next_end u (n1.ext s1.extBut D.i1z) (v.ext s1.extBut D.l1z) l λm e s2 n=>?_);obtain⟨p,d,j⟩:=n;have B:IsZip m z TI TO .ellipsis:=s2 _ _ D.i1z.f5 k;have r:e≠z:=λq=>by subst q;rw[B]at d;cases d;simp at j
  exact CB B (by simp) λC _ f=>fin C e (λc o c1 _ t _ q=>f.extBut _ _ c1<|s2 _ _ t<|s1.extBut _ _ c1 q) ⟨p,f.extBut _ _ r d,j⟩
 | some x=>
  have W:ys[k2]?=none:=by
   obtain q|q:=O
   .rw[l]at q;cases q
   exact q
  refine ah (next_item (n1.ext s1.extBut D.i1z) (v.ext s1.extBut D.l1z) l λm Rw s2=>aI ?_);have G:IsPair m TO a b:=s2.extBut _ _ D.TOi1<|s1.extBut _ _ D.TOz L;refine ah<|tG G xz<|ah (To G λC t3 f=>ah<|A1<|aI<|ah<|ah<|Lr ?_);refine ah (next_end u (((M.ext s1.extBut D.i2z).ext s2.extBut D.i12.f5).ext f.extBut D.TOi2.f5) (((N.ext s1.extBut D.l2z).ext s2.extBut D.l2i1).ext f.extBut D.l2TO) W λX e H n=>?_);obtain⟨p,d,j⟩:=n;have I:IsZip X z TI TO .ellipsis:=H _ _ D.i2z.f5<|f.extBut _ _ D.TOz.f5<|s2.extBut _ _ D.i1z.f5 k;have r:e≠z:=λq=>by subst q;rw[I]at d;cases d;simp at j
  exact CB I (by simp) λY _ J=>fin Y e (λc o c1 Z t c4 q=>J.extBut _ _ c1<|H _ _ c4<|f.extBut _ _ Z<|s2.extBut _ _ t<|s1.extBut _ _ c1 q) ⟨p,J.extBut _ _ r d,j⟩
noncomputable abbrev t8(b:Bool)(l:e_):bE:={cls:=.type (if b=c_ then "list_iterator" else "tuple_iterator"),data:=.fields #[.ref l,.int 0 0]}
def GC(m:gU b s.heap l xs)(k:Q (.ref s.heap.objs.size) {s with heap:=s.heap.push (t8 b l)}):am (ap prog w) A (pyIter<|.ref l) Q E s:=by
 rcases b with _|_;exact wpAny_pyIter_tuple m k;exact CD m k
def WE(e:h.get? a=a_ (t8 b l)):gR b h a l 0:=by
 rcases b with _|_;exact⟨_,e,xz,xz⟩;exact⟨_,e,xz,xz⟩
end
abbrev Jk(b1:Bool)(h:i_)(l1:e_):Heap:=h.push<|t8 b1 l1
abbrev Jj(b1 b2:Bool)(h:i_)(l1 l2:e_):Heap:=(Jk b1 h l1).push<|t8 b2 l2
abbrev Ji(b1 b2:Bool)(h:i_)(l1 l2:e_):Heap:=(Jj b1 b2 h l1 l2).push {cls:=.type "tuple",data:=.seq #[.ref h.objs.size,.ref (Jk b1 h l1).objs.size]}
abbrev Jh(b1 b2:Bool)(h:i_)(l1 l2:e_):Heap:=(Ji b1 b2 h l1 l2).push {cls:=.type "tuple",data:=.seq #[.none,.none]}
abbrev BS(b1 b2:Bool)(h:i_)(l1 l2:e_):Heap:=(Jh b1 b2 h l1 l2).push {cls:=.type "zip",data:=.fields #[.none,.bool d_,.bool d_,.ref (Jj b1 b2 h l1 l2).objs.size,.ref (Ji b1 b2 h l1 l2).objs.size]}
def gU.push(x:gU b h l xs)(o:bE):gU b (h.push o) l xs:=x.at λ_ e=>bh _ e
def agY(b1 b2:Bool)(l1 l2:e_)(xs ys:Array f_):Meets (Builtin.«zip.__new__» ⟨[.type "zip",.ref l1,.ref l2],[]⟩) (λ_ R s=>gU b1 s.heap l1 xs/\gU b2 s.heap l2 ys/\R (.ok<|.ret<|.ref (Jh b1 b2 s.heap l1 l2).objs.size) {s with heap:=BS b1 b2 s.heap l1 l2}):=
 .of_wp λprog w A R s h=>by
  obtain⟨a,g,d,tk,os⟩:=s;obtain⟨b,c,h⟩:=h;have e:=sub_zip;have M2:gU _ (Shared.heap ⟨a.push<|t8 b1 l1,g,d,tk,os⟩) _ ys:=gU.push c _
  wp_walk using GC b,GC M2
  exact⟨_,xz,h⟩
section
variable{prog:k_}{w:j_}{A:h_}{E:f_->g_->Prop}{s:g_}
def afj{l1 l2:e_}(j:gU b1 s.heap l1 xs)(l:gU b2 s.heap l2 ys)(k:∀h',IsZip h' (s.heap.objs.size+4) (s.heap.objs.size+2) (s.heap.objs.size+3) .none->IsPair h' (s.heap.objs.size+2) (.ref s.heap.objs.size) (.ref<|s.heap.objs.size+1)->IsPair h' (s.heap.objs.size+3) .none .none->gR b1 h' s.heap.objs.size l1 0->gR b2 h' (s.heap.objs.size+1) l2 0->(∀c o,s.heap.get? c=a_ o->h'.get? c=a_ o)->Q (.ref<|s.heap.objs.size+4) {s with heap:=h'}):am (ap prog w) A (call (.type "zip") [.ref l1,.ref l2]) Q E s:=by
 refine callType_new F.called_zip qc (F.typeCall_zip_2 _ _) (F.newCall_zip_2 _ _) (λobj=>F.args_object_init_3 _ _ _) F.entry_zip_new (agY _ _ _ _ _ _) ⟨j,l,?_⟩;have a:(Jk b1 _ l1).objs.size=s.heap.objs.size+1:=qb ..;have b:(Jj b1 b2 s.heap l1 l2).objs.size=s.heap.objs.size+2:=by rw[qb,a]
 have d:(Ji b1 b2 s.heap l1 l2).objs.size=s.heap.objs.size+3:=by rw[qb,b]
 have f:(Jh b1 b2 s.heap l1 l2).objs.size=s.heap.objs.size+4:=by rw[qb,d]
 have e:(BS b1 b2 _ l1 l2).get? (Jh b1 b2 s.heap l1 l2).objs.size=a_ _:=dU _ rfl;have g:(BS b1 b2 _ l1 l2).get? (Ji b1 b2 s.heap l1 l2).objs.size=a_ _:=bh _<|dU _ xz;have h:(BS b1 b2 _ l1 l2).get? (Jj b1 b2 s.heap l1 l2).objs.size=a_ _:=bh _<|bh _<|dU _ xz;have i:(BS b1 b2 _ l1 l2).get? (Jk b1 s.heap l1).objs.size=a_ _:=bh _<|bh _<|bh _<|dU _ xz;have m:(BS b1 b2 s.heap l1 l2).get? _=a_ _:=bh _<|bh _<|bh _<|bh _<|dU _ xz;rw[b,d,f]at e;rw[a,b]at h;rw[d]at g;rw[a]at i;rw[f];exact⟨⟨_,e,xz⟩,k _ e h g (WE m) (WE i) λc o x=>bh _<|bh _<|bh _<|bh _<|bh _ x⟩
end
end L3
namespace L3
open AutoSeq1 (wpAny_loadPart')
def ae2(l:e_)(a:Array f_)(n:Nat)(b:Option e_)(sl:Array (Option f_)):Meets (Builtin.«enumerate.__new__» ⟨[.type "enumerate",.ref l],[]⟩) (λ_ R s=>s.heap.get? l=a_ {cls:=.type "tuple",dict:=b,data:=.seq a n,slots:=sl}/\R (.ok<|.ret<|.ref (s.heap.push<|t8 d_ l).objs.size) {s with heap:=(s.heap.push<|t8 d_ l).push {cls:=.type "enumerate",data:=.fields #[.none,.bool d_,.ref s.heap.objs.size,bv 0,.none,.none]}}):=
 .of_wp λprog w A R s h=>by
  obtain⟨e,g,d,tk,os⟩:=s;obtain⟨q,h⟩:=h;have f:=sub_enumerate;have M:gU d_ _ l a:=⟨_,q,xz,n,xz⟩
  wp_walk using T7 q
  refine wpAny_stack_any λst=>aI ?_
  generalize PySem.Builtin.SmallTypes.calledThroughType.match_1 _ _ _ _=b
  cases b<;>(wp_walk using T7 q,GC M;exact⟨_,xz,h⟩)
section
variable{prog:k_}{w:j_}{A:h_}{E:f_->g_->Prop}{s:g_}
def ae3(m:gU b s.heap l xs)(k:∀h',IsEnum h' (s.heap.objs.size+1) s.heap.objs.size 0 .none->gR b h' s.heap.objs.size l 0->(∀c o,s.heap.get? c=a_ o->h'.get? c=a_ o)->Q (.ref<|s.heap.objs.size+1) {s with heap:=h'}):am (ap prog w) A (call (.type "enumerate") [.ref l]) Q E s:=by
 rcases b with _|_
 ·obtain⟨⟨c,j,p,sl⟩,f,a,n,hd⟩:=m;have a:=a;have hd:=hd;subst a hd;refine callType_new F.called_enumerate qc (F.typeCall_enumerate_1 _) (F.newCall_enumerate_1 _) (λobj=>abK _ _) F.entry_enumerate_new (ae2 l _ n _ _) ⟨f,?_⟩;have d:(s.heap.push<|t8 d_ l).objs.size=s.heap.objs.size+1:=qb ..
  have e:IsEnum ((s.heap.push<|t8 d_ l).push {cls:=.type "enumerate",data:=.fields #[.none,.bool d_,.ref s.heap.objs.size,bv 0,.none,.none]}) (s.heap.objs.size+1) s.heap.objs.size 0 .none:=by
   have q:=dU (s.heap.push<|t8 d_ l) (o:={cls:=.type "enumerate",data:=.fields #[.none,.bool d_,.ref s.heap.objs.size,bv 0,.none,.none]}) rfl;rw[d]at q;exact q
  show _/\_;rw[d];exact⟨⟨_,e,xz⟩,k _ e ⟨_,bh _<|dU _ xz,xz,xz⟩ λc o x=>bh _<|bh _ x⟩
 exact call_enumerate_list m λh' g h _ i=>k _ g h i
def ae5(d:A.handled=b_)(it l:e_)(f:l≠it)(xs:Array f_):Draws prog w A it [it,l] xs.size (λi v=>xs[i]?=a_ v) (λi h=>gR b h it l i/\gU b h l xs) where
 live:=λ_ _ st=>let ⟨o,_,e,_⟩:=st.1.obj;⟨o,e⟩
 frame:=λ_ _ _ st a=>⟨st.1.at λo e=>a it (by simp) o e,st.2.at λo e=>a l (by simp) o e⟩
 item:=λi s Q E hi st g=>next_item st.1 st.2 (x:=xs[i]) (by simp[hi]) λh' j c=>g _ h' s.toks (by simp[hi]) ⟨j,st.2.ext c.extBut f⟩ c
 done:=λs Q E st k=>next_end d st.1 st.2 (by simp) k
end
end L3
namespace L2
open L3
def cP.Nf{X:Cx}{p_:List (e_×bE)}{σ:St}{H:Hp}{s:g_}{h':i_}{t':Nat}{ch:List e_}(I:cP X p_ σ H s)(k:∀b o,b∉ch->s.heap.get? b=a_ o->h'.get? b=a_ o)(a:∀b∈ch,gw X p_ H b):cP X p_ σ H {s with heap:=h',toks:=t'}:=by
 have f:∀b u,H b=a_ u->b∉ch:=λb u e z=>by rw[(a b z).1]at e;cases e
 refine I.step (g':=s.gens) (d':=s.drawn) (ch:=ch) (λb d=>⟨(a b d).2.2.2.1,(a b d).2.1,(a b d).2.2.2.2.1,(a b d).2.2.2.2.2⟩) (λb o _ _ z e _=>k b o z e) (λb o _ _ z e _=>⟨o.slots,k b o z e⟩) (λ_ _ _ _ n=>n)
  (λb o z e=>⟨o,k b o z e⟩) (λ_ _ e=>e) (λ_ _ _ e=>e) (λb ps e=>⟨#[],by rw[e];simp⟩) (λm hm=>?_) (λb u e=>?_) I.bare
 .exact zB hm λo es g h r=>⟨o,es,g,(k _ o (λz=>(a _ z).2.1 xz) h),r⟩
 refine(I.aE b u e).ou (λc v i q=>k c v ?_ q) (λ_ q=>q) λ_ _ q=>q;obtain z|z:=i
 .rw[z];exact f b u e
 exact f c _ z
def Sq(b:Bool)(K:u_)(H:Hp)(a:e_)(xs:List V):Prop:=if b=c_ then ao K H a xs else aF K H a xs
def t6(I:cP X p_ σ H s)(h:Sq b X.K H a xs):∃c:List f_,d4 xs c/\gU b s.heap a c.toArray/\xs.length<=bp:=by
 rcases b with _|_;exact aP (I.tuple h) c8;exact aP (I.list h) λc r p z=>c8 _ r p.isList z
def NY(I:cP X p_ σ H s)(h:Sq b X.K H a xs)(h':Sq b X.K H a ys):xs=ys:=by
 rcases b with _|_;exact I.Vl h h';exact I.WC h h'
def OW(I:cP X p_ σ H s)(h:Sq b X.K H a xs):a<s.zS:=by
 refine aP (t6 I h) λc r p z=>?_;rcases b with _|_
 ·obtain⟨o,e,_⟩:=p;exact bH e
 obtain⟨o,e,_⟩:=p;exact bH e
def nP(b1 b2:Bool)(K:u_)(l1 l2:e_):It:=
 ⟨λi H=>∃xs ys x y,Sq b1 K H l1 xs/\Sq b2 K H l2 ys/\xs[i]?=a_ x/\ys[i]?=a_ y,λi H v H'=>∃p x y,H p=b_/\v=.ref p/\H'=cB H p (.tup [x,y])/\∀xs ys,Sq b1 K H l1 xs->Sq b2 K H l2 ys->xs[i]?=a_ x/\ys[i]?=a_ y,λi H=>∃xs ys,Sq b1 K H l1 xs/\Sq b2 K H l2 ys/\(xs.length<=i\/ys.length<=i)⟩
def A3(x:gR b h it l i):∃o,h.get? it=a_ o/\∀v,o.data≠.cell v:=by
 exact b9 x.obj λo vs e d=>au o e (λv z=>by rw[d]at z;cases z)
def afn{P:k_}{w:j_}{K:u_}{es:List b4}{T:Nat}{U:Pos}{b1 b2:Bool}{z TI TO f g l1 l2:e_}(D:ZipApart z TI TO f g l1 l2):Turn P w K (.Tuple es T U) (nP b1 b2 K l1 l2) [z,TI,TO,f,g] z (λi h=>IsZip h z TI TO .none/\IsPair h TI (.ref f) (.ref g)/\(∃a b,IsPair h TO a b)/\gR b1 h f l1 i/\gR b2 h g l2 i) where
 mem:=by simp
 obj:=λi h⟨l,j,⟨a,b,m⟩,n,p⟩c d=>by
  simp only[bq,tE,or_false]at d;obtain rfl|rfl|rfl|rfl|rfl:=d
  .exact au _ l (λv z=>by cases z)
  .exact au _ j (λv z=>by cases z)
  .exact au _ m (λv z=>by cases z)
  .exact A3 n
  exact A3 p
 keep:=λi h h'⟨l,j,⟨a,b,m⟩,n,p⟩k=>⟨k z (by simp) _ l,k TI (by simp) _ j,⟨a,b,k TO (by simp) _ m⟩,n.at λo e=>k f (by simp) o e,p.at λo e=>k g (by simp) o e⟩
 item:=by
  intro X F hw G d i p_ s σ H E I t ⟨l,j,⟨a,b,m⟩,n,p⟩ hg;subst F hw G;refine kL hg λxs ys x y A V=>du V λB R S=>aP (t6 I A) λW J L _=>aP (t6 I B) λY r2 M _=>aq (J.get R) λu Z ru=>aq (r2.get S) λv hv rv=>afi D l j m n p L M (x:=u) (y:=v) (by simpa using Z) (by simpa using hv) λh' c1 c2 c3 c4 c5 C=>?_;have N:=I.aE.fresh<|aD _
  have lts:∀c∈[z,TI,TO,f,g],c<s.zS:=λc d=>by
   simp only[bq,tE,or_false]at d;obtain rfl|rfl|rfl|rfl|rfl:=d
   .exact bH l
   .exact bH j
   .exact bH m
   .obtain⟨o,e,_⟩:=A3 n;exact bH e
   obtain⟨o,e,_⟩:=A3 p;exact bH e
  refine au _ xz (wpAny_letOwnedTupleGo_zip c1 λO d1 r=>?_);have sz:∀c∈[z,TI,TO,f,g],c≠s.zS:=λc d=>dg<|lts c d
  have k2:∀c o,c∉[z,TO,f,g]->s.heap.get? c=a_ o->O.get? c=a_ o:=λc o d e=>by
   simp only[bq,tE,or_false,not_or]at d;exact(r.2 c d.1).f4 (C c o d.1 d.2.1 d.2.2.1 d.2.2.2 e)
  have fz:∀c∈[z,TO,f,g],gw X p_ H c:=λc d=>t c (by
   simp only[bq,tE,or_false]at d ⊢;rcases d with rfl | rfl | rfl | rfl <;> simp)
  have pT:IsPair O s.zS u v:=(r.2 _<|b8<|sz z<|by simp).f4 c5;have Q:=I.gX (aD _) N;have I2:cP X p_ σ (cB H s.zS<|.tup [x,y]) {s with heap:=O}:=cP.adopt (cP.Nf (t':=s.toks) I k2 fz) N I.sz Q.2.1 Q.2.2.2.2.1 Q.2.2.2.2.2 ⟨by show 2<=bp;decide,[u,v],.cons ru<|.cons rv .nil,⟨_,pT,xz,_,xz⟩⟩;refine⟨.ref s.zS,_,I2,xz,⟨_,x,y,N,xz,xz,λxs' ys' p1 p2=>⟨by rw[NY I p1 A];exact R,by rw[NY I p2 B];exact S⟩⟩,⟨d1,(r.2 _ D.TIz).f4<|C _ _ D.TIz D.TITO D.TIi1 D.TIi2 j,⟨u,v,(r.2 _ D.TOz).f4 c2⟩,c3.at λo e=>(r.2 _ D.i1z).f4 e,c4.at λo e=>(r.2 _ D.i2z).f4 e⟩,λc d=>?_⟩;rw[ag<|sz c d];exact(t c d).1
 done:=by
  intro X F hw G d i p_ s σ H E I t ⟨l,j,⟨a,b,m⟩,n,p⟩ hg;subst F hw G;refine cZ hg λxs ys A B Ja=>aP (t6 I A) λW J L _=>aP (t6 I B) λY r2 M _=>?_;have l1':=J.length;have l2':=r2.length;refine agZ (I.ok.hd d) D l j m n p L M (by obtain q|q:=Ja;exact .inl (by simp;lia);exact .inr (by simp;lia)) λh' C=>⟨xz,?_⟩
  refine cP.Nf (t':=s.toks) (ch:=[z,TO,f,g]) I (λc o d e=>?_) λc d=>t c (by
   simp only[bq,tE,or_false]at d ⊢;rcases d with rfl | rfl | rfl | rfl <;> simp)
  simp only[bq,tE,or_false,not_or]at d;exact C c o d.1 d.2.1 d.2.2.1 d.2.2.2 e
 self:=λ_ _ _ _ _ st h=>wpAny_pyIter_zip st.1 h
section
variable{X:Cx}{pos:Pos}
def anr(b1 b2:Bool)(K:u_)(b:TA):TI:=λσ H R=>b σ H λvs a=>∃l1 l2 xs ys,vs=[.ref l1,.ref l2]/\Sq b1 K a l1 xs/\Sq b2 K a l2 ys/\R (nP b1 b2 K l1 l2) a
def Ol(m:Gl X "zip")(hm:X.mg "zip"=b_)(ha:PA X [a,b] ta)
  (n:autoParam (bY [a,b] X.env=[(d_,eval a X.env),(d_,eval b X.env)]) a3) (i:autoParam (bY [b] X.env=[(d_,eval b X.env)]) a3):PI X (.Tuple es x1 Ee) (.Call (.Name "zip" p) [a,b] [] pos) (anr b1 b2 X.K ta):=by
 refine λp_ s σ H R I h=>Call_<|qm I m hm boot_zip<|wM (zT (ha _ _ s _ H _ I h) λus s1 vs o d t f=>?_) (by rw[n,i]) (by rw[i];rfl);obtain⟨l1,l2,xs,ys,e,f,j,q⟩:=f;subst e;cases t with
 | cons r g=>
  cases g with
  | cons u g=>
   cases g;cases r;cases u;obtain⟨E,_,v,_⟩:=t6 d f;obtain⟨F,_,w,_⟩:=t6 d j;have x:=OW d j;refine afj v w λh' c1 y z A B C=>wpAny_pyIter_zip c1<|⟨_,_,_,_,o,xz,(d.kept C),(afn (D:=zipApart_new (OW d f) x)),⟨c1,y,⟨_,_,z⟩,A,B⟩,(λc k=>?_),q⟩
   have l:s1.zS<=c:=by
    simp only[bq,tE,or_false]at k;rcases k with rfl | rfl | rfl | rfl | rfl <;> lia
   exact d.gX l<|d.aE.fresh l
def nZ(b:Bool)(K:u_)(l:e_):It:=
 ⟨λi H=>∃xs x,Sq b K H l xs/\xs[i]?=a_ x,λi H v H'=>∃p x,H p=b_/\v=.ref p/\H'=cB H p (.tup [.int i,x])/\∀xs,Sq b K H l xs->xs[i]?=a_ x,λi H=>∃xs,Sq b K H l xs/\xs.length<=i⟩
end
def ad'{P:k_}{w:j_}{K:u_}{es:List b4}{Q:Nat}{R:Pos}{b:Bool}{e it l:e_}(n1:e≠it)(S:l≠it)(U:e≠l):Turn P w K (.Tuple es Q R) (nZ b K l) [e,it] e (λi h=>(∃j,IsEnum h e it i j)/\gR b h it l i) where
 mem:=by simp
 obj:=λi h⟨⟨j,d⟩,g⟩c a=>by
  simp only[bq,tE,or_false]at a;obtain rfl|rfl:=a
  .exact au _ d (λv z=>by cases z)
  exact A3 g
 keep:=λi h h'⟨⟨j,d⟩,g⟩k=>⟨⟨j,k e (by simp) _ d⟩,g.at λo q=>k it (by simp) o q⟩
 item:=by
  intro X p hw r a i p_ s σ H E I f ⟨⟨j,d⟩,g⟩ hg;subst p hw r;refine b9 hg λxs x m L=>aP (t6 I m) λvs t B _=>aq (t.get L) λu M V=>?_
  have W:i<vs.toArray.size:=by
   have:=(bu.mp M).1;simpa using this
  have Y:X.A.in1.handled=none:=I.ok.hd a;refine wpAny_pyNext_enum_itemD (n:=vs.toArray.size) (ae5 (b:=b) Y it l S vs.toArray) d ⟨g,B⟩ W n1 (by simp;exact⟨n1,U⟩) λy h' tk Z c1 c2 c3 c4 kk=>?_
  have ey:y=u:=by
   have:vs[i]?=a_ y:=by simpa using Z
   rw[M]at this;exact(cI this).f5
  subst ey;have C:=I.aE.fresh<|aD _;have N:e≠s.zS:=dg<|bH d
  have iS:it≠s.zS:=by
   exact aq (A3 g) λo q _=>dg<|bH q
  refine au _ xz (wpAny_letOwnedTupleGo_enum c1 λD d1 G=>?_)
  have k2:∀c o,c∉[e,it]->s.heap.get? c=a_ o->D.get? c=a_ o:=λc o a q=>by
   simp only[bq,tE,or_false,not_or]at a;exact(G.2 c a.1).f4 (kk c o a.1 a.2 q)
  have I1:cP X p_ σ H {s with heap:=D,toks:=tk+1}:=cP.Nf I k2 f;have J:=I.gX (aD _) C
  have I2:cP X p_ σ (cB H s.zS<|.tup [.int i,x]) {s with heap:=D,toks:=tk+1}:=cP.adopt I1 C I.sz J.2.1 J.2.2.2.2.1 J.2.2.2.2.2
   ⟨by show 2<=bp;decide,[.int i tk,y],.cons ⟨_,xz⟩<|.cons V .nil,⟨_,(G.2 _<|b8 N).f4 c3,xz,_,xz⟩⟩
  refine⟨(.ref s.zS),_,I2,xz,⟨_,x,C,xz,xz,λxs' p1=>by rw[NY I p1 m];exact L⟩,⟨⟨_,by simpa using d1⟩,c2.1.at λo q=>(G.2 _<|b8 n1).f4 q⟩,(λc a=>?_)⟩;simp only[bq,tE,or_false]at a;obtain rfl|rfl:=a
  .rw[ag N];exact(f _<|by simp).1
  rw[ag iS];exact(f _<|by simp).1
 done:=by
  intro X p hw r a i p_ s σ H E I f ⟨⟨j,d⟩,g⟩ hg;subst p hw r;refine aq hg λxs m Ja=>aP (t6 I m) λvs t B _=>?_;have hl:=t.length;have O:s.TypeIs (.ref e) "enumerate":=⟨_,d,xz⟩;refine ah<|AV<|yz (name:=iD "__next__") O abC<|uZ abC O F.entry_enumerate_next ?_<|F.args_enumerate_next_1 _;show am _ _ (field (.ref e) 2 >>= _) _ _ s;refine ah<|jS d xz (x:=.ref it) xz<|ah (next_end (show X.A.in1.handled=b_ from I.ok.hd a) g B (by simp;lia) λh' y hk⟨o,ho,Ar⟩=>ah<|K1 (T:="StopIteration") (b:=c_) ⟨o,ho,Ar⟩ Ug<|aI ⟨xz,I.turned (t':=s.toks) (it:=it) (λc q a z=>hk c q a z) (f it<|by simp).1 (f it<|by simp).2.1 (f it<|by simp).2.2.2.1 (f it<|by simp).2.2.2.2.1 (f it<|by simp).2.2.2.2.2⟩)
 self:=λ_ _ _ _ _ st h=>let ⟨_,d⟩:=st.1;wpAny_pyIter_enum d h
section
variable{X:Cx}{pos:Pos}
def alF(b:Bool)(K:u_)(c:TA):TI:=λσ H R=>c σ H λvs a=>∃l xs,vs=[.ref l]/\Sq b K a l xs/\R (nZ b K l) a
def zf(j:Gl X "enumerate")(hm:X.mg "enumerate"=b_)(ha:PA X [a] ta)
  (k:autoParam (bY [a] X.env=[(d_,eval a X.env)]) a3):PI X (.Tuple es x1 Ee) (.Call (.Name "enumerate" p) [a] [] pos) (alF b X.K ta):=by
 refine λp_ s σ H R I h=>Call_<|qm I j hm boot_enumerate<|wM (zT (ha _ _ s _ H _ I h) λus s1 vs m d n f=>?_) k xz;obtain⟨l,xs,e,f,q⟩:=f;subst e;cases n with
 | cons r o=>
  cases o;cases r;obtain⟨w,_,t,_⟩:=t6 d f;have n1:=OW d f;refine ae3 t λh' c1 u v=>wpAny_pyIter_enum c1<|⟨_,_,_,_,m,xz,(d.kept v),(ad' (K7 _) (dg n1)<|b8<|dg<|TH n1),⟨⟨_,c1⟩,u⟩,(λc g=>?_),q⟩
  have i:s1.zS<=c:=by
   simp only[bq,tE,or_false]at g;rcases g with rfl | rfl <;> lia
  exact d.gX i<|d.aE.fresh i
end
end L2
namespace L2
open PySem.SeqAt L3
def mX:V->Option f_
 | .ty n=>a_<|.type n
 | .ref a=>a_<|.ref a
 | _=>b_
def agR(h:mX c=a_ cv)(r:d0 c u):u=cv:=by
 cases c with
 | ty n=>cases h;exact r
 | ref a=>cases h;exact r
 | _=>cases h
def ZW(K:u_):List V->Hp->VK->Prop:=λxs H Q=>∃x c t a b,xs=[x,c]/\iZ K H x t/\mX c=a_ a/\v_ K t a=a_ b/\Q (.bl b) H
section
variable{X:Cx}
def jb:kP X (.builtin "isinstance") (ZW X.K):=by
 refine λp_ s σ H xs us Q I r h=>f9 h λx c t g b a=>oj a λe ty d f q=>?_;subst e;cases r with
 | cons r1 r2=>
  cases r2 with
  | cons r2 r3=>
   cases r3;cases agR d r2;exact aeQ I r1 ty f λtk=>(di (.bl b) H (I.tok _) xz q)
def range_all(bs:List Bool):(List.range bs.length).all (λi=>bs.getD i d_)=bs.all id:=by
 induction bs with
 | nil=>rfl
 | cons b r ih=>
  rw[gI,List.range_succ_eq_map,CS,CV,CS];simp only[id]
  congr 1
theorem VW:∀{bs:List Bool}{us:List f_},d4 (bs.map V.bl) us->us=bs.map wZ
 | [],_,r=>by cases r;rfl
 | b::bs,_,r=>by
  cases r with
  | cons a r2=>
   cases a;rw[eu,VW r2]
def ac5(bs:List Bool):TruthOf X.prog X.w A (λi v=>(bs.map wZ).toArray[i]?=a_ v) (λi=>bs.getD i d_):=by
 intro i v s Q E h q;have h':(bs.map wZ)[i]?=a_ v:=by simpa using h
 rw[cH]at h';rcases e:bs[i]? with _|b
 ·rw[e]at h';cases h'
 rw[e]at h';have c:=(cI h').f5;subst c;have d:bs.getD i d_=b:=by rw[mU,e];rfl
 have a:Q (bs.getD i d_) s:=q;rw[d]at a;exact pZ a
def anh(K:u_):List V->Hp->VK->Prop:=λxs H Q=>∃(p:e_)(bs:List Bool),xs=[.ref p]/\ao K H p (bs.map V.bl)/\Q (.bl<|bs.all id) H
def GO(a:X.calm=c_):kP X (.builtin "all") (anh X.K):=by
 refine λp_ s σ H xs us Q I r h=>cZ h λp bs e c q=>?_;subst e;refine aq (vals1 r) λu d f=>?_;subst d;cases f;refine aP (I.list c) λt g pl v=>?_;have j:=VW g;subst j
 have k:p≠s.zS:=by
  exact aq pl.isList λo e _=>dg<|bH e
 refine call_all_walk<|CD pl.isList<|⟨_,_,_,_,_,_,(fG _ xz (LW (show X.A.in1.handled=b_ from I.ok.hd a) _ p k (bs.map _).toArray) ⟨⟨_,dU _ xz,xz,xz⟩,pl.isList.push _⟩ (ac5 _) λh' tk l=>?_)⟩
 have m:(List.range (bs.map wZ).toArray.size).all (λi=>bs.getD i d_)=bs.all id:=by
  rw[de,aG];exact range_all _
 rw[m];refine di (.bl _) H (I.kept λb o e=>l b o (λz=>?_)<|bh _ e) xz q;have n:b=s.zS:=by simpa using z
 rw[n]at e;exact dV (bH e)<|jR _
mutual
inductive i3 (K:u_) (H:Hp):V->bn->Prop
 | aJ:i3 K H .aJ .none
 | bl (b:Bool):i3 K H (.bl b) (.bool b)
 | int (i:Int):i3 K H (.int i) (.int i)
 | str (x:bx):i3 K H (.str x) (.str x)
 | lst {a:e_} {xs:List V} {ds:List bn}:ao K H a xs->nD K H xs ds->i3 K H (.ref a) (.list ds)
 | tup {a:e_} {xs:List V} {ds:List bn}:aF K H a xs->nD K H xs ds->i3 K H (.ref a) (.tuple ds)
inductive nD (K:u_) (H:Hp):List V->List bn->Prop
 | nil:nD K H [] []
 | cons {x:V} {d:bn} {xs:List V} {ds:List bn}:i3 K H x d->nD K H xs ds->nD K H (x::xs) (d::ds)
end
variable{p_:List (e_×bE)}{σ:St}{H:Hp}{s:g_}
mutual
theorem i3.reads(I:cP X p_ σ H s):∀{v:V}{d:bn}{u:f_},i3 X.K H v d->d0 v u->∃as,Reads s.heap u d as:=λz r=>by
 cases z with
 |aJ=>cases r;exact⟨_,.none⟩
 |bl b=>cases r;exact⟨_,.bool b⟩
 |int i=>obtain⟨t,e⟩:=r;subst e;exact⟨_,.int i t⟩
 |str x=>obtain⟨t,e⟩:=r;subst e;exact⟨_,.str x t⟩
 |lst hq hs=>
  cases r;exact aP (I.list hq) λj a pl k=>oE (nD.reads I hs a) λas h=>aP pl.isList λo c f g=>oE g λn hd=>⟨_,.list c f hd<|by simpa using h⟩
 |tup hq hs=>
  cases r;exact aP (I.tuple hq) λj a pl k=>oE (nD.reads I hs a) λas h=>aP pl λo c f g=>oE g λn hd=>⟨_,.tuple c f hd<|by simpa using h⟩
theorem nD.reads(I:cP X p_ σ H s):∀{vs:List V}{ds:List bn}{us:List f_},nD X.K H vs ds->d4 vs us->∃as,ReadsAll s.heap us ds as:=λz r=>by
 cases z with
 |nil=>cases r;exact⟨_,.nil⟩
 |cons h t=>
  cases r with
  | cons r1 r2=>
   exact oE (i3.reads I h r1) λas a=>oE (nD.reads I t r2) λbs b=>⟨_,.cons a b⟩
end
def Ir(K:u_)(a:Bool):R2:=λx y H Q=>∃d e,i3 K H x d/\i3 K H y e/\shaped d=c_/\shaped e=c_/\noMix d e=c_/\Q (.bl (if a=c_ then !same d e else same d e)) H
def Ys(a:X.A.units+64<cLine):fo X (ja .Eq) (Ir X.K d_):=by
 exact λp_ s σ H x y v u Q I b c h=>dO h λd e h1 h2 h3 h4 h5 q=>oE (h1.reads I b) λas f=>oE (h2.reads I c) λbs g=>eq_dataH_same f g h3 h4 a h5<|di (.bl _) H I xz q
def Ot(a:X.A.units+64<cLine):fo X (ja .NotEq) (Ir X.K c_):=by
 exact λp_ s σ H x y v u Q I b c h=>dO h λd e h1 h2 h3 h4 h5 q=>oE (h1.reads I b) λas f=>oE (h2.reads I c) λbs g=>ne_dataH_same f g h3 h4 a h5<|di (.bl _) H I xz q
theorem C0{K:u_}:∀ns:List Int,nD K H (ns.map V.int)<|ns.map vh
 | []=>.nil
 | n::r=>.cons (.int n)<|C0 r
def Bg{K:u_}{H:Hp}{a:e_}{ns:List Int}(h:ao K H a (ns.map V.int)):i3 K H (.ref a) (.list<|ns.map vh):=.lst h<|C0 _
end
structure Py(K:u_)(C:e_)(m:bx)(f:e_):Prop where
 sp:W.specialIn K (.ref C) "__getattribute__"=a_ (a_<|.builtin "type.__getattribute__")
 rd:W.readsIn K C (.type "type")=c_
 fc:W.findCls K (.ref C) (.type "type") m=a_ (.val<|.ref f)
 kp:x_ K (.ref f)=c_
section
variable{X:Cx}{CX:uB}{k:Nat}{f C:e_}{fd:lz}{ps:List bx}{sp:Sp}{dvs:List V}{ds:List f_}{E:XK}{x m:bx}{p pos apos:Pos}{e o:b4}{es:List b4}{ta:TE}{t:TA}
def A5(c:Py X.K C m f)(F:aM X.prog X.w X.K X.mg X.base CX k f fd ps sp)(b:eE k X.A)(d:Gl X x)(hm:X.mg x=a_ (.ref C))(g:d5 X.K fd ps ds)(hd:d4 dvs ds)(i:Passes CX X E)(ha:PA X (e::es) t)
  (j:autoParam ((x==("__debug__":bx))=false) a4) (cV:autoParam (bY (e::es) X.env=(d_,eval e X.env)::bY es X.env) a3) (l:autoParam ((bc pos<|bY es X.env).any (·.1)=false) a3)
  (n:autoParam (eval (.Call (.Attribute (.Name x p) m apos) (e::es) [] pos) X.env=(do
   let ov <-eval (.Name x p) X.env
   standAt apos.atName
   let (f,first) <-holding [ov] (yZ ov m pl)
   Dg pos f first (bc pos<|bY (e::es) X.env) (xn pos<|wY [] X.env))) a3) :
  PE X (.Call (.Attribute (.Name x p) m apos) (e::es) [] pos) (OV sp dvs E t):=by
 intro p_ s σ H Q I h;refine W.methodCall_KW (zh I d hm (W.method_cls I.dI c.sp<|W.cls_value I.dI c.rd c.fc xz ?_) j) n;have q:=I.tok<|s.toks+1;exact G_ I.ok.mod.se c.kp (zT (ha _ _ _ _ H _ q h) λus s2 vs v a r u=>⟨a.dI,Dv F b g hd i a r u⟩) cV l
def aiP(P:k_)(w:j_)(K:u_)(mg:bx->Option f_)(fi:i_)(CX:uB)(k:Nat)(m:bx)(E:XK)(ta:TE):TE:=λσ H Q=>ta σ H λx b=>∃a C dx fs f fd ps sp,x=.ref a/\b a=a_ (.ins C dx fs)/\fs.lookup m=b_/\eO K C/\Meth K C m f/\
 aM P w K mg fi CX k f fd ps sp/\d5 K fd ps []/\sp [.ref a] b Q E
def afL{P:k_}{w:j_}{K:u_}{mg:bx->Option f_}{fi:i_}(g:PE X o ta)(i:eE k X.A)(j:Passes CX X E)(n:autoParam (X.prog=P) a3)(hw:autoParam (X.w=w) a3)(r:autoParam (X.K=K) a3)(v:autoParam (X.mg=mg) a3)(y:autoParam (X.base=fi) a3)
  (z:autoParam (eval (.Call (.Attribute o m apos) [] [] pos) X.env=(do
   let ov <-eval o X.env
   standAt apos.atName
   let (f,first) <-holding [ov] (yZ ov m pl)
   Dg pos f first (bc pos<|bY [] X.env) (xn pos<|wY [] X.env))) a3) :
  PE X (.Call (.Attribute o m apos) [] [] pos) (aiP P w K mg fi CX k m E ta):=by
 subst n hw r v y;intro p_ s σ H Q I h;refine W.methodCall_KW (aR (g _ s _ H _ I h) λu s1 B=>cZ B λx J d D b=>f9 b λa C dx fs f b=>fE b λfd ps sp ex ea b=>qk b λl c hm F G q=>?_) z;subst ex;obtain rfl:u=bV a:=D;exact LO d ea c hm l<|W.callWith_K0 d.dI hm.kp<|Dv (vs:=[.ref a]) F i G .nil j d (.cons xz .nil) q
end
def bQ{c A B:Prop}[Decidable c](h1:c->A)(h2:¬c->B):if decide c=c_ then A else B:=by
 by_cases h:c
 .rw[ee h];exact lG<|h1 h
 rw[eF h];exact dG<|h2 h
def jY{c A B:Prop}[Decidable c](h1:¬c->A)(h2:c->B):if (!decide c)=c_ then A else B:=by
 by_cases h:c
 .rw[ee h];exact dG<|h2 h
 rw[eF h];exact lG<|h1 h
def Iy{A B:Prop}(h1:b=c_->A)(h2:b=d_->B):if b=c_ then A else B:=by
 rcases b with _|_;exact dG<|h2 xz;exact lG<|h1 xz
def Ph{A B:Prop}(h1:b=d_->A)(h2:b=c_->B):if (!b)=c_ then A else B:=by
 rcases b with _|_;exact lG<|h1 xz;exact dG<|h2 xz
noncomputable def ZT(sc a:bK)(b N:List bx)(idx:List Nat):Bool:=
 decide (sc.kind=.function)&&(sc.names.all (λy=>decide<|y.2≠.cell)&&(sc.names.all (λy=>decide (y.2≠.local)||decide (sc.names.lookup y.1=a_ .local))&&(sc.names.all (λy=>decide (y.2≠.free)||decide (a.names.lookup y.1=a_ .cell))&&(decide (idx.length<=N.length)&&(idx.zip N).all λp=>decide (b[p.1]?=a_ p.2)&&decide (sc.names.lookup p.2=a_ .free)))))
def dJ.of(h:ZT sc X.env.scope X.N N idx=c_):dJ X sc N idx:=by
 unfold ZT at h;simp only[kE,decide_eq_true_eq,Ld,Bool.or_eq_true]at h;refine qk h λh1 h2 h3 h4 h5 d=>⟨h1,h2,λy c e=>?_,λy c e=>?_,h5,λk i x a b=>?_⟩
 .obtain z|z:=h3 y c
  .exact dV e z
  exact z
 .obtain z|z:=h4 y c
  .exact dV e z
  exact z
 have hm:(i,x)∈idx.zip N:=by
  have:(idx.zip N)[k]?=a_ (i,x):=by rw[abf];exact⟨a,b⟩
  exact bz this
 exact d _ hm
end L2
namespace TL
open L2 L3
def kinds:List String:=["NoneType","bool","int","str","list",P_]
def YH:List String:=["int","bool","str",P_,"list"]
def pG(T U:String):Bool:=T==U||(T=="bool"&&U=="int")
def ajH(K:u_)(T U:String):v_ K (.type T) (.type U) =(if (qh T==qh U)=c_ then a_ c_ else if W.kitMeta U=c_ then (fastBuiltinMro T).map (·.contains (.type U)) else b_):=rfl
def aid:∀T∈kinds,∀U∈YH,(if (qh T==qh U)=c_ then a_ c_ else if W.kitMeta U=c_ then (fastBuiltinMro T).map (·.contains (.type U)) else b_)=a_ (pG T U):=dk
noncomputable def db(H:Hp):V->Option String
 | .aJ=>a_ "NoneType"
 | .bl _=>a_ "bool"
 | .int _=>a_ "int"
 | .str _=>a_ "str"
 | .ref a=>match H a with
  | some (.lst _)=>a_ "list"
  | some (.tup _)=>a_ "tuple"
  | _=>b_
 | _=>b_
def Vk{K:u_}(h:db H v=a_ T):iZ K H v (.type T)/\T∈kinds:=by
 cases v with
 | aJ=>cases h;exact⟨.aJ,qc⟩
 | bl b=>cases h;exact⟨.bl b,qc⟩
 | int i=>cases h;exact⟨.int i,qc⟩
 | str x=>cases h;exact⟨.str x,qc⟩
 | ref a=>
  unfold db at h;rcases e:H a with _|o
  ·simp only[e]at h;cases h
  cases o with
  | lst xs=>simp only[e]at h;cases h;exact⟨.lst e,qc⟩
  | tup xs=>simp only[e]at h;cases h;exact⟨.tup e,qc⟩
  | _=>simp only[e]at h;cases h
 | _=>cases h
def mq{K:u_}(h:db H v=a_ T)(a:U∈YH):v_ K (.type T) (.type U)=a_ (pG T U):=by
 rw[ajH];exact aid T (Vk (K:=K) h).2 U a
def mE{K:u_}(h:db H v=a_ T):iZ K H v (.type T):=(Vk h).1
def UB(s:ak H H')(h:db H v=a_ T):db H' v=a_ T:=by
 cases v with
 | ref a=>
  unfold db at h ⊢;rcases e:H a with _|o
  ·simp only[e]at h;cases h
  simp only[s a o e];simp only[e]at h;exact h
 | _=>exact h
noncomputable def v8:V->Bool
 | .int _=>c_
 | _=>d_
def YI(h:db H v=a_ T):(pG T "int"&&!pG T "bool")=v8 v:=by
 cases v with
 | aJ=>cases h;rfl
 | bl b=>cases h;rfl
 | int i=>cases h;rfl
 | str x=>cases h;rfl
 | ref a=>
  unfold db at h;rcases e:H a with _|o
  ·simp only[e]at h;cases h
  cases o with
  | lst xs=>simp only[e]at h;cases h;rfl
  | tup xs=>simp only[e]at h;cases h;rfl
  | _=>simp only[e]at h;cases h
 | _=>cases h
def dX(w:bx):Option (List Int):=
 if w = Z_ then a_ [4,nL] else if w = T_ then a_ [4,4] else if w = L_ then a_ [12,4] else if w = I_ then a_ [4,12] else if w = l_ then a_ [4,12]
 else if w = N_ then a_ [] else if w = Y_ then a_ [4,121] else b_
noncomputable def pN:V->Int->Bool
 | .int i,b=>decide (0<=i)&&decide (i<b)
 | _,_=>d_
def stepOk:List V->Bool
 | .str w::ps=>match dX w with
  | none=>d_
  | some bs=>decide (ps.length=bs.length)&&(ps.zip bs).all λp=>pN p.1 p.2
 | _=>d_
noncomputable def vC(H:Hp):V->Option (List V)
 | .ref a=>match H a with
  | some (.tup xs)=>a_ xs
  | _=>b_
 | _=>b_
def Bx(H:Hp)(v:V):Bool:=match vC H v with
 | some xs=>stepOk xs
 | none=>d_
def ad8(h:vC H v=a_ xs):∃a,v=.ref a/\H a=a_ (.tup xs):=by
 cases v with
 | ref a=>
  refine au a xz ?_;unfold vC at h;rcases e:H a with _|o
  ·simp only[e]at h;cases h
  cases o with
  | tup ys=>simp only[e]at h;cases h;rfl
  | _=>simp only[e]at h;cases h
 | _=>cases h
def V5(h:H a=a_ (.tup xs)):vC H (.ref a)=a_ xs:=by
 unfold vC;simp only[h]
def A2(h:H a=a_ (.tup xs)):db H (.ref a)=a_ P_:=by
 unfold db;simp only[h]
def Yt(h:db H v=a_ T):pG T P_ = (vC H v).isSome:=by
 cases v with
 | aJ=>cases h;rfl
 | bl b=>cases h;rfl
 | int i=>cases h;rfl
 | str x=>cases h;rfl
 | ref a=>
  unfold db at h;unfold vC;cases e:H a with
  | none=>simp only[e]at h;cases h
  | some o=>
   cases o with
   | lst xs=>simp only[e]at h ⊢;cases h;rfl
   | tup xs=>simp only[e]at h ⊢;cases h;rfl
   | _=>simp only[e]at h;cases h
 | _=>cases h
def HH(h:db H v=a_ T):pG T "str"=c_↔∃x,v=.str x:=by
 cases v with
 | str x=>cases h;exact⟨λ_=>⟨x,xz⟩,λ_=>rfl⟩
 | aJ=>cases h;exact⟨λz=>(by cases z),λ⟨_,z⟩=>(by cases z)⟩
 | bl b=>cases h;exact⟨λz=>(by cases z),λ⟨_,z⟩=>(by cases z)⟩
 | int i=>cases h;exact⟨λz=>(by cases z),λ⟨_,z⟩=>(by cases z)⟩
 | ref a=>
  refine⟨λz=>?_,λ⟨_,z⟩=>by cases z⟩;unfold db at h;rcases e:H a with _|o
  ·simp only[e]at h;cases h
  cases o with
  | lst xs=>simp only[e]at h;cases h;cases z
  | tup xs=>simp only[e]at h;cases h;cases z
  | _=>simp only[e]at h;cases h
 | _=>cases h
def aH(s:ak H H')(h:H' p=b_):ak H (cB H' p o):=λb u e=>by
 rw[ag<|a7 (s b u e) h];exact s b u e
end TL
namespace L4
open PySem.Builtin PySem.Builtin.Str
abbrev Tl:=bx×List Nat
inductive fU (sz:Nat):Tl->Prop
 | put (r m:Nat):r<4->m<10^60->fU sz ("put",[r,m])
 | add (r o:Nat):r<4->o<4->fU sz ("add",[r,o])
 | set (n r:Nat):n<12->r<4->fU sz ("set",[n,r])
 | look (r n:Nat):r<4->n<12->fU sz ("look",[r,n])
 | swap (r n:Nat):r<4->n<12->fU sz ("swap",[r,n])
 | clear:fU sz ("clear",[])
 | skip (r q:Nat):r<4->q<=sz->q<=120->fU sz ("skip",[r,q])
def fU.len{sz:Nat}{t:Tl}(g:fU sz t):t.2.length<=2:=by cases g <;> simp
abbrev Pt:=List Tl
structure BD(ps:List Pt):Prop where
 ne:1<=ps.length
 le:ps.length<=4
 part:∀p∈ps,p.length<=120/\∀t∈p,fU p.length t
end L4
namespace L2
open TL
def nw(n:H l=b_):∃H',cB H l o=H'/\ak H H'/\H' l=a_ o:=⟨_,xz,aH (ak.f8 _) n,av⟩
def sl(h:autoParam (n<=1000) a4):n<=bp:=by rw[eA];exact cF h qc
end L2
set_option autoImplicit true
namespace L2
abbrev IV:=Nat->St->Hp->Prop
def pR(R:TS)(h:fH X l R):fH X l R:=h
end L2
namespace L2
structure Dp(P:k_)(w:j_)(K:u_)(mg:bx->Option f_)(base:i_)(k:Nat)(x:bx)(ps:List bx)(sp:Sp) where
 {f:e_}
 {fd:lz}
 G:aM P w K mg base aS k f fd ps sp
 k:x_ K (.ref f)=c_
 b:d5 K fd ps []
 m:mg x=a_ (.ref f)
structure Mt(P:k_)(w:j_)(K:u_)(mg:bx->Option f_)(base:i_)(C:e_)(k:Nat)(x:bx)(ps:List bx)(sp:Sp) where
 {f:e_}
 {fd:lz}
 G:aM P w K mg base aS k f fd ps sp
 b:d5 K fd ps []
 m:Meth K C x f
section
variable{X:Cx}{C:e_}{k:Nat}{ps:List bx}{sp:Sp}{x m:bx}{p pos apos:Pos}{e o:b4}{es:List b4}{ta:TE}{t:TA}
def gF(D:Dp X.prog X.w X.K X.mg X.base k x ps sp)(a:eE k X.A)(c:Gl X x)(ha:PA X (e::es) t)(d:autoParam ((x==("__debug__":bx))=false) a4)(f:autoParam (bY (e::es) X.env=(d_,eval e X.env)::bY es X.env) a3)(g:autoParam ((bc pos<|bY es X.env).any (·.1)=false) a3):
  PE X (.Call (.Name x p) (e::es) [] pos) (OV sp [] E0 t):=jU D.G a c D.m D.k D.b .nil dh ha d f g
def jX(a:PE X o ta)(c:eO X.K C)(D:Mt X.prog X.w X.K X.mg X.base C k m ps sp)(d:eE k X.A)(ha:PA X (e::es) t)
  (cV:autoParam (bY (e::es) X.env=(d_,eval e X.env)::bY es X.env) a3) (g:autoParam ((bc pos<|bY es X.env).any (·.1)=false) a3)
  (h:autoParam (eval (.Call (.Attribute o m apos) (e::es) [] pos) X.env=(do
   let ov <-eval o X.env
   standAt apos.atName
   let (f,first) <-holding [ov] (yZ ov m pl)
   Dg pos f first (bc pos<|bY (e::es) X.env) (xn pos<|wY [] X.env))) a3) :
  PE X (.Call (.Attribute o m apos) (e::es) [] pos) (DU C m sp [] E0 ta t):=Hh a c D.m D.G d D.b .nil dh ha cV g h
def ph(a:PE X o ta)(c:eO X.K C)(D:Mt X.prog X.w X.K X.mg X.base C k m ps sp)(d:eE k X.A)
  (g:autoParam (eval (.Call (.Attribute o m apos) [] [] pos) X.env=(do
   let ov <-eval o X.env
   standAt apos.atName
   let (f,first) <-holding [ov] (yZ ov m pl)
   Dg pos f first (bc pos<|bY [] X.env) (xn pos<|wY [] X.env))) a3) :
  PE X (.Call (.Attribute o m apos) [] [] pos) (DU C m sp [] E0 ta Ip):=Gw a c D.m D.G d D.b .nil dh g
end
end L2
namespace TL
open L2 L3
structure Bl(mg:bx->Option f_):Prop where
 kg:mg "isinstance"=b_
 int:mg "int"=b_
 bool:mg "bool"=b_
 str:mg "str"=b_
 tuple:mg P_ = b_
 len:mg aq6 = b_
 all:mg "all"=b_
 zip:mg "zip"=b_
structure Cn(mg:bx->Option f_):Prop where
 top:∃u,mg "TOP"=a_ u/\d0 (.int nL) u
 names:∃u,mg "NAMES"=a_ u/\d0 (.int 12) u
 gc:∃u,mg "REGISTERS"=a_ u/\d0 (.int 4) u
 long:∃u,mg "LONGEST"=a_ u/\d0 (.int 120) u
section
variable{P:k_}{w:j_}{K:u_}{mg:bx->Option f_}{fi:i_}
def Ng:Sp:=λvs H Q _=>∃v T,vs=[v]/\db H v=a_ T/\Q (.bl<|v8 v) H
def ahg:bj [aq7] [aq7] (aU Du):=bG
def Wv(F:aW K U_ U_ Du f fd)(B:Bl mg):aM P w K mg fi aS 1 f fd [aq7] Ng:=by
 refine F.ok ahg λaN A _ s H vs Q E c h=>?_
 refine cZ h λv T b a k=>?_;subst b;refine⟨_,aB<|a8<|Dy (bw jb xz B.kg jq<|ae (pv 0)<|ae (nj (v:=.ty "int") xz B.int boot_int xz) af)<|Bu<|Om<|bw jb xz B.kg jq<|ae (pv 0)<|ae (nj (v:=.ty "bool") xz B.bool boot_bool xz) af,?_⟩;have e:=YI a;refine au v xz<|eh _ _ _ _<|fG _ xz (mE a) xz (mq a qc)<|au _ xz (Iy (λh1=>?_) λh1=>?_)
 .refine au v xz (eh _ _ _ _<|fG _ xz (mE a) xz (mq a qc)<|au _ xz ?_);rw[h1,FZ]at e;rw[e];exact k
 rw[h1,FV]at e;rw[e];exact k
def Wh:Sp:=λvs H Q _=>∃x,vs=[.str x]/\(dX x=b_->Q .aJ H)/\∀bs,dX x=a_ bs->∀p,H p=b_->Q (.ref p) (cB H p<|.lst<|bs.map V.int)
def afz:bj ["word"] ["word"] (aU Di):=bG
def str_inj(h:V.str x=V.str y):x=y:=by injection h
def aes(F:aW K aq4 aq4 Di f fd)(C:Cn mg):aM P w K mg fi aS 1 f fd ["word"] Wh:=by
 refine F.ok afz λaN A _ s H vs Q E G h=>?_
 refine aP h λx o k0 j=>?_;subst o;refine aq C.top λI q rT=>aq C.names λJ n rN=>aq C.gc λL l m=>aq C.long λM r rL=>?_;refine let a:TS:=_;let b:TS:=_;let c:TS:=_;let d:TS:=_;let g:TS:=_;⟨_,ay (bX (bA dF (pv 0) cU<|bo _) (aB<|a8<|dP<|ae (gD xz l m)<|ae (gD xz q rT) af) cj)<|pR g<|ay (bX (bA dF (pv 0) cU<|bo _) (aB<|a8<|dP<|ae (gD xz l m)<|ae (gD xz l m) af) cj)<|pR d<|ay (bX (bA dF (pv 0) cU<|bo _) (aB<|a8<|dP<|ae (gD xz n rN)<|ae (gD xz l m) af) cj)<|pR c<|ay (bX (PW.pt<|pw_or (bA dF (pv 0) cU<|bo _)<|pw_or1<|bA dF (pv 0) cU<|bo _) (aB<|a8<|dP<|ae (gD xz l m)<|ae (gD xz n rN) af) cj)<|pR b<|ay (bX (bA dF (pv 0) cU<|bo _) (aB<|a8<|dP af) cj)<|pR a<|ay (bX (bA dF (pv 0) cU<|bo _) (aB<|a8<|dP<|ae (gD xz l m)<|ae (bg jv (gD xz r rL) ax) af) cj)<|aB<|a8 og,vr xz ⟨xz,⟨_,xz,bQ (λe=>?_) λn1=>?_⟩⟩⟩
 .cases str_inj e;exact⟨qc,λp i=>j [4,nL] (by unfold dX;rw[dL rfl]) p i⟩
 refine au _ xz ⟨xz,⟨_,xz,bQ (λe=>?_) λt=>?_⟩⟩
 .cases str_inj e;exact⟨qc,λp i=>j [4,4] (by unfold dX;rw[dt dk,dL rfl]) p i⟩
 refine au _ xz ⟨xz,⟨_,xz,bQ (λe=>?_) λu=>?_⟩⟩
 .cases str_inj e;exact⟨qc,λp i=>j [12,4] (by unfold dX;rw[dt dk,dt dk,dL rfl]) p i⟩
 refine au _ xz ⟨xz,⟨_,xz,bQ (λe=>?_) λv=>?_⟩⟩
 .cases str_inj e;exact lG ⟨qc,λp i=>j [4,12] (by unfold dX;rw[dt dk,dt dk,dt dk,dL rfl]) p i⟩
 refine vr xz ⟨xz,⟨_,xz,bQ (λe=>?_) λz=>?_⟩⟩
 .cases str_inj e;exact⟨qc,λp i=>j [4,12] (by unfold dX;rw[dt dk,dt dk,dt dk,dt dk,dL rfl]) p i⟩
 refine au _ xz ⟨xz,⟨_,xz,bQ (λe=>?_) λB=>?_⟩⟩
 .cases str_inj e;exact⟨qc,λp i=>j [] (by unfold dX;rw[dt dk,dt dk,dt dk,dt dk,dt dk,dL rfl]) p i⟩
 refine au _ xz ⟨xz,⟨_,xz,bQ (λe=>?_) λD=>?_⟩⟩
 .cases str_inj e;exact⟨_,⟨_,xz,xz,qc,λp i=>j [4,121] (by unfold dX;rw[dt dk,dt dk,dt dk,dt dk,dt dk,dt dk,dL rfl]) p i⟩⟩
 refine k0 ?_;have k:∀{y:bx},¬V.str x=V.str y->¬x=y:=λh e=>h (by rw[e]);unfold dX;rw[dt<|k n1,dt<|k t,dt<|k u,dt<|k v,dt<|k z,dt<|k B,dt<|k D]
def Wd:Sp:=λvs H Q _=>∃v T,vs=[v]/\db H v=a_ T/\(∀xs,vC H v=a_ xs->xs.length<=1000/\∀x∈xs,∃T,db H x=a_ T)/\∀H',ak H H'->Q (.bl<|Bx H v) H'
def Wn:bj [ac1,"bounds"] [ac1] (aU He):=bG
def P5(y:V)(ps:List V):HT.cC (y::ps).length 0 (a_ 1)=1:=by
 simp only[HT.cC,gI]
 first | omega | (simp;done) | (split <;> omega)
def Qi(y:V)(ps:List V):oG (y::ps) (a_ 1) b_=ps:=by
 unfold oG;rw[P5];exact jA (by simp[HT.cC])
def Vf{bs:List Int}(h:dX x=a_ bs):bs.length<=2:=by
 unfold dX at h
 repeat (first | (split at h;(cases h;decide)) | (cases h;done))
def Zh:([an3,"bound"]:List bx).Nodup:=dk
def aer(F:aW K "is_step" "is_step" He f fd)(B:Bl mg)(C:Cn mg)(R:aW K U_ U_ Du fW uv)(bW:d5 K uv [aq7] [])(mW:mg U_ = a_ (.ref fW))(S:aW K aq4 aq4 Di fB nO)(bB:d5 K nO ["word"] [])(mB:mg aq4 = a_ (.ref fB)):aM P w K mg fi aS 2 f fd [ac1] Wd:=by
 have GW:aM P w K _ fi _ 1 _ _ [aq7] Ng:=Wv R B;have GB:aM P w K _ fi _ 1 _ _ ["word"] Wh:=aes S C;refine F.ok Wn λaN A _ s H vs Q E U h=>?_
 refine iG h λv T aa o hx k=>?_;subst aa
 refine let b:TS:=_;let d:TS:=_;let g:TS:=_;⟨_,ay (bX (PW.pt<|pw_or (kK<|gu<|bw jb xz B.kg jq<|ae (pv 0)<|ae (nj (v:=.ty P_) xz B.tuple tQ xz) af)<|pw_or (bA dF (bw dE xz B.len q_<|ae (pv 0) af) ax<|bo _)<|pw_or1<|kK<|gu<|bw jb xz B.kg jq<|ae (aO cw (pv 0) ax)<|ae (nj (v:=.ty "str") xz B.str boot_str xz) af) (aB<|a8 iV) cj) (pR g (ay (bP (i:=1) Wn.nd xz (aL xz)<|jU GB U xz mB S.kp bB .nil dh<|ae (aO cw (pv 0) ax) af) (pR d (ay (bX (PW.pt<|pw_or (bA Ou (pv 1) og<|bo _)<|pw_or1<|bA xG (bw dE xz B.len q_<|ae (pv 0) af) (bg jv (bw dE xz B.len q_<|ae (pv 1) af) ax)<|bo _) (aB<|a8 iV) cj) (pR b (aB (a8 (bw (GO xz) xz B.all boot_all (ae (jc (N:=[an3,"bound"]) (idx:=[]) xz (dJ.of<|by kernel_rfl) (yT (aY _)<|aY _)
   (Ol (b1:=d_) (b2:=c_) xz B.zip<|ae (y6 N2 (pv 0) (zd ax) ze)<|ae (pv 1) af)
   (λ_ _ _ _=>nz xz<|eT (bC (i:=0) Zh xz (aL xz)<|.inr xz)<|eT (bC (i:=1) Zh xz (aL xz)<|.inr xz) ni)
   (λ_ _ _ _=>jD)
   λ_ _ _ _=>Dy (jU GW U xz mW R.kp bW .nil dh<|ae (pv 0) af)<|Bu<|afP Pb BA ax (pv 0)<|pv 1) af))))))))),?_⟩
 cases t:vC H v with
 | none=>
  have hi:pG T P_ = false:=by rw[Yt o,t];rfl
  have cV:Bx H v=false:=by unfold Bx;rw[t]
  have l:=k H<|ak.f8 H;rw[cV]at l;refine au v xz<|eh _ _ _ _<|fG _ xz (mE o) xz (mq o qc)<|au _ xz ?_;rw[hi];exact lG<|lG l
 | some xs=>
  refine aq (ad8 t) λa I ha=>?_;subst I;refine oA (hx _ t) λhl W=>?_;have hi:pG T P_ = true:=by rw[Yt o,t];rfl
  have l:∀H',ak H H'->Q (.bl<|stepOk xs) H':=λH' s=>by
   have q:=k _ s;unfold Bx at q;rw[t]at q;exact q
  refine vr xz<|eh _ _ _ _<|fG _ xz (mE o) xz (mq o qc)<|au _ xz ?_;rw[hi];refine dG ?_;cases xs with
  | nil=>
   exact vr xz<|di a _ xz (.inr<|aF.of ha) ⟨xz,⟨_,xz,bQ (λe=>lG<|l H<|ak.f8 H)<|dV xz⟩⟩
  | cons y ps=>
   refine vr xz<|di a _ xz (.inr<|aF.of ha) ⟨xz,⟨_,xz,bQ (λe=>?_) λn0=>?_⟩⟩
   .injection e with e
    exact dV e (by simp only[gI];omega)
   refine oE (W y gg) λTy G=>iI xz ha xz<|eh _ _ _ _<|fG _ xz (mE G) xz (mq G qc)<|au _ xz (Ph (λh1=>?_) λh1=>?_)
   .have e:stepOk (y::ps)=false:=by
     cases y with
     | str x=>exact dV ((HH G).mpr ⟨x,xz⟩)<|h1▸dW
     | _=>rfl
    have q:=l H<|ak.f8 H;rw[e]at q;exact q
   refine oE ((HH G).mp h1) λX I=>?_;subst I;refine iI xz ha xz (c8 _ xz (λu=>?_) λbs u p hp=>?_)
   .refine au _ xz ⟨xz,⟨_,xz,bQ (λ_=>?_)<|dV xz⟩⟩
    have e:stepOk (.str X::ps)=false:=by
     show (match dX _ with | none=>d_ | some bs=>decide (ps.length=bs.length)&&(ps.zip _).all λp=>pN _ _)=d_;rw[u]
    have q:=l H<|ak.f8 H;rw[e]at q;exact lG q
   have s1:ak H (cB H p<|.lst<|bs.map V.int):=aH (ak.f8 H) hp;have Y:=s1 _ _ ha
   have eS:stepOk (.str X::ps)=(decide (ps.length=bs.length)&&(ps.zip bs).all λp=>pN p.1 p.2):=by
    show (match dX _ with | none=>d_ | some bs=>decide (ps.length=bs.length)&&(ps.zip _).all λp=>pN _ _)=_;rw[u]
   rw[eS]at l;refine au _ xz ⟨xz,⟨_,xz,bQ (λz=>by cases z) λ_=>vr xz ⟨a,⟨_,xz,.inr<|aF.of Y,_,xz,p,_,xz,.inl<|ao.of av,_,_,xz,xz,xz,_,xz,jY (λne=>?_) λJ=>?_⟩⟩⟩⟩
   .have e:decide (ps.length=bs.length)=false:=eF λz=>ne (by rw[gI,aG,z];rfl);rw[e,FV]at l;exact l _ s1
   have Z:ps.length=bs.length:=by
    injection J with J
    rw[gI,aG]at J;omega
   rw[ee Z,FZ]at l;refine au _ xz<|au 1 xz ⟨a,⟨_,xz,aF.of Y,?_,λq hq=>?_⟩⟩
   .intro z;have z1:=z.1;rw[P5]at z1;cases z1
   rw[Qi];have s2:ak H (cB (cB H p<|.lst<|bs.map V.int) q<|.tup ps):=aH s1 hq;have D:cB (cB H p<|.lst<|bs.map V.int) q (.tup ps) p=a_ (.lst<|bs.map V.int):=by rw[ag<|a7 av hq];exact av
   refine vr xz<|⟨q,p,ps,(bs.map V.int),xz,(aF.of av),(ao.of D),?_⟩;generalize hH3:cB (cB H p<|.lst<|bs.map V.int) q (.tup ps)=H3 at s2 D;have L:H3 q=a_ (.tup ps):=by rw[<-hH3];exact av
   refine gC (n:=bs.length) (λi ys H'=>i<=bs.length/\ak H3 H'/\ys=((ps.zip bs).take i).map λz=>V.bl<|pN z.1 z.2) ?_ ?_ ?_ ?_ ?_ ?_ ?_
   .have cE:=Vf u;exact dH<|ic w4
   .exact eM (aY _) (ak.f8 _) xz
   .rintro i ys H' ⟨_,_,e⟩;rw[e,aG,dn];exact xl
   .rintro i ys H' hi ⟨_,m,_⟩;exact⟨ps,(bs.map V.int),(ps[i]'wg),(V.int bs[i]),(aF.of<|m _ _ L),(ao.of<|m _ _ D),(by simp[Z,hi]),(by simp[hi])⟩
   .rintro ys H' ⟨_,m,_⟩;exact di ps (bs.map V.int) (aF.of<|m _ _ L) (ao.of<|m _ _ D)<|.inr (by rw[aG];exact aD _)
   .rintro i ys H' hi ⟨_,m,e⟩ v kC ⟨r,x,y,M,ev,eH,EV⟩;refine oA (EV ps (bs.map V.int) (aF.of<|m _ _ L)<|ao.of<|m _ _ D) λfu uH=>?_;subst ev;subst eH
    have jN:y=V.int bs[i]:=by
     rw[cH,aQ hi]at uH;exact(cI uH).f5
    subst jN;have s4:ak H3 (cB H' r<|.tup [x,V.int bs[i]]):=aH m M;refine oE (W x<|eI _<|bz fu) λTx Sl=>?_;have QE:=UB (s2.f4 s4) Sl
    have zi:(ps.zip bs)[i]?=a_ (x,bs[i]):=by
     rw[abf];exact⟨fu,aQ hi⟩
    have fin:∀c,c=pN x bs[i]->i+1<=bs.length/\ak H3 (cB H' r<|.tup [x,V.int bs[i]])/\ys++[V.bl c]=((ps.zip bs).take<|i+1).map λz=>V.bl (pN z.1 z.2):=λc hc=>by
     refine eM hi s4 ?_;rw[jP,zi,dN,<-e,hc];rfl
    refine qo r ([x,V.int bs[i]]) xz (aF.of av) xz<|fh x ([V.int bs[i]]) xz<|di (V.int bs[i]) ([]) xz xz ?_;dsimp only[pE];rw[dL rfl];refine vr xz<|di x Tx xz QE<|au _ xz ?_;cases x with
    | int j=>
     exact lG<|au _ xz<|fh 0 j xz ⟨xz,⟨_,xz,bQ (λO=>vr xz<|di j (bs[i]) xz xz<|fin _<|by show _=(decide (0<=j)&&decide (j<bs[i]));rw[ee O,FZ]) λO=>fin _<|by show _=(decide (0<=j)&&decide (j<bs[i]));rw[eF O,FV]⟩⟩
    | _=>exact dG<|fin _ xz
   rintro ys H' ⟨_,m,e⟩;refine⟨?_,λr M=>?_⟩
   .rw[e,aG,dn];have cE:=Vf u;have:=ic (n:=bs.length) w4;omega
   have ey:ys=(((ps.zip bs).map λz=>pN z.1 z.2)).map V.bl:=by
    rw[e,jA (by rw[yI];omega),vg];rfl
   refine di r ((ps.zip bs).map λz=>pN z.1 z.2) xz (ao.of<|by rw[av,ey]) ?_;rw[CV];exact l _<|aH (s2.f4 m) M
def xy(K:u_):Sp:=λvs H Q _=>∃x C dx fs a xs,vs=[.ref x,.ref a]/\H x=a_ (.ins C dx fs)/\eO K C/\bU K C J_/\fs.length<900/\H a=a_ (.tup xs)/\Q .aJ (cB H x<|.ins C dx<|aT J_ (.ref a) fs)
def ai0:bj fY fY (aU HU):=bG
def zg(F:aW K K_ "Step.__init__" HU f fd)(B:mg P_ = b_):aM P w K mg fi aS 1 f fd fY (xy K):=by
 refine F.ok ai0 λaN A _ s H vs Q E g h=>?_;obtain⟨x,C,dx,fs,a,xs,b,c,cl,d,e⟩:=h;subst b;exact du e λi ha k=>rZ (aB<|gL (pv 0) (q8 CO xz B tQ<|ae (pv 1) af) xz)<|vr xz<|fh a _ xz<|.inr ⟨aF.of ha,_,xz,x,C,dx,fs,xz,c,cl,d,wa,k⟩
def BH(f:bx)(u:V):(aT f u []).length<1000:=by
 have h1:=tM f u [];have h3:([]:List (bx×V)).length=0:=rfl;exact wb
def BG(f g:bx)(u v:V):(aT f u<|aT g v []).length<1000:=by
 have h1:=tM f u<|aT g v [];have h2:=tM g v [];have h3:([]:List (bx×V)).length=0:=rfl;exact xi
structure zI(K:u_)(mg:bx->Option f_)(cS fI:e_)(hV:lz):Prop where
 fn:aW K K_ "Step.__init__" HU fI hV
 bi:d5 K hV fY []
 cf:Py K cS K_ fI
 at_:mg "Step"=a_ (.ref cS)
 tup:mg P_ = b_
def qF(C:e_)(d e:bx):Sp:=λvs H Q _=>∃x dx a xs b c,vs=[.ref x,.ref a]/\H x=a_ (.ins C dx [])/\H a=a_ (.tup xs)/\xs[1]?=a_ b/\xs[2]?=a_ c/\
 Q .aJ (cB H x<|.ins C dx<|aT e c<|aT d b<|aT J_ (.ref a) [])
def aiY:bj fY fY (aU HS):=bG
def ahO(F:aW K K_ "Put.__init__" HS f fd)(I:zI K mg cS fI hV)(cl:eO K C)(d:bU K C J_)(n1:bU K C M_)(e:bU K C R_):aM P w K mg fi aS 2 f fd fY (qF C M_ R_):=by
 have g:aM P w K _ fi _ 1 _ _ _ _:=zg I.fn I.tup;refine F.ok aiY λaN A _ s H vs Q E i h=>?_;obtain⟨x,dx,a,xs,o,p,j,c,ha,l,m⟩:=h;subst j;refine oA m λn k=>⟨_,ay (dC<|A5 I.cf g i xz I.at_ I.bi .nil dh<|ae (pv 0)<|ae (pv 1) af)<|ay (gL (pv 0) (aO cw (pv 1) ax) xz)<|aB<|gL (pv 0) (aO cw (pv 1) ax) xz,?_⟩;have b:=gv ha c (by intro z;cases z);refine vr xz<|vr xz ⟨x,⟨C,dx,[],a,xs,xz,c,cl,d,qc,ha,vT xz (aF.of<|by rw[ag b];exact ha) (bZ l) ⟨_,xz,x,C,dx,_,xz,av,cl,n1,BH _ _,vT xz (aF.of<|by rw[ag b,ag b];exact ha) (bZ n) ⟨_,xz,x,C,dx,_,xz,av,cl,e,BG _ _ _ _,?_⟩⟩⟩⟩;rw[pf,pf];exact k
def ai3:bj fY fY (aU HV):=bG
def ahW(F:aW K K_ "Add.__init__" HV f fd)(I:zI K mg cS fI hV)(cl:eO K C)(d:bU K C J_)(n1:bU K C M_)(e:bU K C aq1):aM P w K mg fi aS 2 f fd fY (qF C M_ aq1):=by
 have g:aM P w K _ fi _ 1 _ _ _ _:=zg I.fn I.tup;refine F.ok ai3 λaN A _ s H vs Q E i h=>?_;obtain⟨x,dx,a,xs,o,p,j,c,ha,l,m⟩:=h;subst j;refine oA m λn k=>⟨_,ay (dC<|A5 I.cf g i xz I.at_ I.bi .nil dh<|ae (pv 0)<|ae (pv 1) af)<|ay (gL (pv 0) (aO cw (pv 1) ax) xz)<|aB<|gL (pv 0) (aO cw (pv 1) ax) xz,?_⟩;have b:=gv ha c (by intro z;cases z);refine vr xz<|vr xz ⟨x,⟨C,dx,[],a,xs,xz,c,cl,d,qc,ha,vT xz (aF.of<|by rw[ag b];exact ha) (bZ l) ⟨_,xz,x,C,dx,_,xz,av,cl,n1,BH _ _,vT xz (aF.of<|by rw[ag b,ag b];exact ha) (bZ n) ⟨_,xz,x,C,dx,_,xz,av,cl,e,BG _ _ _ _,?_⟩⟩⟩⟩;rw[pf,pf];exact k
def aiX:bj fY fY (aU HR):=bG
def ahL(F:aW K K_ "Set.__init__" HR f fd)(I:zI K mg cS fI hV)(cl:eO K C)(d:bU K C J_)(n1:bU K C H_)(e:bU K C M_):aM P w K mg fi aS 2 f fd fY (qF C H_ M_):=by
 have g:aM P w K _ fi _ 1 _ _ _ _:=zg I.fn I.tup;refine F.ok aiX λaN A _ s H vs Q E i h=>?_;obtain⟨x,dx,a,xs,o,p,j,c,ha,l,m⟩:=h;subst j;refine oA m λn k=>⟨_,ay (dC<|A5 I.cf g i xz I.at_ I.bi .nil dh<|ae (pv 0)<|ae (pv 1) af)<|ay (gL (pv 0) (aO cw (pv 1) ax) xz)<|aB<|gL (pv 0) (aO cw (pv 1) ax) xz,?_⟩;have b:=gv ha c (by intro z;cases z);refine vr xz<|vr xz ⟨x,⟨C,dx,[],a,xs,xz,c,cl,d,qc,ha,vT xz (aF.of<|by rw[ag b];exact ha) (bZ l) ⟨_,xz,x,C,dx,_,xz,av,cl,n1,BH _ _,vT xz (aF.of<|by rw[ag b,ag b];exact ha) (bZ n) ⟨_,xz,x,C,dx,_,xz,av,cl,e,BG _ _ _ _,?_⟩⟩⟩⟩;rw[pf,pf];exact k
def ahl:bj fY fY (aU Hy):=bG
def af1(F:aW K K_ "Look.__init__" Hy f fd)(I:zI K mg cS fI hV)(cl:eO K C)(d:bU K C J_)(n1:bU K C M_)(e:bU K C H_):aM P w K mg fi aS 2 f fd fY (qF C M_ H_):=by
 have g:aM P w K _ fi _ 1 _ _ _ _:=zg I.fn I.tup;refine F.ok ahl λaN A _ s H vs Q E i h=>?_;obtain⟨x,dx,a,xs,o,p,j,c,ha,l,m⟩:=h;subst j;refine oA m λn k=>⟨_,ay (dC<|A5 I.cf g i xz I.at_ I.bi .nil dh<|ae (pv 0)<|ae (pv 1) af)<|ay (gL (pv 0) (aO cw (pv 1) ax) xz)<|aB<|gL (pv 0) (aO cw (pv 1) ax) xz,?_⟩;have b:=gv ha c (by intro z;cases z);refine vr xz<|vr xz ⟨x,⟨C,dx,[],a,xs,xz,c,cl,d,qc,ha,vT xz (aF.of<|by rw[ag b];exact ha) (bZ l) ⟨_,xz,x,C,dx,_,xz,av,cl,n1,BH _ _,vT xz (aF.of<|by rw[ag b,ag b];exact ha) (bZ n) ⟨_,xz,x,C,dx,_,xz,av,cl,e,BG _ _ _ _,?_⟩⟩⟩⟩;rw[pf,pf];exact k
def ahi:bj fY fY (aU Hv):=bG
def afW(F:aW K K_ "Swap.__init__" Hv f fd)(I:zI K mg cS fI hV)(cl:eO K C)(d:bU K C J_)(n1:bU K C M_)(e:bU K C H_):aM P w K mg fi aS 2 f fd fY (qF C M_ H_):=by
 have g:aM P w K _ fi _ 1 _ _ _ _:=zg I.fn I.tup;refine F.ok ahi λaN A _ s H vs Q E i h=>?_;obtain⟨x,dx,a,xs,o,p,j,c,ha,l,m⟩:=h;subst j;refine oA m λn k=>⟨_,ay (dC<|A5 I.cf g i xz I.at_ I.bi .nil dh<|ae (pv 0)<|ae (pv 1) af)<|ay (gL (pv 0) (aO cw (pv 1) ax) xz)<|aB<|gL (pv 0) (aO cw (pv 1) ax) xz,?_⟩;have b:=gv ha c (by intro z;cases z);refine vr xz<|vr xz ⟨x,⟨C,dx,[],a,xs,xz,c,cl,d,qc,ha,vT xz (aF.of<|by rw[ag b];exact ha) (bZ l) ⟨_,xz,x,C,dx,_,xz,av,cl,n1,BH _ _,vT xz (aF.of<|by rw[ag b,ag b];exact ha) (bZ n) ⟨_,xz,x,C,dx,_,xz,av,cl,e,BG _ _ _ _,?_⟩⟩⟩⟩;rw[pf,pf];exact k
def ahj:bj fY fY (aU Hw):=bG
def afX(F:aW K K_ "Skip.__init__" Hw f fd)(I:zI K mg cS fI hV)(cl:eO K C)(d:bU K C J_)(n1:bU K C M_)(e:bU K C aq2):aM P w K mg fi aS 2 f fd fY (qF C M_ aq2):=by
 have g:aM P w K _ fi _ 1 _ _ _ _:=zg I.fn I.tup;refine F.ok ahj λaN A _ s H vs Q E i h=>?_;obtain⟨x,dx,a,xs,o,p,j,c,ha,l,m⟩:=h;subst j;refine oA m λn k=>⟨_,ay (dC<|A5 I.cf g i xz I.at_ I.bi .nil dh<|ae (pv 0)<|ae (pv 1) af)<|ay (gL (pv 0) (aO cw (pv 1) ax) xz)<|aB<|gL (pv 0) (aO cw (pv 1) ax) xz,?_⟩;have b:=gv ha c (by intro z;cases z);refine vr xz<|vr xz ⟨x,⟨C,dx,[],a,xs,xz,c,cl,d,qc,ha,vT xz (aF.of<|by rw[ag b];exact ha) (bZ l) ⟨_,xz,x,C,dx,_,xz,av,cl,n1,BH _ _,vT xz (aF.of<|by rw[ag b,ag b];exact ha) (bZ n) ⟨_,xz,x,C,dx,_,xz,av,cl,e,BG _ _ _ _,?_⟩⟩⟩⟩;rw[pf,pf];exact k
structure a9 where
 (fW fB fS fO fI Qg Qh Qf Pn Pl Pm alO nJ nK lJ mj mi vz kN:e_)
 (uv nO BX BY hV Ig Ih Ie HK HI HJ:lz)
structure vA(K:u_)(mg:bx->Option f_)(t:a9):Prop where
 bl:Bl mg
 cn:Cn mg
 QP:aW K U_ U_ Du t.fW t.uv
 bW:d5 K t.uv [aq7] []
 mW:mg U_ = a_ (.ref t.fW)
 fnB:aW K aq4 aq4 Di t.fB t.nO
 bB:d5 K t.nO ["word"] []
 mB:mg aq4 = a_ (.ref t.fB)
 fnS:aW K "is_step" "is_step" He t.fS t.BX
 bS:d5 K t.BX [ac1] []
 mS:mg "is_step"=a_ (.ref t.fS)
 QQ:aW K "step_of" "step_of" Np t.fO t.BY
 bO:d5 K t.BY [ac1] []
 mO:mg "step_of"=a_ (.ref t.fO)
 init:zI K mg t.alO t.fI t.hV
 Dn:eO K t.vz
 ah5:bU K t.vz J_
 ah7:Mk K t.vz t.fI
 ah8:mg "Clear"=a_ (.ref t.vz)
 zG:eO K t.nJ
 alq:bU K t.nJ J_
 Zp:bU K t.nJ M_
 Zn:bU K t.nJ R_
 als:Mk K t.nJ t.Qg
 Zs:mg "Put"=a_ (.ref t.nJ)
 alH:aW K K_ "Put.__init__" HS t.Qg t.Ig
 alR:d5 K t.Ig fY []
 xM:eO K t.nK
 alr:bU K t.nK J_
 Pc:bU K t.nK M_
 Zo:bU K t.nK aq1
 mkAdd:Mk K t.nK t.Qh
 Zt:mg "Add"=a_ (.ref t.nK)
 alI:aW K K_ "Add.__init__" HV t.Qh t.Ih
 alS:d5 K t.Ih fY []
 vJ:eO K t.lJ
 alp:bU K t.lJ J_
 HY:bU K t.lJ H_
 Zm:bU K t.lJ M_
 mkSet:Mk K t.lJ t.Qf
 Zr:mg "Set"=a_ (.ref t.lJ)
 alG:aW K K_ "Set.__init__" HR t.Qf t.Ie
 alQ:d5 K t.Ie fY []
 vw:eO K t.mj
 aju:bU K t.mj J_
 YB:bU K t.mj M_
 HE:bU K t.mj H_
 ajz:Mk K t.mj t.Pn
 YE:mg "Look"=a_ (.ref t.mj)
 ajU:aW K K_ "Look.__init__" Hy t.Pn t.HK
 akh:d5 K t.HK fY []
 tZ:eO K t.mi
 ajs:bU K t.mi J_
 Oy:bU K t.mi M_
 HD:bU K t.mi H_
 ajx:Mk K t.mi t.Pl
 YD:mg "Swap"=a_ (.ref t.mi)
 ajR:aW K K_ "Swap.__init__" Hv t.Pl t.HI
 akf:d5 K t.HI fY []
 xC:eO K t.kN
 ajt:bU K t.kN J_
 YA:bU K t.kN M_
 Ox:bU K t.kN aq2
 ajy:Mk K t.kN t.Pm
 Oz:mg "Skip"=a_ (.ref t.kN)
 ajT:aW K K_ "Skip.__init__" Hw t.Pm t.HJ
 akg:d5 K t.HJ fY []
def eJ(t:a9)(x:bx):Addr:=if x = Z_ then t.nJ else if x = T_ then t.nK else if x = L_ then t.lJ else if x = I_ then t.mj else if x = l_ then t.mi else if x = N_ then t.vz else t.kN
def gQ(v:V)(x:bx)(ps:List V):List (bx×V):=
 if x = Z_ then aT R_ (ps.getD 1 .aJ) (aT M_ (ps.getD 0 .aJ)<|aT J_ v [])
 else if x = T_ then aT aq1 (ps.getD 1 .aJ) (aT M_ (ps.getD 0 .aJ)<|aT J_ v [])
 else if x = L_ then aT M_ (ps.getD 1 .aJ) (aT H_ (ps.getD 0 .aJ)<|aT J_ v [])
 else if x = I_ then aT H_ (ps.getD 1 .aJ) (aT M_ (ps.getD 0 .aJ)<|aT J_ v [])
 else if x = l_ then aT H_ (ps.getD 1 .aJ) (aT M_ (ps.getD 0 .aJ)<|aT J_ v [])
 else if x = N_ then aT J_ v []
 else aT aq2 (ps.getD 1 .aJ) (aT M_ (ps.getD 0 .aJ)<|aT J_ v [])
def aia{c:Type}{l:List c}(h:l.length=2):∃a b,l=[a,b]:=by
 rcases l with _|⟨a,t⟩;cases h;exact oE (Tg.mp (LF h)) λb e=>nN a b (by rw[e])
def Bp(h:stepOk (.str x::ps)=c_){b c:Int}{bs:List Int}(a:dX x=a_ bs)(d:autoParam (bs=[b,c]) a3):∃e f,ps=[e,f]:=by
 subst d;have h':(match dX x with | none=>d_ | some bs=>decide (ps.length=bs.length)&&(ps.zip bs).all λp=>pN p.1 p.2)=true:=h;rw[a]at h';simp only[kE,decide_eq_true_eq]at h';exact aia h'.1
def aeL(h:stepOk (.str x::ps)=c_)(n1:¬x = Z_)(a:¬x = T_)(b:¬x = L_)(c:¬x = I_)(d:¬x = l_)(f:¬x = N_):x = Y_:=by
 apply Ct;intro g
 have e:dX x=none:=by
  unfold dX;rw[dt n1,dt a,dt b,dt c,dt d,dt f,dt g]
 have h':(match dX x with | none=>d_ | some bs=>decide (ps.length=bs.length)&&(ps.zip bs).all λp=>pN p.1 p.2)=true:=h;rw[e]at h';cases h'
def Mw(t:a9):Sp:=λvs H Q _=>∃a x ps,vs=[.ref a]/\H a=a_ (.tup (.str x::ps))/\stepOk (.str x::ps)=c_/\(ps.length<=900/\∀y∈ps,∃T,db H y=a_ T)/\
 ∀z dx H',ak H H'->H z=b_->H' z=a_ (.ins (eJ t x) dx<|gQ (.ref a) x ps)->Q (.ref z) H'
def Wm:bj [ac1,"word"] [ac1] (aU Np):=bG
def Vw{t:a9}(T:vA K mg t):aM P w K mg fi aS 4 t.fO t.BY [ac1] (Mw t):=by
 have W:aM P w K _ fi _ 2 _ _ [ac1] Wd:=aer T.fnS T.bl T.cn T.QP T.bW T.mW T.fnB T.bB T.mB;have X:aM P w K _ fi _ 1 _ _ _ _:=zg T.init.fn T.init.tup;have Y:aM P w K _ fi _ 2 _ _ _ _:=ahO T.alH T.init T.zG T.alq T.Zp T.Zn;have Z:aM P w K _ fi _ 2 _ _ _ _:=ahW T.alI T.init T.xM T.alr T.Pc T.Zo;have aoY:aM P w K _ fi _ 2 _ _ _ _:=ahL T.alG T.init T.vJ T.alp T.HY T.Zm;have amX:aM P w K _ fi _ 2 _ _ _ _:=af1 T.ajU T.init T.vw T.aju T.YB T.HE;have amV:aM P w K _ fi _ 2 _ _ _ _:=afW T.ajR T.init T.tZ T.ajs T.Oy T.HD;have amW:aM P w K _ fi _ 2 _ _ _ _:=afX T.ajT T.init T.xC T.ajt T.YA T.Ox;refine T.QQ.ok Wm λaN A _ s H vs Q E J h=>?_
 refine fE h λa S ps O ha aX=>?_;subst O;refine du aX λL O k=>oA O λhl sE=>?_;have M:∀{y:bx},¬V.str S=V.str y->¬S=y:=λh e=>h (by rw[e])
 refine let c:TS:=_;let d:TS:=_;let f:TS:=_;let g:TS:=_;let j:TS:=_;let l:TS:=_;let m:TS:=_;let n:TS:=_;let p:TS:=_;let r:TS:=_;let u:TS:=_;let v:TS:=_;let z:TS:=_;let B:TS:=_;⟨_,(ay (bX (kK<|gu<|jU W (J.mono qc) xz T.mS T.fnS.kp T.bS .nil dh<|ae (pv 0) af) xb cj)
  (pR B (ay (bP (i:=1) Wm.nd xz (aL xz)<|aO cw (pv 0) ax) (pR z (ay (bX (bA dF (pv 1) cU<|bo _) (pR c<|aB<|a8<|vn T.als Y J xz T.Zs T.alR .nil dh<|ae (pv 0) af) cj) (pR v (ay (bX (bA dF (pv 1) cU<|bo _) (pR d<|aB<|a8<|vn T.mkAdd Z J xz T.Zt T.alS .nil dh<|ae (pv 0) af) cj) (pR u (ay (bX (bA dF (pv 1) cU<|bo _) (pR f<|aB<|a8<|vn T.mkSet aoY J xz T.Zr T.alQ .nil dh<|ae (pv 0) af) cj) (pR r (ay (bX (bA dF (pv 1) cU<|bo _) (pR g<|aB<|a8<|vn T.ajz amX J xz T.YE T.akh .nil dh<|ae (pv 0) af) cj) (pR p (ay (bX (bA dF (pv 1) cU<|bo _) (pR j<|aB<|a8<|vn T.ajx amV J xz T.YD T.akf .nil dh<|ae (pv 0) af) cj) (pR n (ay (bX (bA dF (pv 1) cU<|bo _) (pR l<|aB<|a8<|vn T.ah7 X (J.mono qc) xz T.ah8 T.init.bi .nil dh<|ae (pv 0) af) cj)
  (pR m<|aB<|a8<|vn T.ajy amW J xz T.Oz T.akg .nil dh<|ae (pv 0) af)))))))))))))))),?_⟩
 refine vr xz ⟨_,⟨_,xz,A2 ha,(λxs U=>?_),λH1 C=>?_⟩⟩
 .rw[V5 ha]at U;cases U;refine⟨by exact wb,λy R=>?_⟩;obtain e|R:=bq.mp R
  .subst e;exact⟨_,xz⟩
  exact sE y R
 have cV:Bx H (.ref a)=true:=by unfold Bx;rw[V5 ha];exact L
 rw[cV];refine au _ xz<|dG<|iI xz ((C _ _ ha)) xz<|au _ xz ⟨xz,⟨_,xz,bQ (λe=>?_) λn1=>?_⟩⟩
 .cases str_inj e;obtain⟨F,G,I⟩:=Bp L (bs:=[4,nL]) (by unfold dX;rw[dL rfl]);subst I;refine vr xz λx dx nx D N=>⟨x,dx,a,[.str Z_,F,G],F,G,xz,av,?_,xz,xz,xz,?_⟩
  .rw[ag<|a7 (C _ _ ha) nx,ag<|a7 (C _ _ ha) D];exact C _ _ ha
  refine k x _ _ (λb o q=>?_) (C.free nx) (by rw[av];rfl);rw[ag<|a7 (C b o q) nx,ag<|a7 (C b o q) nx,ag<|a7 (C b o q) D];exact C b o q
 refine au _ xz ⟨xz,⟨_,xz,bQ (λe=>?_) λn2=>?_⟩⟩
 .cases str_inj e;obtain⟨F,G,I⟩:=Bp L (bs:=[4,4]) (by unfold dX;rw[dt dk,dL rfl]);subst I;refine vr xz λx dx nx D N=>⟨x,dx,a,[.str T_,F,G],F,G,xz,av,?_,xz,xz,xz,?_⟩
  .rw[ag<|a7 (C _ _ ha) nx,ag<|a7 (C _ _ ha) D];exact C _ _ ha
  refine k x _ _ (λb o q=>?_) (C.free nx) (by rw[av];rfl);rw[ag<|a7 (C b o q) nx,ag<|a7 (C b o q) nx,ag<|a7 (C b o q) D];exact C b o q
 refine au _ xz ⟨xz,⟨_,xz,bQ (λe=>?_) λn3=>?_⟩⟩
 .cases str_inj e;obtain⟨F,G,I⟩:=Bp L (bs:=[12,4]) (by unfold dX;rw[dt dk,dt dk,dL rfl]);subst I;refine vr xz λx dx nx D N=>⟨x,dx,a,[.str L_,F,G],F,G,xz,av,?_,xz,xz,xz,?_⟩
  .rw[ag<|a7 (C _ _ ha) nx,ag<|a7 (C _ _ ha) D];exact C _ _ ha
  refine k x _ _ (λb o q=>?_) (C.free nx) (by rw[av];rfl);rw[ag<|a7 (C b o q) nx,ag<|a7 (C b o q) nx,ag<|a7 (C b o q) D];exact C b o q
 refine au _ xz ⟨xz,⟨_,xz,bQ (λe=>?_) λn4=>?_⟩⟩
 .cases str_inj e;obtain⟨F,G,I⟩:=Bp L (bs:=[4,12]) (by unfold dX;rw[dt dk,dt dk,dt dk,dL rfl]);subst I;refine vr xz λx dx nx D N=>⟨x,dx,a,[.str I_,F,G],F,G,xz,av,?_,xz,xz,xz,?_⟩
  .rw[ag<|a7 (C _ _ ha) nx,ag<|a7 (C _ _ ha) D];exact C _ _ ha
  refine k x _ _ (λb o q=>?_) (C.free nx) (by rw[av];rfl);rw[ag<|a7 (C b o q) nx,ag<|a7 (C b o q) nx,ag<|a7 (C b o q) D];exact C b o q
 refine au _ xz ⟨xz,⟨_,xz,bQ (λe=>?_) λn5=>?_⟩⟩
 .cases str_inj e;obtain⟨F,G,I⟩:=Bp L (bs:=[4,12]) (by unfold dX;rw[dt dk,dt dk,dt dk,dt dk,dL rfl]);subst I;refine vr xz λx dx nx D N=>⟨x,dx,a,[.str l_,F,G],F,G,xz,av,?_,xz,xz,xz,?_⟩
  .rw[ag<|a7 (C _ _ ha) nx,ag<|a7 (C _ _ ha) D];exact C _ _ ha
  refine k x _ _ (λb o q=>?_) (C.free nx) (by rw[av];rfl);rw[ag<|a7 (C b o q) nx,ag<|a7 (C b o q) nx,ag<|a7 (C b o q) D];exact C b o q
 refine au _ xz ⟨xz,⟨_,xz,bQ (λe=>?_) λn6=>?_⟩⟩
 .cases str_inj e;refine vr xz λx dx nx D N=>⟨x,t.vz,dx,[],a,.str N_ :: ps,xz,av,T.Dn,T.ah5,qc,?_,xz,?_⟩
  .rw[ag<|a7 (C _ _ ha) nx,ag<|a7 (C _ _ ha) D];exact C _ _ ha
  refine k x _ _ (λb o q=>?_) (C.free nx) (by rw[av];rfl);rw[ag<|a7 (C b o q) nx,ag<|a7 (C b o q) nx,ag<|a7 (C b o q) D];exact C b o q
 have amH:=aeL L (M n1) (M n2) (M n3) (M n4) (M n5)<|M n6;subst amH;obtain⟨F,G,I⟩:=Bp L (bs:=[4,121]) (by unfold dX;rw[dt dk,dt dk,dt dk,dt dk,dt dk,dt dk,dL rfl]);subst I;refine vr xz λx dx nx D N=>⟨x,dx,a,[.str Y_,F,G],F,G,xz,av,?_,xz,xz,xz,?_⟩
 .rw[ag<|a7 (C _ _ ha) nx,ag<|a7 (C _ _ ha) D];exact C _ _ ha
 refine k x _ _ (λb o q=>?_) (C.free nx) (by rw[av];rfl);rw[ag<|a7 (C b o q) nx,ag<|a7 (C b o q) nx,ag<|a7 (C b o q) D];exact C b o q
end
end TL
namespace L2
section
variable{X:Cx}
def len_K(K:u_)(h:autoParam (X.K=K) a3):kP X (.builtin "len") (λxs H Q=>∃p ys,xs=[.ref p]/\(ao K H p ys\/aF K H p ys)/\Q (.int ys.length) H):=by subst h;exact dE
def DZ(K:u_)(h:autoParam (X.K=K) a3):Ex X (BE K):=by subst h;exact cG
def zC(K:u_)(h:autoParam (X.K=K) a3):Ex X (D9 K):=by subst h;exact cw
def akZ(K:u_)(h:autoParam (X.K=K) a3):Jx X (ZV K):=by subst h;exact N2
def alJ(K:u_)(a:PE X e ta)(b:yM e f X.env (eval e X.env)=eval e X.env)(h:autoParam (X.K=K) a3):PE X (.Attribute e f pos) (PN K ta f):=by subst h;exact bT a b
end
end L2
namespace L2
end L2
namespace L2
open L3
def IH(h:i_)(e:e_)(b:f_)(dd:Option e_)(tb:f_):Prop:=
 ∃a vs a0,h.get? e=a_ a/\a.cls=b/\a.dict=dd/\a.data=.fields vs/\vs[0]?=a_ a0/\vs[1]?=a_ tb/\(b≠.ref mQ->vs[2]?=a_ .none)
def mC(h:i_)(e T:e_)(b:f_):Prop:=T≠e/\∃a ts,h.get? T=a_ a/\a.data=.fields ts/\ts[3]?=a_ b
def EA(h:i_)(e:e_)(a:f_)(dd:Option e_)(tb:Option e_):Prop:=
 IH h e a dd (tb.elim .none bV)/\∀T,tb=a_ T->mC h e T .none
def Qm(h:i_)(e:e_)(a:f_)(dd:Option e_)(T:e_)(b:f_):Prop:=IH h e a dd (.ref T)/\mC h e T b
def ae7(o:bE)(f:Array f_->Array f_):(o.mapFields f).dict=o.dict:=by
 obtain⟨c,d,a,s⟩:=o;cases a <;> rfl
section
variable{M:bL}{A:h_}{E:f_->g_->Prop}{s:g_}{fi:i_}{env:Env}{outer:List Env}{L e:e_}{cls:f_}{dd:Option e_}{Q:Unit->g_->Prop}
def Vb(r:A.frames=a_ (env::outer))(d:s.heap.FunFrames fi (env::outer))(t:env.frame=a_ L)(q:s.heap.get? e=a_ oe)(u:oe.cls=cls)(v:oe.dict=dd)
  (hd:oe.data=.fields vs) (w:vs[0]?=a_ a0) (f:1<vs.size) (x:cls≠.ref mQ->vs[2]?=a_ .none)
  (k:∀h' T,(∀b o,b∉kX (env::outer)->b≠e->s.heap.get? b=a_ o->h'.get? b=a_ o)->(∀b o,s.heap.get? b=a_ o->b≠e->∃sl,h'.get? b=a_ {o with slots:=sl})->s.heap.objs.size<=T->
   Qm h' e cls dd T (bv L)->Q () {s with heap:=h'}) :
  am M A (do let a <-frameOf env;let pl <-entryPlaceOf L had;let b <-abR head a .none (bv L) .none pl;setField (.ref e) 1 b) Q E s:=by
 have y:e∉kX (env::outer):=λz=>by
  refine oA (d.mem z) λ_ B=>aq B λo g C=>?_;rw[q]at g;cases g;exact C _ hd
 refine ah (wpAny_frameOf_fun r d t λh1 c=>ah<|wpAny_entryPlaceOf λpl h=>?_);unfold abR newFields;refine ah<|p0 ?_<|h.sizeOk5 _ _ _ _ _;have i:=(c.2.1 e y).f4 q;generalize j:({cls:=.type _,dict:=b_,data:=.fields ([head,.ref L,.none,bv L,.none]++(if pl.isEmpty then eQ 6 _ else pl)).toArray}:bE)=ot;have l:(h1.push ot).get? e=a_ oe:=bh _ i;refine AU l hd f ?_;have m:=tJ<|bH i;have p:=AN hd (·.setIfInBounds 1 (bV h1.objs.size));have D:=Cv _ l<|KG p;have fr:ot.isFreed=false:=by rw[<-j];rfl
 have F:((h1.push ot).update e<|wU (·.setIfInBounds 1 (bV h1.objs.size))).get? h1.objs.size=a_ ot:=by
  rw[yA _ _<|b8 m];exact dU _ fr
 have kp:∀b o,b≠e->h1.get? b=a_ o->((h1.push ot).update e<|wU (·.setIfInBounds 1 (bV h1.objs.size))).get? b=a_ o:=λb o n z=>by
  rw[yA _ _<|b8 n];exact bh _ z
 refine k _ _ (λb o G n z=>kp b o n<|(c.2.1 b G).f4 z) (λb o z n=>oE (c.2.2 b o z) λsl H=>⟨sl,kp b _ n H⟩) (mY c.1.f5)<|eM ⟨_,_,a0,D,?_,?_,p,?_,?_,λz=>by rw[SY qc];exact x z⟩ m ⟨ot,_,F,by rw[<-j],?_⟩
 .rw[TF];exact u
 .rw[ae7];exact v
 .rw[SY qc];exact w
 .simp[f]
 .first | (simp;done) | (rcases h with rfl | ⟨_,_,_,_,_,_,_,rfl⟩ <;> simp)
def Vz(j:A.frames=a_ (env::outer))(l:s.heap.FunFrames fi (env::outer))(h:env.frame=a_ L)(x:EA s.heap e cls dd tb)(k:∀h' T,(∀b o,b∉kX (env::outer)->b≠e->tb≠a_ b->s.heap.get? b=a_ o->h'.get? b=a_ o)->(∀b o,s.heap.get? b=a_ o->b≠e->tb≠a_ b->∃sl,h'.get? b=a_ {o with slots:=sl})->s.heap.objs.size<=T->Qm h' e cls dd T (bv L)->Q () {s with heap:=h'}):am M A (noteFrame (.ref e) env) Q E s:=by
 refine oA x λf D=>fE f λH vs a0 q m f=>oj f λp hd r h1 t=>?_;have u:=(Kv.mp h1).1;unfold noteFrame;simp only[h];cases tb with
 | none=>
  refine ah<|jS q hd h1 ?_;rw[dt qc];exact Vb j l h q m p hd r u t λh' T a b c d=>k _ T (λx o y z _=>a x o y z) (λx o y z _=>b x o y z) c d
 | some T0=>
  refine oA (D _ xz) λF f=>cZ f λI ts i dT B=>ah<|jS q hd h1 ?_;show am M A _ Q E s;rw[dL (by simp)];refine ah<|jS i dT B ?_;rw[dt (show ¬((jt==bv L)=c_) by simp[bv])];refine ah<|AU i dT (Kv.mp B).1 ?_;have g:∀b,b≠T0->(s.heap.update _<|wU (·.setIfInBounds 3 jt)).get? b=s.heap.get? b:=λb n=>yA _ _<|b8 n;refine Vb j (l.of_keeps λb o z G=>⟨o,(g b λw=>?_).f4 z,xz⟩) h ((g e<|b8 F).f4 q) m p hd r u t λh' T a b c d=>?_
  .rw[w,i]at z;cases z;exact G _ dT
  refine k _ T (λx o y z n w=>a x o y z<|(g x λv=>n<|by rw[v]).f4 w) (λx o w z n=>b x o ((g x λv=>n<|by rw[v]).f4 w) z) ?_ d;have C:=c;rw[Heap.size_after_update]at C;exact C
def LK(x:Qm s.heap e cls dd T fl)(k:∀h',(∀b o,b≠T->s.heap.get? b=a_ o->h'.get? b=a_ o)->EA h' e cls dd (a_ T)->Q () {s with heap:=h'}):am M A (setFlight (.ref e) b_) Q E s:=by
 refine du x λa c i=>fE a λj vs a0 q l a=>oj a λm hd p h1 r=>cZ i λu ts d dT t=>?_;have g:=(Kv.mp t).1;unfold setFlight;refine ah<|jS q hd h1 ?_;rw[dL (show (bV T != jt)=c_ by simp)];have h:∀b,b≠T->(s.heap.update T<|wU (·.setIfInBounds 3 ((b_:Option _).elim jt λf=>bv f))).get? b=s.heap.get? b:=λb n=>yA _ _<|b8 n;refine AU d dT g<|k _ (λb o n z=>(h b n).f4 z) ⟨⟨j,vs,a0,(h e<|b8 c).f4 q,l,m,hd,p,h1,r⟩,λv z=>?_⟩;cases z;exact⟨c,⟨_,_,Cv _ d<|KG<|AN dT _,AN dT _,by simp[g]⟩⟩
end
def kZ(P:k_)(w:j_):uB:=λouter H s E e a=>∃ea c dd T H',e=.ref ea/\a.os=s.os/\AllBare a.gens/\Un (kX outer) [] H H' s.heap a.heap/\dR P w H' a.heap/\EA a.heap ea c dd (a_ T)/\
 s.heap.objs.size<=ea/\s.heap.objs.size<=T/\H' ea=b_/\H' T=b_/\E c dd H'
structure HM(X:Cx)(p_:List (e_×bE))(σ:St)(H:Hp)(s:g_)(ea:e_)(c:f_)(dd tb:Option e_):Prop where
 inv:cP X p_ σ H s
 QR:EA s.heap ea c dd tb
 fe:gw X p_ H ea
 ft:∀T,tb=a_ T->gw X p_ H T
abbrev WX:=St->XK
def BC(X:Cx)(W:WX):Prop:=∀(p_:List (e_×bE))(σ:St)(H:Hp)(s:g_)(ea:e_)(c:f_)(dd tb:Option e_),HM X p_ σ H s ea c dd tb->W σ c dd H->X.xe (.ref ea) s
section
variable{X:Cx}{p_:List (e_×bE)}{σ:St}{H:Hp}{s:g_}
def VH{h':i_}{ch:List e_}(I:cP X p_ σ H s)(a:∀b∈ch,H b=b_)(k:∀b o,b∉kX X.stack->b∉ch->s.heap.get? b=a_ o->h'.get? b=a_ o):dR X.prog X.w H h':=λb u e=>by
 refine(I.aE b u e).ou (λd v hd q=>k d v (λz=>?_) (λz=>?_) q) (λ_ q=>q) λ_ _ q=>q
 .have n:=I.G6 d z;obtain w|w:=hd
  .rw[w,e]at n;cases n
  rw[w]at n;cases n
 have n:=a d z;obtain w|w:=hd
 .rw[w,e]at n;cases n
 rw[w]at n;cases n
def agk{P:k_}{w:j_}{K:u_}{mg:bx->Option f_}{fi:i_}{N:List bx}{qual:bx}{scope:bK}{f:e_}{cd:f_}{A:h_}{outer:List Env}{a:g_}{H0:Hp}{E:XK}:BC (qB (kZ P w) P w K mg fi N qual scope f cd A outer a H0 E) (λ_=>E):=by
 intro p_ σ H s ea c dd tb x J;show am _ _ _ _ _ s;have I:=x.inv
 have v:a.heap.objs.size<=ea:=by
  obtain z|z:=x.fe.2.2.2.1
  .exact dV (show ea∈([]:List _) from z) (by simp)
  exact z
 have L:∀T,tb=a_ T->a.heap.objs.size<=T:=λT z=>by
  rcases(x.ft T z).2.2.2.1 with y | y
  .exact dV (show T∈([]:List _) from y) (by simp)
  exact y
 unfold leaving;refine ah (Vz I.ok.frames I.stack xz x.QR λh1 T B C i M=>LK M λh2 j O=>?_);have k:∀{b:e_}{o:bE},a.heap.get? b=a_ o->b<a.heap.objs.size:=bH;have D:=I.sz;have m:∀{b:e_},b<a.heap.objs.size->b≠T:=λh z=>dV (f7 h<|cF D i)<|z▸jR _;have p:∀{b:e_},b<a.heap.objs.size->b≠ea:=λh z=>dV (f7 h v)<|z▸jR _;have r:∀{b:e_},b<a.heap.objs.size->tb≠a_ b:=λh z=>dV (f7 h<|L _ z)<|jR _
 have Q:∀{b:e_},b<a.heap.objs.size->b∉kX outer->b∉kX (cr qual scope a.heap.objs.size f cd::outer):=λh z y=>by
  obtain u|u:=I.Ht _ y |> bq.mp
  .exact dV h (u▸jR _)
  exact z u
 have R:∀{b:e_}{o:bE},s.heap.get? b=a_ o->b≠T:=λe z=>dV (f7 (bH e) i)<|z▸jR _
 have S:dR P w H h2:=by
  refine VH (ch:=ea::tb.toList) I (λb d=>?_) λb o d F e=>j b o (R e)<|B b o d (λz=>F<|by rw[z];exact gg) (λz=>F<|eI _<|by rw[z];simp) e;obtain z|z:=bq.mp d
  .rw[z];exact x.fe.1
  cases tb with
  | none=>simp at z
  | some T0=>
   have U:b=T0:=by simpa using z
   rw[U];exact(x.ft _ xz).1
 refine⟨ea,c,dd,T,H,xz,I.os,I.bare,⟨λb o e n d g=>?_,λb o e n d g=>?_,I.base.free,λb o e g=>?_,I.base.pD,I.base.oC,I.base.oq⟩,S,O,v,(cF D i),x.fe.1,⟨I.aE.fresh i,J⟩⟩
 .have l:=k e;exact j b o (m l)<|B b o (Q l d) (p l) (r l)<|I.base.keep b o e n d g
 .have l:=k e;exact oE (I.base.slot b o e n d g) λsl q=>oE (C b _ q (p l)<|r l) λG t=>⟨G,j b _ (m l) t⟩
 have l:=k e;exact oE (I.base.there b o e g) λo' q=>oE (C b _ q (p l)<|r l) λG t=>⟨_,j b _ (m l) t⟩
def ad4(I:cP X p_ σ H s)(h:kZ X.prog X.w X.stack H s E e s'):∃ea c dd T H',e=.ref ea/\HM X p_ σ H' s' ea c dd (a_ T)/\E c dd H':=by
 obtain⟨ea,c,dd,T,H',a,os,bare,un,aE,d⟩:=h;subst a;exact qk d λf l1 l2 n1 g q=>⟨ea,c,dd,T,H',xz,⟨I.Pp os un aE bare λb z=>dV z (by simp),f,I.gX l1 n1,λi z=>by cases z;exact I.gX l2 g⟩,q⟩
end
def aiU(sp:Sp)(a:List V)(W:WX)(t:TA):TE:=λσ H Q=>t σ H λvs b=>sp (vs++a) b Q<|W σ
section
variable{X:Cx}{k:Nat}{f C:e_}{fd:lz}{ps:List bx}{sp:Sp}{dvs:List V}{ds:List f_}{W:WX}{x m:bx}{p pos apos:Pos}{e o:b4}{es:List b4}{ta:TE}{t:TA}{P:k_}{w:j_}
def ahr(F:aM X.prog X.w X.K X.mg X.base (kZ X.prog X.w) k f fd ps sp)(d:eE k X.A)(g:d5 X.K fd ps ds)(hd:d4 dvs ds)(i:BC X W)(I:cP X p_ σ H s)(r:d4 vs us)(h:sp (vs++dvs) H Q (W σ)):am (ap X.prog X.w) X.A (call (.ref f) us) (EP X p_ σ Q) X.xe s:=by
 have r2:=r.append hd;have j:(us++ds).length=ps.length:=by rw[<-r2.length];exact F.len _ _ _ _ h
 refine A8 (AY (F.run _ _ s H ⟨us,[]⟩ _ _ Q _ d I.IA (g s _ I.dI j) r2 h) λr q a=>?_);cases r with
 | error e=>
  refine f9 (ad4 I a) λea c dd T H' b=>du b λb x l=>?_;subst b;exact i _ _ _ _ _ _ _ _ x l
 | ok n=>
  cases n with
  | ret u=>exact I.after a
  | next=>exact i9 a
  | brk=>exact i9 a
  | cont=>exact i9 a
def MQ(F:aM P w X.K X.mg X.base (kZ P w) k f fd ps sp)(b:eE k X.A)(c:BC X W)(d:Gl X x)(hm:X.mg x=a_ (.ref f))(g:x_ X.K (.ref f)=c_)(i:d5 X.K fd ps ds)(hd:d4 dvs ds)
  (ha:PA X (e::es) t) (j:autoParam (X.prog=P) a3) (hw:autoParam (X.w=w) a3) (l:autoParam ((x==("__debug__":bx))=false) a4) (n:autoParam (bY (e::es) X.env=(d_,eval e X.env)::bY es X.env) a3) (u:autoParam ((bc pos<|bY es X.env).any (·.1)=false) a3) :
  PE X (.Call (.Name x p) (e::es) [] pos) (aiU sp dvs W t):=by
 subst j hw;intro p_ s σ H Q I h;refine sX<|zh I d hm ?_ l;refine G_ I.ok.mod.se g (zT (ha _ _ s _ H _ I h) λus s1 vs v a r q=>⟨a.dI,?_⟩) n u;exact ahr F b i hd c a r q
end
section
variable{P:k_}{w:j_}{K:u_}{mg:bx->Option f_}{fi:i_}
def aW.QM{st:aK}{k:Nat}{sp:Sp}(F:aW K x qual st f fd)(S:bj N ps (aU st))
  (b:∀(aN:f_)(A:h_)(outer:List Env)(s:g_)(H:Hp)(vs:List V)(Q:VK)(E:XK),eE k (A.deeper<|cr qual (aU st) s.heap.objs.size f aN)->
   BC (qB (kZ P w) P w K mg fi N qual (aU st) f aN A outer s H E) (λ_=>E)->
   eU (ap P w) (A.deeper<|cr qual (aU st) s.heap.objs.size f aN) (cr qual (aU st) s.heap.objs.size f aN) (qB (kZ P w) P w K mg fi N qual (aU st) f aN A outer s H E).xe->sp vs H Q E->
   ∃t,fH (qB (kZ P w) P w K mg fi N qual (aU st) f aN A outer s H E) (jV st) t/\t {nx:=λ_ H'=>Q .aJ H',rt:=Q} (start N vs) H) (len:∀vs H Q E,sp vs H Q E->vs.length=ps.length:=by intro _ _ _ _ h;(repeat obtain⟨_,h⟩:=h);subst_vars;rfl):aM P w K mg fi (kZ P w) (k+1) f fd ps sp:=by
 refine f9 F.ex λoc od kV doc pm a=>kL a λan aN ct jz a c=>?_;subst a;exact oA c λd e=>xK d e S len λA outer s H vs Q E g i=>b _ A _ s H _ Q E g agk eU.leaving i
end
end L2
namespace L2
open L3
open Sem (wp)
def Jv(h:i_)(C:e_)(c:Option f_):Prop:=∃nm q N bs a d sn sub e f dd k0 g i j k b,h.get? C=a_ (excClassObj nm q C N bs a d sn sub e f dd k0 g i j k "ValueError.__new__")/\h.Ns N b/\b "__init__"=c/\OwnTail h BJ a
section
variable{prog:k_}{w:j_}{A:h_}{E:f_->g_->Prop}{h:i_}{g:Array GenState}{d:Drawn}{t:Nat}{os:bt}{C:e_}
noncomputable abbrev newX(C t:e_):bE:={cls:=.ref C,data:=.fields #[.ref t,.none,.none,.none,.bool d_,.none]}
noncomputable abbrev Ea(us:List f_):bE:={cls:=.type "tuple",data:=.seq us.toArray}
end
section
variable{M:bL}{A:h_}{E:f_->g_->Prop}{s:g_}{env:Env}{C:e_}
def adA(i:A.handled=b_)(k:am M A x (λv s1=>∃e a vs a0 c,v=.ref e/\Jv s1.heap C c/\s1.heap.get? e=a_ a/\a.cls=.ref C/\a.data=.fields vs/\vs[0]?=a_ a0/\vs[1]?=a_ .none/\E (.ref e) s1) E s):am M A (raiseStmt env (a_ x) b_) Q E s:=by
 unfold raiseStmt;refine ah (gn k (λv s1 z=>?_) λ_ _ y=>y);obtain⟨e,a,vs,a0,c,b,j,l,f,hd,m⟩:=z;subst b;refine wX j λnm q N bs n r sn sub t u b=>f9 b λdd k0 w B D b=>iG b λF G h H hi T=>du m λI h1 o=>?_;have p:(bV C::n).contains (.type "BaseException")=true:=by rw[List.contains_cons,T.hasType (show BJ.contains (.type "BaseException")=c_ from xz),Bool.or_true]
 obtain⟨oc,od,J,jz⟩:=a;dsimp only at f hd;subst f hd;obtain⟨K,g,d,tk,os⟩:=s1
 repeat (first | (with_reducible refine CF l ?_) | (with_reducible refine CF h ?_) | (with_reducible refine wpAny_isSubtype_exc h ?_;rw[p]) | wp_step)
 rw[h1];refine aI ?_;rw[dt qc];exact aI<|wpAny_raiseNew_none i o
end
end L2
namespace L2
open L3
section
variable{M:bL}{A:h_}{E:f_->g_->Prop}{s:g_}
def adQ{K:u_}(X:K.In s.heap)(e:IH s.heap ea c dd tb)(f:y_ K c cv=a_ b)(h:y_ K cv (.type "BaseException")=a_ c_)(a:Q b s):am M A (excMatches (.ref ea) cv) Q E s:=by
 refine du (PySem.W.kit_cls (M:=M) X f) λl1 l2 l3=>du (PySem.W.kit_cls (M:=M) X h) λ_ _ i=>fE e λl vs a0 q j _=>?_;have k:=tc_notTuple;unfold excMatches Gd;refine ah<|ah<|l1.at ?_;rw[k];refine aI ?_;rw[dt dW];refine ah<|aI ?_;simp only[AS];unfold isExcClass;refine ah<|ah<|ah<|ah<|l2.at ?_;rw[dL rfl];refine i.at ?_;simp only[Bool.not_true,yF];refine aI<|aI ?_;obtain⟨m,g,d,tk,os⟩:=s;unfold typeOf;refine ah<|ah<|CF q<|aI ?_;rw[j];refine ah<|ah<|ah<|l3.at ?_;cases b with
 | true=>exact aI<|aI<|aI a
 | false=>exact aI<|aI<|aI a
end
noncomputable abbrev Cx.body(X:Cx)(pn:List (e_×bE))(E:f_->g_->Prop):Cx:={X with pn:=pn,xe:=E}
noncomputable abbrev Cx.qq(X:Cx)(ea:e_)(pn:List (e_×bE)):Cx:={X with A:=X.A.mark<|a_<|.ref ea,calm:=d_,pn:=pn,xe:=λ_ _=>False}
section
variable{X:Cx}{p_ pl:List (e_×bE)}{σ:St}{H:Hp}{s:g_}{ea:e_}{E:f_->g_->Prop}
def ahJ(ok:X.Ok)(pn:List (e_×bE))(E:f_->g_->Prop):(X.body pn E).Ok:=
 ⟨ok.mod,ok.kind,ok.glob,ok.blt,ok.above,ok.inj,ok.has,ok.uA,ok.hd,ok.frames,ok.v3,ok.sg,ok.bs,ok.mH,ok.ug,ok.rW,ok.lH,ok.qH⟩
def aeq(ok:(X.body pn E).Ok):X.Ok:=
 ⟨ok.mod,ok.kind,ok.glob,ok.blt,ok.above,ok.inj,ok.has,ok.uA,ok.hd,ok.frames,ok.v3,ok.sg,ok.bs,ok.mH,ok.ug,ok.rW,ok.lH,ok.qH⟩
def afQ(ok:X.Ok)(ea:e_)(pn:List (e_×bE)):(X.qq ea pn).Ok:=
 ⟨ok.mod,ok.kind,ok.glob,ok.blt,ok.above,ok.inj,ok.has,ok.uA,λz=>(by cases z),ok.frames,ok.v3,ok.sg,ok.bs,ok.mH,ok.ug,ok.rW,ok.lH,ok.qH⟩
def cP.body(I:cP X p_ σ H s)(E:f_->g_->Prop):cP (X.body (X.pn++p_) E) [] σ H s:=
 ⟨ahJ I.ok _ E,I.os,I.bare,I.base,I.loc,I.cell,I.free,I.jg,λp a=>I.pin p (by simpa using a),I.aE,I.len⟩
def cP.zo(I:cP (X.body (X.pn++p_) E) pl σ H s):cP X p_ σ H s:=
 ⟨aeq I.ok,I.os,I.bare,I.base,I.loc,I.cell,I.free,I.jg,λp a=>I.pin p<|jo _ a,I.aE,I.len⟩
def cP.qq(I:cP X p_ σ H s)(ea:e_):cP (X.qq ea<|X.pn++p_) [] σ H s:=
 ⟨afQ I.ok ea _,I.os,I.bare,I.base,I.loc,I.cell,I.free,I.jg,λp a=>I.pin p (by simpa using a),I.aE,I.len⟩
def cP.GY(ok:X.Ok)(I:cP (X.qq ea<|X.pn++p_) pl σ H s):cP X p_ σ H s:=
 ⟨ok,I.os,I.bare,I.base,I.loc,I.cell,I.free,I.jg,λp a=>I.pin p<|jo _ a,I.aE,I.len⟩
def gw.body(f:gw (X.body (X.pn++p_) E) pl H b):gw X p_ H b:=
 ⟨f.1,f.2.1,f.2.2.1,f.2.2.2.1,f.2.2.2.2.1,λp a=>f.2.2.2.2.2 p<|jo _ a⟩
def SP.zo(h:SP (X.body (X.pn++p_) E) pl D f s):SP X p_ D f s:=by
 cases f with
 | next=>obtain⟨a,H',I,q⟩:=h;exact⟨a,H',I.zo,q⟩
 | brk=>obtain⟨a,H',I,q⟩:=h;exact⟨a,H',I.zo,q⟩
 | cont=>obtain⟨a,H',I,q⟩:=h;exact⟨a,H',I.zo,q⟩
 | ret u=>obtain⟨v,a,H',I,r,q⟩:=h;exact⟨v,a,H',I.zo,r,q⟩
def aeJ(j:X.stack=X.env::X.outer)(u:X.env.frame=a_ X.env.locals)(x:HM X p_ σ H s ea c dd tb)(k:∀h' T,cP X p_ σ H {s with heap:=h'}->EA h' ea c dd (a_ T)->gw X p_ H ea->gw X p_ H T->Q () {s with heap:=h'}):am (ap X.prog X.w) X.A (noteFrame (.ref ea) X.env) (λ_ s2=>am (ap X.prog X.w) X.A (setFlight (.ref ea) b_) Q E' s2) E' s:=by
 have I:=x.inv;have st:=I.stack;have fr:=I.ok.frames;rw[j]at st fr;refine Vz fr st u x.QR λh1 T v y i B=>LK B λh2 l C=>?_;have m:∀{b:e_}{o:bE},s.heap.get? b=a_ o->b≠T:=λe z=>dV (f7 (bH e) i)<|z▸jR _
 have d:∀b∈ea::tb.toList,gw X p_ H b:=λb a=>by
  obtain z|z:=bq.mp a
  .rw[z];exact x.fe
  cases tb with
  | none=>simp at z
  | some T0=>
   have D:b=T0:=by simpa using z
   rw[D];exact x.ft _ xz
 have n1:∀{b:e_},b∉ea::tb.toList->b≠ea:=λh z=>h<|z▸gg;have p:∀{b:e_},b∉ea::tb.toList->tb≠a_ b:=λh z=>h<|eI _ (by rw[z];simp);have r:=λb o a f e=>l b o (m e)<|v b o (by rw[<-j];exact a) (n1 f) (p f) e
 have t:∀b o,b∉ea::tb.toList->s.heap.get? b=a_ o->∃sl,h2.get? b=a_ {o with slots:=sl}:=λb o f e=>by
  exact oE (y b o e (n1 f)<|p f) λsl q=>⟨sl,l b _ (m e) q⟩
 have F:cP X p_ σ H {s with heap:=h2}:=I.call (g':=s.gens) (d':=s.drawn) (t':=s.toks) (ch:=ea::tb.toList)
  ⟨λb o e n a g=>r b o a g e,λb o e n a g=>t b o g e,λ_ _ _ n _=>n,λb o e g=>let ⟨sl,q⟩:=t b o g e;⟨_,q⟩,λ_ _ e=>e,λ_ _ _ e=>e,λb ps e=>⟨#[],by rw[e];simp⟩⟩
  (VH I (λb a=>(d b a).1) r) I.bare λb a=>⟨(d b a).2.2.2.1,(d b a).2.1,(d b a).2.2.2.2.1,(d b a).2.2.2.2.2⟩
 exact k _ T F C x.fe<|I.gX i<|I.aE.fresh i
end
def uw(ea:e_)(c:f_)(dd:Option e_):HO:=.ext λh=>∃o vs,h.get? ea=a_ o/\o.cls=c/\o.dict=dd/\o.data=.fields vs
def aj0{P:k_}{w:j_}(x:IH h ea c dd tb):dj P w H h ea (uw ea c dd):=by
 exact fE x λa vs a0 q b d=>du d λf hd _=>eM ⟨a,vs,q,b,f,hd⟩ ⟨a,q⟩ λh1 h2⟨o,vs,e,r⟩k=>⟨o,vs,k o e,r⟩
section
variable{X:Cx}{p_:List (e_×bE)}{σ:St}{H:Hp}{s:g_}
def Hn(I:cP X p_ σ H s)(C:X.N.Nodup)(hi:X.N[i]?=a_ n)(D:X.env.scope.names.lookup n=a_ .local)
  (k:∀x,cP X p_ (σ.set i b_) H x->Q () x):am M A (do bindName X.env n .none;unbindBehindTheSuite X.env n pos) Q E s:=by
 refine aq (id I.loc) λm hn F=>?_;have G:(X.env.scope.kind==.class||(X.env.scope.kind==.module&&X.env.locals != X.env.globals))=false:=by rw[I.ok.kind];rfl
 have J:i < σ.length:=by rw[I.len];exact(bu.mp hi).1
 refine wpAny_nameGoes_keeps D hn G λh' v K a=>k _ ?_;have h:∀{b:e_}{o:bE},X.s₀.heap.get? b=a_ o->b≠X.env.locals:=λe=>dg<|f7 (bH e) I.ok.above;refine⟨I.ok,I.os,I.bare,⟨λb o e n l f=>(a.2 b<|h e).f4<|I.base.keep b o e n l f,λb o e n l f=>let ⟨sl,q⟩:=I.base.slot b o e n l f;⟨sl,(a.2 b<|h e).f4 q⟩,I.base.free,λb o e f=>let ⟨o',q⟩:=I.base.there b o e f;⟨o',(a.2 b<|h e).f4 q⟩,I.base.pD,I.base.oC,I.base.oq⟩,⟨_,K,λj y R B g L=>?_⟩,λy c e=>let ⟨u,z⟩:=I.cell y c e;⟨u,z.sameBut a<|I.wj y c e⟩,I.free,I.jg,λp O=>let ⟨e,n,ne,r⟩:=I.pin p O;⟨(a.2 _ ne).f4 e,n,ne,r⟩,λb u e=>?_,by simpa using I.len⟩
 .by_cases t:j=i
  .subst t;rw[lU J]at g;cases g
  rw[Cw<|b8 t]at g;refine aq (F j y _ B g L) λu r q=>au u r ?_;obtain⟨kd,e⟩|⟨kd,c,e,z⟩:=q
  .refine .inl ⟨kd,?_⟩;have P:y≠n:=λz=>t<|MS C B<|z ▸ hi;show (if y=n then v else m y)=a_ u;rw[dt P];exact e
  exact .inr ⟨kd,⟨c,e,z.sameBut a<|I.wj y c e⟩⟩
 refine(I.aE b u e).ou (λd w hd q=>(a.2 d λz=>?_).f4 q) (λ_ q=>q) λ_ _ q=>q;have fr:=I.free;rw[<-z]at fr;obtain y|y:=hd
 .rw[y,e]at fr;cases fr
 rw[y]at fr;cases fr
end
def aiN(K:u_)(d:f_)(i:Nat)(tb:WX->TS)(ts:TS):TS:=λD σ H=>tb (λe c dd H'=>y_ K c d=a_ c_/\
 ∀ea,H' ea=b_->ts ⟨λa b=>D.nx (a.set i b_) b,D.rt,λa b=>D.bk (a.set i b_) b,λa b=>D.ct (a.set i b_) b⟩ (e.set i<|a_<|.ref ea) (cB H' ea<|uw ea c dd)) D σ H
section
variable{X:Cx}{body:List aK}{b0:aK}{qq:List aK}{x n:bx}{np qC pos:Pos}{tb:WX->TS}{ts:TS}{cv:f_}{i:Nat}
def afI(B:X.stack=X.env::X.outer)(C:X.env.frame=a_ X.env.locals)(F:X.ex=[])(d:X.N.Nodup)(hi:X.N[i]?=a_ n)(b:X.env.scope.names.lookup n=a_ .local)
  (G:Gl X x) (hm:X.mg x=a_ cv) (L:y_ X.K cv (.type "BaseException")=a_ c_)
  (M:∀(W:WX)(pn:List (e_×bE))(E:f_->g_->Prop),BC (X.body pn E) W->eU (ap X.prog X.w) X.A X.env E->fH (X.body pn E) body (tb W))
  (O:∀(ea:e_)(pn:List (e_×bE)),fH (X.qq ea pn) (b0::qq) ts) (P:autoParam ((x==("__debug__":bx))=false) a4) :
  PS X (.Try body [.ExceptHandler (a_<|.Name x np) (a_ n) (b0::qq) qC] [] [] pos) (aiN X.K cv i tb ts):=by
 intro p_ s σ H D I h;have ok:=I.ok;refine wpAny_Try_except (gn (M _ _ _ ?_ eU.looking [] s _ H D (I.body _) h) (λf s1 q=>?_) λ_ _ y=>y)
 ·-- the exception
  intro pl σ1 H1 s1 ea c dd Q g k;refine oA k λR k=>?_;have S:HM X _ _ _ _ _ c _ Q:=⟨g.inv.zo,g.QR,g.fe.body,λT z=>(g.ft T z).body⟩;refine aeJ B C S λh' T p l fe e=>?_;have t:=p.qq ea;refine wpAny_handleBy_cons (codeAny_handlers_test<|zh t G hm ?_ P) (by intro z;cases z);refine adQ t.dI l.1 R L<|codeAny_handlers_suite_as (LK ⟨l.1,l.2 T xz⟩ λh3 U V=>?_);have Y:=cP.turned (s:={s1 with heap:=h'}) (t':=s1.toks) p (U) e.1 e.2.1 e.2.2.2.1 e.2.2.2.2.1 e.2.2.2.2.2
  have Z:X.s₀.zS<=ea:=by
   obtain z|z:=fe.2.2.2.1
   .rw[F]at z;exact dV z (by simp)
   exact z
  have I5:=cP.adopt Y fe.1 Z fe.2.1 fe.2.2.2.2.1 fe.2.2.2.2.2<|aj0 V.1;have I6:=I5.qq ea;refine Mu (X:=X.qq _<|X.pn++p_) (v:=.ref _) I6 d hi (.inl b) xz (λs4 I7=>?_)<|.inr b;refine gn (O _ _ [] s4 _ _ _ I7 (k _ fe.1)) (λf s5 q=>?_) λ_ _ z=>i9 z;cases f with
  | next=>obtain⟨m,H',J,q⟩:=q;exact Hn (cP.GY ok J) d hi b λo a=>⟨_,_,a,q⟩
  | brk=>obtain⟨m,H',J,q⟩:=q;exact Hn (cP.GY ok J) d hi b λo a=>⟨_,_,a,q⟩
  | cont=>obtain⟨m,H',J,q⟩:=q;exact Hn (cP.GY ok J) d hi b λo a=>⟨_,_,a,q⟩
  | ret u=>obtain⟨v,m,H',J,r,q⟩:=q;exact Hn (cP.GY ok J) d hi b λo a=>⟨v,_,_,a,r,q⟩
 have j:=SP.zo q;cases f with
 | next=>exact CI j
 | brk=>exact j
 | cont=>exact j
 | ret u=>exact j
end
end L2
namespace L2
open PySem.SeqAt
mutual
noncomputable def noDict:bn->Bool
 | .dict _=>d_
 | .list xs=>xg xs
 | .tuple xs=>xg xs
 | _=>c_
noncomputable def xg:List bn->Bool
 | []=>c_
 | x::xs=>noDict x&&xg xs
end
mutual
theorem U3:∀d:bn,noDict d=c_->noMix d d=c_/\same d d=c_
 | .none,_=>⟨xz,xz⟩
 | .bool b,_=>⟨xz,by simp[same]⟩
 | .int i,_=>⟨xz,by simp[same]⟩
 | .str x,_=>⟨xz,by simp[same]⟩
 | .list xs,h=>by
  rw[noMix,same];exact Lq xs (by rw[noDict]at h;exact h)
 | .tuple xs,h=>by
  rw[noMix,same];exact Lq xs (by rw[noDict]at h;exact h)
 | .dict _,h=>by rw[noDict]at h;cases h
theorem Lq:∀xs:List bn,xg xs=c_->GQ xs xs=c_/\sameAll xs xs=c_
 | [],_=>⟨by rw[GQ],by rw[sameAll]⟩
 | x::xs,h=>by
  rw[xg,kE]at h;refine oA (U3 x h.1) λa b=>oA (Lq xs h.2) λc d=>?_;rw[GQ,sameAll,a,b,c,d];exact⟨xz,xz⟩
end
mutual
theorem Uk:∀d:bn,d.canLay0=c_->noDict d=c_
 | .none,_=>rfl
 | .bool b,_=>rfl
 | .int i,_=>rfl
 | .str x,_=>rfl
 | .list xs,h=>by rw[noDict];exact K0 xs (by rw[yJ]at h;exact h)
 | .tuple xs,h=>by rw[noDict];exact K0 xs (by rw[yJ]at h;exact h)
 | .dict _,h=>by rw[yJ]at h;cases h
theorem K0:∀xs:List bn,uV xs=c_->xg xs=c_
 | [],_=>by rw[xg]
 | x::xs,h=>by
  rw[uV,kE]at h;rw[xg,Uk x h.1,K0 xs h.2];rfl
end
def Xk(h:shaped d=c_):noMix d d=c_/\same d d=true:=U3 d<|Uk d<|canLay_of_shaped h
def Wy{K:u_}(e:i3 K H x d)(f:i3 K H y d)(c:shaped d=c_)(q:Q (.bl d_) H):Ir K c_ x y H Q:=by
 refine oA (Xk c) λa b=>⟨d,d,e,f,c,c,a,?_⟩;rw[dL xz,b];exact q
def agF{K:u_}(e:i3 K H x d)(f:i3 K H y d)(c:shaped d=c_)(q:Q (.bl c_) H):Ir K d_ x y H Q:=by
 refine oA (Xk c) λa b=>⟨d,d,e,f,c,c,a,?_⟩;rw[dt dW,b];exact q
theorem C2{c:Type}{f:c->bn}:∀{l:List c},(∀a∈l,(f a).canLay0=c_)->uV (l.map f)=c_
 | [],_=>by simp[uV]
 | a::l,h=>by
  rw[eu,uV,h a gg,C2 λb d=>h b<|eI _ d];rfl
theorem C8{c:Type}{f:c->bn}{k:Nat}:∀{l:List c},(∀a∈l,(f a).depth<=k)->yG (l.map f)<=k
 | [],_=>by simp[yG]
 | a::l,h=>by
  have h1:=h a gg;have h2:=C8 λb d=>h b<|eI _ d;simp only[eu,yG];lia
def adw{b:Type}{f:b->bn}{l:List b}(h1:∀a∈l,(f a).canLay0=c_)(h2:∀a∈l,(f a).depth<=60):shaped (.list<|l.map f)=true:=by
 have d:=C8 h2;unfold shaped;rw[kE];refine⟨by simp only[yJ];exact C2 h1,ee ?_⟩;simp only[yO];exact wb
theorem Mi{b:Type}{K:u_}{F:V->b->Prop}{f:b->bn}{vs}{l:List b}(h:∀v a,F v a->i3 K H v (f a))(g:aA F vs l):nD K H vs (l.map f):=by
 induction g with|nil=>exact .nil|cons g _ t=>exact .cons (h _ _ g) t
def zY(h:i_)(dx:bn)(u:f_):Bool:=@decide (∃d as,Reads h u d as/\vj d dx=c_)<|Te _
def YR(r:Reads h u d as):zY h dx u=vj d dx:=by
 unfold zY;cases e:vj d dx with
 | true=>exact @ee _ (Te _) ⟨d,as,r,e⟩
 | false=>
  refine @eF _ (Te _) ?_;rintro⟨d',c,a,b⟩;refine oA (r.unique _ _ a) λq _=>?_;rw[q,b]at e;cases e
theorem XX:∀{us:List f_}{ds:List bn}{as:List e_},ReadsAll h us ds as->us.any (zY h dx)=ds.any λd=>vj d dx:=λr=>by
 cases r with|nil=>rfl|cons r t=>rw[vf,vf,YR r,XX t]
theorem Xz{A:h_}{s:g_}{v:f_}{dx:bn}{bs:List e_}(b:Reads s.heap v dx bs)(c:shaped dx=c_)(a:A.in1.units+64<cLine):∀{us:List f_}{ds:List bn}{as:List e_},ReadsAll s.heap us ds as->(∀d∈ds,shaped d=c_)->∀u∈us,EqAt A.in1 s u v<|zY s.heap dx u:=λr h u hm=>by
 cases r with
 |nil=>cases hm
 |cons r t=>
  obtain rfl|hm:=bq.mp hm
  .rw[YR r];exact W.keq_at r b (h _<|by simp) c a
  exact Xz b c a t (λd hd=>h d<|eI _ hd) u hm
def anf(K:u_)(a:Bool):R2:=λx y H Q=>∃p xs ds dx,y=.ref p/\ao K H p xs/\nD K H xs ds/\i3 K H x dx/\shaped dx=c_/\(∀d∈ds,shaped d=c_)/\Q (.bl (if a=c_ then !(ds.any λd=>vj d dx) else ds.any λd=>vj d dx)) H
section
variable{X:Cx}
def aeo(l:X.A.units+65<cLine):fo X (ja .NotIn) (anf X.K c_):=by
 intro p_ s σ H x y v u Q I c d h;obtain⟨p,xs,ds,dx,e,f,hd,g,i,j,q⟩:=h;subst e;cases d;refine aP (I.list f) λa r pl m=>oE (hd.reads I r) λas b=>oE (g.reads I c) λbs k=>notIn_listAt (zY s.heap dx) pl.isList (λw hw=>Xz k i (by show X.A.units+1+64<cLine;exact w0) b j w<|by simpa using hw) ⟨.bl _,H,I,xz,?_⟩;rw[show a.toArray.any (zY s.heap dx)=a.any (zY s.heap dx) by simp,XX b];exact q
end
def y8(j:X.A.units+64<cLine):fo X (ja .NotEq) (λx y H Q=>∃a b xs,x=.ref a/\y=.ref b/\H a=a_ (.lst xs)/\H b=a_ (.lst [])/\Q (.bl<|!decide (xs=[])) H):=by
 intro p_ s σ H x y v u Q I d f h;obtain⟨a,b,xs,rfl,rfl,ha,g,q⟩:=h
 by_cases e:xs=[]
 .subst e;refine Ot j p_ s σ H _ _ v u Q I d f ⟨.list [],.list [],.lst (ao.of ha) .nil,.lst (ao.of g) .nil,qc,qc,by simp[noMix,GQ],?_⟩;have c:same (.list []) (.list [])=true:=by simp[same,sameAll]
  rw[dL xz,c];exact q
 cases d;cases f;obtain⟨z,k,n,r,l,c⟩:=I.oB ha;obtain⟨w,B,C,r2,m,i⟩:=I.oB g;rw[eF e]at q;have o:=qU.mp (by rw[<-m];rfl);subst o
 have p:(k.toArray.size != ([]:List f_).toArray.size)=true:=by
  rw[bne_iff_ne,de,<-l];intro t;exact e<|qU.mp t
 show am _ _ (richCompare .NotEq (.ref a)<|.ref b) _ _ s;exact abq ⟨_,c,xz⟩ ⟨_,i,xz⟩ F.slot_list_ne F.entry_list_ne (F.args_list_ne_2 _ _) (list_ne_lengthsAt a b _ _ _ _ _ _ _ _ p) ⟨c,i,(by intro z;cases z),⟨.bl c_,H,I,xz,q⟩⟩ om
def Wu(j:X.A.units+64<cLine):fo X (ja .Eq) (λx y H Q=>∃a b xs,x=.ref a/\y=.ref b/\H a=a_ (.lst xs)/\H b=a_ (.lst [])/\Q (.bl<|decide<|xs=[]) H):=by
 intro p_ s σ H x y v u Q I d f h;obtain⟨a,b,xs,rfl,rfl,ha,g,q⟩:=h
 by_cases e:xs=[]
 .subst e;refine Ys j p_ s σ H _ _ v u Q I d f ⟨.list [],.list [],.lst (ao.of ha) .nil,.lst (ao.of g) .nil,qc,qc,by simp[noMix,GQ],?_⟩;have c:same (.list []) (.list [])=true:=by simp[same,sameAll]
  rw[dt dW,c];exact q
 cases d;cases f;obtain⟨z,k,n,r,l,c⟩:=I.oB ha;obtain⟨w,B,C,r2,m,i⟩:=I.oB g;rw[eF e]at q;have o:=qU.mp (by rw[<-m];rfl);subst o
 have p:(k.toArray.size != ([]:List f_).toArray.size)=true:=by
  rw[bne_iff_ne,de,<-l];intro t;exact e<|qU.mp t
 show am _ _ (richCompare .Eq (.ref a)<|.ref b) _ _ s;exact abq ⟨_,c,xz⟩ ⟨_,i,xz⟩ F.slot_list_eq F.entry_list_eq (F.args_list_eq_2 _ _) (list_eq_lengthsAt a b _ _ _ _ _ _ _ _ p) ⟨c,i,(by intro z;cases z),⟨.bl d_,H,I,xz,q⟩⟩ om
end L2
namespace L2
open PySem.W L3
section
variable{X:Cx}{pz:List (e_×bE)}{σ:St}{H:Hp}{s:g_}{ns:List Int}{kf:Int->Int}{l it sx f:e_}{R:Result->g_->Prop}
def akn(kf:Int->Int)(ns:List Int)(sx:e_)(j:Nat)(h:i_):Prop:=(j=0/\∃c,h.get? sx=a_ (ci "list" #[] c))\/
 (0<j/\∃a b tb c,h.get? sx=a_ (ci "list" #[b,.int (kf a) tb] c)/\d0 (.int a) b/\a∈ns/\∀i n,i<j->ns[i]?=a_ n->kf a<=kf n)
def akl(a:d4 (ns.map V.int) vs){j:Nat}(e:vs[j]?=a_ v):∃n t,ns[j]?=a_ n/\v=.int n t:=by
 have c:=a.length;rw[aG]at c;have g:j<vs.length:=(bu.mp e).1;obtain⟨u,b,t,d⟩:=a.get (i:=j) (x:=.int ns[j]) (by simp[show j<ns.length by exact wg]);rw[e]at b;cases b;exact⟨ns[j],t,aQ (by exact wg),d⟩
def age(hh:X.A.handled=b_)(hl:ao X.K H l (ns.map V.int))(h0:0<ns.length)(Cb:l≠it)(turn:∀(n:Int)(u:f_)(Q:List (e_×bE))(s:g_),n∈ns->d0 (.int n) u->(∀p∈pz,p∈Q)->cP X Q σ H s->am (ap X.prog X.w) X.A.in1 (call (.ref f) [u]) (EP X Q σ λv H'=>v=.int (kf n)/\H'=H) (λ_ _=>False) s)(hR:∀g h s',cP X pz σ H s'->d0 (.int g) h->g∈ns->(∀n∈ns,kf g<=kf n)->R (.ok<|.ret h) s'):∀(r j:Nat)(s:g_),ns.length-j=r->j<=ns.length->cP X pz σ H s->gw X pz H sx->gw X pz H it->sx≠it->s.heap.IsListIter it l j->akn kf ns sx j s.heap->codeAny (ap X.prog X.w) X.A (.builtin "min.loop" ⟨[.ref it,.ref f,.ref sx],[]⟩) R s:=by
 have S:(toString "min"++toString ".loop":String)="min.loop":=qc;intro r
 induction r with
 | zero=>
  intro j s hr hj I fs d y T U;have ej:j=ns.length:=li;obtain⟨z,_⟩|⟨_,g,h,tb,c,B,Y,mb,G⟩:=U
  .lia
  obtain⟨vs,L,pl,hz⟩:=I.list hl;have M:=L.length;rw[aG]at M;have W:=LW (prog:=X.prog) (w:=X.w) (A:=X.A.in1) hh it l Cb vs.toArray;refine(CJ PySem.F.entry_min_loop (?_:am _ _ _ _ _ s));rw[(Cy PySem.F.plain_min_loop _)];show am _ X.A.in1 (Mm (.ref sx) >>= _) _ _ _;refine ah<|tG B xz (?_:am _ X.A.in1 (tryCatch (pyNext<|.ref it) _ >>= _) _ _ _);refine ah<|FT (W.done _ _ _ ⟨by rw[de,<-M,<-ej];exact T,pl.isList⟩ λh' C Z=>?_);have D:∀b o,b≠it->s.heap.get? b=a_ o->h'.get? b=a_ o:=λb o n e=>Z b o (by simpa using n) e;have I1:cP X pz σ H {s with heap:=h',toks:=C}:=I.turned D d.1 d.2.1 d.2.2.2.1 d.2.2.2.2.1 d.2.2.2.2.2;have e1:=D sx _ y B;show am _ X.A.in1 (updateSeq sx (λ_=>#[]) >>= _) _ _ _;refine ah<|T5 e1 xz<|ah<|A1<|aI ?_;have N:=CA h' sx (nX λ_=>(#[]:Array f_));refine hR g h _ (I1.turned (h':=_) (t':=C) (it:=sx) (λb o n e=>(N.2 b n).f4 e) fs.1 fs.2.1 fs.2.2.2.1 fs.2.2.2.2.1 fs.2.2.2.2.2) Y mb λn hn=>?_;obtain⟨i,hi,e⟩:=wQ hn;exact G i n (by exact wg) (by rw[<-e];exact aQ hi)
 | succ r ih=>
  intro j s hr hj I fs d y T U;have lt:j<ns.length:=li;obtain⟨vs,L,pl,hz⟩:=I.list hl;have M:=L.length;rw[aG]at M;have W:=LW (prog:=X.prog) (w:=X.w) (A:=X.A.in1) hh it l Cb vs.toArray
  have hS:∃xs c,s.heap.get? sx=a_ (ci "list" xs c)/\((j=0/\xs=#[])\/(0<j/\∃g h tb,xs=#[h,.int (kf g) tb]/\d0 (.int g) h/\g∈ns/\∀i n,i<j->ns[i]?=a_ n->kf g<=kf n)):=by
   obtain⟨z,c,e⟩|⟨z,g,h,tb,c,e,q⟩:=U
   .exact⟨_,c,e,.inl ⟨z,xz⟩⟩
   exact⟨_,c,e,.inr ⟨z,g,h,tb,xz,q⟩⟩
  obtain⟨xs,c,B,hx⟩:=hS;refine(CJ PySem.F.entry_min_loop (?_:am _ _ _ _ _ s));rw[(Cy PySem.F.plain_min_loop _)];show am _ X.A.in1 (Mm (.ref sx) >>= _) _ _ _;refine ah<|tG B xz (?_:am _ X.A.in1 (tryCatch (pyNext<|.ref it) _ >>= _) _ _ _);refine ah<|FT (W.item j _ _ _ (by rw[de];exact wf) ⟨T,pl.isList⟩ λv h' C hP anZ Z=>?_);have hv:vs[j]?=a_ v:=by simpa using hP
  obtain⟨n,t,en,rfl⟩:=akl L hv;have mn:=bz en;have D:∀b o,b≠it->s.heap.get? b=a_ o->h'.get? b=a_ o:=λb o z e=>Z b o (by simpa using z) e;have I1:cP X pz σ H {s with heap:=h',toks:=C}:=I.turned D d.1 d.2.1 d.2.2.2.1 d.2.2.2.2.1 d.2.2.2.2.2;have e1:=D sx _ y B;obtain⟨O,hoI,Ar,qO⟩:=id anZ.1
  have P1:cP X ((pz++[(sx,ci "list" xs c)])++[(it,O)]) σ H {s with heap:=h',toks:=C}:=by
   have a:=I1.Iu fs e1 (λv z=>by cases z);refine a.Iu ⟨d.1,d.2.1,d.2.2.1,d.2.2.2.1,d.2.2.2.2.1,λp E=>?_⟩ hoI (λv z=>by rw[qO]at z;cases z);obtain z|z:=cp.mp E
   .exact d.2.2.2.2.2 p (jo _ z)
   obtain z|z:=cp.mp z
   .exact d.2.2.2.2.2 p (f6 _ z)
   have z':p=(sx,ci "list" xs c):=by simpa using z
   rw[z'];exact y
  show am _ X.A.in1 (tryCatch (holding [gq n t] (call (.ref f) [gq n t])) _ >>= _) _ _ _;refine ah<|FT<|kG (gn (turn n _ _ _ mn ⟨t,xz⟩ (λp E=>jo _<|jo _ E) P1) (λw s2 hw=>?_) λ_ _ z=>z.elim);obtain⟨v2,H2,J,r2,rfl,rfl⟩:=hw;obtain⟨x,rfl⟩:=r2;have I2:=J.xr λp E=>J.pin p<|f6 _<|jo _<|jo _ E;have P:=(J.pin (sx,ci "list" xs c)<|f6 _<|jo _<|f6 _<|by simp).1;have i2:=(J.pin (it,O)<|f6 _<|f6 _<|by simp).1
  have wr:∀(tk:Nat),(∀i m,i<j->ns[i]?=a_ m->kf n<=kf m)->codeAny (ap X.prog X.w) X.A (.builtin "min.loop" ⟨[.ref it,.ref f,.ref sx],[]⟩) R {s2 with heap:=s2.heap.update sx (nX λ_=>#[.int n t,.int (kf n) x]),toks:=tk}:=λtk amM=>by
   have N:=CA s2.heap sx (nX λ_=>#[gq n t,gq (kf n) x]);have I3:cP X pz σ H2 {s2 with heap:=s2.heap.update sx (nX λ_=>#[.int n t,.int (kf n) x]),toks:=tk}:=I2.turned (it:=sx) (λb o z e=>(N.2 b z).f4 e) fs.1 fs.2.1 fs.2.2.2.1 fs.2.2.2.2.1 fs.2.2.2.2.2;refine ih (j+1) _ om (by exact xf) I3 fs d y ⟨O,(N.2 it<|b8 y).f4 i2,Ar,qO⟩<|.inr ⟨F5 _,n,_,x,_,FL P λ_=>#[.int n t,.int (kf n) x],⟨t,xz⟩,mn,λi m hi k=>?_⟩
   by_cases z:i=j
   .subst z;rw[en]at k;cases k;exact F' _
   exact amM i m li k
  obtain⟨z,rfl⟩|⟨z,g,h,tb,rfl,Y,mb,G⟩:=hx
  .show am _ X.A.in1 (updateSeq sx (λ_=>#[.int n t,.int (kf n) x]) >>= _) _ _ _;refine ah<|T5 P xz ?_;rw[S];exact aI ⟨yL PySem.F.plain_min_loop _,wr s2.toks λi m hi _=>dV hi li⟩
  show am _ X.A.in1 (tryCatch (holding [.int n t,.int (kf n) x] (richCompare .Lt (.int (kf n) x) (.int (kf g) tb) >>= _)) _ >>= _) _ _ _;refine ah<|FT<|kG<|ah<|lt_int (?_:am _ _ _ _ _ _);refine ah (kG<|pZ<|ah<|A1<|aI ?_)
  by_cases cu:kf n<kf g
  .simp only[cu,decide_true,if_true];refine ah<|T5 P xz<|ah<|A1 ?_;rw[S];refine aI ⟨yL PySem.F.plain_min_loop _,wr s2.toks λi m hi k=>?_⟩;have:=G i m hi k;lia
  simp only[cu,decide_false,yF,if_false];refine ah<|A1 ?_;rw[S];refine aI ⟨yL PySem.F.plain_min_loop _,ih (j+1) _ li (by exact xf) I2 fs d y ⟨O,i2,Ar,qO⟩<|.inr ⟨F5 _,g,h,tb,c,P,Y,mb,λi m hi k=>?_⟩⟩
  by_cases z2:i=j
  .subst z2;rw[en]at k;cases k;lia
  exact G i m li k
end
section
variable{X:Cx}{p_:List (e_×bE)}{σ:St}{H:Hp}{s:g_}{ns:List Int}{kf:Int->Int}{l f:e_}
def agf(I:cP X pz σ H s)(g:X.A.handled=b_)(d:ao X.K H l (ns.map V.int))(h:0<ns.length)(turn:∀(n:Int)(u:f_)(a:List (e_×bE))(s:g_),n∈ns->d0 (.int n) u->(∀p∈pz,p∈a)->cP X a σ H s->am (ap X.prog X.w) X.A.in1 (call (.ref f) [u]) (EP X a σ λv H'=>v=.int (kf n)/\H'=H) (λ_ _=>False) s)(q:∀m∈ns,(∀n∈ns,kf m<=kf n)->Q (.int m) H):am (ap X.prog X.w) X.A (call (.builtin "min") [.ref l] [(iD "key",.ref f)]) (EP X pz σ Q) E s:=by
 have i:(toString "min"++toString ".loop":String)="min.loop":=qc;obtain⟨vs,y,pl,z⟩:=I.list d
 have j:l<s.heap.objs.size:=by
  obtain⟨o,e,_⟩:=pl.isList;exact bH e
 refine kmk_tree PySem.F.kind_min PySem.F.plain_min PySem.F.entry_min (kmk_min_key _ _) ((ah<|LL rfl<|ah<|aI<|ah<|CD pl.isList<|ah<|Ls ?_<|aY _):am _ _ _ _ _ s);rw[i];have c:(s.heap.push {cls:=.type "list_iterator",data:=.fields #[.ref l,.int 0 0]}).objs.size=s.heap.objs.size+1:=qb _ _;have k:H (s.heap.push {cls:=.type _,data:=.fields #[.ref l,.int 0 0]}).objs.size=none:=I.aE.fresh (by rw[c];exact jT _);refine aI ⟨yL PySem.F.plain_min_loop _,?_⟩;have r:cP X _ _ H {s with heap:=(s.heap.push {cls:=.type "list_iterator",data:=.fields #[.ref l,.int 0 0]}).push (ci "list" #[] 0)}:=I.kept λb o e=>bh _<|bh _ e
 refine age (kf:=kf) (pz:=pz) (σ:=σ) g d h (dg j) turn (λB C D J t mb x=>?_) (ns.length-0) 0 _ xz (aY _) r (I.gX (by rw[c];exact jT _) k) (I.gX (aD _)<|I.aE.fresh<|aD _) (by rw[c];exact K7 _)
  ⟨_,bh _<|dU _ xz,xz,xz⟩ (.inl ⟨xz,0,dU _ xz⟩)
 exact⟨.int _,H,J,t,q _ mb x⟩
def Z0(B:V->Hp->Prop):List V->Hp->Prop:=λvs H=>match vs with | [x]=>B x H | _=>False
def ahE:∀{vs:List V}{H:Hp},Z0 B vs H->∃x,vs=[x]/\B x H
 | [x],_,h=>⟨x,xz,h⟩
 | [],_,h=>h.elim
 | _::_::_,_,h=>h.elim
def ag'(K:u_)(P:e_)(d:Pos)(qual:bx)(tl e:TE)(idx:List Nat)(n k:Nat):TE:=λσ H Q=>tl σ H λx c=>∃(a:e_)(ns:List Int)(kf:Int->Int),x=.ref a/\ao K c a (ns.map V.int)/\0<ns.length/\dm P d qual c/\
 ∀b,xO P c b->dm P d qual b->ao K b a (ns.map V.int)/\(∀m∈ns,e ((my idx n σ).set k<|a_<|.int m) b λv H'=>v=.int (kf m)/\H'=b)/\∀m∈ns,(∀n∈ns,kf m<=kf n)->Q (.int m) b
def aem{k:Nat}{le body:b4}{c P:e_}(o:X.calm=c_)(hrm:X.A.depth+5<FU)(q:Gl X "min")(hm:X.mg "min"=b_)(r:PE X le tl)(S:dJ X sc N idx)
  (t:X.env.code=.ref c) (C:CodeHd X.base c P) (B:vU X.mg X.base) (y:N[k]?=a_ px) (z:sc.names.lookup px=a_ .local) (hi:idx.length<=k) (D:∀A qual f cd s H,PE (Jt X A sc N qual f cd s H) body te)
  (E:∀(qual:bx)(cl:List (bx×e_))(pm cd i u:f_),xk (kla_fn "<lambda>" qual params body sc cl pm cd i) ⟨[u],[]⟩=pure [(px,u)]) (F:autoParam (defaultsOf params X.env=([],[])) a3) (G:autoParam (sc.isCoroutine=false) a3) (J:autoParam (sc.isGenerator=false) a3)
  (L:autoParam (bc pos (bY [le] X.env)=(d_,eval le X.env)::bc pos (bY [] X.env)) a3) (M:autoParam ((bc pos<|bY [le] X.env).any (·.1)=false) a3) (O:autoParam (bY [le] X.env=(d_,eval le X.env)::bY [] X.env) a3) :
  PE X (.Call (.Name "min" p) [le] [⟨a_ "key",.Lambda params body sc BN,apQ⟩] pos) (ag' X.K P BN (X.env.qual++"<lambda>") tl te idx N.length k):=by
 refine λp_ s σ H Q I h=>sX<|qm I q hm boot_min ?_ qc qc
 refine callWith_kw (aR (ae (X:=X) r af O pos p_ s σ H (Z0 λx d=>∃(a:e_)(ns:List Int)(kf:Int->Int),x=.ref a/\ao X.K d a (ns.map V.int)/\0<ns.length/\dm P BN (X.env.qual++"<lambda>") d/\
  ∀b,xO P d b->dm P BN (X.env.qual++"<lambda>") b->ao X.K b a (ns.map V.int)/\(∀m∈ns,te ((my idx N.length σ).set k<|a_<|.int m) b λv H'=>v=.int (kf m)/\H'=b)/\∀m∈ns,(∀n∈ns,kf m<=kf n)->Q (.int m) b) I h) λus s1 Z1=>?_) L M xz xz;obtain⟨vs,d,R,T,U⟩:=Z1
 obtain⟨x,rfl,a,ns,kf,rfl,hL,W,Y,Z⟩:=ahE U;obtain⟨u,rfl,g⟩:=vals1 T;cases g;refine kws_cons (agl R S t C B F Y λf c' b pm i s2 I2 sm yb Fe=>kws_nil ?_);obtain⟨sO,hte,hQ⟩:=Z b sm yb;have j:=I.ok.hd o;refine QJ (agf I2 j sO W (λn u pp s3 hn g hp e=>?_) hQ) λw s4 v H4 I4 r4 q4=>⟨v,H4,I4.Gr,r4,q4⟩;refine agm e S e.ok.frames j (by lia) y z hi g (e.pin _<|f6 _<|hp _<|f6 _ gg).1 (e.aE _ _ Fe).1 (E _ _ _ _ _ _) G J (D _ _ _ _ _ _)<|hte n hn
end
end L2
namespace L2
open L3
structure x6(K:u_)(x qual:bx)(st:aK)(f:e_)(fd:lz)(c:e_):Prop where
 ex:∃(oc:f_)(od:Option e_)(kV doc pm:f_)(an:Option e_)(ct:f_)(jz:Array (Option f_)),fd=B_ x qual (nv st) (jV st) (aU st) .none kV doc pm an (.ref c) ct/\K.lookup f=a_ ⟨oc,od,.func fd,jz⟩/\W.codeIn K (.ref c) qual=c_
 kp:x_ K (.ref f)=c_
def ait{K:u_}{st:aK}{od an:Option e_}{jz:Array (Option f_)}{kV doc pm ct:f_}(l:K.lookup f=a_ ⟨oc,od,.func<|B_ x qual (nv st) (jV st) (aU st) .none kV doc pm an (.ref c) ct,jz⟩)(c1:W.codeIn K (.ref c) qual=c_)(k:x_ K (.ref f)=c_):x6 K x qual st f (B_ x qual (nv st) (jV st) (aU st) .none kV doc pm an (.ref c) ct) c:=⟨⟨oc,od,kV,doc,pm,an,ct,jz,xz,l,c1⟩,k⟩
section
variable{P:k_}{w:j_}{K:u_}{mg:bx->Option f_}{fi:i_}
def x6.ok{st:aK}{k:Nat}{sp:Sp}(F:x6 K x qual st f fd c)(S:bj N ps (aU st))
  (b:∀(A:h_)(outer:List Env)(s:g_)(H:Hp)(vs:List V)(Q:VK)(E:XK),eE k (A.deeper<|cr qual (aU st) s.zS f<|.ref c)->sp vs H Q E->
   ∃t,fH (qB aS P w K mg fi N qual (aU st) f (.ref c) A outer s H E).yf (jV st) t/\t {nx:=λ_ H'=>Q .aJ H',rt:=Q} (start N vs) H) (len:∀vs H Q E,sp vs H Q E->vs.length=ps.length:=by intro _ _ _ _ h;(repeat obtain⟨_,h⟩:=h);subst_vars;rfl):aM P w K mg fi aS (k+1) f fd ps sp:=by
 refine f9 F.ex λoc od kV doc pm a=>fE a λan ct jz a d e=>?_;subst a;exact xK d e S len λA outer s H vs Q E g i=>aq (b A _ s H _ Q E g i) λt h q=>au t h.yf q
def x6.fun{st:aK}(F:x6 K x qual st f fd c):aW K x qual st f fd:=by
 exact f9 F.ex λoc od kV doc pm a=>fE a λan ct jz e b d=>⟨⟨oc,od,kV,doc,pm,an,_,ct,jz,e,b,d⟩,F.kp⟩
end
end L2
namespace L2
open PySem.W
section
variable{X:Cx}
def ado(M:bL)(h:i_)(i:Int)(t:Tok):Looks M h (typeOf<|.int i t) (.type "int"):=Looks.of_pure xz
end
end L2
namespace TL
open L2 L3
variable{P:k_}{w:j_}{K:u_}{mg:bx->Option f_}{fi:i_}
structure fT where
 (t n num d:Int)
 deriving DecidableEq
noncomputable def cq(es:List fT)(i:Nat):List fT:=es.filter λe=>decide<|e.n=(i:Int)
def mm(H:Hp)(v:V)(e:fT):Prop:=∃p s,v=.ref p/\H p=a_ (.tup [.int e.t,.ref s])/\H s=a_ (.tup [.int e.n,.int e.num,.int e.d])
def Jy(H:Hp)(b:e_)(es:List fT):Prop:=∃vs,H b=a_ (.lst vs)/\aA (mm H) vs es
def X4:List bx:=[T_,"latest","fronts","take","is_empty","listed","twin"]
structure lL(tn:Int)(es:List fT):Prop where
 asc:es.Pairwise λx y=>x.t<y.t
 nm:∀e∈es,0<=e.n/\e.n<12
 lt:∀e∈es,e.t<tn
structure dY(H:Hp)(a C:e_)(kd:bx)(tn:Int)(es:List fT)(q:e_)(qr:List e_):Prop where
 obj:∃dx fs,H a=a_ (.ins C dx fs)/\fs.lookup (S_ : bx)=a_ (V.str kd)/\fs.lookup ("turn":bx)=a_ (V.int tn)/\fs.lookup ("queues":bx)=a_ (V.ref q)/\(∀m∈X4,fs.lookup m=b_)/\fs.length<=20
 qs:H q=a_ (.lst<|qr.map V.ref)
 len:qr.length=12
 nd:qr.Nodup
 nq:q∉qr
 kT:∀i b,qr[i]?=a_ b->Jy H b (cq es i)
 wf:lL tn es
structure iw(F:List e_)(H H':Hp):Prop where
 k:∀b o,b∉F->(∀ps,o≠.fX ps)->H b=a_ o->H' b=a_ o
 t:∀b,H' b=b_->H b=b_
def iw.of(s:ak H H'):iw F H H':=⟨λb o _ _ e=>s b o e,λb h=>s.free h⟩
def iw.f4(a:iw F H H1)(b:iw F H1 H2):iw F H H2:=⟨λc o h1 h2 e=>b.k c o h1 h2<|a.k c o h1 h2 e,λc h=>a.t c<|b.t c h⟩
def iw.ofP{P:e_}(s:xO P H H')(a:H P=a_ (.fX ps))(c:H' P=a_ (.fX ps')):iw [] H H':=
 ⟨λb o _ n e=>s b o (λz=>by rw[z,a]at e;cases e;exact n _ xz) e,λb h=>by
  rcases e:H b with _|o;rfl
  by_cases z:b=P
  .rw[z,c]at h;cases h
  rw[s b o z e]at h;cases h⟩
def CZ{P:e_}{d:Pos}{qual:bx}{F:List e_}{H H':Hp}(h:dm P d qual H)(k:∀b o,b∉F->H b=a_ o->H' b=a_ o)(f:∀b∈F,∀o,H b=a_ o->(∃C dx fs,o=.ins C dx fs)\/∃xs,o=.lst xs):dm P d qual H':=by
 refine aq h λps g a=>?_
 have i:P∉F:=λz=>by
  rcases f P z _ g with ⟨_,_,_,e⟩ | ⟨_,e⟩ <;> cases e
 refine au _ (k P _ i g) ?_;obtain e|⟨c,e,a⟩:=a
 .exact .inl e
 refine .inr (au c e<|k c _ (λz=>?_) a);rcases f c z _ a with ⟨_,_,_,e⟩ | ⟨_,e⟩ <;> cases e
def lX{P:e_}{a:Pos}{qual:bx}{H H':Hp}(h:dm P a qual H)(k:ak H H'):dm P a qual H':=CZ (F:=[]) h (λb o _ e=>k b o e) λb c=>nomatch c
def mm.keep{F:List e_}(h:mm H v e)(k:∀b xs,H b=a_ (.tup xs)->H' b=a_ (.tup xs)):mm H' v e:=let ⟨p,s,e1,e2,e3⟩:=h;⟨p,s,e1,k _ _ e2,k _ _ e3⟩
theorem Dj{c d:Type}{F G:c->d->Prop}{l:List c}{r:List d}(f:∀a b,F a b->G a b)(h:aA F l r):aA G l r:=df h f
def Jy.keep(h:Jy H b es)(a:∀o,H b=a_ o->H' b=a_ o)(k:∀b xs,H b=a_ (.tup xs)->H' b=a_ (.tup xs)):Jy H' b es:=let ⟨vs,e,r⟩:=h;⟨vs,a _ e,Dj (λ_ _ z=>z.keep (F:=[]) k) r⟩
def dY.keep(T:dY H a C kd tn es q qr)(k:∀b∈a::q::qr,∀o,H b=a_ o->H' b=a_ o)(d:∀b xs,H b=a_ (.tup xs)->H' b=a_ (.tup xs)):dY H' a C kd tn es q qr:=by
 obtain⟨⟨dx,fs,e,r⟩,qs,len,nd,nq,kT,wf⟩:=T;exact⟨⟨dx,fs,k a (by simp) _ e,r⟩,k q (by simp) _ qs,len,nd,nq,λi b c=>(kT i b c).keep (λo=>k b (by simp[bz c]) o) d,wf⟩
def dY.aly(T:dY H a C kd tn es q qr)(k:iw F H H')(f:∀b∈F,b∉a::q::qr)(g:∀b∈F,∀xs,H b≠a_ (.tup xs)):dY H' a C kd tn es q qr:=by
 refine T.keep (λb d o e=>k.k b o (λz=>f b z d) (λps z=>?_) e) λb xs e=>k.k b _ (λz=>g b z _ e) (λps z=>by cases z) e;subst z;obtain z|z:=bq.mp d
 .refine b9 T.obj λdx fs c _=>?_;rw[z,c]at e;cases e
 obtain z|z:=bq.mp z
 .rw[z,T.qs]at e;cases e
 refine oE (wQ z) λi h=>oE h λhi j=>?_;obtain⟨vs,c,_⟩:=T.kT i b (by rw[<-j];exact aQ _);rw[c]at e;cases e
def dY.vE(T:dY H a C kd tn es q qr)(k:iw [] H H'):dY H' a C kd tn es q qr:=T.aly k (λb c=>nomatch c) λb c=>nomatch c
def dY.kinds(T:dY H a C kd tn es q qr):∀b∈a::q::qr,∀o,H b=a_ o->(∃C dx fs,o=.ins C dx fs)\/∃xs,o=.lst xs:=λb d o e=>by
 obtain z|z:=bq.mp d
 .refine b9 T.obj λdx fs c _=>?_;rw[z,c]at e;cases e;exact .inl<|⟨_,_,_,xz⟩
 obtain z|z:=bq.mp z
 .rw[z,T.qs]at e;cases e;exact .inr ⟨_,xz⟩
 refine oE (wQ z) λi f=>oE f λhi g=>?_;obtain⟨vs,c,_⟩:=T.kT i b (by rw[<-g];exact aQ _);rw[c]at e;cases e;exact .inr ⟨_,xz⟩
def dY.there(T:dY H a C kd tn es q qr):∀b∈a::q::qr,∃o,H b=a_ o:=λb d=>by
 obtain z|z:=bq.mp d
 .exact b9 T.obj λdx fs c _=>⟨_,by rw[z];exact c⟩
 obtain z|z:=bq.mp z
 .exact⟨_,by rw[z];exact T.qs⟩
 refine oE (wQ z) λi e=>oE e λhi f=>?_;obtain⟨vs,c,_⟩:=T.kT i b (by rw[<-f];exact aQ _);exact⟨_,c⟩
def Bn(es:List fT)(i:Nat):Option fT:=(cq es i).getLast?
def nB(es:List fT):List Int:=((List.range 12).filter λi=>decide<|cq es i≠[]).map λ(i:Nat)=>(i:Int)
def iT(kd:bx)(es:List fT):List Int:=if kd = V_ then (es.head?.map (·.n)).toList else nB es
noncomputable def jH(es:List fT)(n:Int):List fT:=es.eraseP λe=>decide<|e.n=n
def ahz(i:Nat):cq [] i=[]:=rfl
def Xr(es:List fT)(e:fT)(i:Nat):cq (es++[e]) i=if e.n=(i:Int) then cq es i++[e] else cq es i:=by
 unfold cq;rw[qX]
 by_cases h:e.n=i
 .rw[dL h];simp[h]
 rw[dt h];simp[h]
def A':n∈nB es↔∃i:Nat,i<12/\n=i/\cq es i≠[]:=by
 unfold nB;rw[dy];constructor
 .rintro⟨i,hi,rfl⟩;rw[lu,iC]at hi;exact c8 i hi.1 xz (by simpa using hi.2)
 rintro⟨i,h1,rfl,h2⟩;exact au i (by rw[lu,iC];exact⟨h1,by simpa using h2⟩) xz
def WH{i:Nat}(h:es.head?=a_ e)(hi:e.n=(i:Int)):(cq es i).head?=a_ e:=by
 rcases es with _|⟨x,r⟩;cases h;cases h;unfold cq;rw[tF,dL (by simpa using hi)];rfl
def aiK(w:lL tn es)(b:0<=n)(h1:n<12):lL (tn+1) (es++[⟨tn,n,num,d⟩]):=by
 refine⟨lV.mpr ⟨w.asc,Tb _ _,λx c y f=>?_⟩,λe a=>?_,λe a=>?_⟩
 .rw[cR.mp f];exact w.lt x c
 .obtain z|z:=cp.mp a
  .exact w.nm e z
  rw[cR.mp z];exact⟨b,h1⟩
 obtain z|z:=cp.mp a
 .have:=w.lt e z;lia
 rw[cR.mp z];lia
def ag2(w:lL tn es)(n:Int):lL tn (jH es n):=by
 have sub:(jH _ n).Sublist es:=List.eraseP_sublist;exact⟨w.asc.sublist sub,λe a=>w.nm e<|sub.subset a,λe a=>w.lt e<|sub.subset a⟩
def afE(es:List fT)(n:Int)(i:Nat):cq (jH es n) i=if n=(i:Int) then (cq es i).tail else cq es i:=by
 induction es with
 | nil=>unfold jH cq;simp
 | cons e r ih=>
  unfold jH at ih ⊢;rw[List.eraseP_cons]
  by_cases h:e.n=n
  .rw[ee h,cond_true];unfold cq
   by_cases hi:n=i
   .rw[dL hi,tF,dL (by simpa using h.f4 hi)];rfl
   rw[dt hi,tF,dt (by simpa using λz:e.n=i=>hi<|h.f5.f4 z)]
  rw[eF h,cond_false];unfold cq at ih ⊢;rw[tF,tF]
  by_cases a:e.n=i
  .have b:¬n=i:=λz=>h<|a.f4 z.f5;rw[dt b]at ih;rw[dt b,ih]
  simp only[eF a,yF,if_false];rw[ih]
structure BT(mg:bx->Option f_):Prop where
 kg:mg "isinstance"=b_
 int:mg "int"=b_
 bool:mg "bool"=b_
 str:mg "str"=b_
 len:mg aq6 = b_
 all:mg "all"=b_
 range:mg aq3 = b_
 enum:mg "enumerate"=b_
 min:mg "min"=b_
 sorted:mg "sorted"=b_
structure nC(K:u_)(C:e_):Prop where
 cl:eO K C
 kind:bU K C S_
 turn:bU K C "turn"
 xA:bU K C "queues"
def V9:Sp:=λvs H Q _=>∃v T,vs=[v]/\db H v=a_ T/\Q (.bl<|v8 v) H
def afu:bj [aq7] [aq7] (aU Nl):=bG
def aep(F:aW K U_ U_ Nl f fd)(B:BT mg):aM P w K mg fi aS 1 f fd [aq7] V9:=by
 refine F.ok afu λaN A _ s H vs Q E c h=>?_
 refine cZ h λv T b a k=>?_;subst b;refine⟨_,aB<|a8<|Dy (bw jb xz B.kg jq<|ae (pv 0)<|ae (nj (v:=.ty _) xz B.int boot_int xz) af)<|Bu<|Om<|bw jb xz B.kg jq<|ae (pv 0)<|ae (nj (v:=.ty _) xz B.bool boot_bool xz) af,?_⟩;have e:=YI a;refine au v xz<|eh _ _ _ _<|fG _ xz (mE a) xz (mq a qc)<|au _ xz (Iy (λh1=>?_) λh1=>?_)
 .refine au v xz (eh _ _ _ _<|fG _ xz (mE a) xz (mq a qc)<|au _ xz ?_);rw[h1,FZ]at e;rw[e];exact k
 rw[h1,FV]at e;rw[e];exact k
def ZP(C:e_):Sp:=λvs H Q _=>∃x dx kd,vs=[.ref x,.str kd]/\H x=a_ (.ins C dx [])/\∀H' q qr,dY H' x C kd 0 [] q qr->(∀b o,b≠x->H b=a_ o->H' b=a_ o)->(∀b∈q::qr,H b=b_)->Q .aJ H'
def ana:bj [Q_,S_] [Q_,S_] (aU Jn):=bG
def ah4:([H_]:List bx).Nodup:=dk
def alx(f:bx)(u:V):(aT f u []).length<1000:=by
 have h1:=tM f u [];have h3:([]:List (bx×V)).length=0:=rfl;exact wb
def alw(f g:bx)(u v:V):(aT f u<|aT g v []).length<1000:=by
 have h1:=tM f u<|aT g v [];have h2:=tM g v [];have h3:([]:List (bx×V)).length=0:=rfl;exact xi
def W8:∀m∈X4,¬m = S_/\¬m="turn"/\¬m="queues":=dk
def sf(kd:bx)(q:e_):(aT "queues" (.ref q) (aT "turn" (.int 0) (aT S_ (.str kd) [])))=[((S_ : bx),V.str kd),(("turn":bx),V.int 0),(("queues":bx),V.ref q)]:=by
 have n1:¬(S_ : bx)="turn":=dk;have a:¬(S_ : bx)="queues":=dk;have b:¬("turn":bx)="queues":=dk;simp only[aT,n1,a,b,if_false]
def alb(F:aW K K_ "Tray.__init__" Jn f fd)(B:BT mg)(r:nC K C)(G:∃u,mg "NAMES"=a_ u/\d0 (.int 12) u):aM P w K mg fi aS 1 f fd [Q_,S_] (ZP C):=by
 refine aq G λuN G rN=>F.ok ana λaN A _ s H vs Q E hr h=>?_
 refine fE h λx dx kd O R k=>?_;subst O
 refine let a:TS:=_;let d:TS:=_;⟨_,ay (gL (pv 0) (pv 1) xz) (pR d (ay (gL (pv 0) ax xz) (pR a (aB (gL (pv 0) (jc (N:=[H_]) (idx:=[]) xz (dJ.of<|by kernel_rfl) (jr<|aY _)
  (ju xz B.range<|ae (gD xz G rN) af) (λ_ _ _ _=>bC (i:=0) ah4 xz (aL xz)<|.inr xz) (λ_ _ _ _=>jD) λ_ _ _ _=>dP af) xz))))),?_⟩
 refine vr xz<|vr xz<|mZ x C _ _ xz R r.cl r.kind qc<|au _ xz<|⟨x,C,dx,(lC _ xz av r.cl r.turn (alx _ _) ?_)⟩;rw[pf];refine lE 12 xz qc qc ?_;generalize I:cB H x _=H1;have J:H1 x=a_ (.ins C dx<|aT "turn" (.int 0) (aT S_ (.str kd) [])):=by rw[<-I];exact av
 have n1:∀b,H1 b=b_->H b=none:=λb e=>by
  rw[<-I]at e
  by_cases z:b=x
  .rw[z,av]at e;cases e
  rwa[ag z]at e
 refine gC (n:=12) (λi ys H'=>∃qr:List _,ys=qr.map V.ref/\qr.length=i/\qr.Nodup/\(∀b∈qr,H' b=a_ (.lst [])/\H1 b=b_)/\ak _ H') qc ⟨[],xz,xz,.nil,(λb g=>nomatch g),ak.f8 _⟩ ?_ ?_ ?_ ?_ ?_
 .rintro i ys H' ⟨qr,rfl,t,_⟩;rw[aG,t];exact aD _
 .rintro i ys H' hi _;exact hi
 .rintro ys H' _;exact aD _
 .rintro i ys H' hi ⟨qr,rfl,t,nd,j,l⟩ y kC ⟨S,ey⟩;subst S;dsimp only[kM,pE];rw[dL rfl];refine⟨qc,λp D=>⟨qr++[p],by simp,by simp[t],?_,λb g=>?_,aH l D⟩⟩
  .refine uW.mpr (eM nd (by simp) λb g c T=>?_);rw[cR.mp T];exact a7 (j b g).1 D
  obtain z|z:=cp.mp g
  .exact⟨by rw[ag<|a7 (j b z).1 D];exact(j b z).1,(j b z).2⟩
  rw[cR.mp z];refine⟨av,?_⟩;rcases e:H1 p with _|o;rfl;rw[l _ _ e]at D;cases D
 rintro ys H' ⟨qr,rfl,t,nd,j,l⟩;refine⟨by rw[aG,t];decide,λq v=>?_⟩;have nx:=a7 (l _ _ J) v;refine vr xz<|⟨x,C,dx,(lC _ xz (by rw[ag nx];exact l _ _ J) r.cl r.xA (alw _ _ _ _) ?_)⟩;have BW:q∉qr:=λz=>by rw[(j q z).1]at v;cases v
 have U:x∉qr:=λz=>by have:=(j x z).2;rw[J]at this;cases this
 refine k _ q _ ⟨⟨dx,_,av,?_,?_,?_,?_,?_⟩,by rw[ag<|b8 nx,av],t,nd,BW,λi b g=>⟨[],?_,by rw[ahz];exact .nil⟩,⟨.nil,(λe L=>nomatch L),(λe L=>nomatch L)⟩⟩ (λb o g e=>?_) λb g=>?_
 .rw[gm,dt dk,gm,dt dk,gm,dL rfl]
 .rw[gm,dt dk,gm,dL rfl]
 .rw[gm,dL rfl]
 .refine λm hm=>du (W8 m hm) λW X Y=>?_;rw[gm,dt Y,gm,dt X,gm,dt W];rfl
 .rw[sf];show 3<=20;decide
 .have hm:=bz g;have Z:b≠x:=λz=>U<|z ▸ hm;have nbq:b≠q:=λz=>BW<|z ▸ hm;rw[ag Z,ag nbq];exact(j b hm).1
 .have e1:H1 b=a_ o:=by rw[<-I,ag g];exact e
  have M:=l _ _ e1;rw[ag g,ag<|a7 M v];exact M
 refine n1 b ?_;obtain z|z:=bq.mp g
 .subst z;rcases e:H1 b with _|o;rfl;rw[l _ _ e]at v;cases v
 exact(j b z).2
def Ik(F:List e_)(H H':Hp):Prop:=∀b o,b∉F->H b=a_ o->H' b=a_ o
def ajE(h:n<=20000):n<bp:=by rw[eA];exact wb
def NA(es:List fT)(i:Nat):(cq es i).length<=es.length:=qW _ _
theorem UZ{c d:Type}{F:c->d->Prop}{a b}{l:List c}{r:List d}(h:aA F l r)(k:F a b):aA F (l++[a]) (r++[b]):=by
 induction h with|nil=>exact .cons k .nil|cons g _ i=>exact .cons g i
def dY.ZX{tn:Int}(T:dY H a C kd tn es q qr){n:Int}(c:0<=n)(h1:n<12):∃i:Nat,n=i/\i<12/\∃b,qr[i]?=a_ b/\gd (qr.map V.ref) n=a_ (.ref b):=by
 have d:=T.len;obtain⟨i,rfl⟩:∃i:Nat,n=i:=⟨n.toNat,xm⟩;have hi:i<qr.length:=li;refine c8 i xz li<|au _ (aQ hi)<|bZ ?_;rw[cH,aQ _];rfl
theorem YG:∀(fs:List (bx×V))(u:V),fs.lookup f=a_ v->(aT f u fs).length=fs.length
 | [],_,e=>by cases e
 | (g,x)::r,u,e=>by
  by_cases h:g=f
  .simp only[aT,dL h,gI]
  simp only[aT,dt h,gI];rw[YG r u];have a:(f==g)=false:=by simpa using λz=>h z.f5
  rw[mV,a]at e;exact e
def Y9(C:e_):Sp:=λvs H Q _=>∃a n num d kd tn es q qr,vs=[.ref a,.int n,.int num,.int d]/\dY H a C kd tn es q qr/\0<=n/\n<12/\es.length<=20000/\
 ∀H',dY H' a C kd (tn+1) (es++[⟨tn,n,num,d⟩]) q qr->Ik (a::q::qr) H H'->Q .aJ H'
def aiW:bj ib ib (aU OX):=bG
def ahK(F:aW K T_ "Tray.add" OX f fd)(l:nC K C):aM P w K mg fi aS 1 f fd ib (Y9 C):=by
 refine F.ok aiW λaN A _ s H vs Q E hr h=>?_
 refine f9 h λa n num d kd t=>kL t λtn es q qr t G=>?_;subst t;refine oj G λT M h1 hz k=>?_;refine⟨_,ay (dC<|je m_ n_ o_ m5 (aO cG (bT (pv 0) xz)<|pv 1)<|ae (fA<|ae (bT (pv 0) xz)<|ae (fA<|ae (pv 1)<|ae (pv 2)<|ae (pv 3) af) af) af)<|aB<|aei (pv 0) ax ajO,dO (id T.obj) λdx fs ea Y I N Z el=>aP (T.ZX M h1) λi t hi G=>?_⟩;subst t;refine aq G λb v hat=>aq (T.kT i b v) λvs r O=>?_;have R:=bz v;have lv:=r_ O;have lq:=NA es i;refine vF xz ea l.cl l.xA N<|vr xz<|rL (ao.of T.qs) (hat) ⟨.inl ⟨xz,_,ao.of r⟩,vF xz ea l.cl l.turn I<|au _ xz<|vr xz<|vr xz ⟨(sl (n:=3)),(λst cV=>⟨(sl (n:=2)),λp S=>?_⟩)⟩⟩;have x:∀c o,H c=a_ o->c≠st:=λc o e=>a7 e cV;have J:=λc o e=>a7 (by rw[ag<|x c o e];exact e) S;have B:∀c o,H c=a_ o->cB (cB H st<|.tup [.int (i:Int),.int num,.int d]) p (.tup [.int tn,.ref st]) c=a_ o:=λc o e=>by rw[ag<|J c o e,ag<|x c o e];exact e
 have L:=gv ea r (by intro z;cases z);have Rg:q≠b:=λz=>T.nq<|z ▸ R;refine m8 b _ _ xz xz (B _ _ r) (ajE li)<|au _ xz<|eh a C dx _<|lC _ xz ((ag L)▸B _ _ ea) l.cl l.turn I ⟨_,_,xz,xz,dx,fs,by rw[ag L];exact B _ _ ea,wb,?_⟩;have pb:=b8<|J b _ r;have pa:=b8<|J a _ ea;have sb:=b8<|x b _ r;have sa:=b8<|x a _ ea;generalize u:cB _ a _=H2;have D:∀c o,c≠a->c≠b->H c=a_ o->H2 c=a_ o:=λc o z1 z2 e=>by rw[<-u,ag z1,ag z2];exact B c o e
 have ga:H2 a=a_ (.ins C dx<|aT "turn" (.int<|tn+1) fs):=by rw[<-u];exact av
 have gb:H2 b=a_ (.lst<|vs++[.ref p]):=by rw[<-u,ag<|b8 L];exact av
 have gp:H2 p=a_ (.tup [.int tn,.ref st]):=by rw[<-u,ag pa,ag pb];exact av
 have gs:H2 st=a_ (.tup [.int i,.int num,.int d]):=by rw[<-u,ag sa,ag sb,ag<|a7 av S];exact av
 have U:∀c xs,H c=a_ _->H2 c=a_ (.tup xs):=λc xs e=>D c _ (gv e ea<|by intro z;cases z) (gv e r<|by intro z;cases z) e;refine k _ ⟨⟨dx,_,ga,?_,?_,?_,λm hm=>?_,?_⟩,D q _ (gv T.qs ea<|by intro z;cases z) Rg T.qs,T.len,T.nd,T.nq,λj c g=>?_,aiK T.wf M h1⟩ λc o g e=>D c o (λz=>g<|by simp[z]) (λz=>g<|by simp[z,R]) e
 .rw[gm,dt dk];exact Y
 .rw[gm,dL rfl]
 .rw[gm,dt dk];exact N
 .rw[gm,dt (W8 m hm).2.1];exact Z m hm
 .have:=YG _ (.int<|tn+1) I;exact w7
 rw[Xr]
 by_cases z:j=i
 .subst z;rw[v]at g;cases g;rw[dL rfl];exact au _ gb<|UZ (Dj (λ_ _ y=>y.keep (F:=[]) U) O) ⟨p,st,xz,gp,gs⟩
 rw[dt λy=>z (by have:i=(j:Int):=y;lia)]
 have Rp:c≠b:=λy=>z (by
  subst y;have n2:=bu.mp v;refine oE (bu.mp g) λp1 V=>oE n2 λp2 W=>?_;obtain y|y|y:=KW j i
  .exact dV (V.f4 W.f5) (lj.mp T.nd j i _ _ y)
  .exact y
  exact dV (W.f4 V.f5) (lj.mp T.nd i j _ _ y))
 refine (T.kT j c g).keep (λo e=>D c o (λy=>aq (T.kT j c g) λoN X _=>?_) Rp e) U;rw[y,ea]at X;cases X
def adD{b a:Type}{F:b->a->Prop}{r:List a}(h:aA F [] r):r=[]:=by cases h;rfl
theorem Us:∀{vs:List V}{l:List fT},aA (mm H) vs l->vs≠[]->∃c v e,vs=c++[v]/\l.getLast?=a_ e/\mm H v e
 | _,_,.nil,h=>dV xz h
 | _,_,.cons (a:=v) (b:=e) g t,_=>by
  rcases t with _|⟨h,t⟩;exact⟨[],v,e,xz,xz,g⟩;exact fE (Us (.cons h t)<|by simp) λc d f i j k=>rG (v::c) d f (by rw[i];rfl) (by rw[List.getLast?_cons_cons];exact j) k
def Wc(C:e_):Sp:=λvs H Q _=>∃a n kd tn es q qr,vs=[.ref a,.int n]/\dY H a C kd tn es q qr/\0<=n/\n<12/\es.length<=20000/\
 (Bn es n.toNat=b_->Q .aJ H)/\∀e st,Bn es n.toNat=a_ e->H st=a_ (.tup [.int e.n,.int e.num,.int e.d])->Q (.ref st) H
def Vp:bj [Q_,H_,"queue"] gi (aU MG):=bG
def adG(F:aW K "latest" "Tray.latest" MG f fd)(B:BT mg)(j:nC K C):aM P w K mg fi aS 1 f fd gi (Wc C):=by
 refine F.ok Vp λaN A _ s H vs Q E J h=>?_
 refine f9 h λa n kd tn es c=>iG c λq qr c T o d=>?_;subst c;refine nF d λh1 L k0 k=>?_;refine⟨_,ay (bP (i:=2) Vp.nd xz (aL xz)<|aO cG (bT (pv 0) xz)<|pv 1)<|aB<|a8<|MP (bA dF (bw dE xz B.len q_<|ae (pv 2) af) ax<|bo _) og<|aO cw (aO cG (pv 2)<|HW Hs ax) ax,dO (id T.obj) λdx fs ea M N r O el=>aP (T.ZX o h1) λi c hi d=>?_⟩;subst c;refine aq d λb t u=>?_;rw[jQ]at k0 k;refine aq (T.kT i b t) λvs l m=>vF xz ea j.cl j.xA r<|vr xz<|rL (ao.of T.qs) (u)<|vr xz ⟨b,⟨_,xz,.inl<|ao.of l,xz,_,xz,bQ (λz=>?_) λz=>?_⟩⟩
 .have g:vs=[]:=by
   injection z with z
   exact qU.mp li
  subst g;refine k0 ?_;unfold Bn;rw[adD m];rfl
 have g:vs≠[]:=λy=>z (by rw[y];rfl);refine fE (Us m g) λR v e x D c=>cZ c λp st c G I=>?_;subst c;subst x;refine vr xz<|au _ xz<|rL (ao.of l) (WV _ _)<|rT (aF.of G) (xz)<|k e _ D I
def Xf(C:e_):Sp:=λvs H Q _=>∃a kd tn es q qr,vs=[.ref a]/\dY H a C kd tn es q qr/\∀H',ak H H'->Q (.bl<|decide<|es=[]) H'
def afw:bj fC fC (aU Nn):=bG
def aga:(["queue"]:List bx).Nodup:=dk
def ad5{tn:Int}(w:lL tn es)(h:∀i,i<12->cq es i=[]):es=[]:=by
 rcases es with _|⟨e,r⟩;rfl;refine oA (w.nm e gg) λa h1=>?_;have:=h e.n.toNat li;unfold cq at this;rw[tF,dL (by simp;lia)]at this;cases this
def all_empty{tn:Int}(w:lL tn es):((List.range 12).map λi=>decide<|cq es i=[]).all id=decide (es=[]):=by
 by_cases h:es=[]
 .subst h;rfl
 rw[eF h,CV];cases e:(List.range 12).all (id ∘ λi=>decide<|cq es i=[])with
 | false=>rfl
 | true=>
  exfalso;exact h (ad5 w λi hi=>by simpa using Ld.mp e i (iC.mpr hi))
def aex(F:aW K "is_empty" "Tray.is_empty" Nn f fd)(B:BT mg)(c:nC K C):aM P w K mg fi aS 1 f fd fC (Xf C):=by
 refine F.ok afw λaN A _ s H vs Q E v h=>?_
 refine f9 h λa kd tn es q b=>aP b λqr b T k=>?_;subst b
 refine⟨_,aB (a8 (bw (GO xz) xz B.all boot_all (ae (jc (N:=["queue"]) (idx:=[]) xz (dJ.of<|by kernel_rfl) (jr<|aY _) (rB<|bT (pv 0) xz)
  (λ_ _ _ _=>bC (i:=0) aga xz (aL xz)<|.inr xz) (λ_ _ _ _=>jD) λ_ _ _ _=>xt dF (bw (len_K K) xz B.len q_<|ae (pv 0) af) ax<|bo _) af))),?_⟩
 refine dO (id T.obj) λdx fs ea x D g G el=>au _ xz<|eh a C _ _<|lC _ xz ea c.cl c.xA g<|c8 q xz ⟨_,ao.of T.qs⟩ ?_;have l:=T.len;refine gC (n:=12) (λi ys H'=>H'=H/\ys=(List.range i).map λj=>V.bl<|decide<|cq es j=[]) qc ⟨xz,xz⟩ ?_ ?_ ?_ ?_ ?_
 .rintro i ys H' ⟨_,rfl⟩;rw[aG,jB];exact aD _
 .rintro i ys H' hi ⟨rfl,_⟩;exact fh _ _ (ao.of T.qs) (by rw[cH,aQ wg];rfl)
 .rintro ys H' ⟨rfl,_⟩;exact au _ (ao.of T.qs) (by rw[aG,l];exact aD _)
 .rintro i ys H' hi ⟨rfl,rfl⟩ y I ⟨m,o⟩;subst m;have d:=o _<|ao.of T.qs;rw[cH,aQ wg]at d;cases d;refine aq (T.kT i _<|aQ wg) λvs r t=>?_;dsimp only[kM,pE];rw[dL rfl];refine vr xz ⟨_,⟨_,xz,.inl<|ao.of r,xz,xz,?_⟩⟩;rw[kF,dN]
  congr 1
  have e:=r_ t;simp only[eu,LG,acx,V.bl.injEq,and_true];refine decide_eq_decide.mpr ⟨λz=>?_,λz=>?_⟩
  .injection z with z
   exact qU.mp li
  rw[z]at e;rw[e];rfl
 rintro ys H' ⟨rfl,rfl⟩;refine⟨by rw[aG,jB];decide,λp u=>di p ((List.range 12).map λj=>decide<|cq es j=[]) xz (ao.of<|by rw[av,vg];rfl) ?_⟩;rw[all_empty T.wf];exact k _<|aH (ak.f8 _) u
def xF(es:List fT)(i:Nat):List Int:=((List.range i).filter λj=>decide<|cq es j≠[]).map λ(j:Nat)=>(j:Int)
def UO(es:List fT)(i:Nat):xF es (i+1)=xF es i++(if cq es i≠[] then [(i:Int)] else []):=by
 unfold xF;rw[kF,qX,dN]
 congr 1
 by_cases h:cq es i≠[]
 .rw[dL h,abm (by simpa using h)];rfl
 rw[dt h,List.filter_cons_of_neg (by simpa using h)];rfl
def Vh(es:List fT)(i:Nat):(xF es i).length<=i:=by
 unfold xF;rw[aG];have h:=qW (λj=>decide<|cq es j≠[])<|List.range i;rw[jB]at h;exact h
def yi(es:List fT)(n:Int):Int:=((cq es n.toNat).head?.map (·.t)).getD 0
def F2(w:lL tn es)(h:es.head?=a_ e):e.n∈nB es:=by
 have hm:e∈es:=by
  rcases es with _|⟨x,r⟩;cases h;cases h;exact gg
 refine oA (w.nm e hm) λa h1=>A'.mpr (c8 _ li xm λz=>?_);have:=WH h xm;rw[z]at this;cases this
def ahs(w:lL tn es)(hm:m∈nB es)(c:∀n∈nB es,yi es m<=yi es n):(es.head?.map (·.n)).toList=[m]:=by
 refine aP (A'.mp hm) λi hi d a=>?_;subst d;rcases es with _|⟨e,r⟩;exact dV xz a
 have h1:=c _<|F2 w xz;refine oA (w.nm e gg) λk n1=>?_
 have f:yi (e::r) e.n=e.t:=by
  unfold yi;rw[WH (i:=e.n.toNat) (e:=e) xz xm];rfl
 cases q:cq (e::r) i with
 | nil=>exact dV q a
 | cons x l=>
  have g:yi (e::r) (i:Int)=x.t:=by
   unfold yi;rw[jQ,q];rfl
  have b:x∈cq (e::r) i:=by rw[q];exact gg
  unfold cq at b;refine oA (lu.mp b) λh j=>?_;have hn:x.n=i:=by simpa using j
  obtain z|z:=bq.mp h
  .show [e.n]=[(i:Int)];rw[<-z,hn]
  .have:=(sY.mp w.asc).1 x z;rw[f,g]at h1;lia
def aht(w:lL tn es)(h:¬1<(nB es).length):(es.head?.map (·.n)).toList=nB es:=by
 rcases es with _|⟨e,r⟩;rfl
 have hm:=F2 w xz
 match q:nB (e::r)with
 | []=>rw[q]at hm;cases hm
 | [x]=>
  rw[q]at hm;rw[<-cR.mp hm];rfl
 | _::_::_=>
  rw[q]at h;simp at h
abbrev LP:Pos:=⟨267,35,267,71⟩
abbrev LQ:bx:=("Tray.fronts":bx)++".<locals>."++"<lambda>"
def Mx(C PT:e_):Sp:=λvs H Q _=>∃a kd tn es q qr,vs=[.ref a]/\dY H a C kd tn es q qr/\dm PT LP LQ H/\
 ∀H' l,iw [] H H'->dm PT LP LQ H'->H l=b_->H' l=a_ (.lst<|(iT kd es).map V.int)->Q (.ref l) H'
def Vq:bj [Q_,"names"] fC (aU Gu):=bG
def Zi:([H_,"queue"]:List bx).Nodup:=dk
def PR(h:V.str x=V.str y):x=y:=by injection h
def adz{PT:e_}(s:ak H H1)(t:xO PT H1 H2)(a:H1 PT=a_ (.fX ps))(b:H2 PT=a_ (.fX ps')):iw [] H H2:=(iw.of s).f4<|iw.ofP t a b
def U1{f C PT c:e_}(F:x6 K "fronts" "Tray.fronts" Gu f fd c)(B:BT mg)(u:nC K C)(hC:W.CodeHd fi c PT)(hB:vU mg fi):aM P w K mg fi aS 2 f fd fC (Mx C PT):=by
 refine F.ok Vq λA outer s H vs Q E hr h=>?_
 refine f9 h λa kd tn es q t=>c7 t λqr t T zR k=>?_;subst t;have hrm:=hr.dp
 refine let d:TS:=_;let g:TS:=_;⟨_,ay (A4 (i:=1) (N:=[H_,"queue"]) (idx:=[]) Vq.nd xz xz xz (dJ.of<|by kernel_rfl) (yT (aY _)<|aY _) (zf (b:=c_) xz B.enum<|ae (bT (pv 0) xz) af)
   (λ_ _ _ _=>nz xz<|eT (bC (i:=0) Zi xz (aL xz)<|.inr xz)<|eT (bC (i:=1) Zi xz (aL xz)<|.inr xz) ni)
   (λ_ _ _ _=>xp<|bA zz (bw (len_K K) xz B.len q_<|ae (pv 1) af) ax<|bo _) λ_ _ _ _=>pv 0)
  (pR g (ay (bX (PW.pt<|pw_and (bA dF (bT (pv 0) xz) cU<|bo _)<|pw_and1<|bA zz (bw dE xz B.len q_<|ae (pv 1) af) ax<|bo _) (pR d (aB (a8 (dP (ae (aem (N:=[Q_,H_]) (idx:=[0]) (k:=1) (px:=H_) (P:=PT) xz (by show A.depth+1+5<_;have h1:A.depth+1+3*1+5<FU:=hrm;lia) xz B.min (pv 1) (dJ.of<|by kernel_rfl) xz hC hB xz xz qc
    (λ_ _ _ _ _ _=>aO (zC K) (aO (DZ K) (aO (DZ K) (alJ K (pv 0) xz)<|pv 1) ax) ax) λ_ _ _ _ _ _=>rfl) af))))) cj)
  (aB<|a8<|pv 1))),?_⟩
 refine dO (id T.obj) λdx fs ea e1 e2 e3 em el=>?_;have hl:=T.len;refine vF xz ea u.cl u.xA e3 ⟨q,⟨_,xz,ao.of T.qs,gC (n:=12) (λi ys H'=>ak H H'/\ys=(xF es i).map V.int) qc ⟨ak.f8 _,xz⟩ ?_ ?_ ?_ ?_ ?_⟩⟩
 .rintro i ys H' ⟨_,rfl⟩;rw[aG];exact Vh _ i
 .rintro i ys H' hi ⟨j,_⟩;exact fh _ _ (ao.of<|j _ _ T.qs) (by rw[cH,aQ wg];rfl)
 .rintro ys H' ⟨j,_⟩;exact au _ (ao.of<|j _ _ T.qs) (by rw[aG,hl];exact aD _)
 .rintro i ys H' hi ⟨j,rfl⟩ y kC ⟨p,x,hp,ey,eH,G⟩;subst ey;subst eH;have U:=G _<|ao.of<|j _ _ T.qs;rw[cH,aQ wg]at U;cases U;refine aq (T.kT i _<|aQ wg) λvs L I=>?_;have s2:ak H (cB _ p<|.tup [.int i,.ref qr[i]]):=aH j hp;have X:=r_ I;refine⟨p,⟨_,xz,aF.of av,xz,_,_,xz,_,_,xz,xz,vr xz ⟨_,⟨_,xz,.inl<|ao.of<|s2 _ _ L,_,_,xz,xz,_,xz,bQ (λz=>?_) λz=>?_⟩⟩⟩⟩
  .refine vr xz ⟨s2,?_⟩;rw[UO,dL (λy=>by rw[y]at X;rw[X]at z;exact dV z<|by simp),dN];rfl
  refine⟨s2,?_⟩;rw[UO,dt λy=>y<|qU.mp li,gj]
 rintro ys H' ⟨j,rfl⟩;have wl:=Vh es 12;refine⟨by rw[aG];exact dH<|ic w4,λl1 M=>?_⟩;have s1:ak H (cB _ _<|.lst<|(xF es 12).map V.int):=aH j M;generalize AA:cB _ _ _=H1 at s1;have v:H1 l1=a_ (.lst<|(nB es).map V.int):=by rw[<-AA];exact av
 have Y:H l1=none:=by
  rcases e:H l1 with _|o;rfl;rw[j _ _ e]at M;cases M
 have J:=lX zR s1;have Z:=T.vE<|iw.of s1;refine dO (id Z.obj) λyy uP Ft f1 f2 f3 _ _=>?_;refine au _ xz<|eh a C _ _<|⟨_,xz,Ft,u.cl,u.kind,f1,xz,(au _ xz ?_)⟩
 by_cases D:kd = V_
 .rw[ee (show V.str kd=V.str V_ by rw[D])];refine lG<|vr xz ⟨l1,⟨_,xz,.inl<|ao.of v,_,_,xz,xz,_,xz,bQ (λz=>?_) λz=>?_⟩⟩
  .rw[aG]at z;refine au _ xz (m8 _ _ (yi es) xz (ao.of v) li J λH2 sp O=>aq (id J) λps hPT _=>aq (id O) λps' aaN _=>?_);have kp:=iw.ofP sp hPT aaN;have R:=Z.vE kp;refine eM (ao.of<|kp.k _ _ (by simp) (λps z=>by cases z) v) (λm hm=>?_) λm hm hb=>?_
   .refine aP (A'.mp hm) λi hi t fZ=>?_;subst t;refine dO (id R.obj) λwK sQ ea2 g1 g2 g3 _ _=>aq (R.kT i _<|aQ wg) λvs L I=>?_;rcases S:cq es i with _|⟨x,r⟩;exact dV S fZ
    rw[S]at I;cases I with
    | cons G J'=>
     refine cZ G λp st t q1 q2=>?_;clear G;subst t;refine vF xz ea2 u.cl u.xA g3<|vr xz<|rL (ao.of R.qs) ((bZ<|by rw[cH,aQ _];rfl))<|cl1 L xz<|rT (aF.of q1) (bZ xz) ⟨?_,xz⟩;unfold yi;rw[jQ,S];rfl
   refine⟨(sl (n:=1)),λl hn=>k _ l ((adz s1 sp hPT aaN).f4<|iw.of<|aH (ak.f8 _) hn) (lX O<|aH (ak.f8 _) hn) ?_ ?_⟩
   .rcases e:H l with _|o;rfl
    by_cases zp:l=PT
    .refine aq O λps2 h2 _=>?_;rw[zp,h2]at hn;cases hn
    rw[sp _ _ zp<|s1 _ _ e]at hn;cases hn
   rw[av];unfold iT;rw[dL D,ahs T.wf hm hb];rfl
  rw[aG]at z;refine vr xz<|k _ _ (iw.of s1) J Y ?_;rw[v];unfold iT;rw[dL D,aht T.wf li]
 rw[eF (show ¬V.str kd=V.str V_ from λz=>D<|PR z)];refine dG<|dG<|vr xz<|k H1 l1 (iw.of s1) J Y ?_;rw[v];unfold iT;rw[dt D]
def aik(n:Int)(ns:List Int):Ep (.int n) (ns.map V.int)=decide (n∈ns):=by
 unfold Ep
 induction ns with
 | nil=>rfl
 | cons m r ih=>
  rw[eu,vf,ih]
  by_cases h:m=n
  .subst h;show((m==m)||_)=_;simp
  .have:sh (.int m) (.int n)=false:=by show(m==n)=_;simp[h]
   rw[this,Bool.false_or];exact decide_eq_decide.mpr ⟨eI _,λz=>(bq.mp z).resolve_left λy=>h y.f5⟩
def aeZ(ns:List Int):(ns.map V.int).all vH=true:=by
 rw[CV];exact Ld.mpr λ_ _=>rfl
def Gj(w:lL tn es)(h:n∈iT kd es):∃i:Nat,i<12/\n=i/\∃e r,cq es i=e::r:=by
 have hw:n∈nB es:=by
  unfold iT at h
  by_cases a:kd = V_
  .rw[dL a]at h;cases es with
   | nil=>cases h
   | cons e r=>
    have b:n=e.n:=by simpa using h
    rw[b];exact F2 w xz
  rw[dt a]at h;exact h
 refine aP (A'.mp hw) λi hi e c=>c8 i hi e ?_;cases q:cq es i with
 | nil=>exact dV q c
 | cons x r=>exact⟨x,r,xz⟩
def X7(C PT:e_):Sp:=λvs H Q _=>∃a n kd tn es q qr,vs=[.ref a,.int n]/\dY H a C kd tn es q qr/\dm PT LP LQ H/\n∈iT kd es/\
 ∀H' e st,(cq es n.toNat).head?=a_ e->dY H' a C kd tn (jH es n) q qr->iw (a::q::qr) H H'->dm PT LP LQ H'->H' st=a_ (.tup [.int e.n,.int e.num,.int e.d])->Q (.ref st) H'
def ahh:bj gi gi (aU N5):=bG
def afV{f fW V C PT c:e_}(F:aW K "take" "Tray.take" N5 f fd)(B:BT mg)(L:nC K C)(hC:W.CodeHd fi c PT)(hB:vU mg fi)(X:aW K U_ U_ Nl fW uv)(bW:d5 K uv [aq7] [])(mW:mg U_ = a_ (.ref fW))(FF:x6 K "fronts" "Tray.fronts" Gu V fdF c)(bF:d5 K fdF fC [])(mF:Meth K C "fronts" V):aM P w K mg fi aS 3 f fd gi (X7 C PT):=by
 have GW:aM P w K _ fi _ 1 _ _ [aq7] V9:=aep X B;have GF:aM P w K _ _ _ 2 _ _ _ _:=U1 FF B L hC hB;refine F.ok ahh λaN A _ s H vs Q E Y h=>?_
 refine f9 h λa n kd tn es u=>iG u λq qr u T zR M=>?_;subst u;refine oA M λZ k1=>?_;clear M h
 refine let d:TS:=_;⟨_,ay (bX (PW.pt (pw_or (kK<|gu<|jU GW (Y.mono qc) xz mW X.kp bW .nil dh<|ae (pv 1) af)
   (pw_or1<|bA Ut (pv 1) (Gw (pv 0) L.cl mF GF Y bF .nil dh) xz))) xb cj)
  (pR d<|aB<|a8<|aO cw (je m_ PySem.F.slot_list_pop PySem.F.type_list_pop agc (aO cG (bT (pv 0) xz)<|pv 1)<|ae ax af) ax),?_⟩
 refine dO (id T.obj) λdx fs ea e1 e2 e3 em el=>vr xz<|di _ _ xz xz<|au _ xz<|dG<|vr xz<|vM xz ea (em _ dk)<|⟨a,kd,tn,es,q,qr,xz,T,zR,(λN l kp yc hn hl=>⟨l,⟨_,xz,.inl<|ao.of hl,xz,aeZ _,_,xz,?_⟩⟩)⟩;rw[dL xz,aik];refine Ph (λz=>dV Z<|eV z) λ_=>?_
 have g:=T.vE kp;refine aP (Gj T.wf Z) λi hi u M=>?_;subst u;refine Eo M λe r O=>dO (id g.obj) λyy uP R f1 f2 f3 fm fl=>?_;have apX:=g.len;have D:=aQ wg;refine aq (g.kT i _ D) λvs x rb=>?_;have S:=bz D;generalize qr[i]'wg=b at D x S;rw[O]at rb;cases rb with
 | cons hx J'=>
  refine cZ hx λp st u I J=>?_;clear hx;subst u
  rename_i oN
  refine au _ xz<|eh a C _ _<|lC _ xz R L.cl L.xA f3<|vr xz<|rL (v:=.ref b) (ao.of g.qs) (bZ<|by rw[cH,D];rfl) ⟨.inl ⟨xz,_,ao.of x⟩,?_⟩;refine⟨b,_,0,0,(.ref p),xz,xz,x,qc,qc,(by simp[Mn]),xz,?_⟩;have npb:=gv I x (by intro z;cases z);have nsb:=gv J x (by intro z;cases z);refine rT (aF.of<|by rw[ag npb];exact I) (bZ xz) ?_
  have ka:Ik (a::q::qr) N (cB N b<|.lst oN):=λc o m G=>by
   rw[ag λz=>m (by simp[z,S])];exact G
  have kt:∀c xs,N c=a_ (.tup xs)->cB N b (.lst oN) c=a_ (.tup xs):=λc xs G=>by rw[ag<|gv G x (by intro z;cases z)];exact G
  have EN:=gv R x (by intro z;cases z);have Rg:q≠b:=λz=>g.nq<|z ▸ S
  refine k1 _ e st (by rw[jQ,O];rfl) ⟨⟨yy,uP,by rw[ag EN];exact R,f1,f2,f3,fm,fl⟩,by rw[ag Rg];exact g.qs,g.len,g.nd,g.nq,λj c m=>?_,ag2 g.wf _⟩
   ⟨λc o m ht G=>ka c o m<|kp.k c o (by simp) ht G,λc h=>kp.t c (by
    by_cases z:c=b
    .rw[z,av]at h;cases h
    rwa[ag z]at h)⟩ (CZ yc ka g.kinds) (by rw[ag nsb];exact J)
  rw[afE]
  by_cases U:j=i
  .subst U;rw[D]at m;cases m;rw[dL xz,O];exact au _ av<|Dj (λ_ _ y=>y.keep (F:=[]) kt) J'
  rw[dt λy=>U (by have:i=(j:Int):=y;lia)]
  have Rp:c≠b:=λy=>U (by
   subst y;refine oE (bu.mp m) λp1 I=>?_;refine oE (bu.mp D) λp2 J=>?_;obtain y|y|y:=KW j i
   .exact dV (I.f4 J.f5) (lj.mp g.nd j i _ _ y)
   .exact y
   exact dV (J.f4 I.f5) (lj.mp g.nd i j _ _ y))
  exact(g.kT j c m).keep (λo e=>by rw[ag Rp];exact e) kt
def V'(C:e_):Sp:=λvs H Q _=>∃kd,vs=[.str kd]/\(kd = V_\/kd = H_\/kd="none")/\∀H' x q qr,dY H' x C kd 0 [] q qr->Ik [] H H'->(∀b∈x::q::qr,H b=b_)->Q (.ref x) H'
def afv:bj [S_] [S_] (aU Nm):=bG
theorem VM{e:fT}{f:Nat->List fT}:∀n:Nat,((∃k:Nat,k<n/\e.n=(k:Int))->eW ((List.range n).flatMap λ(i:Nat)=>if e.n=(i:Int) then e::f i else f i) (e::(List.range n).flatMap f))/\((¬∃k:Nat,k<n/\e.n=(k:Int))->((List.range n).flatMap λ(i:Nat)=>if e.n=(i:Int) then e::f i else f i)=(List.range n).flatMap f)
 | 0=>⟨λ⟨k,b,_⟩=>dV b<|CK _,λ_=>rfl⟩
 | n+1=>by
  refine oA (VM (e:=e) (f:=f) n) λm c=>?_;have d:∀g:Nat->List fT,(List.range<|n+1).flatMap g=(List.range n).flatMap g++g n:=λg=>by rw[kF,wR];simp
  rw[d,d];constructor
  .rintro⟨k,b,o⟩
   by_cases h:e.n=(n:Int)
   .have a:¬∃k:Nat,k<n/\e.n=(k:Int):=λ⟨j,p,l⟩=>li;rw[c a,dL h];exact aci
   rw[dt h];exact(m ⟨k,li,o⟩).append_right _
  intro a;rw[c λ⟨j,p,l⟩=>a ⟨j,li,l⟩,dt λh=>a ⟨n,w1,h⟩]
theorem UD:∀{es:List fT},(∀e∈es,0<=e.n/\e.n<12)->eW ((List.range 12).flatMap<|cq es) es
 | [],_=>by
  have:(List.range 12).flatMap (cq [])=[]:=Td.mpr λi _=>rfl;rw[this]
 | e::r,h=>by
  have a:(cq (e::r))=λi=>if e.n=((i:Nat):Int) then e::cq r i else cq r i:=by
   funext i
   unfold cq;rw[tF]
   by_cases z:e.n=(i:Int)
   .simp only[ee z,if_true,dL z]
   simp only[eF z,yF,if_false,dt z]
  refine oA (h e gg) λc h1=>?_;rw[a];exact((VM (e:=e) (f:=cq r) 12).1 ⟨e.n.toNat,li,xm⟩).f4 ((UD λx b=>h x<|eI _ b).cons e)
theorem UE(qv:Nat->List V)(a:Nat->List fT):∀n:Nat,(∀i:Nat,i<n->aA (mm H) (qv i) (a i))->aA (mm H) ((List.range n).flatMap qv) ((List.range n).flatMap a)
 | 0,_=>.nil
 | n+1,h=>by
  have b:∀{e:Type}(g:Nat->List e),(List.range<|n+1).flatMap g=(List.range n).flatMap g++g n:=λg=>by rw[kF,wR];simp
  rw[b,b];exact paired_cat (UE qv a n λi hi=>h i li)<|h n<|CH n
where
 paired_cat {H:Hp}:∀{l c:List V}{r d:List fT},aA (mm H) l r->aA (mm H) c d->aA (mm H) (l++c) (r++d)
 | _,_,_,_,.nil,h=>h
 | _,_,_,_,.cons g t,h=>.cons g<|paired_cat t h
theorem LN:∀{l:List V}{r:List fT},aA (mm H) l r->∀q∈(l.zip r).map λz=>(z.2.t,z.1),∃e∈r,q.1=e.t/\mm H q.2 e
 | _,_,.nil,q,h=>by cases h
 | _,_,.cons (a:=v) (b:=e) g t,q,h=>by
  rw[abW,eu]at h;obtain z|z:=bq.mp h
  .rw[z];exact c8 e gg xz g
  exact aq (LN t q z) λc h1 h2=>au c (eI _ h1) h2
theorem zip_parts:∀{l:List V}{r:List fT},aA (mm H) l r->((l.zip r).map λz=>(z.2.t,z.1)).map (·.2)=l/\((l.zip r).map λz=>(z.2.t,z.1)).map (·.1)=r.map (·.t)
 | _,_,.nil=>⟨xz,xz⟩
 | _,_,.cons g t=>by
  refine oA (zip_parts t) λh1 h2=>?_;rw[abW,eu,eu,eu,h1,h2];exact⟨xz,xz⟩
def ac9(w:lL tn es)(a:eW L es):(L.map (·.t)).Nodup:=by
 exact(a.map (·.t)).nodup_iff.mpr (AO.mpr<|w.asc.imp Int.ne_of_lt)
def aie{x:bx}(h:x = V_\/x = H_\/x="none"):Ep (.str x) [.str V_,.str H_,.str "none"]=true:=by
 rcases h with rfl | rfl | rfl <;> decide +kernel
def aew{f fI C a:e_}{fd hV:lz}(F:aW K "tray_of" "tray_of" Nm f fd)(B:BT mg)(c:nC K C)(M:Mk K C fI)(d:aW K K_ "Tray.__init__" Jn fI hV)(g:d5 K hV [Q_,S_] [])(i:mg "Tray"=a_ (.ref C))(j:∃u,mg "NAMES"=a_ u/\d0 (.int 12) u)(mK:mg "KINDS"=a_ (.ref a))(l:∀H:Hp,aF K H a [.str V_,.str H_,.str "none"]):aM P w K mg fi aS 3 f fd [S_] (V' C):=by
 have m:aM P w K _ fi _ 1 _ _ [Q_,S_] (ZP C):=alb d B c j;refine F.ok afv λaN A _ s H vs Q E n h=>?_
 refine aP h λx p r k=>?_;subst p;refine⟨_,ay (bX (PW.pt<|pw_or (kK<|gu<|bw jb xz B.kg jq<|ae (pv 0)<|ae (nj (v:=.ty _) xz B.str boot_str xz) af)<|pw_or1<|bA Ut (pv 0) (gD (v:=.ref _) xz mK xz) xz) xb cj)<|aB<|a8<|vn M m n xz i g .nil dh<|ae (pv 0) af,?_⟩;refine vr xz<|eh _ _ _ _<|fG _ xz (mE xz) xz (mq (H:=H) (v:=.str x) xz qc)<|au _ xz<|dG<|vr xz ⟨a,⟨_,xz,.inr<|l H,xz,xz,_,xz,?_⟩⟩;rw[dL xz,aie r];refine dG (vr xz λo dx no t ne=>rG o _ x xz av λH' q qr y kp fr=>⟨xz,k _ o q _ y (λb u _ e=>kp b u (a7 e no) ?_) λb D=>?_⟩)
 .rw[ag<|a7 e no,ag<|a7 e t];exact e
 obtain z|z:=bq.mp D
 .rw[z];exact no
 .have:=fr b z;have G:b≠o:=λe=>by rw[e,av]at this;cases this
  rw[ag G]at this;have I:b≠dx:=λe=>by rw[e,av]at this;cases this
  rw[ag I]at this;exact this
end TL
open L2
namespace TS
section
variable{M:bL}{A:h_}{E:f_->g_->Prop}{s:g_}
def ag0{σ:Type}{Q:PUnit->σ->Prop}{x st:σ}(h:Q ⟨⟩ x):wpS M A E s (set x) Q st:=aI ⟨xz,h⟩
def iQ{st:cc}(h:arr[i]?=a_ x)(q:Q x st):wpS M A E s (elem' arr i) Q st:=by
 rw[elem'_eq,h];exact bf q
def Bd{st:cc}(h:Q ⟨⟩ st):wpS M A E s (liftM<|rule n) Q st:=wpS_lift<|A7 ⟨xz,h⟩
def cY{a:Type}{c:Prop}[Decidable c]{m b:StateT cc Sem a}{Q:a->cc->Prop}{st:cc}(h1:c->wpS M A E s m Q st)(h2:¬c->wpS M A E s b Q st):wpS M A E s (if c then m else b) Q st:=by
 by_cases h:c
 .rw[dL h];exact h1 h
 rw[dt h];exact h2 h
structure Sm(st aw:cc):Prop where
 k:kindOf aw=kindOf st
 a:c0 aw=c0 st
 p:cD aw=cD st
 f:qj aw=qj st
def Gn{f:cc->cc}{st d:cc}(b:Sm d st)(c:Sm st (f st))(q:∀aw,Sm d aw->Q ⟨⟩ aw):wpS M A E s (modify f) Q st:=yU<|q _ ⟨c.k.f4 b.k,c.a.f4 b.a,c.p.f4 b.p,c.f.f4 b.f⟩
def Gp{a:Type}{Q:a->cc->Prop}{st:cc}{c:Prop}[Decidable c]{X Y J:StateT cc Sem a}(P:Prop)(h1:c->(P->wpS M A E s J Q st)->wpS M A E s X Q st)(h2:¬c->P/\Y=J)(t:P->wpS M A E s J Q st):wpS M A E s (if c then X else Y) Q st:=cY (λh=>h1 h t) λh=>by rw[(h2 h).2];exact t (h2 h).1
def Vg{a:Type}{Q:a->cc->Prop}{st:cc}{c:Prop}[Decidable c]{X Y:StateT cc Sem a}{J:Nat->StateT cc Sem a}(h1:(∀v,wpS M A E s (J v) Q st)->wpS M A E s X Q st)(h2:(∀v,wpS M A E s (J v) Q st)->wpS M A E s Y Q st)(t:∀v,wpS M A E s (J v) Q st):wpS M A E s (if c then X else Y) Q st:=cY (λ_=>h1 t) λ_=>h2 t
def lp{a:Type}{n:Nat}(P:Nat->Nat->Nat->Prop)(D:Nat->Nat->Prop){F:Nat->Option a×Nat×Nat->StateT cc Sem (ForInStep<|Option a×Nat×Nat)}{R:Option a×Nat×Nat->cc->Prop}{st:cc}{x y:Nat}(d:P 0 x y)(hn:∀l o,P n l o->D l o)(q:∀l o,D l o->R (b_,l,o) st)(e:∀i l o(R:ForInStep (Option a×Nat×Nat)->cc->Prop),i<n->P i l o->(D l o->R (.done (b_,l,o)) st)->(∀b o',P (i+1) b o'->R (.yield (b_,b,o')) st)->wpS M A E s (F i (b_,l,o)) R st):wpS M A E s (forIn [:n] (b_,x,y) F) R st:=by
 refine qd (I:=λi c aw=>aw=st/\∃l o,c=(b_,l,o)/\P i l o) ?_ ?_ ⟨xz,x,y,xz,d⟩
 .rintro i c aw _ hi ⟨rfl,l,o,rfl,p⟩;exact e i l o _ hi p (q l o) λb o' f=>⟨xz,b,o',xz,f⟩
 rintro c aw ⟨rfl,l,o,rfl,p⟩;exact q l o<|hn l o (by rw[TN<|aY _]at p;exact p)
end
abbrev Up(rk:ca->Int)(l:List ca):Prop:=l.Pairwise λx y=>rk x<=rk y
abbrev Le(rk:ca->Int)(l l':List ca):Prop:=∀x∈l,∀y∈l',rk x<=rk y
def QX:=Bool->ca->Array ca->Nat->Nat->Nat->StateT cc Sem (Option Nat)
noncomputable def bey(left:Bool)(key:ca)(a:Array ca)(fi i:Nat):StateT cc Sem (Option Bool):=do
 let x <-elem' a (fi+i)
 if left=c_ then lt' x key
 else do
  let r <-lt' key x
  pure (r.map λx=>!x)
def zk(g:QX):Prop:=∀(M:bL)(A:h_)(E:f_->g_->Prop)(s:g_)(O:Prop)(left:Bool)(key:ca)(a:Array ca)(fi n c k0:Nat)(st:cc)(Q:Option Nat->cc->Prop),c<n->(O->k0<=n)->
 (∀i,i<n->∀Q:Option Bool->cc->Prop,(∀b,(O->b=decide (i<k0))->Q (a_ b) st)->wpS M A E s (bey left key a fi i) Q st)->(∀k,k<=n->(O->k=k0)->Q (a_ k) st)->wpS M A E s (g left key a fi n c) Q st
def sr(M:bL)(A:h_)(E:f_->g_->Prop)(s:g_)(κ:md)(a0:List ca)(O:Prop)(rk:ca->Int):Prop:=∀(st:cc)(x y:ca)(Q:Option Bool->cc->Prop),kindOf st=κ->x∈a0->y∈a0->(∀b,(O->b=decide (rk x<rk y))->Q (a_ b) st)->wpS M A E s (lt' x y) Q st
def Of(a0:List ca)(a:Array ca):Prop:=∀x∈a.toList,x∈a0
def Of.at'(h:Of a0 a)(hi:i<a.size):∃x,a[i]?=a_ x/\x∈a0:=⟨a[i],by simp ,h _<|by simp⟩
theorem Oj{a:Type}{p:a->Bool}:∀{l:List a},l.Pairwise (λx y=>p y=c_->p x=c_)->∃k,k<=l.length/\∀i(h:i<l.length),p l[i]=decide (i<k)
 | [],_=>⟨0,aD _,λi h=>dV h<|CK _⟩
 | x::l,h=>by
  rw[sY]at h;cases e:p x with
  | false=>
   refine⟨0,aY _,λi hi=>?_⟩;cases i with
   | zero=>simpa using e
   | succ i=>
    cases z:p (l[i]'(by simpa using hi))with
    | false=>simpa using z
    | true=>exact dV (h.1 _ (FH _) z) (by rw[e];decide)
  | true=>
   obtain⟨k,b,c⟩:=Oj h.2;refine⟨k+1,by simpa using b,λi hi=>?_⟩;cases i with
   | zero=>simpa using e
   | succ i=>simpa using c i (by simpa using hi)
noncomputable def pq(rk:ca->Int)(left:Bool)(key x:ca):Bool:=if left=c_ then decide (rk x<rk key) else !decide (rk key<rk x)
def Zc{left:Bool}:(pq rk left key x=c_->rk x<=rk key)/\(pq rk left key x=d_->rk key<=rk x):=by
 unfold pq;cases left <;> simp <;> lia
def Js{κ:md}{O:Prop}(G:zk g)(C:sr M A E s κ a0 O rk){left:Bool}{fi n d:Nat}{st:cc}(hn:fi+n<=arr.size)(f:kindOf st=κ)(u:Of a0 arr)(j:key∈a0)(v:d<n)(w:O->Up rk ((arr.toList.drop fi).take n))(q:∀k,k<=n->(O->(∀x∈(arr.toList.drop fi).take k,rk x<=rk key)/\∀x∈((arr.toList.drop fi).take n).drop k,rk key<=rk x)->Q (a_ k) st):wpS M A E s (g left key arr fi n d) Q st:=by
 have D:((arr.toList.drop fi).take n).length=n:=by rw[dn,oZ,fQ];lia
 obtain⟨k0,h2⟩:∃k0,O->k0<=n/\∀i(h:i<n),pq rk left key (((arr.toList.drop fi).take n)[i]' li)=decide (i<k0):=by
  by_cases l:O
  .obtain⟨k0,h1,h2⟩:=Oj (p:=pq rk left key) ((w l).imp λ{x y}h=>by unfold pq;cases left <;> simp <;> lia);exact⟨k0,λ_=>⟨li,λi h=>h2 i _⟩⟩
  exact⟨0,λz=>dV z l⟩
 refine G M A E s O _ _ _ _ n _ _ _ Q v (λo=>(h2 o).1) (λi hi Q' m=>?_) λk r e=>q k r λo=>?_
 .obtain⟨x,a,t⟩:=u.at' (show fi+i<arr.size by lia)
  have ex:((arr.toList.drop fi).take n)[i]' li=x:=by
   have:arr.toList[fi+i]?=a_ x:=by simpa using a
   rw[List.getElem_take,List.getElem_drop];exact(bu.mp this).2
  refine aV<|iQ a ?_;have h3:=λo=>(h2 o).2 i hi;rw[ex]at h3;unfold pq at h3;cases left
  .exact aV (C _ _ _ _ f j t λb c=>bf<|m _ λo=>by rw[<-h3 o,c o];rfl)
  exact C st _ _ _ f t j λb c=>m b λo=>by rw[<-h3 o,c o];rfl
 have B:=e o;subst B;refine⟨λx a=>?_,λx a=>?_⟩
 .rw[show (arr.toList.drop _).take k=((arr.toList.drop _).take n).take k by rw[CM,va r]]at a;obtain⟨i,hi,rfl⟩:=abd.mp a;exact Zc.1<|((h2 o).2 i li)▸ee li
 obtain⟨i,hi,rfl⟩:=abe.mp a;exact Zc.2 (((h2 o).2 (k+i) li)▸eF li)def Mrg:=Array ca->Array ca->StateT cc Sem (Array ca)
abbrev UP(O:Prop)(rk:ca->Int)(a b o:Array ca):Prop:=o.toList.Perm (a.toList++b.toList)/\(O->Up rk o.toList)
def Ij(m:Mrg):Prop:=∀(M:bL)(A:h_)(E:f_->g_->Prop)(s:g_)(κ:md)(a0:List ca)(O:Prop)(rk:ca->Int),sr M A E s κ a0 O rk->∀(a b:Array ca)(st:cc)(Q:Array ca->cc->Prop),kindOf st=κ->Of a0 a->Of a0 b->1<=a.size->1<=b.size->(O->Up rk a.toList)->(O->Up rk b.toList)->
 (O->∀x,b[0]?=a_ x->∀y∈a.toList,rk x<=rk y)->(O->∀x,a[a.size-1]?=a_ x->∀y∈b.toList,rk y<=rk x)->(∀r aw,Sm st aw->UP O rk a b r->Q r aw)->wpS M A E s (m a b) Q st
def Zd(p q r t:List ca):((p++q)++(r++t)).Perm ((p++r)++(q++t)):=by
 rw[dw,dw];exact sV _ (by rw[<-dw,<-dw];exact KC _ qV)
def uk(a:Array ca)(i k:Nat):(a.extract i<|i+k).toList=(a.toList.drop i).take k:=by simp 
def Z'(a:Array ca)(i:Nat):(a.extract i).toList=a.toList.drop i:=by
 simp;exact jA (by simp)
section
variable{O:Prop}{rk:ca->Int}{a b o:Array ca}{i j k:Nat}{x y:ca}
structure MI(O:Prop)(rk:ca->Int)(a b o:Array ca)(i j:Nat):Prop where
 p:o.toList.Perm (a.toList.take i++b.toList.take j)
 s:O->Up rk o.toList/\Le rk o.toList (a.toList.drop i)/\Le rk o.toList (b.toList.drop j)
def MI.swap(h:MI O rk a b o i j):MI O rk b a o j i:=⟨h.p.f4 qV,λz=>⟨(h.s z).1,(h.s z).2.2,(h.s z).2.1⟩⟩
def mi0{o x y z:List ca}(h:o.Perm (x++y)):(o++z).Perm ((x++z)++y):=(KC _ h).f4 (by rw[dw,dw];exact sV _ qV)
def lD(h:Up rk l)(k:Nat):Up rk (l.take k)/\Up rk (l.drop k)/\Le rk (l.take k) (l.drop k):=by
 have h:Up rk (l.take k++l.drop k):=by rw[jn];exact h
 exact⟨(lV.mp h).1,(lV.mp h).2.1,(lV.mp h).2.2⟩
def le_app(h:Le rk l m)(h':Le rk l' m):Le rk (l++l') m:=λx c=>(cp.mp c).elim (h x)<|h' x
def MI.add(h:MI O rk a b o i j)(ha:O->Up rk a.toList)(k:Nat)(e:O->Le rk ((a.toList.drop i).take k) (b.toList.drop j)):MI O rk a b (o++a.extract i (i+k)) (i+k) j:=by
 refine⟨?_,λz=>?_⟩
 .rw[uU,uk,Uo];exact mi0 h.p
 have h1:=h.s z;have h2:=lD (lD (ha z) i).2.1 k;rw[uU,uk,<-qY];exact⟨lV.mpr ⟨h1.1,h2.1,λx c y d=>h1.2.1 x c y<|yB d⟩,le_app (λx c y d=>h1.2.1 x c y<|yC d) h2.2.2,le_app h1.2.2<|e z⟩
def xu(h:a[i]?=a_ x):a.toList.drop i=x::a.toList.drop (i+1):=by
 obtain⟨hi,e⟩:=bu.mp (show a.toList[i]?=a_ x by simpa using h);rw[S4 hi,e]
def Hm(ha:Up rk a.toList)(h:a[i]?=a_ x):∀y∈a.toList.drop i,rk x<=rk y:=λy c=>by
 have h1:=(lD ha i).2.1;rw[xu h]at h1 c;obtain e|e:=bq.mp c
 .rw[e];exact F' _
 exact(sY.mp h1).1 y e
def MI.one(h:MI O rk a b o i j)(ha:O->Up rk a.toList)(c:a[i]?=a_ x)(f:O->∀y∈b.toList.drop j,rk x<=rk y):MI O rk a b (o.push x) (i+1) j:=by
 have h1:=h.add ha 1 λz u d=>by rw[xu c]at d;rw[show u=x by simpa using d];exact f z
 have e:o++a.extract i (i+1)=o.push x:=Lf.mp (by rw[uU,uk,xu c,TK];rfl);rwa[e]at h1
def MI.fin(h:MI O rk a b o i j)(ha:O->Up rk a.toList)(c:O->Up rk b.toList)(d:O->Le rk (a.toList.drop i) (b.toList.drop j)):UP O rk a b (o++a.extract i++b.extract j):=by
 unfold UP;rw[uU,uU,Z',Z'];refine⟨?_,λz=>?_⟩
 .rw[dw];refine(KC _ h.p).f4 ((Zd _ _ _ _).f4 ?_);rw[jn,jn]
 have h1:=h.s z;exact lV.mpr ⟨lV.mpr ⟨h1.1,(lD (ha z) i).2.1,h1.2.1⟩,(lD (c z) j).2.1,le_app h1.2.2<|d z⟩
def MI.Qd(h:MI O rk a b o i j)(ha:O->Up rk a.toList)(c:O->Up rk b.toList)(d:O->Le rk (b.toList.drop j) (a.toList.drop i)):UP O rk a b (o++b.extract j++a.extract i):=⟨(h.swap.fin c ha d).1.f4 qV,(h.swap.fin c ha d).2⟩
structure MR(O:Prop)(rk:ca->Int)(a b o:Array ca)(i j:Nat):Prop where
 p:o.toList.Perm (a.toList.drop i++b.toList.drop j)
 s:O->Up rk o.toList.reverse/\Le rk (a.toList.take i) o.toList.reverse/\Le rk (b.toList.take j) o.toList.reverse
def MR.swap(h:MR O rk a b o i j):MR O rk b a o j i:=⟨h.p.f4 qV,λz=>⟨(h.s z).1,(h.s z).2.2,(h.s z).2.1⟩⟩
def YV(h:Le rk m l)(h':Le rk m l'):Le rk m (l++l'):=λx c y d=>(cp.mp d).elim (h x c y)<|h' x c y
def MR.add(h:MR O rk a b o i j)(ha:O->Up rk a.toList)(c:k<=i)(g:O->Le rk (b.toList.take j) ((a.toList.take i).drop k)):MR O rk a b (o++(a.extract k i).reverse) k j:=by
 have e:=jn (i-k)<|a.toList.drop k;rw[qY,Ts c]at e;have f:=uk a k<|i-k;rw[Ts c]at f;refine⟨?_,λz=>?_⟩
 .rw[uU,KP,f];refine(sV _<|ab7 _).f4 (qV.f4<|(sV _ h.p).f4 ?_);rw[<-dw,e]
 have h1:=h.s z;have h2:=lD (lD (ha z) i).1 k;rw[CM,va c]at h2;rw[uU,KP,f,List.reverse_append,List.reverse_reverse,<-Lp];exact⟨lV.mpr ⟨h2.2.1,h1.1,λx d=>h1.2.1 x<|yC d⟩,YV h2.2.2 λx d=>h1.2.1 x (by rw[show a.toList.take k=(a.toList.take i).take k by rw[CM,va c]]at d;exact yB d),YV (g z) h1.2.2⟩
theorem OT(hi:1<=i)(c:a[i-1]?=a_ x):(a.toList.take i).drop (i-1)=[x]:=by
 have h1:=xu c;rw[Lp,h1,show i-(i-1)=1 by lia];rfl
def Hj(ha:Up rk a.toList)(hi:1<=i)(c:a[i-1]?=a_ x):∀y∈a.toList.take i,rk y<=rk x:=λy d=>by
 have h1:=lD (lD ha i).1<|i-1;rw[OT hi c]at h1;rw[<-jn (i-1)<|a.toList.take i,OT hi c]at d;obtain z|z:=cp.mp d
 .exact h1.2.2 y z x (cR.mpr xz)
 rw[cR.mp z];exact F' _
def MR.one(h:MR O rk a b o i j)(ha:O->Up rk a.toList)(hi:1<=i)(c:a[i-1]?=a_ x)(g:O->∀y∈b.toList.take j,rk y<=rk x):MR O rk a b (o.push x) (i-1) j:=by
 have h1:=h.add ha (Nat.sub_le i 1) λz u l v d=>by rw[OT hi c]at d;rw[cR.mp d];exact g z u l
 have f:=uk a (i-1) 1;rw[Nat.sub_add_cancel hi]at f;have e:o++(a.extract _ i).reverse=o.push x:=Lf.mp (by rw[uU,KP,f,xu c,TK];rfl);rwa[e]at h1
def MR.fin(h:MR O rk a b o i j)(ha:O->Up rk a.toList)(e:O->Up rk b.toList)(f:O->Le rk (a.toList.take i) (b.toList.take j)):UP O rk a b (a.extract 0 i++b.extract 0 j++o.reverse):=by
 unfold UP;have c:=uk a 0 i;have d:=uk b 0 j;rw[A0]at c d;rw[uU,uU,KP,c,d,ve,ve];refine⟨?_,λz=>?_⟩
 .refine(sV _<|(ab7 _).f4 h.p).f4 ((Zd _ _ _ _).f4 ?_);rw[jn,jn]
 have h1:=h.s z;exact lV.mpr ⟨lV.mpr ⟨(lD (ha z) i).1,(lD (e z) j).1,f z⟩,h1.1,le_app h1.2.1 h1.2.2⟩
def MR.Qd(h:MR O rk a b o i j)(ha:O->Up rk a.toList)(c:O->Up rk b.toList)(d:O->Le rk (b.toList.take j) (a.toList.take i)):UP O rk a b (b.extract 0 j++a.extract 0 i++o.reverse):=⟨(h.swap.fin c ha d).1.f4 qV,(h.swap.fin c ha d).2⟩
def na(o a:Array ca)(i:Nat):o++a.extract i (i+0)=o:=by
 simp;exact yH _ _
def nn(o a:Array ca)(i:Nat):o++(a.extract i i).reverse=o:=by
 simp;exact yH _ _
end
structure G(κ:md)(a0:List ca)(pd:Array (Nat×Nat×Nat))(st:cc):Prop where
 k:kindOf st=κ
 f:qj st=b_
 a:(c0 st).toList.Perm a0
 p:cD st=pd
def G.size{κ:md}{st:cc}(g:G κ a0 pd st):(c0 st).size=a0.length:=by rw[<-fQ,g.a.length_eq]
def G.of{κ:md}{st:cc}(g:G κ a0 pd st):Of a0 (c0 st):=λ_ h=>g.a.mem_iff.mp h
def fy(a:Array ca)(i n:Nat):List ca:=(a.toList.drop i).take n
def jI(a a':Array ca)(i n:Nat):Prop:=a'.toList=a.toList.take i++fy a' i n++a.toList.drop (i+n)
def UK:Prop:=∀(M:bL)(A:h_)(E:f_->g_->Prop)(s:g_)(κ:md)(a0:List ca)(O:Prop)(rk:ca->Int),sr M A E s κ a0 O rk->∀(i sa a c b d:Nat)(pd:Array (Nat×Nat×Nat))(st:cc)(Q:Bool->cc->Prop),G κ a0 pd st->pd[i]?=a_ (sa,a,c)->pd[i+1]?=a_ (sa+a,b,d)->1<=a->1<=b->sa+a+b<=a0.length->(O->Up rk (fy (c0 st) sa a)/\Up rk (fy (c0 st) (sa+a) b))->
 (∀aw,G κ a0 ((pd.setIfInBounds i (sa,a+b,c)).eraseIdxIfInBounds<|i+1) aw->(O->jI (c0 st) (c0 aw) sa (a+b)/\Up rk (fy (c0 aw) sa<|a+b))->Q c_ aw)->wpS M A E s (mergeAt' i) Q st
def HF(e:a'.toList=a.toList.take i++m++a.toList.drop (i+n))(hm:m.length=n)(h:i+n<=a.size):jI a a' i n/\fy a' i n=m:=by
 have s:fy a' i n=m:=by
  unfold fy;have b:(a.toList.take i).length=i:=by rw[dn,fQ];lia
  rw[e,dw,TV,wN li,b,qZ,FQ,ve,List.take_append,hm,qZ,List.take_zero,gj,jA li]
 exact⟨by unfold jI;rw[s];exact e,s⟩
def tV(h:i+n<=a.size):(fy a i n).length=n:=by unfold fy;rw[dn,oZ,fQ];lia
def De(a:Array ca)(i n:Nat):jI a a i n:=by
 unfold jI fy;rw[dw,<-qY,jn,jn]
def Nk(a:Array ca)(i n m:Nat):fy a i (n+m)=fy a i n++fy a (i+n) m:=by unfold fy;rw[Uo,qY]
def seg_at(h:a[i+j]?=a_ x)(b:j<n):(fy a i n)[j]?=a_ x:=by
 unfold fy;rw[sZ,dL b,tf];simpa using h
def V8(h:Up rk l)(e:l[0]?=a_ x):∀y∈l,rk x<=rk y:=by
 cases l with
 | nil=>cases e
 | cons z l=>
  cases e;exact λy a=>(bq.mp a).elim (λz=>by rw[z];exact F' _)<|(sY.mp h).1 y
def W0(h:Up rk l)(e:l[l.length-1]?=a_ x):∀y∈l,rk y<=rk x:=λy a=>by
 obtain⟨i,hi,rfl⟩:=wQ a;obtain⟨h1,h2⟩:=bu.mp e
 by_cases z:i=l.length-1
 .subst z;rw[h2];exact F' _
 rw[<-h2];exact lj.mp h i _ _ _ li
def aeG(h1:Up rk (p++q))(h2:Up rk (b++d))(i:Up rk r)(f:r.Perm (q++b))(e:∀y∈p,rk y<=rk x)(j:∀y∈q,rk x<=rk y)(g:∀y∈b++d,rk x<=rk y)(k:∀y∈q,rk y<=rk z)(hd:∀y∈d,rk z<=rk y):Up rk (p++r++d):=by
 have l:=lV.mp h1;have h:=lV.mp h2;refine lV.mpr ⟨lV.mpr ⟨l.1,i,λu a v c=>?_⟩,h.2.1,λu a v c=>?_⟩
 .rcases cp.mp (f.mem_iff.mp c)with z | z
  .exact nW (e u a) (j v z)
  exact nW (e u a) (g v<|cp.mpr<|.inl z)
 obtain a|a:=cp.mp a
 .exact nW (e u a) (g v<|cp.mpr<|.inr c)
 rcases cp.mp (f.mem_iff.mp a)with y | y
 .exact nW (k u y) (hd v c)
 exact h.2.2 u y v c
theorem Xs:∀(l:List ca)(b:Nat)(d:Array ca),sa+b+l.length<=d.size->∀i,(C4 (λ(a:Array ca)(x:ca×Nat)=>match x with | (p,j)=>a.setIfInBounds (sa+j) p) d<|l.zipIdx b)[i]?=if sa+b<=i/\i<sa+b+l.length then l[i-(sa+b)]? else d[i]?
 | [],b,d,h,i=>by
  rw[dt (by simp)];rfl
 | x::l,b,d,h,i=>by
  have f:(x::l).length=l.length+1:=rfl;rw[TR,List.foldl_cons,Xs l (b+1) _ (by rw[Array.size_setIfInBounds];lia)]
  by_cases e:i=sa+b
  .subst e;rw[dt li,dL li,qZ,Array.getElem?_setIfInBounds_self_of_lt li];rfl
  by_cases c:sa+(b+1)<=i/\i<sa+(b+1)+l.length
  .rw[dL c,dL li,show i-(sa+b)=(i-(sa+(b+1)))+1 by lia,abl]
  rw[dt c,dt li,SY li]
def afF(h:sa+l.length<=arr.size):(C4 (λ(a:Array ca)(x:ca×Nat)=>match x with | (p,j)=>a.setIfInBounds (sa+j) p) arr l.zipIdx).toList=arr.toList.take sa++l++arr.toList.drop (sa+l.length):=by
 apply uX;intro i;have:=Xs l 0 _ om i;rw[sW,this];have e:arr.toList.length=arr.size:=fQ;have b:(arr.toList.take sa).length=sa:=by rw[dn];lia
 by_cases c:i<sa
 .rw[dt li,dw,iN li,sZ,dL c];simp
 by_cases d:i<sa+l.length
 .rw[dL li,dw,lR li,b,iN li];rfl
 rw[dt li,lR (by rw[ba];lia),ba,b,tf];rw[show sa+l.length+(i-(sa+l.length))=i by lia];simp
def ku{g S i j k o:Type}{m n:Nat}{P:S->Prop}{R:Nat->i->j->k->o->Prop}{G:Nat->g->S->Prop}{f:i->j->k->o->g}(h:∀w a b d e s,w<n->P s->R w a b d e->G w (f a b d e) s):∀w c s,m<=w->w<n->(P s/\∃a b d e,c=f a b d e/\R w a b d e)->G w c s:=by
 rintro w c s _ l ⟨p,a,b,d,e,rfl,r⟩;exact h _ _ _ _ _ _ l p r
def ki{g S i j o p κ:Type}{m n:Nat}{q:S}{R:Nat->i->j->o->p->κ->Prop}{G:Nat->g->S->Prop}{f:i->j->o->p->κ->g}(h:∀w a b d e k,w<n->R w a b d e k->G w (f a b d e k) q):∀w c s,m<=w->w<n->(s=q/\∃a b d e k,c=f a b d e k/\R w a b d e k)->G w c s:=by
 rintro w c s _ l ⟨rfl,a,b,d,e,k,rfl,r⟩;exact h _ _ _ _ _ _ l r
def kb{g S j o q t κ u:Type}{m n:Nat}{P:S->Prop}{R:Nat->j->o->q->t->κ->u->Prop}{G:Nat->g->S->Prop}{f:j->o->q->t->κ->u->g}(h:∀w a b d e k i s,w<n->P s->R w a b d e k i->G w (f a b d e k i) s):∀w c s,m<=w->w<n->(P s/\∃a b d e k i,c=f a b d e k i/\R w a b d e k i)->G w c s:=by
 rintro w c s _ l ⟨p,a,b,d,e,k,i,rfl,r⟩;exact h _ _ _ _ _ _ _ _ l p r
def ir{a S b d:Type}{P:S->Prop}{T:b->Prop}{G:a->S->Prop}{g:b->d->a}(h:∀s r o,P s->T r->G (g r o) s):∀c s,(P s/\∃r o,c=g r o/\T r)->G c s:=by
 rintro c s ⟨p,r,o,rfl,t⟩;exact h _ _ _ p t
def lI{i S l m n p κ q u:Type}{j:S}{R:l->m->n->p->κ->Prop}{T:q->Prop}{G:i->S->Prop}{f:l->m->n->p->κ->i}{g:q->u->i}(h:∀a b d e k,R a b d e k->G (f a b d e k) j)(h2:∀r o,T r->G (g r o) j):∀c s,(s=j/\((∃a b d e k,c=f a b d e k/\R a b d e k)\/∃r o,c=g r o/\T r))->G c s:=by
 rintro c s ⟨rfl,⟨a,b,d,e,k,rfl,r⟩ | ⟨r,o,rfl,t⟩⟩
 .exact h _ _ _ _ _ r
 exact h2 _ _ t
def lx{j S l m n q κ u v w:Type}{P:S->Prop}{R:l->m->n->q->κ->u->Prop}{T:v->Prop}{G:j->S->Prop}{f:l->m->n->q->κ->u->j}{g:v->w->j}(h:∀a b d e k i s,P s->R a b d e k i->G (f a b d e k i) s)(h2:∀s r o,P s->T r->G (g r o) s):∀c s,(P s/\((∃a b d e k i,c=f a b d e k i/\R a b d e k i)\/∃r o,c=g r o/\T r))->G c s:=by
 rintro c s ⟨p,⟨a,b,d,e,k,i,rfl,r⟩ | ⟨r,o,rfl,t⟩⟩
 .exact h _ _ _ _ _ _ _ p r
 exact h2 _ _ _ p t
end TS
namespace TS
section
variable{M:bL}{A:h_}{E:f_->g_->Prop}{s:g_}{κ:md}{a0:List ca}{O:Prop}{rk:ca->Int}{g:QX}{left:Bool}{key:ca}{a:Array ca}{i:Nat}{st:cc}{Q:Option Nat->cc->Prop}
def Z6(G:zk g)(C:sr M A E s κ a0 O rk)(c:kindOf st=κ)(d:Of a0 a)(b:key∈a0)(e:O->Up rk a.toList)(hi:i<a.size)(q:∀k,k<=a.size-i->(O->(∀x∈(a.toList.drop i).take k,rk x<=rk key)/\∀x∈a.toList.drop (i+k),rk key<=rk x)->Q (a_ k) st):wpS M A E s (g left key a i (a.size-i) 0) Q st:=
 Js G C li c d b li (λo=>(lD (lD (e o) i).2.1 _).1) λk b p=>q k b λo=>⟨(p o).1,λx f=>(p o).2 x<|by rw[jA (by simp),qY];exact f⟩
def Z7(G:zk g)(C:sr M A E s κ a0 O rk)(c:kindOf st=κ)(d:Of a0 a)(b:key∈a0)(e:O->Up rk a.toList)(h1:1<=i)(hi:i<=a.size)(q:∀k,k<=i->(O->(∀x∈a.toList.take k,rk x<=rk key)/\∀x∈(a.toList.take i).drop k,rk key<=rk x)->Q (a_ k) st):wpS M A E s (g left key a 0 i<|i-1) Q st:=
 Js G C li c d b li (λo=>by rw[ve];exact(lD (e o) i).1) λk b p=>q k b λo=>by have:=p o;rw[ve]at this;exact this
end
def jy(h:i+1<n)(k:¬i+1+1=n):i+1+1<n:=li
def jL(h:i<n)(k:¬i+1=n):i+1<n:=li
def adP:∃(g:QX)(ml mh:Mrg),zk g/\(zk g->Ij ml)/\(zk g->Ij mh)/\(zk g->Ij ml->Ij mh->UK):=by
 apply Uz;apply Uz;apply Uz;refine⟨?a,?b,?c,?d⟩
 case d=>
  intro G ML MH M A E s κ a0 O rk C i sa m pa B pb pd st Q g h1 h2 RJ E6 hsz up q;have hs:=g.size;have U:=g.of;obtain⟨x,hx,ux⟩:=U.at' (show sa+m<(c0 st).size by lia);obtain⟨z,hz,uz⟩:=U.at' (show sa+(m-1)<(c0 st).size by lia);have lA:=tV (a:=c0 st) (i:=sa) (n:=m) li;have lB:=tV (a:=c0 st) (i:=sa+m) (n:=B) li;have xB:=λo=>V8 (up o).2<|seg_at hx li;have zA:=λo=>W0 (up o).1<|lA▸seg_at hz li
  have q0:(O->Le rk (fy (c0 st) sa m) (fy (c0 st) (sa+m) B))->∀aw,kindOf aw=kindOf st->qj aw=qj st->c0 aw=c0 st->cD aw=(pd.setIfInBounds i (sa,m+B,pa)).eraseIdxIfInBounds (i+1)->Q c_ aw:=λhl aw k1 J k3 k4=>q aw ⟨k1.f4 g.k,J.f4 g.f,by rw[k3];exact g.a,k4⟩ λo=>by
   rw[k3,Nk];exact⟨De _ _ _,lV.mpr ⟨(up o).1,(up o).2,hl o⟩⟩
  have gp:=g.p;rw[<-gp]at h1 h2 q q0;refine aV<|wpS_get ?_;simp only[cD]at h1 h2;rw[h1,h2];refine aV<|ag0<|aV<|iQ hx<|aV (Js G C li g.k U ux li (λo=>(up o).1) λk hk p=>cY (λe=>?_) λe=>?_)
  .have kz:k=m:=by
    have:=iE e;lia
   subst kz;exact bf<|q0 (λo u hu v hv=>nW ((p o).1 u hu)<|xB o v hv) _ xz xz xz xz
  have nk:¬m-k=0:=λy=>e<|eY.mpr y;have wy:(c0 st)[sa+k+(m-k)-1]?=a_ z:=by rw[show sa+k+(m-k)-1=sa+(m-1) by lia];exact hz
  refine aV<|iQ wy<|aV (Js G C li g.k U uz li (λo=>(up o).2) λJ Kg p2=>cY (λe'=>?_) λe'=>?_)
  .have kz:=iE e';subst kz;exact bf<|q0 (λo u hu v hv=>nW (zA o u hu)<|(p2 o).2 v hv) _ xz xz xz xz
  have nk2:¬J=0:=λy=>e'<|eY.mpr y
  have ea:((c0 st).extract (sa+k)<|sa+m).toList=(fy (c0 st) sa m).drop k:=by
   unfold fy;rw[show sa+m=(sa+k)+(m-k) by lia,uk,Lp,qY]
  have eb:((c0 st).extract (sa+m)<|sa+m+J).toList=(fy (c0 st) (sa+m) B).take J:=by
   unfold fy;rw[uk,CM,va Kg]
  have p2:O->(∀u∈(fy (c0 st) (sa+m) B).take J,rk u<=rk z)/\∀u∈(fy _ _ _).drop _,rk z<=rk u:=λo=>⟨by rw[<-eb,uk];exact(p2 o).1,(p2 o).2⟩;have p1:O->(∀u∈(fy (c0 st) sa m).take k,rk u<=rk x)/\∀u∈(fy _ _ _).drop k,rk x<=rk u:=λo=>⟨by unfold fy;rw[CM,va hk];exact(p o).1,(p o).2⟩;have Ux:Of _ _:=λy L=>U y (by rw[ea]at L;exact yC<|yB<|yC L);have Uy:Of _ _:=λy L=>U y (by rw[eb]at L;exact yC<|yB<|yB L);have zx:((c0 st).extract (sa+k)<|sa+m).size=m-k:=by rw[abY];lia
  have zy:((c0 st).extract (sa+m)<|sa+m+J).size=J:=by rw[abY];lia
  have upx:O->Up _ ((c0 _).extract _<|sa+m).toList:=λo=>by rw[ea];exact(lD (up o).1 k).2.1
  have upy:O->Up _ ((c0 _).extract _<|sa+m+J).toList:=λo=>by rw[eb];exact(lD (up o).2 _).1
  have f1:O->∀x,((c0 st).extract (sa+m)<|sa+m+J)[0]?=a_ x->∀y∈((c0 st).extract (sa+k)<|sa+m).toList,rk x<=rk y:=λo x' e y L=>by
   rw[abv,dL li,Nat.add_zero,hx]at e;cases e;rw[ea]at L;exact(p1 o).2 y L
  have f2:O->∀x,((c0 st).extract (sa+k)<|sa+m)[((c0 st).extract (sa+k)<|sa+m).size-1]?=a_ x->∀y∈((c0 st).extract (sa+m)<|sa+m+J).toList,rk y<=rk x:=λo x' e y L=>by
   rw[zx,abv,dL li,show sa+k+(m-k-1)=sa+(m-1) by lia,hz]at e;cases e;rw[eb]at L;exact(p2 o).1 y L
  have fin:∀(r:Array ca)(aw:cc),kindOf aw=kindOf st->c0 aw=c0 st->qj aw=qj st->cD aw=((cD st).setIfInBounds i (sa,m+B,pa)).eraseIdxIfInBounds (i+1)->UP O rk ((c0 st).extract (sa+k)<|sa+m) ((c0 st).extract (sa+m)<|sa+m+J) r->
    ∀eP:cc,kindOf eP=kindOf aw->qj eP=qj aw->cD eP=cD aw->c0 eP=C4 (λ(a:Array ca)(x:ca×Nat)=>match x with | (p,j)=>a.setIfInBounds (sa+k+j) p) (c0 aw) r.toList.zipIdx->Q (qj eP).isNone eP:=by
   intro r aw k1 k2' k3 k4 pr eP s1 s2 s3 s4;obtain⟨pr,ur⟩:=pr;rw[ea,eb]at pr
   have lr:r.toList.length=m-k+J:=by
    rw[pr.length_eq,ba,oZ,dn,lA,lB];lia
   have e0:(c0 eP).toList=(c0 st).toList.take sa++((fy (c0 st) sa m).take k++r.toList++(fy (c0 st) (sa+m) B).drop J)++(c0 st).toList.drop (sa+(m+B)):=by
    have h0:(c0 st).toList.length=a0.length:=by rw[fQ,hs]
    rw[s4,k2',afF (by rw[lr];lia),lr];unfold fy
    have e1:(c0 st).toList.take (sa+k)=(c0 st).toList.take sa++(((c0 st).toList.drop sa).take m).take k:=by
     rw[CM,va hk,Uo]
    have e2:(c0 st).toList.drop (sa+k+(m-k+J))=(((c0 st).toList.drop<|sa+m).take B).drop J++(c0 st).toList.drop (sa+(m+B)):=by
     rw[show sa+k+(m-k+J)=sa+m+J by lia,Lp,qY];have:=jn (B-J)<|(c0 st).toList.drop<|sa+m+J;rw[qY,show sa+m+J+(B-J)=sa+(m+B) by lia]at this;exact this.f5
    rw[e1,e2];simp only[dw]
   have mo:=HF e0 (by rw[ba,ba,dn,oZ,lA,lB,lr];lia) li;rw[s2,k3,g.f];refine q eP ⟨s1.f4<|k1.f4 g.k,s2.f4<|k3.f4 g.f,acy ?_ g.a,s3.f4 k4⟩ λo=>⟨mo.1,?_⟩
   .rw[e0];have w:=De (c0 st) sa<|m+B;unfold jI at w;rw[Nk]at w
    conv=>rhs;rw[w]
    refine KC _<|sV _<|(((sV _ pr).append_right _)).f4 ?_;rw[dw,dw,<-dw,jn,jn]
   rw[mo.2];exact aeG (x:=x) (z:=z) (by rw[jn];exact(up o).1) (by rw[jn];exact(up o).2) (ur o) pr (p1 o).1 (p1 o).2 (by rw[jn];exact xB o) (λy L=>zA o y<|yC L) (p2 o).2
  exact cY (λ_=>aV<|ML M A E s κ a0 O rk C _ _ _ _ g.k Ux Uy li li upx upy f1 f2 λr aw S pr=>aV<|yU<|aV<|wpS_get<|bf<|fin r aw S.k S.a S.f S.p pr _ xz xz xz xz) λ_=>aV (MH M A E s κ a0 O rk C _ _ _ _ g.k Ux Uy li li upx upy f1 f2 λr aw S pr=>aV<|yU<|aV<|wpS_get<|bf<|fin r aw S.k S.a S.f S.p pr _ xz xz xz xz)
 case a=>
  intro M A E s O left key arr fi n K k0 st Q hh hk hb q;refine aV (hb K hh _ λb jO=>?_);cases b
  .refine aV (lp (λi l o=>O->¬K-l<k0/\l<o/\l<=K/\i+1<=o) (λl o=>O->¬K-l<k0/\l<=K/\(o ≥ K+1\/K-o<k0)) (λo=>⟨eV (jO o).f5,li⟩) (λl o p z=>by have:=p z;lia) (λl o d=>aV<|lp (λi l h=>h<=n/\(O->l<=k0/\k0<=h/\h-l<=n-i)) (λ_ h=>h<=n/\(O->h=k0)) ⟨li,λo=>?_⟩ (λl h p=>⟨p.1,λo=>by have:=p.2 o;lia⟩) (λl h p=>bf<|q h p.1 p.2) λi l h R hi p r1 r2=>cY (λe=>bf<|r1 ⟨p.1,λo=>by have:=p.2 o;have:l ≥ h:=e;lia⟩) λe=>aV<|hb _ (by have:¬l ≥ h:=e;have:=p.1;show l+(h-l)/2<n;lia) _ λc hc=>?_) λi l o R hi p r1 r2=>cY (λe=>bf (r1 λz=>by have:=p z;have:o ≥ K+1:=e;lia)) λe=>aV<|hb _ (by show K-o<n;lia) _ λc hc=>?_)
   .have:=d o;have:=hk o;show K+1-min _ (K+1)<=k0/\k0<=K-l/\K-l-(K+1-min _ (K+1))<=n-0;lia
   .have e:¬l ≥ h:=e;cases c
    .exact bf (r2 _ _ ⟨by have:=p.1;show l+(h-l)/2<=n;lia,λo=>by have:=p.2 o;have:=eV (hc o).f5;show l<=k0/\k0<=l+(h-l)/2/\l+(h-l)/2-l<=n-(i+1);lia⟩)
    exact bf<|r2 _ _ ⟨p.1,λo=>by have:=p.2 o;have:=ec (hc o).f5;show l+(h-l)/2+1<=k0/\k0<=h/\h-(l+(h-l)/2+1)<=n-(i+1);lia⟩
   have e:¬o ≥ K+1:=e;cases c
   .exact bf (r2 _ _ λz=>by have:=p z;have:=eV (hc z).f5;show ¬K-o<k0/\o<2*o+1/\o<=K/\i+1+1<=2*o+1;lia)
   exact bf (r1 λz=>by have:=p z;have:=ec (hc z).f5;lia)
  refine aV (lp (λi l o=>O->K+l<k0/\l<o/\i+1<=o) (λl o=>O->K+l<k0/\l<o/\(o ≥ n-K\/¬K+o<k0)) (λo=>⟨ec (jO o).f5,li⟩) (λl o p z=>by have:=p z;lia) (λl o d=>aV<|lp (λi l h=>h<=n/\(O->l<=k0/\k0<=h/\h-l<=n-i)) (λ_ h=>h<=n/\(O->h=k0)) ⟨li,λo=>?_⟩ (λl h p=>⟨p.1,λo=>by have:=p.2 o;lia⟩) (λl h p=>bf<|q h p.1 p.2) λi l h R hi p r1 r2=>cY (λe=>bf<|r1 ⟨p.1,λo=>by have:=p.2 o;have:l ≥ h:=e;lia⟩) λe=>aV<|hb _ (by have:¬l ≥ h:=e;have:=p.1;show l+(h-l)/2<n;lia) _ λc hc=>?_) λi l o R hi p r1 r2=>cY (λe=>bf (r1 λz=>by have:=p z;have:o ≥ n-K:=e;lia)) λe=>aV<|hb _ (by have:¬o ≥ n-K:=e;show K+o<n;lia) _ λc hc=>?_)
  .have:=d o;have:=hk o;show K+l+1<=k0/\k0<=K+min _ (n-K)/\K+min _ (n-K)-(K+l+1)<=n-0;lia
  .have e:¬l ≥ h:=e;cases c
   .exact bf (r2 _ _ ⟨by have:=p.1;show l+(h-l)/2<=n;lia,λo=>by have:=p.2 o;have:=eV (hc o).f5;show l<=k0/\k0<=l+(h-l)/2/\l+(h-l)/2-l<=n-(i+1);lia⟩)
   exact bf<|r2 _ _ ⟨p.1,λo=>by have:=p.2 o;have:=ec (hc o).f5;show l+(h-l)/2+1<=k0/\k0<=h/\h-(l+(h-l)/2+1)<=n-(i+1);lia⟩
  have e:¬o ≥ n-K:=e;cases c
  .exact bf (r1 λz=>by have:=p z;have:=eV (hc z).f5;lia)
  exact bf (r2 _ _ λz=>by have:=p z;have:=ec (hc z).f5;show K+o<k0/\o<2*o+1/\i+1+1<=2*o+1;lia)
 case b=>
  intro G M A E s κ a0 O rk C a b st Q hκ Ua Ub ha hb X Y f1 f2 q;have Ac:Sm st st:=⟨xz,xz,xz,xz⟩;obtain⟨b0,jO,_⟩:=Ub.at' hb;obtain⟨az,haz,_⟩:=Ua.at' (show a.size-1<a.size by lia);have m0:MI O rk a b #[b0] 0 1:=(MI.one (a:=b) (b:=a) (o:=#[]) (i:=0) (j:=0) ⟨yK _,λ_=>⟨.nil,λx hx=>(by cases hx),λx hx=>(by cases hx)⟩⟩ Y jO λo=>f1 o b0 jO).swap;have dB:∀{o i j},MI O rk a b o i j->j=b.size->UP O rk a b (o++a.extract i++b.extract j):=λh e=>h.fin X Y λ_ x _ y L=>by rw[wN (by rw[e];simp)]at L;cases L
  have dA:∀{o i j},MI O rk a b o i j->i=a.size->UP O rk a b (o++a.extract i++b.extract j):=λh e=>h.fin X Y λ_ x hx=>by rw[wN (by rw[e];simp)]at hx;cases hx
  have ls:∀{o i j},MI O rk a b o i j->i+1=a.size->UP O rk a b (o++b.extract j++a.extract i):=λ{o i j}h e=>h.Qd X Y λz x hx y L=>by
   rw[xu (show a[i]?=a_ az by rw[show i=a.size-1 by lia];exact haz),e,wN (by simp)]at L;rw[cR.mp L];exact f2 z az haz x<|yC hx
  refine aV<|Bd<|aV<|iQ jO (cY (λe=>bf<|q _ _ Ac<|dB m0<|iE e) λe1=>cY (λe=>bf<|q _ _ Ac<|ls m0<|iE e) λe2=>?_);have jN:¬1=b.size:=λz=>e1<|eY.mpr z;have Az:¬0+1=a.size:=λz=>e2<|eY.mpr z
  let I1:Nat->Option (Array ca)×Array ca×Nat×Nat×Nat->cc->Prop:=λi c aw=>Sm st aw/\∃D F H mg,c=(b_,D,F,H,mg)/\MI O rk a b D F H/\F+1<a.size/\H<b.size/\i+1<=F+H
  let Q1:Option (Array ca)×Array ca×Nat×Nat×Nat->cc->Prop:=λc aw=>Sm st aw/\∃(r:Array ca)(o:_),c=(a_ r,o)/\UP O rk a b r
  refine aV<|wpS_get<|aV<|vk (qd (I:=I1) (Q:=Q1) ?_ ?_ ⟨Ac,_,_,_,_,xz,m0,li,li,li⟩) ?_
  .refine ku λw D F H mg fq hw S r=>?_;have m1:=r.1;have h1:=r.2.1;have h2:=r.2.2.1;have h3:=r.2.2.2
   let I2:Nat->Option (Array ca)×Array ca×Nat×Nat×Nat×Nat->cc->Prop:=λj c aw=>aw=fq/\∃D F H ac N,c=(b_,D,F,H,ac,N)/\MI O rk a b D F H/\F+1<a.size/\H<b.size/\w+1+j<=F+H
   let Q2:Option (Array ca)×Array ca×Nat×Nat×Nat×Nat->cc->Prop:=λc aw=>aw=fq/\((∃D F H ac N,c=(b_,D,F,H,ac,N)/\MI O rk a b D F H/\F+1<a.size/\H<b.size/\w+2<=F+H)\/∃(r:Array ca)(o:_),c=(a_ r,o)/\UP O rk a b r)
   refine aV<|vk (qd (I:=I2) (Q:=Q2) ?_ ?_ ⟨xz,_,_,_,_,_,xz,m1,h1,h2,h3⟩) ?_
   .refine ki λj D F H ac N hj r=>?_;have m2:=r.1;have h1:=r.2.1;have h2:=r.2.2.1;have h3:=r.2.2.2;obtain⟨y,Z,Uy⟩:=Ub.at' h2;obtain⟨x,x1,Ux⟩:=Ua.at'<|ab6 h1;refine aV<|iQ Z<|aV<|iQ x1<|aV (C _ _ _ _ (S.k.f4 hκ) Uy Ux λc hc=>?_);cases c
    .have V:=m2.one X x1 λo z hz=>nW (C5.mp<|eV (hc o).f5)<|Hm (Y o) Z z hz;refine aV<|iQ x1 (cY (λe=>bf ⟨xz,.inr ⟨_,_,xz,ls V<|iE e⟩⟩) λe=>?_);have p1:=jy h1 λz=>e<|eY.mpr z;exact cY (λ_=>bf ⟨xz,.inl ⟨_,_,_,_,_,xz,V,p1,h2,li⟩⟩) λ_=>bf ⟨xz,_,_,_,_,_,xz,V,p1,h2,li⟩
    have V:=(m2.swap.one Y Z λo z hz=>nW (Int.le_of_lt<|ec (hc o).f5)<|Hm (X o) x1 z hz).swap;refine aV<|iQ Z (cY (λe=>bf ⟨xz,.inr ⟨_,_,xz,dB V<|iE e⟩⟩) λe=>?_);have p1:=jL h2 λz=>e<|eY.mpr z;exact cY (λ_=>bf ⟨xz,.inl ⟨_,_,_,_,_,xz,V,h1,p1,li⟩⟩) λ_=>bf ⟨xz,_,_,_,_,_,xz,V,h1,p1,li⟩
   .rintro c eP ⟨rfl,D,F,H,ac,N,rfl,m2,h1,h2,h3⟩;exact⟨xz,.inl ⟨_,_,_,_,_,xz,m2,h1,h2,li⟩⟩
   refine lI (λD F H ac N r=>?_) λr o g=>bf ⟨S,_,_,xz,g⟩;have m2:=r.1;have h1:=r.2.1;have h2:=r.2.2.1;have h3:=r.2.2.2
   let I3:Nat->Option (Array ca)×Array ca×Nat×Nat×Nat×Nat×Nat->cc->Prop:=λj c aw=>Sm st aw/\∃D F H mg ac N,c=(b_,D,F,H,mg,ac,N)/\MI O rk a b D F H/\F+1<a.size/\H<b.size/\w+2<=F+H
   let Q3:Option (Array ca)×Array ca×Nat×Nat×Nat×Nat×Nat->cc->Prop:=λc aw=>Sm st aw/\((∃D F H mg ac N,c=(b_,D,F,H,mg,ac,N)/\MI O rk a b D F H/\F+1<a.size/\H<b.size/\w+2<=F+H)\/∃(r:Array ca)(o:_),c=(a_ r,o)/\UP O rk a b r)
   refine aV<|Bd<|aV<|vk (qd (I:=I3) (Q:=Q3) ?_ ?_ ⟨S,_,_,_,_,_,_,xz,m2,h1,h2,h3⟩) ?_
   .refine kb λj D F H mg ac N ji hj nQ r=>?_;have V:=r.1;have h1:=r.2.1;have h2:=r.2.2.1;have h3:=r.2.2.2;obtain⟨y,Z,Uy⟩:=Ub.at' h2;apply Vg
    case h1=>
     intro T;generalize (b_,D,F,H,mg,ac,N).snd.snd.snd.snd.fst-1=v;exact T v
    case h2=>exact λT=>T _
    case t=>
     intro mg2;refine aV (Gn nQ ⟨xz,xz,xz,xz⟩ λAb W=>aV<|iQ Z<|aV<|Z6 G C (W.k.f4 hκ) Ua Uy X li λk hk p=>?_);have m4:=V.add X k λo u hu v hv=>nW ((p o).1 u hu)<|Hm (Y o) Z v hv;apply Gp (P:=F+k+1<a.size)
     case h1=>
      intro Cc T;refine cY (λe=>bf ⟨W,.inr ⟨_,_,xz,ls m4<|iE e⟩⟩) λe=>cY (λe=>bf ⟨W,.inr ⟨_,_,xz,dA m4<|iE e⟩⟩) λe'=>T ?_;have n1:¬F+k+1=a.size:=λz=>e<|eY.mpr z;have n2:¬F+k=a.size:=λz=>e'<|eY.mpr z;lia
     case h2=>
      intro Cc;have kz:=abr Cc;have e:D++a.extract F (F+k)=D:=by rw[kz];exact na _ _ _
      refine⟨by rw[kz];exact h1,?_⟩;rw[e,kz];rfl
     case t=>
      intro h5;have m6:=(m4.swap.one Y Z λo=>(p o).2).swap;refine aV<|iQ Z (cY (λe=>bf ⟨W,.inr ⟨_,_,xz,dB m6<|iE e⟩⟩) λe1=>?_);have n3:=jL h2 λz=>e1<|eY.mpr z;obtain⟨x,x1,Ux⟩:=Ua.at'<|ab6 h5;refine aV<|iQ x1<|aV (Z6 G C (W.k.f4 hκ) Ub Ux Y n3 λJ Kg p2=>?_);have m7:=(m6.swap.add Y J λo u hu v hv=>nW ((p2 o).1 u hu)<|Hm (X o) x1 v hv).swap;apply Gp (P:=H+1+J<b.size)
      case h1=>
       intro hq T;refine cY (λe=>bf ⟨W,.inr ⟨_,_,xz,dB m7<|iE e⟩⟩) λe3=>T ?_;have n4:¬H+1+J=b.size:=λz=>e3<|eY.mpr z;lia
      case h2=>
       intro hq;have kz:=abr hq;have e:∀o:Array ca,o++b.extract (H+1) (H+1+J)=o:=λo=>by rw[kz];exact na _ _ _
       refine⟨li,?_⟩;rw[e,kz]
      case t=>
       intro h8;have m9:=m7.one X x1 λo=>(p2 o).2;refine aV<|iQ x1 (cY (λe=>bf ⟨W,.inr ⟨_,_,xz,ls m9<|iE e⟩⟩) λe4=>?_);have h9:=jy h5 λz=>e4<|eY.mpr z;have w9:w+2<=F+k+1+(H+1+J):=li;exact cY (λ_=>bf ⟨W,.inl ⟨_,_,_,_,_,_,xz,m9,h9,h8,w9⟩⟩) λ_=>bf ⟨W,_,_,_,_,_,_,xz,m9,h9,h8,w9⟩
   .rintro c ji ⟨nQ,D,F,H,mg,ac,N,rfl,V,h1,h2,h3⟩;exact⟨nQ,.inl ⟨_,_,_,_,_,_,xz,V,h1,h2,h3⟩⟩
   exact lx (λD F H mg ac N ji nQ r=>aV<|Gn nQ ⟨xz,xz,xz,xz⟩ λAb W=>bf ⟨W,_,_,_,_,xz,r⟩) λji r o nQ g=>bf ⟨nQ,_,_,xz,g⟩
  .rintro c aw ⟨S,D,F,H,mg,rfl,_,h1,h2,h3⟩;lia
  exact ir λaw r o S g=>bf<|q _ _ S g
 case c=>
  intro G M A E s κ a0 O rk C a b st Q hκ Ua Ub ha hb X Y f1 f2 q;have Ac:Sm st st:=⟨xz,xz,xz,xz⟩;obtain⟨az,hz,_⟩:=Ua.at' (show a.size-1<a.size by lia);obtain⟨b0,jO,_⟩:=Ub.at' hb;have m0:MR O rk a b #[az] (a.size-1) b.size:=MR.one (a:=a) (b:=b) (o:=#[]) (i:=a.size) (j:=b.size) ⟨by rw[wN (by simp),wN (by simp)];exact yK _,λ_=>⟨.nil,λx _ y L=>(by cases L),λx _ y L=>(by cases L)⟩⟩ X ha hz λo y L=>f2 o az hz y<|yB L;have dA:∀{o i j},MR O rk a b o i j->i=0->UP O rk a b (a.extract 0 i++b.extract 0 j++o.reverse):=λh e=>h.fin X Y λ_ x hx=>by rw[e]at hx;cases hx
  have dB:∀{o i j},MR O rk a b o i j->j=0->UP O rk a b (a.extract 0 i++b.extract 0 j++o.reverse):=λh e=>h.fin X Y λ_ x _ y L=>by rw[e]at L;cases L
  have fs:∀{o i j},MR O rk a b o i j->j=1->UP O rk a b (b.extract 0 j++a.extract 0 i++o.reverse):=λ{o i j}h e=>h.Qd X Y λz x hx y L=>by
   have e2:=xu jO;rw[ve]at e2;rw[e,e2]at hx;rw[show x=b0 by simpa using hx];exact f1 z b0 jO y<|yB L
  refine aV<|Bd<|aV<|iQ hz (cY (λe=>bf<|q _ _ Ac<|dA m0<|iE e) λe1=>cY (λe=>bf<|q _ _ Ac<|fs m0<|iE e) λe2=>?_);have Az:¬a.size-1=0:=λz=>e1<|eY.mpr z;have jN:¬b.size=1:=λz=>e2<|eY.mpr z
  let I4:Nat->Option (Array ca)×Nat×Nat×Array ca×Nat->cc->Prop:=λi c aw=>Sm st aw/\∃m B D mg,c=(b_,m,B,D,mg)/\MR O rk a b D m B/\1<=m/\m<=a.size/\2<=B/\B<=b.size/\m+B+i<a.size+b.size
  let Q4:Option (Array ca)×Nat×Nat×Array ca×Nat->cc->Prop:=λc aw=>Sm st aw/\∃(r:Array ca)(o:_),c=(a_ r,o)/\UP O rk a b r
  refine aV<|wpS_get<|aV<|vk (qd (I:=I4) (Q:=Q4) ?_ ?_ ⟨Ac,_,_,_,_,xz,m0,li,li,li,li,li⟩) ?_
  .refine ku λw m B D mg fq hw S r=>?_;have m1:=r.1;have h1:=r.2.1;have h2:=r.2.2.1;have h3:=r.2.2.2.1;have h4:=r.2.2.2.2.1;have h5:=r.2.2.2.2.2
   let I5:Nat->Option (Array ca)×Nat×Nat×Array ca×Nat×Nat->cc->Prop:=λj c aw=>aw=fq/\∃m B D ac N,c=(b_,m,B,D,ac,N)/\MR O rk a b D m B/\1<=m/\m<=a.size/\2<=B/\B<=b.size/\m+B+w+j<a.size+b.size
   let Q5:Option (Array ca)×Nat×Nat×Array ca×Nat×Nat->cc->Prop:=λc aw=>aw=fq/\((∃m B D ac N,c=(b_,m,B,D,ac,N)/\MR O rk a b D m B/\1<=m/\m<=a.size/\2<=B/\B<=b.size/\m+B+(w+1)<a.size+b.size)\/∃(r:Array ca)(o:_),c=(a_ r,o)/\UP O rk a b r)
   refine aV<|vk (qd (I:=I5) (Q:=Q5) ?_ ?_ ⟨xz,_,_,_,_,_,xz,m1,h1,h2,h3,h4,h5⟩) ?_
   .refine ki λj m B D ac N hj r=>?_;have m2:=r.1;have h1:=r.2.1;have h2:=r.2.2.1;have h3:=r.2.2.2.1;have h4:=r.2.2.2.2.1;have h5:=r.2.2.2.2.2;obtain⟨y,Z,Uy⟩:=Ub.at' (show B-1<b.size by lia);obtain⟨x,x1,Ux⟩:=Ua.at' (show m-1<a.size by lia);refine aV<|iQ Z<|aV<|iQ x1<|aV (C _ _ _ _ (S.k.f4 hκ) Uy Ux λc hc=>?_);cases c
    .have V:=(m2.swap.one Y li Z λo z hz=>nW (Hj (X o) h1 x1 z hz)<|C5.mp<|eV (hc o).f5).swap;refine aV<|iQ Z (cY (λe=>bf ⟨xz,.inr ⟨_,_,xz,fs V<|iE e⟩⟩) λe=>?_);have n1:¬B-1=1:=λz=>e<|eY.mpr z;exact cY (λ_=>bf ⟨xz,.inl ⟨_,_,_,_,_,xz,V,h1,h2,li,li,li⟩⟩) λ_=>bf ⟨xz,_,_,_,_,_,xz,V,h1,h2,li,li,li⟩
    have V:=m2.one X h1 x1 λo z hz=>nW (Hj (Y o) li Z z hz)<|Int.le_of_lt<|ec (hc o).f5;refine aV<|iQ x1 (cY (λe=>bf ⟨xz,.inr ⟨_,_,xz,dA V<|iE e⟩⟩) λe=>?_);have n1:¬m-1=0:=λz=>e<|eY.mpr z;exact cY (λ_=>bf ⟨xz,.inl ⟨_,_,_,_,_,xz,V,li,li,h3,h4,li⟩⟩) λ_=>bf ⟨xz,_,_,_,_,_,xz,V,li,li,h3,h4,li⟩
   .rintro c eP ⟨rfl,m,B,D,ac,N,rfl,m2,h1,h2,h3,h4,h5⟩;exact⟨xz,.inl ⟨_,_,_,_,_,xz,m2,h1,h2,h3,h4,li⟩⟩
   refine lI (λm B D ac N r=>?_) λr o g=>bf ⟨S,_,_,xz,g⟩;have m2:=r.1;have h1:=r.2.1;have h2:=r.2.2.1;have h3:=r.2.2.2.1;have h4:=r.2.2.2.2.1;have h5:=r.2.2.2.2.2
   let I6:Nat->Option (Array ca)×Nat×Nat×Array ca×Nat×Nat×Nat->cc->Prop:=λj c aw=>Sm st aw/\∃m B D mg ac N,c=(b_,m,B,D,mg,ac,N)/\MR O rk a b D m B/\1<=m/\m<=a.size/\2<=B/\B<=b.size/\m+B+(w+1)<a.size+b.size
   let Q6:Option (Array ca)×Nat×Nat×Array ca×Nat×Nat×Nat->cc->Prop:=λc aw=>Sm st aw/\((∃m B D mg ac N,c=(b_,m,B,D,mg,ac,N)/\MR O rk a b D m B/\1<=m/\m<=a.size/\2<=B/\B<=b.size/\m+B+(w+1)<a.size+b.size)\/∃(r:Array ca)(o:_),c=(a_ r,o)/\UP O rk a b r)
   refine aV<|Bd<|aV<|vk (qd (I:=I6) (Q:=Q6) ?_ ?_ ⟨S,_,_,_,_,_,_,xz,m2,h1,h2,h3,h4,h5⟩) ?_
   .refine kb λj m B D mg ac N ji hj nQ r=>?_;have V:=r.1;have h1:=r.2.1;have h2:=r.2.2.1;have h3:=r.2.2.2.1;have h4:=r.2.2.2.2.1;have h5:=r.2.2.2.2.2;obtain⟨y,Z,Uy⟩:=Ub.at' (show B-1<b.size by lia);apply Vg
    case h1=>
     intro T;generalize (b_,m,B,D,mg,ac,N).snd.snd.snd.snd.fst-1=v;exact T v
    case h2=>exact λT=>T _
    case t=>
     intro mg2;refine aV (Gn nQ ⟨xz,xz,xz,xz⟩ λAb W=>aV<|iQ Z<|aV<|Z7 G C (W.k.f4 hκ) Ua Uy X h1 h2 λk hk p=>?_);have m4:=V.add X hk λo u hu v hv=>nW (Hj (Y o) li Z u hu)<|(p o).2 v hv;apply Gp (P:=1<=k)
     case h1=>
      intro Cc T;exact cY (λe=>bf ⟨W,.inr ⟨_,_,xz,dA m4<|iE e⟩⟩) λe=>T (Nat.pos_of_ne_zero λz=>e<|eY.mpr z)
     case h2=>
      intro Cc
      have kz:k=m:=by
       have:¬m-k > 0:=Cc;lia
      have e:D++(a.extract k m).reverse=D:=by rw[kz];exact nn _ _ _
      refine⟨li,?_⟩;rw[e,kz]
     case t=>
      intro h5a;have m6:=(m4.swap.one Y li Z λo=>(p o).1).swap;refine aV<|iQ Z (cY (λe=>bf ⟨W,.inr ⟨_,_,xz,fs m6<|iE e⟩⟩) λe1=>?_);have n3:¬B-1=1:=λz=>e1<|eY.mpr z;obtain⟨x,x1,Ux⟩:=Ua.at' (show k-1<a.size by lia);refine aV<|iQ x1<|aV (Z7 G C (W.k.f4 hκ) Ub Ux Y li li λJ Kg p2=>?_);have m7:=(m6.swap.add Y Kg λo u hu v hv=>nW (Hj (X o) h5a x1 u hu)<|(p2 o).2 v hv).swap;apply Gp (P:=2<=J)
      case h1=>
       intro hq T;refine cY (λe=>bf ⟨W,.inr ⟨_,_,xz,fs m7<|iE e⟩⟩) λe3=>cY (λe=>bf ⟨W,.inr ⟨_,_,xz,dB m7<|iE e⟩⟩) λSI=>T ?_;have n4:¬J=1:=λz=>e3<|eY.mpr z;have n5:¬J=0:=λz=>SI<|eY.mpr z;lia
      case h2=>
       intro hq
       have kz2:J=B-1:=by
        have:¬B-1-J > 0:=hq;lia
       have e:∀o:Array ca,o++(b.extract J<|B-1).reverse=o:=λo=>by rw[kz2];exact nn _ _ _
       refine⟨li,?_⟩;rw[e,kz2]
      case t=>
       intro h8a;have m9:=m7.one X h5a x1 λo=>(p2 o).1;refine aV<|iQ x1 (cY (λe=>bf ⟨W,.inr ⟨_,_,xz,dA m9<|iE e⟩⟩) λe4=>?_);have n9:¬k-1=0:=λz=>e4<|eY.mpr z;have q1:1<=k-1:=li;have q2:k-1<=a.size:=li;have h8b:J<=b.size:=li;have q3:k-1+J+(w+1)<a.size+b.size:=li;exact cY (λ_=>bf ⟨W,.inl ⟨_,_,_,_,_,_,xz,m9,q1,q2,h8a,h8b,q3⟩⟩) λ_=>bf ⟨W,_,_,_,_,_,_,xz,m9,q1,q2,h8a,h8b,q3⟩
   .rintro c ji ⟨nQ,m,B,D,mg,ac,N,rfl,V,h1⟩;exact⟨nQ,.inl ⟨_,_,_,_,_,_,xz,V,h1⟩⟩
   exact lx (λm B D mg ac N ji nQ r=>aV<|Gn nQ ⟨xz,xz,xz,xz⟩ λAb W=>bf ⟨W,_,_,_,_,xz,r⟩) λji r o nQ g=>bf ⟨nQ,_,_,xz,g⟩
  .rintro c aw ⟨S,m,B,D,mg,rfl,_,h1,h2,h3,h4,h5⟩;lia
  exact ir λaw r o S g=>bf<|q _ _ S g
def adO:UK:=by
 obtain⟨g,e,f,a,b,c,d⟩:=adP;exact d a (b a)<|c a
end TS
namespace TS
variable{M:bL}{A:h_}{E:f_->g_->Prop}{s:g_}{κ:md}{a0:List ca}{pd:Array (Nat×Nat×Nat)}{st:cc}{O:Prop}{rk:ca->Int}
def BB(C:sr M A E s κ a0 O rk)(g:G κ a0 pd st)(hi:i<a0.length)(d:j<a0.length)(q:∀b x y,(c0 st)[i]?=a_ x->(c0 st)[j]?=a_ y->(O->b=decide (rk x<rk y))->Q (a_ b) st):wpS M A E s (ltAt' i j) Q st:=by
 obtain⟨x,a,e⟩:=g.of.at' (show i<(c0 st).size by rw[g.size];exact hi);obtain⟨y,c,f⟩:=g.of.at' (show j<(c0 st).size by rw[g.size];exact d);rw[ltAt'_eq];exact aV<|wpS_get<|aV<|iQ a<|aV<|iQ c (C _ _ _ _ g.k e f λb=>q b x y a c)
def G.rev(g:G κ a0 pd st){lo j:Nat}(q:∀aw,G κ a0 pd aw->c0 aw=mirror (c0 st) lo j ((j-lo)/2)->Q ⟨⟩ aw):wpS M A E s (reverseSlice' lo j) Q st:=by
 rw[reverseSlice'_eq];exact yU<|q _ ⟨g.k,g.f,(abb.mp<|mirror_perm _ _ _ _).f4 g.a,g.p⟩ xz
def G.move(g:G κ a0 pd st)(q:∀aw,G κ a0 pd aw->c0 aw=bubble (c0 st) i (i-j)->Q ⟨⟩ aw):wpS M A E s (moveDown' i j) Q st:=by
 rw[moveDown'_eq];exact yU<|q _ ⟨g.k,g.f,(abb.mp<|bubble_perm _ _ _).f4 g.a,g.p⟩ xz
def sw2{Z:Array ca}{Q T:List ca}{x y:ca}(e:Z.toList=Q++y::x::T):(Z.swapIfInBounds (Q.length+1) Q.length).toList=Q++x::y::T:=by
 obtain⟨l⟩:=Z;subst e;unfold Array.swapIfInBounds;rw[dif_pos (by simp),dif_pos (by simp),Array.toList_swap];simp 
theorem mL{xs:Array ca}{R:List ca}{x:ca}:∀(b Q:List ca),xs.toList=Q++(b++x::R)->(bubble xs (Q.length+b.length) b.length).toList=Q++x::(b++R)
 | [],Q,e=>e
 | y::b,Q,e=>by
  have h:=mL (xs:=xs) (R:=R) (x:=x) b (Q++[y]) (by rw[e];simp);have el:(Q++[y]).length+b.length=Q.length+(y::b).length:=by simp;lia
  rw[el]at h;rw[show (y::b).length=b.length+1 from xz,bubble_succ,show Q.length+(b.length+1)-b.length=Q.length+1 by lia];exact sw2<|h.f4 (by simp)
def afs{lo n:Nat}(h:a[lo+n]?=a_ x):fy a lo (n+1)=fy a lo n++[x]:=by
 unfold fy;rw[jP,tf,show a.toList[lo+n]?=a_ x by simpa using h];rfl
def NV{lo:Nat}:Up rk (fy a lo 1):=by
 have:(fy a lo 1).length<=1:=by unfold fy;rw[dn];lia
 rcases e:fy a lo 1 with _|⟨y,r⟩;exact KZ
 rw[e]at this;cases r with
 | nil=>exact Tb _ _
 | cons z r=>exact dV this (by simp)
def GV{lo n:Nat}(h:Up rk (fy a lo n))(h1:1<=n)(b:lo+n<=a.size)(c:a[lo+n-1]?=a_ y)(d:a[lo+n]?=a_ x)(e:rk y<=rk x):Up rk (fy a lo<|n+1):=by
 rw[afs d];refine lV.mpr ⟨h,Tb _ _,λu f v g=>?_⟩;rw[cR.mp g];exact nW (W0 h (by rw[tV b];exact seg_at ((show lo+(n-1)=lo+n-1 by lia)▸c) li) u f) e
def ake(C:sr M A E s κ a0 O rk){lo n ok:Nat}(g:G κ a0 pd st)(hn:lo+n<=a0.length)(h1:1<=n)(aE:ok<=n)(V:O->Up rk (fy (c0 st) lo ok))(q:∀aw,G κ a0 pd aw->(O->jI (c0 st) (c0 aw) lo n/\Up rk (fy (c0 aw) lo n))->Q c_ aw):wpS M A E s (binarySort' lo n ok) Q st:=by
 rw[binarySort'_eq]
 let I:Nat->Option Bool×Unit->cc->Prop:=λk c aw=>c=(b_,())/\G κ a0 pd aw/\(O->jI (c0 st) (c0 aw) lo k/\Up rk (fy (c0 aw) lo k))
 refine aV<|vk (qd (I:=I) ?_ (λc aw h=>by rw[show max _ n=n by lia]at h;exact h) ⟨xz,g,λo=>⟨De _ _ _,?_⟩⟩) ?_
 .rintro k c d W hk ⟨rfl,f,j⟩;have z1:=f.size;have W:1<=k:=li;obtain⟨x,H,_⟩:=f.of.at' (show lo+k<(c0 d).size by lia);have t:=tV (a:=c0 d) (i:=lo) (n:=k) li
  obtain⟨k0,h2⟩:∃k0,O->k0<=k/\∀i(h:i<k),(!decide (rk x<rk ((fy (c0 d) lo k)[i]' li)))=decide (i<k0):=by
   by_cases J:O
   .obtain⟨k0,h1,h2⟩:=Oj (p:=λy=>!decide (rk x<rk y)) ((j J).2.imp λ{u v}h=>by simp;lia);exact⟨k0,λ_=>⟨li,λi h=>h2 i _⟩⟩
   exact⟨0,λz=>dV z J⟩
  refine aV (lp (λi l r=>r<=k/\l<=k/\(O->l<=k0/\k0<=r/\r-l<=k-i)) (λl _=>l<=k/\(O->l=k0)) ⟨aD k,aY _,λo=>by have:=(h2 o).1;lia⟩ (λl r p=>⟨p.2.1,λo=>by have:=p.2.2 o;lia⟩) (λl r p=>aV<|f.move λX Y K=>bf ⟨xz,Y,λo=>?_⟩) λi l r R hi p Z r2=>cY (λe=>bf<|Z ⟨p.2.1,λo=>by have:=p.2.2 o;have:l ≥ r:=e;lia⟩) λe=>aV<|BB C f li (by have:¬l ≥ r:=e;have:=p.1;lia) λb x' y L B N=>?_)
  .have el:=p.2 o;subst el;have w:=(j o).1;unfold jI at w
   have dr:(c0 st).toList.drop (lo+k)=x::(c0 st).toList.drop (lo+k+1):=by
    have P:(c0 d).toList.drop (lo+k)=(c0 st).toList.drop (lo+k):=by
     conv=>lhs;rw[w]
     rw[TV,wN (by rw[ba,dn,t];lia),ba,dn,t,fQ,g.size,va li,qZ,ve];rfl
    rw[<-P,xu H];have h3:=f0 (List.drop 1) P;rw[qY,qY]at h3;rw[h3]
   rw[dr]at w;have lt:((c0 st).toList.take lo++(fy (c0 d) lo k).take l).length=lo+l:=by rw[ba,dn,dn,t,fQ,g.size];lia
   have S:=mL (xs:=c0 _) (x:=x) _ ((c0 _).toList.take _++(fy _ _ k).take l) (by rw[<-dw,dw<|List.take _ _,jn];exact w);rw[lt,oZ,t,show lo+l+(k-l)=lo+k by lia]at S;rw[show lo+k-(lo+l)=k-l by lia]at K;have T:=HF (a:=c0 st) (a':=c0 X) (m:=(fy (c0 d) lo k).take l++x::(fy (c0 d) lo k).drop l) (i:=lo) (n:=k+1) (by rw[K,S];simp[Nat.add_assoc]) (by rw[ba,gI,dn,oZ,t];lia) (by rw[g.size];lia);refine⟨T.1,?_⟩;rw[T.2];have D:=lD (j o).2 l;refine lV.mpr ⟨D.1,sY.mpr ⟨λy B=>?_,D.2.1⟩,λu U v hv=>(bq.mp hv).elim (λe=>?_)<|D.2.2 u U v⟩
   .obtain⟨i,hi,rfl⟩:=abe.mp B;have:=(h2 o).2 (l+i) li;rw[eF (show ¬l+i<l by lia)]at this;simp at this;lia
   rw[e];obtain⟨i,hi,rfl⟩:=abd.mp U;have:=(h2 o).2 i li;rw[ee (show i<l by lia)]at this;simpa using this
  rw[H]at L;cases L;have hm:(l+r)/2<k:=by have:=p.1;lia
  have F:=λo=>(h2 o).2 _ hm;rw[(bu.mp<|seg_at B hm).2]at F;cases b
  .exact bf (r2 _ _ ⟨p.1,by have:=p.1;lia,λo=>by have:=p.2.2 o;have h3:=F o;rw[<-N o]at h3;have:=ec h3.f5;lia⟩)
  exact bf<|r2 _ _ ⟨by have:=p.1;lia,p.2.1,λo=>by have:=p.2.2 o;have h3:=F o;rw[<-N o]at h3;have:=eV h3.f5;lia⟩
 .by_cases h:1<=ok
  .rw[Nat.max_eq_left h];exact V o
  rw[show max _ 1=1 by lia];exact NV
 rintro c d ⟨rfl,f,j⟩;exact bf<|q _ f j
end TS
namespace TS
variable{M:bL}{A:h_}{E:f_->g_->Prop}{s:g_}{κ:md}{a0:List ca}{pd:Array (Nat×Nat×Nat)}{st:cc}{O:Prop}{rk:ca->Int}
def k7{d:Type}{a b:Nat}(P D:Nat->cc->Prop){F:Nat->Option d×Nat->StateT cc Sem (ForInStep<|Option d×Nat)}{R:Option d×Nat->cc->Prop}(h:a<=b)(e:P a st)(f:∀aw,P b aw->D b aw)(q:∀n aw,a<=n->n<=b->D n aw->R (b_,n) aw)(g:∀n st(R:ForInStep (Option d×Nat)->cc->Prop),a<=n->n<b->P n st->(D n st->R (.done (b_,n)) st)->(P (n+1) st->R (.yield (b_,n+1)) st)->wpS M A E s (F n (b_,n)) R st):wpS M A E s (forIn [a:b] (b_,a) F) R st:=by
 refine qd (I:=λi c aw=>c=(b_,i)/\P i aw) ?_ ?_ ⟨xz,e⟩
 .rintro i c aw h1 hi ⟨rfl,p⟩;exact g i _ _ h1 hi p (q i _ h1<|dH hi) λj=>⟨xz,j⟩
 rintro c aw ⟨rfl,p⟩;rw[TN h]at p ⊢;exact q _ _ h (aD _)<|f _ p
def lpD{b:Type}{a d f:Nat}(P:Nat->Nat->cc->Prop){F:Nat->Option b×Nat×Nat->StateT cc Sem (ForInStep<|Option b×Nat×Nat)}{R:Option b×Nat×Nat->cc->Prop}(h:a<=d)(g:P a f st)(q:∀n e aw,a<=n->n<=d->P n e aw->R (b_,n,e) aw)(j:∀n e st(R:ForInStep (Option b×Nat×Nat)->cc->Prop),a<=n->n<d->P n e st->R (.done (b_,n,e)) st->(∀e aw,P (n+1) e aw->R (.yield (b_,n+1,e)) aw)->wpS M A E s (F n (b_,n,e)) R st):wpS M A E s (forIn [a:d] (b_,a,f) F) R st:=by
 refine qd (I:=λi c aw=>∃e,c=(b_,i,e)/\P i e aw) ?_ ?_ ⟨f,xz,g⟩
 .rintro i c aw h1 hi ⟨e,rfl,p⟩;exact j i e _ _ h1 hi p (q i e _ h1 (dH hi) p) λe l k=>⟨e,xz,k⟩
 rintro c aw ⟨e,rfl,p⟩;rw[TN h]at p ⊢;exact q _ e _ h (aD _) p
def X3{a:Type}(P:cc->Prop){Q:a->cc->Prop}{c:Prop}[Decidable c]{X Y J:StateT cc Sem a}(h1:c->(∀aw,P aw->wpS M A E s J Q aw)->wpS M A E s X Q st)(h2:Y=J)(g:¬c->P st)(t:∀aw,P aw->wpS M A E s J Q aw):wpS M A E s (if c then X else Y) Q st:=cY (λh=>h1 h t) λh=>by rw[h2];exact t _<|g h
def lS(rk:ca->Int)(l:List ca):Prop:=∀(i j:Nat)(x y:ca),i≠j->l[i]?=a_ x->l[j]?=a_ y->rk x≠rk y
def mir{lo n:Nat}(h:lo+n<=xs.size):(mirror xs lo (lo+n)<|(lo+n-lo)/2).toList=xs.toList.take lo++(fy xs lo n).reverse++xs.toList.drop (lo+n):=by
 have c:xs.toList.length=xs.size:=fQ;have a:(xs.toList.take lo).length=lo:=by rw[dn];lia
 have b:=tV h;apply uX;intro i;rw[sW,getElem?_mirror_all h]
 by_cases c1:i<lo
 .rw[dt li,dw,iN li,sZ,dL c1];simp
 by_cases d:i<lo+n
 .rw[dL li,dw,lR li,iN (by rw[Cz];lia),a,Tj li,b];unfold fy;rw[sZ,dL om,tf,show lo+(n-1-(i-lo))=lo+(lo+n)-1-i by lia];simp
 rw[dt li,lR (by rw[ba,Cz];lia),ba,Cz,a,b,tf,show lo+n+(i-(lo+n))=i by lia];simp
def ai6(C:sr M A E s κ a0 O rk){lo l:Nat}{Q:Option Nat->cc->Prop}(g:G κ a0 pd st)(hn:lo+l<=a0.length)(h1:1<=l)(D:O->lS rk (c0 st).toList)(q:∀aw k,G κ a0 pd aw->1<=k->k<=l->(O->jI (c0 st) (c0 aw) lo k/\Up rk (fy (c0 aw) lo k))->Q (a_ k) aw):wpS M A E s (countRun' lo l) Q st:=by
 have hs:=g.size;have U:∀{i j x y},O->i≠j->(c0 _)[i]?=a_ x->(c0 _)[j]?=a_ y->rk x≠rk y:=λ{i j x y}o Cd c a=>D o i j x y Cd (by simpa using c) (by simpa using a);rw[countRun'_eq];refine aV (k7 (λn aw=>aw=st/\(O->Up rk (fy (c0 st) lo n))) (λn aw=>aw=st/\(O->Up rk (fy (c0 st) lo n))/\(O->n<l->∀x y,(c0 st)[lo+n]?=a_ x->(c0 st)[lo+n-1]?=a_ y->rk x<rk y)) h1 ⟨xz,λ_=>NV⟩ (λaw p=>⟨p.1,p.2,λ_ z=>dV z<|jR _⟩) (λn h b1 b2 d=>?_) λn h R n1 n2 p F r2=>?_)
 .obtain⟨rfl,u,dd⟩:=d;refine cY (λ_=>bf<|q _ n g b1 b2 λo=>⟨De _ _ _,u o⟩) λe=>?_
  have V:n<l:=by
   have:¬n=l:=λz=>e<|eY.mpr z;lia
  refine X3 (λaw=>G κ a0 pd aw/\(O->aw=h/\n=1)) (λt T=>?_) xz (λt=>⟨g,λ_=>⟨xz,by have:¬n > 1:=t;lia⟩⟩) λP⟨H,W⟩=>?_
  .have t:=t;refine aV (BB C g li (by lia) λb z y X a r=>?_);cases b
   .refine aV (g.rev λP H _=>T _ ⟨H,λo=>?_⟩);have h3:=V8 (u o) (seg_at X li) y<|bz<|seg_at ((show lo+(n-1)=lo+n-1 by lia)▸a) li;have h4:=U o (show lo≠lo+n-1 by lia) X a;exact dV (Int.lt_iff_le_and_ne.mpr ⟨h3,h4⟩)<|eV (r o).f5
   exact bf (q _ n g b1 b2 λo=>⟨De _ _ _,u o⟩)
  refine aV (Bd<|aV<|lpD (λk e aw=>G κ a0 pd aw/\(O->aw=h/\e=0/\Up (λx=>- rk x) (fy (c0 h) lo k))) (show n+1<=l from V) ⟨H,λo=>⟨(W o).1,xz,?_⟩⟩ (λk e S c1 c2⟨v,w⟩=>?_) λk e S R k1 k2⟨v,w⟩F r2=>?_)
  .obtain⟨rfl,rfl⟩:=W o;obtain⟨x,c,_⟩:=H.of.at' (show lo+1<(c0 P).size by lia);obtain⟨y,a,_⟩:=H.of.at' (show lo+1-1<(c0 P).size by lia);have:=dd o V x y c a;exact GV NV (aD 1) li a c (by show-rk y<=- rk x;lia)
  .refine X3 (λaw=>G _ _ _ _/\(O->aw=S)) (λt T=>aV<|v.rev λY I _=>T _ ⟨I,λo=>?_⟩) xz (λ_=>⟨v,λ_=>rfl⟩) λY⟨I,o4⟩=>?_
   .have:=(w o).2.1;have:e > 0:=t;lia
   refine aV (I.rev λf B Z=>?_)
   have mo:O->jI (c0 h) (c0 f) lo k/\Up rk (fy (c0 f) lo k):=λo=>by
    obtain⟨rfl,_,u3⟩:=w o;rw[o4 o]at Z;have em:=mir (xs:=c0 S) (lo:=lo) (n:=k) li;rw[<-Z]at em;have m:=HF em (by rw[Cz];exact tV li) li;refine⟨m.1,?_⟩;rw[m.2,Up,abz];exact u3.imp λz=>li
   have tail:∀j,O->k<=j->j<=l->jI (c0 h) (c0 f) lo j:=λj o L N=>by
    have m:=(mo o).1;refine(HF (m:=fy _ lo j) ?_ (tV<|by rw[B.size];lia) li).1;unfold jI at m
    have e6:fy (c0 f) lo j=fy (c0 f) lo k++((c0 h).toList.drop<|lo+k).take (j-k):=by
     have h7:(c0 f).toList.drop (lo+k)=(c0 h).toList.drop (lo+k):=by
      conv=>lhs;rw[m]
      rw[TV,wN (by rw[ba,dn,tV (by rw[B.size];lia),fQ];lia),ba,dn,tV (by rw[B.size];lia),fQ,va li,qZ,ve];rfl
     have h8:=Nk (c0 f) lo k<|j-k;rw[Ts L]at h8;rw[h8,<-h7];rfl
    rw[e6]
    conv=>lhs;rw[m]
    rw[dw,dw,dw,show lo+j=lo+k+(j-k) by lia];generalize lo+k=u;rw[<-qY,jn]
   refine aV (k7 (λj aw=>aw=f/\(O->Up rk (fy (c0 f) lo j))) (λj aw=>aw=f/\(O->Up rk (fy (c0 f) lo j))) c2 ⟨xz,λo=>(mo o).2⟩ (λ_ p=>p) (λj st6 L N d=>?_) λj st6 R L N p F r2=>?_)
   .obtain⟨rfl,u⟩:=d;exact bf (q _ j B li N λo=>⟨tail j o L N,u o⟩)
   obtain⟨rfl,u⟩:=p;refine aV (BB C B li li λb x y c a r=>?_);cases b
   .exact bf (r2 ⟨xz,λo=>GV (u o) li (by rw[B.size];lia) a c<|C5.mp<|eV (r o).f5⟩)
   exact bf<|F ⟨xz,u⟩
  refine aV (BB C v li li λb x y c a r=>?_);have mI:O->(c0 h)[lo+k]?=a_ x:=λo=>by rw[<-(w o).1];exact c
  have An:O->(c0 h)[lo+k-1]?=a_ y:=λo=>by rw[<-(w o).1];exact a
  cases b
  .refine aV (BB C v li li λb y' x' J K yw=>?_);cases b
   .refine bf (r2 _ _ ⟨v,λo=>?_⟩);rw[c]at K;rw[a]at J;cases K;cases J;have h4:=eV (yw o).f5;exact dV (Int.le_antisymm (C5.mp h4)<|C5.mp<|eV (r o).f5)<|U o (show lo+k≠lo+k-1 by lia) (mI o)<|An o
   exact bf F
  have up3:O->Up _ _:=λo=>GV (w o).2.2 li li (An o) (mI o) (by have:=ec (r o).f5;show-rk y<=- rk x;lia);exact cY (λ_=>cY (λt=>aV<|v.rev λY I _=>bf<|r2 _ _ ⟨I,λo=>by have:=(w o).2.1;have:e > 0:=t;lia⟩) λ_=>bf<|r2 _ _ ⟨v,λo=>⟨(w o).1,xz,up3 o⟩⟩)<|dV xz
 obtain⟨rfl,u⟩:=p;refine aV (BB C g li li λb x y c a r=>?_);cases b
 .exact bf (r2 ⟨xz,λo=>GV (u o) n1 li a c<|C5.mp<|eV (r o).f5⟩)
 refine bf<|F ⟨xz,u,λo _ x' y' K J=>?_⟩;rw[c]at K;rw[a]at J;cases K;cases J;exact ec (r o).f5
end TS
namespace TS
variable{M:bL}{A:h_}{E:f_->g_->Prop}{s:g_}{κ:md}{a0:List ca}{pd:Array (Nat×Nat×Nat)}{st:cc}{O:Prop}{rk:ca->Int}
noncomputable def Runs:List (Nat×Nat×Nat)->Nat->Nat->Prop
 | [],i,j=>i=j
 | (b,n,_)::l,i,j=>b=i/\1<=n/\Runs l (i+n) j
theorem Runs.le:∀{l:List (Nat×Nat×Nat)}{i j:Nat},Runs l i j->i<=j
 | [],i,j,h=>mY h
 | (b,n,_)::l,i,j,⟨_,_,h⟩=>cF (FE _ _) h.le
theorem Runs.app:∀{l a:List (Nat×Nat×Nat)}{i j:Nat},Runs (l++a) i j↔∃k,Runs l i k/\Runs a k j
 | [],a,i,j=>⟨λh=>⟨i,xz,h⟩,λ⟨k,e,h⟩=>(show i=k from e) ▸ h⟩
 | (b,n,p)::l,a,i,j=>⟨λ⟨h1,h2,h3⟩=>aq (Runs.app.mp h3) λk h5 c=>⟨k,⟨h1,h2,h5⟩,c⟩,λ⟨k,⟨h1,h2,h5⟩,c⟩=>⟨h1,h2,Runs.app.mpr ⟨k,h5,c⟩⟩⟩
theorem Runs.pw:∀{l a:List (Nat×Nat×Nat)}{i j:Nat},l.map (λx=>(x.1,x.2.1))=a.map (λx=>(x.1,x.2.1))->Runs l i j->Runs a i j
 | [],[],i,j,_,h=>h
 | [],_::_,_,_,e,_=>by cases e
 | _::_,[],_,_,e,_=>by cases e
 | (b,n,p)::l,(b',n',p')::a,i,j,e,⟨h1,h2,h4⟩=>by
  have c:=(acS e).1;have d:b=b':=f0 xo c;have en:n=n':=f0 Prod.snd c;subst d en;exact⟨h1,h2,h4.pw (acS e).2⟩
def alW(rk:ca->Int)(a:Array ca)(l:List (Nat×Nat×Nat)):Prop:=∀x∈l,Up rk<|fy a x.1 x.2.1
theorem Runs.Jr:∀{l:List (Nat×Nat×Nat)}{i j:Nat},Runs l i j->∀x∈l,i<=x.1/\x.1+x.2.1<=j
 | [],_,_,_,_,h=>by cases h
 | (b,n,p)::l,i,j,⟨h1,h2,h3⟩,x,hx=>by
  obtain e|e:=bq.mp hx
  .have:=h3.le;rw[e,h1];exact⟨aD _,this⟩
  .have:=h3.Jr x e;lia
def Yi(h:∀t,x<=t->t<x+n->a'.toList[t]?=a.toList[t]?):fy a' x n=fy a x n:=by
 unfold fy;apply uX;intro i;rw[sZ,sZ]
 by_cases c:i<n
 .rw[dL c,dL c,tf,tf];exact h _ li li
 rw[dt c,dt c]
def jI.lo{i n t k:Nat}(m:jI a a' i n)(hi:i+n<=a.size)(h:t+k<=i):fy a' t k=fy a t k:=Yi λj h1 h2=>by
 rw[m,dw,iN (by rw[dn,fQ];lia),sZ,dL li]
def jI.hi{i n t k:Nat}(m:jI a a' i n)(b:a'.size=a.size)(hi:i+n<=a.size)(h:i+n<=t):fy a' t k=fy a t k:=Yi λj h1 h2=>by
 have l1:(a.toList.take i).length=i:=by rw[dn,fQ];lia
 have l2:=tV (a:=a') (i:=i) (n:=n) li;rw[m,lR (by rw[ba];lia),ba,l1,l2,tf,show i+n+(j-(i+n))=j by lia]
structure SS(O:Prop)(rk:ca->Int)(κ:md)(a0:List ca)(lo:Nat)(st:cc):Prop where
 g:G κ a0 (cD st) st
 r:Runs (cD st).toList 0 lo
 h:lo<=a0.length
 u:O->alW rk (c0 st) (cD st).toList
def SS.merge(C:sr M A E s κ a0 O rk){lo i:Nat}(S:SS O rk κ a0 lo st)(hi:i+1<(cD st).size)(q:∀aw,SS O rk κ a0 lo aw->(cD aw).size+1=(cD st).size->(O->∀x n,lo<=x->fy (c0 aw) x n=fy (c0 st) x n)->Q c_ aw):wpS M A E s (mergeAt' i) Q st:=by
 have F:(cD _).toList.length=(cD st).size:=fQ
 have split:(cD st).toList=(cD st).toList.take i++(cD st).toList[i]::(cD st).toList[i+1]::(cD st).toList.drop (i+2):=by
  rw[<-S4,<-S4,jn]
 have d:(cD _).toList[i]?=a_ ((cD st).toList[i]):=aQ _;have j:(cD _).toList[i+1]?=a_ ((cD _).toList[i+1]):=aQ _;have r:=S.r;rw[split]at r;generalize (cD st).toList[i]=P1 at d r split;generalize (cD _).toList[i+1]=P2 at j r split;obtain⟨sa,l,m⟩:=P1;obtain⟨G,v,H⟩:=P2;obtain⟨t,y,h1,h2,h4,h5,r2⟩:=Runs.app.mp r;subst h1;subst h4;have I:=r2.le;have B:=S.h;have D:=r2.Jr;have U:O->Up _ _/\Up _ _:=λo=>⟨S.u o _<|bz d,S.u o _<|bz j⟩;refine adO M A E s _ _ O _ C i _ _ _ _ _ _ _ Q S.g (by simpa using d) (by simpa using j) h2 h5 li U λaw g' c=>?_
 have w:(cD aw).toList=(cD st).toList.take i++(sa,l+v,m)::(cD st).toList.drop (i+2):=by
  rw[g'.p];have lt:((cD st).toList.take i).length=i:=by rw[dn];lia
  have:(((cD st).setIfInBounds i (sa,l+v,m)).eraseIdxIfInBounds<|i+1).toList=((cD st).toList.set i (sa,l+v,m)).eraseIdx (i+1):=by
   simp
  rw[this,split];generalize (cD _).toList.take i=l1 at lt;generalize (cD _).toList.drop _=l2;subst lt;simp;rw[List.eraseIdx_append_of_length_le li];simp
 have z:(c0 aw).size=(c0 st).size:=by rw[g'.size,S.g.size]
 have J:=S.g.size;refine q _ ⟨⟨g'.k,g'.f,g'.a,xz⟩,?_,B,λo x b=>?_⟩ ?_ λo x n b=>(c o).1.hi z li li
 .rw[w];refine Runs.app.mpr ⟨sa,y,xz,li,?_⟩;rw[<-Nat.add_assoc];exact r2
 .rw[w]at b;obtain b|b:=cp.mp b
  .rw[(c o).1.lo li (y.Jr x b).2];exact S.u o x (split▸jo _ b)
  obtain e|b:=bq.mp b
  .rw[e];exact(c o).2
  .have:=D x b;rw[(c o).1.hi z li li];exact S.u o x (split▸f6 _<|eI _<|eI _ b)
 rw[<-fQ,w,<-fQ];simp;lia
def Xx(p:Array (Nat×Nat×Nat))(i pw:Nat):((p.modify i λx=>(x.1,x.2.1,pw)).toList.map λx=>(x.1,x.2.1))=p.toList.map λx=>(x.1,x.2.1):=by
 apply uX;intro j;rw[cH,cH,sW,sW,Array.getElem?_modify]
 by_cases e:i=j
 .rw[dL e];rcases p[j]? with _|x;rfl;rfl
 rw[dt e]
def ajL{c:Prop}[Decidable c](h1:a+1<n)(h2:b+1<n):(if c then a else b)+1<n:=by
 by_cases h:c
 .rw[dL h];exact h1
 rw[dt h];exact h2
def SS.push{lo n:Nat}(S:SS O rk κ a0 lo st)(h1:1<=n)(h2:lo+n<=a0.length)(u:O->Up rk (fy (c0 st) lo n)):SS O rk κ a0 (lo+n) (setPending st<|(cD st).push (lo,n,0)):=by
 have e:(cD<|setPending st<|(cD st).push (lo,n,0)).toList=(cD st).toList++[(lo,n,0)]:=by
  rw[TK]
 refine⟨⟨S.g.k,S.g.f,S.g.a,xz⟩,by rw[e];exact Runs.app.mpr ⟨lo,S.r,xz,h1,xz⟩,h2,λo x b=>?_⟩;rw[e]at b;obtain z|z:=cp.mp b
 .exact S.u o x z
 rw[cR.mp z];exact u o
def aiy(h:(l.map rk).Nodup):lS rk l:=by
 refine λi j x y d f g e=>oE (bu.mp f) λa b=>oE (bu.mp g) λb1 b2=>?_;have p:=lj.mp h;obtain c|c:=abV d
 .exact p i j (by simpa using a) (by simpa using b1) c (by rw[FJ,FJ,b,b2,e])
 exact p j i (by simpa using b1) (by simpa using a) c (by rw[FJ,FJ,b,b2,e])
def aiJ{a:Type}{Q:a->cc->Prop}(P:Nat->cc->Prop){c:Prop}[Decidable c]{X Y:StateT cc Sem a}{J:Nat->StateT cc Sem a}(h1:c->(∀v aw,P v aw->wpS M A E s (J v) Q aw)->wpS M A E s X Q st)(h2:(∀v aw,P v aw->wpS M A E s (J v) Q aw)->wpS M A E s Y Q st)(t:∀v aw,P v aw->wpS M A E s (J v) Q aw):wpS M A E s (if c then X else Y) Q st:=cY (λh=>h1 h t) λh=>h2 t
def ahd(C:sr M A E s κ a0 O rk)(nd:O->(a0.map rk).Nodup){Q:Unit->cc->Prop}(hκ:kindOf st=κ)(hf:qj st=b_)(R:cD st=#[])(ha:(c0 st).toList=a0)(q:∀aw,qj aw=b_->(c0 aw).toList.Perm a0->(O->Up rk (c0 aw).toList)->Q () aw):wpS M A E s sortRuns' Q st:=by
 have sz:(c0 st).size=a0.length:=by rw[<-fQ,ha]
 rw[sortRuns'_eq];refine aV<|wpS_get<|aV<|vk (qd (I:=λi c aw=>∃lo,c=(b_,lo)/\SS O rk κ a0 lo aw/\i<=lo) (Q:=λc aw=>c=(b_,a0.length)/\SS O rk κ a0 a0.length aw) ?_ ?_ ⟨0,xz,⟨⟨hκ,hf,by rw[ha],xz⟩,by rw[R];rfl,aY _,λ_ x v=>(by rw[R]at v;cases v)⟩,aD _⟩) ?_
 .rintro i c U _ hi ⟨lo,rfl,S,V⟩;have gh:=S.h;refine cY (λe=>?_) λe=>?_
  .have:lo=a0.length:=by
    have:lo ≥ (c0 _).size:=e;lia
   subst this;exact bf ⟨xz,S⟩
  have cu:lo<a0.length:=by
   have:¬lo ≥ (c0 _).size:=e;lia
  refine aV (ai6 C S.g li li (λo=>aiy<|(S.g.a.map _).nodup_iff.mpr<|nd o) λB k g2 k1 k2 D=>?_)
  have W:∀{st aw:cc}{n:Nat},SS O rk κ a0 lo st->G κ a0 (cD st) aw->lo+n<=a0.length->(O->jI (c0 st) (c0 aw) lo n/\Up rk (fy (c0 aw) lo n))->SS O rk κ a0 lo aw:=λ{st aw n}S g hn D=>⟨⟨g.k,g.f,g.a,xz⟩,by rw[g.p];exact S.r,S.h,λo x v=>by
   rw[g.p]at v;have:=(S.r.Jr x v).2;rw[(D o).1.lo (by rw[S.g.size];lia) this];exact S.u o x v⟩
  have d:=W S g2 li D;apply aiJ (λn aw=>SS O rk κ a0 lo aw/\1<=n/\lo+n<=a0.length/\(O->Up rk (fy (c0 aw) lo n)))
  case h1=>
   intro J T;refine aV<|Bd<|aV (ake C d.g li li li (λo=>(D o).2) λK g3 L=>cY (λz=>dV z qc) λ_=>?_);have Y:1<=min ((c0 st).size-lo) (minRun' (c0 st).size (c0 st).size 0):=li;have N:lo+min ((c0 st).size-lo) (minRun' (c0 st).size (c0 st).size 0)<=a0.length:=li;generalize min ((c0 st).size-lo) _=N3 at Y N L ⊢;exact T _ _ ⟨W d g3 N L,Y,N,λo=>(L o).2⟩
  case h2=>exact λT=>T k B ⟨d,k1,li,λo=>(D o).2⟩
  case t=>
   rintro n K ⟨H,n1,Z,u3⟩;refine aV<|wpS_get ?_;rcases hb:(cD K).back? with _|P;exact aV<|yU<|bf ⟨lo+n,xz,H.push n1 Z u3,li⟩
   obtain⟨s1,m1,pw1⟩:=P;refine aV<|vk (qd (I:=λ_ c aw=>c=(b_,())/\SS O _ _ _ _ aw/\(O->Up _ (fy (c0 aw) _ n))) ?_ (λ_ _ h=>h) ⟨xz,H,u3⟩) ?_
   .rintro j c w _ _ ⟨rfl,m,F⟩;refine aV<|wpS_get ?_;dsimp only
    by_cases km:(cD w).size > 1
    .obtain⟨⟨x1,x2,x3⟩,hX⟩:∃X,(cD w)[(cD w).size-2]?=a_ X:=⟨(cD w)[(cD w).size-2],by simp⟩;rw[dL km,hX];exact cY (λ_=>bf ⟨xz,m,F⟩) λ_=>aV (m.merge C li λst6 S6 _ w6=>cY (λz=>dV z qc) λ_=>bf ⟨xz,S6,λo=>by rw[w6 o _ n<|aD _];exact F o⟩)
    rw[dt km];exact bf ⟨xz,m,F⟩
   rintro c w ⟨rfl,m,F⟩;refine aV<|yU<|aV<|yU<|bf ⟨lo+n,xz,SS.push ⟨⟨m.g.k,m.g.f,m.g.a,xz⟩,m.r.pw (Xx _ _ _).f5,m.h,λo x v=>?_⟩ n1 Z F,li⟩
   have hm:(x.1,x.2.1)∈(cD w).toList.map (λx=>(x.1,x.2.1)):=by
    rw[<-Xx];exact dy.mpr ⟨x,v,xz⟩
   obtain⟨y,hy,e⟩:=dy.mp hm;have e1:=f0 xo e;have J:=f0 Prod.snd e;dsimp only at e1 J;rw[<-e1,<-J];exact m.u o y hy
 .rintro c U ⟨lo,rfl,S,V⟩;have gh:=S.h
  have:lo=a0.length:=by
   have:max 0 (c0 _).size<=lo:=V;lia
  subst this;exact⟨xz,S⟩
 rintro c U ⟨rfl,S⟩
 have Av:∀{l:List (Nat×Nat×Nat)}{i j:Nat},Runs l i j->i+l.length<=j:=λ{l}=>by
  induction l with
  | nil=>exact mY
  | cons x l ih=>exact λh=>by have:=ih h.2.2;have:=h.2.1;rw[gI];lia
 have hle:=Av S.r;rw[fQ]at hle;refine aV<|vk (qd (I:=λi c aw=>c=(b_,())/\SS O rk κ a0 a0.length aw/\((cD aw).size<=1\/(cD aw).size+i<=a0.length)) (Q:=λc aw=>c=(b_,())/\SS O rk κ a0 a0.length aw/\(cD aw).size<=1) ?_ ?_ ⟨xz,S,.inr li⟩) ?_
 .rintro i c B _ hi ⟨rfl,d,h2⟩;refine aV<|wpS_get (cY (λe=>bf ⟨xz,d,e⟩) λe=>?_);exact aV (d.merge C (ajL li li) λK H w3 _=>cY (λz=>dV z qc) λ_=>bf ⟨xz,H,.inr li⟩)
 .rintro c B ⟨rfl,d,h2⟩;refine⟨xz,d,h2.elim id λh=>?_⟩;have:(cD _).size+max 0 (c0 _).size<=a0.length:=h;lia
 rintro c B ⟨rfl,d,h2⟩;refine bf (q _ d.g.f d.g.a λo=>?_);have r:=d.r;have u:=d.u o;have z2:=d.g.size;rw[<-fQ]at h2;rcases hq:(cD B).toList with _|⟨x,l⟩
 ·rw[hq]at r;have r:0=a0.length:=r;rw[aa2 (l:=(c0 _).toList) (by rw[fQ];lia)];exact KZ
 rw[hq]at r u h2;cases l with
 | cons y l=>exact dV h2 (by simp)
 | nil=>
  obtain⟨b,n,p⟩:=x;obtain⟨rfl,_,e⟩:=r;have e:0+n=a0.length:=e;have:=u _ gg;unfold fy at this;rw[ve,jA (by rw[fQ];dsimp only;lia)]at this;exact this
end TS
open PySem.W L2
namespace TS
section
variable{P:k_}{w:j_}{A:h_}{E:f_->g_->Prop}{s:g_}{κ:md}{vs:List f_}{O:Prop}{rk:f_->Int}
def Ask(P:k_)(w:j_)(A:h_)(κ:md)(vs:List f_)(O:Prop)(rk:f_->Int)(s:g_):Prop:=∀x y(C:Bool->g_->Prop),x∈vs->y∈vs->(∀b,(O->b=decide (rk x<rk y))->C b s)->am (ap P w) A (keyLt' κ x y) C (λ_ _=>False) s
def akc(c:Ask P w A κ vs O rk s):sr (ap P w) A E s κ (vs.zip vs) O λx=>rk x.1:=λst x y Q d e f q=>by
 rw[lt'_eq];refine aV<|wpS_get<|aV<|wpS_lift<|AV ?_;rw[d];exact gn (c _ _ (λb a=>a=s/\(O->b=decide (rk _<rk _))) (vc e).1 (vc f).1 λ_ h=>⟨xz,h⟩) (λb a h=>⟨h.1,bf<|q b h.2⟩) λ_ _ z=>z.elim
theorem Mq:∀{vs:List f_},x∈vs.zip vs->x.1=x.2
 | [],h=>by cases h
 | v::vs,h=>(bq.mp h).elim (λe=>by rw[e]) Mq
def afp(nd:O->(vs.map rk).Nodup)(b:Ask P w A κ vs O rk s)(q:∀(st:cc),((c0 st).map (·.2)).toList.Perm vs->(O->((c0 st).map (·.2)).toList.Pairwise λx y=>rk x<=rk y)->qj st=b_->Q ((),st) s):am (ap P w) A (sortRuns'.run<|LX κ (vs.toArray.zip vs.toArray) #[] 7 b_) Q E s:=by
 have c:(c0<|LX κ (vs.toArray.zip vs.toArray) #[] 7 b_).toList=vs.zip vs:=by
  rw[acn]
 exact gn (ahd (E:=E) (akc (E:=E) b) (λo=>by
  have:(vs.zip vs).map (λx=>rk x.1)=vs.map rk:=by rw[show (λx:ca=>rk x.1)=rk ∘ xo from xz,<-vg,acj<|aD _]
  rw[this];exact nd o) (st:=LX κ (vs.toArray.zip vs.toArray) #[] 7 b_) (Q:=λ_ st=>Q ((),st) s) xz xz xz c (λst d pm u=>q st (by
  rw[TZ];have:=pm.map (·.2);rwa[TU (aD _)]at this) (λo=>by
  rw[TZ,AO];exact(u o).imp_of_mem λe f h=>by dsimp only at h;rw[Mq<|pm.mem_iff.mp e,Mq<|pm.mem_iff.mp f]at h;exact h) d)) (λa g h=>by rw[h.1];exact h.2) λ_ _ z=>z
def aec(g:s.heap.get? a=a_ (ci "list" vs.toArray n))(h1:2<=vs.length)(line:vs.length<=bp)(nd:O->(vs.map rk).Nodup)(q:∀d:g_,(∀b o,b≠a->s.heap.get? b=a_ o->d.heap.get? b=a_ o)->(∀Q:md->g_->Prop,Q κ d->am (ap P w) A (keyKind' vs.toArray) Q (λ_ _=>False) d)/\Ask P w A κ vs O rk d)(k:∀h' e(c:List f_),c.Perm vs->(O->c.Pairwise λx y=>rk x<=rk y)->(∀b o,b≠a->s.heap.get? b=a_ o->h'.get? b=a_ o)->h'.get? a=a_ (ci "list" c.toArray e)->R (.done<|.ret .none) {s with heap:=h'}):am (ap P w) A (Builtin.«list.sort» ⟨[.ref a],[]⟩) R E s:=by
 have hn:¬vs.toArray.size<2:=by rw[de];lia
 have i:vs.toArray.size<=bp:=by rw[de];exact line
 obtain⟨j,l⟩:∃j,(s.heap.update a<|nX λ_=>(#[]:Array f_)).get? a=a_ (ci "list" #[] j):=⟨_,FL g λ_=>#[]⟩;rw[list_sort_plain];refine ah<|listItems_at g xz<|ah<|Lu g xz (ah<|LM l xz<|ah<|Ue (ah<|Ls (kG ?_)<|aY _)<|by simpa using i) i<|aY _;have h:=bh (ci "list" #[] 0)<|bh (ci "tuple" vs.toArray 0) l;have kp:∀b o,b≠a->s.heap.get? b=a_ o->(((s.heap.update a<|nX λ_=>(#[]:Array _)).push<|ci "tuple" vs.toArray 0).push<|ci "list" #[] 0).get? b=a_ o:=λb o f e=>bh _<|bh _ (by rw[Fz _ _ _ _ f];exact e);rw[dt hn,dt hn];have m:=q {s with heap:=((s.heap.update a<|nX λ_=>(#[]:Array _)).push<|ci _ vs.toArray 0).push _} kp;refine ah (gn (m.1 _<|ah<|afp nd m.2 λst pm p r=>?_) (λ_ _ z=>z) λ_ _ z=>z.elim);dsimp only;rw[show (c0 _).map (·.2)=((c0 _).map (·.2)).toList.toArray from abL.f5];generalize ((c0 _).map (·.2)).toList=c at pm p ⊢;refine ah<|LM h xz<|ah<|Lu h xz ?_ (aY _)<|cF (by rw[de,pm.length_eq];exact line)<|jT _;rw[r,dt (by simp)];refine aI<|k _ _ _ pm p (λb o f e=>?_) (FL h λ_=>c.toArray);rw[Fz _ _ _ _ f];exact kp b o f e
end
end TS
namespace L2
open PySem.W
section
variable{P:k_}{w:j_}{A:h_}{E:f_->g_->Prop}{s:g_}{Q:Bool->g_->Prop}
def alv{t u:Tok}(q:Q (decide<|a<b) s):am (ap P w) A (oneLt' d_ (gq a t)<|gq b u) Q E s:=by
 rw[oneLt'_eq];rw[dt qc];exact ah (PyProof.Rows.lt_int ((pZ q):am _ _ _ _ _ _):am _ A _ _ E s)
def alu{t u:Tok}(q:Q (decide<|a.cps.toList<b.cps.toList) s):am (ap P w) A (oneLt' d_ (q9 a t)<|q9 b u) Q E s:=by
 rw[oneLt'_eq];rw[dt qc];exact ah (PyProof.Rows.lt_str ((pZ q):am _ _ _ _ _ _):am _ A _ _ E s)
noncomputable def jh(x y:Int×Int×bx):Bool:=if x.1=y.1 then (if x.2.1=y.2.1 then (if x.2.2=y.2.2 then d_ else decide (x.2.2.cps.toList<y.2.2.cps.toList)) else decide (x.2.1<y.2.1)) else decide (x.1<y.1)
def anp(q:Q (jh x y) s):KatLex P w A c_ (decide<|3<3) Q ([gq x.1 t1,gq x.2.1 t2,q9 x.2.2 t3].zip [gq y.1 u1,gq y.2.1 u2,q9 y.2.2 u3]) 0 s:=by
 unfold jh at q;refine GU<|K2 ?_
 by_cases a:x.1=y.1
 .rw[dL a]at q;rw[show (x.1==y.1)=c_ by simpa using a];refine kat_yes (GU<|K2 ?_)
  by_cases b:x.2.1=y.2.1
  .rw[dL b]at q;rw[show (x.2.1==y.2.1)=c_ by simpa using b];refine kat_yes (GU<|wpAny_eqBool_str ?_)
   by_cases c:x.2.2=y.2.2
   .rw[dL c]at q;rw[ee c];exact kat_yes<|kat_nil q
   rw[dt c]at q;rw[eF c];exact kat_no<|alu q
  rw[dt b]at q;rw[show (x.2.1==y.2.1)=d_ by simpa using b];exact kat_no<|alv q
 rw[dt a]at q;rw[show (x.1==y.1)=d_ by simpa using a];exact kat_no<|oneLt_int q
end
def aiV{a b:bx}(h:a.cps.toList=b.cps.toList):a=b:=by
 cases a;cases b
 congr 1
 exact Lf.mp h
def ah'(x:Int×Int×bx):jh x x=false:=by
 unfold jh;rw[dL xz,dL xz,dL rfl]
def NH:jh x y=c_↔x.1<y.1\/(x.1=y.1/\(x.2.1<y.2.1\/(x.2.1=y.2.1/\x.2.2.cps.toList<y.2.2.cps.toList))):=by
 unfold jh
 by_cases a:x.1=y.1
 .rw[dL a]
  by_cases b:x.2.1=y.2.1
  .rw[dL b]
   by_cases c:x.2.2=y.2.2
   .rw[dL c];constructor
    .intro h;cases h
    rintro(h | ⟨_,h | ⟨_,h⟩⟩)
    .lia
    .lia
    rw[c]at h;exact dV h<|List.lt_irrefl _
   rw[dt c];constructor
   .exact λh=>.inr ⟨a,.inr ⟨b,ec h⟩⟩
   rintro(h | ⟨_,h | ⟨_,h⟩⟩)
   .omega
   .omega
   exact ee h
  rw[dt b];constructor
  .exact λh=>.inr ⟨a,.inl<|ec h⟩
  rintro(h | ⟨_,h | ⟨h,_⟩⟩)
  .omega
  .exact ee h
  exact dV h b
 rw[dt a];constructor
 .exact λh=>.inl<|ec h
 rintro(h | ⟨h,_⟩)
 .exact ee h
 exact dV h a
def ajB(h:jh x y=c_)(g:jh y z=c_):jh x z=true:=by
 rw[NH]at *;rcases h with h | ⟨h1,h | ⟨h2,h⟩⟩ <;> obtain g|⟨a,g|⟨b,g⟩⟩:=g
 .exact .inl li
 .exact .inl li
 .exact .inl om
 .exact .inl li
 .exact .inr ⟨li,.inl li⟩
 .exact .inr ⟨om,.inl li⟩
 .exact .inl om
 .exact .inr ⟨om,.inl li⟩
 exact .inr ⟨om,.inr ⟨li,List.lt_trans h g⟩⟩
def XB{x y:Int×Int×bx}(h:x≠y):jh x y=c_\/jh y x=true:=by
 rw[NH,NH];obtain a|a|a:=aca _ _
 .exact .inl (.inl a)
 .obtain b|b|b:=aca _ _
  .exact .inl (.inr ⟨a,.inl b⟩)
  .by_cases c:x.2.2.cps.toList<y.2.2.cps.toList
   .exact .inl (.inr ⟨a,.inr ⟨b,c⟩⟩)
   by_cases d:y.2.2.cps.toList<x.2.2.cps.toList
   .exact .inr (.inr ⟨a.f5,.inr ⟨b.f5,d⟩⟩)
   exact dV (rA a<|rA b<|aiV<|List.le_antisymm d c) h
  exact .inr (.inr ⟨a.f5,.inl b⟩)
 exact .inr (.inl a)
def akb{a:Type}{p q:a->Bool}:∀{l:List a},(∀x∈l,p x=c_->q x=c_)->l.countP p<=l.countP q:=List.countP_mono_left
theorem YU{b:Type}{p q:b->Bool}{a:b}:∀{l:List b},(∀x,p x=c_->q x=c_)->a∈l->p a=d_->q a=c_->l.countP p<l.countP q
 | [],_,h,_,_=>by cases h
 | x::l,h,ha,h1,h2=>by
  rw[Lb,Lb];have d:l.countP p<=l.countP q:=akb λx _=>h x;obtain e|e:=bq.mp ha
  .rw[<-e,h1,h2];simp;lia
  .have:=YU h e h1 h2
   have:(if p x=c_ then 1 else 0)<=(if q x=c_ then 1 else 0):=by
    by_cases c:p x=c_
    .rw[dL c,dL<|h x c];exact aD _
    rw[dt c];exact aY _
   lia
def t7(ts:List (Int×Int×bx))(x:Int×Int×bx):Int:=(ts.countP λy=>jh y x:Nat)
def Gv{ts:List (Int×Int×bx)}{x y:Int×Int×bx}(a:x∈ts)(b:y∈ts):decide (t7 ts x<t7 ts y)=jh x y:=by
 have key:∀{x y},x∈ts->jh x y=c_->t7 ts x<t7 ts y:=λ{x y}a h=>by
  exact Uw.mpr<|YU (λz d=>ajB d h) a (ah' x) h
 rcases e:jh x y with _|_
 ·by_cases c:x=y
  .rw[c];exact eF<|Int.lt_irrefl _
  obtain z|z:=XB c
  .rw[e]at z;cases z
  exact eF λh=>dV (key b z) li
 exact ee<|key a e
def aeg(a:x∈ts)(b:y∈ts)(h:t7 ts x=t7 ts y):x=y:=by
 by_cases c:x=y
 .exact c
 obtain z|z:=XB c
 .have:=Gv a b;rw[z]at this;have:=ec this;lia
 .have:=Gv b a;rw[z]at this;have:=ec this;lia
def ZY{d e:Type}{F:d->e->Prop}{us c:List d}(h:c.Perm us):∀{L:List e},aA F us L->∃B,B.Perm L/\aA F c B:=by
 induction h with
 | nil=>exact λ{L}r=>⟨L,yK _,r⟩
 | cons x p ih=>
  intro L r;cases r with
  | cons a r=>exact aq (ih r) λc h1 h2=>⟨_::c,h1.cons _,.cons a h2⟩
 | swap x y l=>
  intro L r;cases r with
  | cons a r=>
   cases r with
   | cons b r=>exact⟨_,eW.swap _ _ _,.cons b<|.cons a r⟩
 | trans p q ih1 ih2=>exact λ{L}r=>aq (ih2 r) λc h1 h2=>aq (ih1 h2) λys h3 h4=>⟨ys,h3.f4 h1,h4⟩
theorem Ic{c d:Type}{F:c->d->Prop}:∀{a:List c}{b:List d},aA F a b->aA (λy x=>F x y) b a
 | _,_,.nil=>.nil
 | _,_,.cons h r=>.cons h<|Ic r
section
variable{X:Cx}
def adu{O:Prop}{rk:f_->Int}{κ:md}(I:cP X p_ σ H s)(D:ao X.K H p ys)(P:ys.length<bp)(q:∀a,d4 ys a->(O->(a.map rk).Nodup)/\(∀(A:h_)(g:g_),2<=a.length->(∀b o,s.heap.get? b=a_ o->g.heap.get? b=a_ o)->(∀Q:md->g_->Prop,Q κ g->am (ap X.prog X.w) A (keyKind' a.toArray) Q (λ_ _=>False) g)/\TS.Ask X.prog X.w A κ a O rk g)/\∀l h d,H l=b_->h.Perm ys->d4 h d->(O->d.Pairwise λx y=>rk x<=rk y)->Q (.ref l) (cB H l<|.lst h)):am (ap X.prog X.w) X.A (call (.builtin "sorted") [.ref p]) (EP X p_ σ Q) X.xe s:=by
 obtain⟨a,n,pl,_⟩:=I.list D;have R:=n.length;obtain⟨nd,E,q⟩:=q a n;refine Calls.call_function_entry kind_sorted plain_sorted entry_sorted (args_sorted1 _) ?_;refine ah<|aI<|ah<|collect_list pl.isList ?_ li
 have k:∀b o,s.heap.get? b=a_ o->((s.heap.push<|ci "list" #[] 0).update s.zS<|nX (· ++ a.toArray)).get? b=a_ o:=λb o e=>by
  rw[Fz _ _ _ _<|dg<|bH e];exact bh _ e
 have I:=I.kept (t':=s.toks) k;generalize (s.heap.push<|ci _ #[] 0).update _ _=kr at I k ⊢;refine ah<|Ls ?_ li;have r:(kr.push<|ci "list" a.toArray 0).get? _=a_ _:=dU _ rfl;obtain⟨m,v⟩:=I.fr;refine ah<|kG<|uZ slot_list_sort ⟨_,r,xz⟩ entry_list_sort ?_<|args_list_sort _;have kp:∀b o,kr.get? b=a_ o->(kr.push<|ci "list" a.toArray 0).get? b=a_ o:=λb o e=>bh _ e;have ne:∀b o,kr.get? b=a_ o->b≠kr.zH:=λb o z=>dg<|bH z
 have fin:∀(h2:i_)(c:Nat)(d:List f_),d.Perm a->(O->d.Pairwise λx y=>rk x<=rk y)->(∀b o,b≠kr.zH->(kr.push<|ci "list" a.toArray 0).get? b=a_ o->h2.get? b=a_ o)->h2.get? kr.zH=a_ (ci "list" d.toArray c)->EP X p_ σ Q (.ref kr.zH) {s with heap:=h2}:=λh2 c d pm t B F=>by
  obtain⟨h,h1,C⟩:=ZY pm<|Ic n;have hn:=I.aE.fresh<|aD _;have f:=I.gX (aD _) hn
  have G:h2.Ns X.env.locals m:=by
   obtain⟨o,es,L,z,M⟩:=v.ns;exact⟨o,es,L,B _ _ (ne _ _ z)<|kp _ _ z,M⟩
  have J:=cP.regrown (t':=s.toks) (d':=s.drawn) I v.ns G λb o _ z=>B b o (ne b o z)<|kp b o z;exact⟨.ref _,_,cP.adopt (o:=.lst _) J hn I.sz f.2.1 f.2.2.2.2.1 f.2.2.2.2.2 ⟨by rw[h1.length_eq];lia,d,c,Ic C,F⟩,xz,q _ _ _ hn h1 (Ic C) t⟩
 by_cases h2:a.length<2
 .refine adv r h2 λh' e k' u=>⟨_,xz,aI ⟨_,xz,fin _ e _ (yK _) (λ_=>?_) k' u⟩⟩;rw[lj];intro i j hi S T;lia
 exact TS.aec (κ:=κ) r li li nd (λg N=>E _ _ li λb o e=>N _ _ (ne _ _<|k _ _ e)<|kp _ _<|k _ _ e) λh' e d pm t k' u=>⟨_,xz,aI ⟨_,xz,fin _ e _ pm t k' u⟩⟩
def agG{P:k_}{w:j_}(h:Q c_ s):am (ap P w) A (eqBool v v) Q E s:=kG (Lg (λ_=>ah<|A7<|aI h) λz=>dV (beq_self_eq_true v) z)
theorem WD{P:k_}{w:j_}(c:C d_ s):∀(us:List f_)(i:Nat),KatLex P w A c_ d_ C (us.zip us) i s
 | [],_=>c
 | _::us,i=>GU<|agG<|kat_yes<|WD c us<|i+1
theorem V6:∀{xs:List V}{us:List f_},d4 xs us->∀v∈us,∃x∈xs,d0 x v
 | _,_,.nil,_,hv=>nomatch hv
 | _,_,.cons h r,v,hv=>by
  obtain e|e:=bq.mp hv
  .exact⟨_,.head _,e ▸ h⟩
  exact aq (V6 r v e) λx a b=>⟨x,.tail _ a,b⟩
theorem Gq{a:Type}{f:a×V->Int}{g:f_->Int}:∀{ps:List (a×V)}{b:List f_},d4 (ps.map (·.2)) b->(∀x∈ps,∀v,d0 x.2 v->g v=f x)->b.map g=ps.map f
 | [],_,.nil,_=>rfl
 | x::ps,_,.cons h r,k=>by rw[eu,eu,k x (.head _) _ h,Gq r λy c=>k y<|.tail _ c]
theorem Yx{c d:Type}{f:c->d}:∀{l:List c},(l.map f).Nodup->∀{x y:c},x∈l->y∈l->f x=f y->x=y
 | [],_,_,_,h,_,_=>nomatch h
 | z::l,n,x,y,a,b,e=>by
  rw[eu,vd]at n;have ne:∀w∈l,f w≠f z:=λw hw e=>n.1<|e ▸ Tt hw;rcases bq.mp a with a | a <;> obtain b|b:=bq.mp b
  .rw[a,b]
  .exact dV (by rw[<-e,a]) (ne y b)
  .exact dV (by rw[e,b]) (ne x a)
  exact Yx n.2 a b e
def Eb(h:i_)(W:List f_->Prop)(v:f_):Prop:=∃a o ws n,v=.ref a/\h.get? a=a_ o/\o.cls=.type "tuple"/\o.data=.seq ws n/\W ws.toList
theorem Z3:∀{l:List f_},(∀v∈l,Eb h (λus=>∃i t r,us=gq i t::r) v)->∃fs:List f_,fs.length=l.length/\KatTups h l fs/\∀v∈fs,∃i t,v=gq i t
 | [],_=>⟨[],xz,.nil,λv b=>nomatch b⟩
 | v::l,g=>by
  obtain⟨fs,h1,h2,h3⟩:=Z3 λu c=>g u<|.tail _ c;obtain⟨a,o,ws,n,rfl,d,e,j,i,t,r,k⟩:=g v<|.head _;refine⟨_::fs,by rw[gI,gI,h1],.cons d e j (f:=gq i t) (by rw[<-sW,k];rfl) h2,λv b=>?_⟩;obtain z|z:=bq.mp b
  .exact⟨_,_,z⟩
  exact h3 v z
def Wl{m:Type}{ps:List (m×V)}{W:m->List f_->Prop}{R:m->Int}(I:cP X p_ σ H s)(hl:ao X.K H p (ps.map (·.2)))(hz:ps.length<bp)(hW:∀x∈ps,∃a ys,x.2=.ref a/\aF X.K H a ys/\∀us,d4 ys us->W x.1 us)(h0:∀a us,W a us->∃i t r,us=gq i t::r)(same:∀a b us,W a us->W b us->a=b)(nd:(ps.map λx=>R x.1).Nodup)(lex:∀x∈ps,∀y∈ps,∀us vs A B(C:Bool->g_->Prop),W x.1 us->W y.1 vs->(R x.1=R y.1->us=vs)->C (decide<|R x.1<R y.1) B->KatLex X.prog X.w A c_ (decide<|us.length<vs.length) C (us.zip vs) 0 B)(q:∀l(qs:List (m×V)),H l=b_->qs.Perm ps->qs.Pairwise (λa b=>R a.1<R b.1)->Q (.ref l) (cB H l<|.lst<|qs.map (·.2))):am (ap X.prog X.w) X.A (call (.builtin "sorted") [.ref p]) (EP X p_ σ Q) X.xe s:=by
 have J:∀x∈ps,∀v,d0 x.2 v->Eb s.heap (W x.1) v:=λx f v d=>by
  obtain⟨a,ys,g,k,j⟩:=hW x f;rw[g]at d;cases d;obtain⟨vs,rv2,⟨o,eo,co,n,do_⟩,_⟩:=I.tuple k;exact⟨a,o,_,n,xz,eo,co,do_,by simpa using j _ rv2⟩
 have tu:∀{h:i_}{W L:List f_->Prop}{v:f_},Eb h W v->Eb h L v->∃us,W us/\L us:=λ{h W L v}h1 h2=>by
  obtain⟨a,o,ws,n,rfl,g,k,j,F⟩:=h1;obtain⟨a',o',P,n',e,D,f2,E,M⟩:=h2;cases e;rw[g]at D;cases D;rw[j]at E;cases E;exact⟨_,F,M⟩
 have ex:∃rk:f_->Int,∀x∈ps,∀v,d0 x.2 v->rk v=R x.1:=by
  refine⟨λv=>open Classical in if h:∃x∈ps,d0 x.2 v then R (Classical.choose h).1 else 0,λx f v d=>?_⟩;have h:∃x∈ps,d0 _ v:=⟨x,f,d⟩;obtain⟨g1,g2⟩:=Classical.choose_spec h;obtain⟨us,u1,u2⟩:=tu (J _ g1 v g2)<|J x f v d;simp only[dif_pos h];exact f0 R<|same _ _ _ u1 u2
 obtain⟨rk,G⟩:=ex;refine adu (O:=True) (κ:=tuples' c_) I hl (by rw[aG];exact hz) λS N=>⟨λ_=>by rw[Gq N G];exact nd,λA B h2 kk=>?_,λl zs out hn U d Y=>?_⟩
 .have at':∀v∈S,∃x∈ps,d0 x.2 v/\Eb B.heap (W x.1) v:=λv d=>by
   obtain⟨u,hu,Z⟩:=V6 N v d;obtain⟨x,f,rfl⟩:=dy.mp hu;obtain⟨a,o,ws,n,e,g,k⟩:=J x f v Z;exact⟨x,f,Z,a,o,ws,n,e,kk _ _ g,k⟩
  refine⟨λQ' hQ=>?_,λx y C f hy c=>?_⟩
  .obtain⟨fs,h1,h4,h3⟩:=Z3 (h:=B.heap) (l:=S) λv d=>by
    obtain⟨x,f,_,a,o,ws,n,e,g,k,j,F⟩:=at' v d;exact⟨a,o,ws,n,e,g,k,j,h0 _ _ F⟩
   refine kat_kind (T:=.type "int") h4 li (λv d=>?_) qc<|(show (qh "int" != qh "tuple")=c_ by decide)▸hQ;obtain⟨i,t,e⟩:=h3 v d;rw[e];exact ado _ _ _ _
  obtain⟨x',mI,rx,a,o,ws,n,ea,g,k,j,F⟩:=at' x f;obtain⟨y',An,ry,b,o',P,n',eb,D,f2,E,M⟩:=at' y hy;have r1:=G _ mI x rx;have r2:=G _ An y ry;have c':=c _ λ_=>rfl;rw[r1,r2]at c'
  have eq:R x'.1=R y'.1->ws.toList=P.toList:=λz=>by
   have:=Yx ((Gq N G)▸nd) f hy (by rw[r1,r2,z]);rw[ea,eb]at this;cases this;rw[g]at D;cases D;rw[j]at E;cases E;rfl
  subst ea eb;refine kat_lt g j D E ?_;rw[<-fQ,<-fQ];exact lex x' mI y' An _ _ A B C F M eq c'
 have self:∀ps:List (m×V),aA (λv(x:m×V)=>v=x.2) (ps.map (·.2)) ps:=λps=>by
  induction ps with
  | nil=>exact .nil
  | cons x ps ih=>exact .cons xz ih
 obtain⟨qs,h1,h2⟩:=ZY U<|self ps
 have ez:zs=qs.map (·.2):=by
  clear U d Y h1
  induction h2 with
  | nil=>rfl
  | cons h _ ih=>rw[eu,<-h,ih]
 subst ez;refine q l _ hn h1 ?_;have u:=AO.mpr<|Y trivial;rw[Gq d λx f=>G x<|h1.mem_iff.mp f]at u;exact AO.mp ((u.and<|(h1.map _).nodup_iff.mpr nd).imp λh=>by have:=h.1;have:=h.2;lia)
def ai8(K:u_):List V->Hp->VK->Prop:=λxs H Q=>∃(p:e_)(ps:List (Int×V)),xs=[.ref p]/\ao K H p (ps.map (·.2))/\ps.length<64/\(∀q∈ps,∃a ys,q.2=.ref a/\aF K H a (.int q.1::ys))/\(ps.map (·.1)).Nodup/\
 ∀l qs,H l=b_->eW qs ps->Q (.ref l) (cB H l<|.lst<|qs.map (·.2))
def acX:kP X (.builtin "sorted") (ai8 X.K):=by
 intro p_ s σ H xs us Q I r h;obtain⟨p,ps,rfl,f,B,g,nd,q⟩:=h;obtain⟨u,rfl,j⟩:=vals1 r;cases j;refine Wl (R:=λi=>i) I f (by rw[eA];lia) (λx d=>?_) (λa us h=>⟨a,h⟩) (λa b us h1 h2=>?_) nd (λx d y D us vs A E C h1 h2 k c=>?_) λl qs hn m _=>q l _ hn m
 .obtain⟨a,ys,n,o⟩:=g x d;refine⟨a,_,n,o,λus v=>?_⟩;cases v with
  | cons ra rr=>exact oE ra λt e=>⟨t,_,by rw[e]⟩
 .obtain⟨t,r,rfl⟩:=h1;obtain⟨t',w,e⟩:=h2;injection e with e _
  injection e
 by_cases z:x.1=y.1
 .have e:=k z;subst e;rw[z,eF<|Int.lt_irrefl _]at c;rw[eF<|jR _];exact WD c _ 0
 obtain⟨t,r,rfl⟩:=h1;obtain⟨t',w,rfl⟩:=h2;refine GU<|K2 ?_;rw[eX.mpr z];exact kat_no<|oneLt_int c
abbrev T3:=Int×Int×bx
def Yp(K:u_):List V->Hp->VK->Prop:=λxs H Q=>∃(p:e_)(ps:List (T3×V)),xs=[.ref p]/\ao K H p (ps.map (·.2))/\ps.length<bp/\(∀q∈ps,∃a,q.2=.ref a/\aF K H a [.int q.1.1,.int q.1.2.1,.str q.1.2.2])/\(ps.map (·.1)).Nodup/\
 ∀l qs,H l=b_->eW qs ps->qs.Pairwise (λa b=>jh a.1 b.1=c_)->Q (.ref l) (cB H l<|.lst<|qs.map (·.2))
def acZ:kP X (.builtin "sorted") (Yp X.K):=by
 intro p_ s σ H xs us Q I r h;obtain⟨p,ps,rfl,n,o,w,nd,q⟩:=h;obtain⟨u,rfl,z⟩:=vals1 r;cases z;have mem:∀x∈ps,x.1∈ps.map (·.1):=λx d=>Tt d;refine Wl (W:=λx us=>∃t u y,us=[gq x.1 t,gq x.2.1 u,q9 x.2.2 y]) (R:=t7<|ps.map (·.1)) I n o (λx d=>?_) (λa us h=>?_) (λa b us h1 h2=>?_) ?_ (λx d y f us vs A L C h1 h2 _ c=>?_) λl qs hn i B=>q l _ hn i (B.imp_of_mem λd f h=>?_)
 .obtain⟨a,D,E⟩:=w x d;refine⟨a,_,D,E,λus v=>?_⟩;cases v with
  | cons ra g=>
   cases g with
   | cons rb g=>
    cases g with
    | cons rc g=>
     cases g;obtain⟨j,rfl⟩:=ra;obtain⟨k,rfl⟩:=rb;obtain⟨m,rfl⟩:=rc;exact⟨j,k,m,xz⟩
 .obtain⟨t,u,y,rfl⟩:=h;exact⟨_,_,_,xz⟩
 .obtain⟨j,k,m,rfl⟩:=h1;obtain⟨F,G,J,e⟩:=h2;simp only[acx,gq.injEq,q9.injEq]at e;exact rA e.1.1<|rA e.2.1.1 e.2.2.1.1
 .rw[show (λx:T3×V=>t7 (ps.map (·.1)) x.1)=t7 (ps.map (·.1)) ∘ (·.1) from xz,<-vg];exact AO.mpr (nd.imp_of_mem λd f h e=>h<|aeg d f e)
 .obtain⟨j,k,m,rfl⟩:=h1;obtain⟨F,G,J,rfl⟩:=h2;rw[Gv (mem x d)<|mem y f]at c;exact anp c
 rw[<-Gv (mem _<|i.mem_iff.mp d)<|mem _<|i.mem_iff.mp f];exact ee h
end
end L2
namespace TL
open L2 L3
theorem WL{a:Type}{qv:Nat->List a}:∀n:Nat,(∀i,i<n->(qv i).length<=m)->((List.range n).flatMap qv).length<=n*m
 | 0,_=>by simp
 | n+1,h=>by
  rw[kF,wR,ba];have h1:=WL n λi hi=>h i li;have h2:=h n<|CH n;simp only[TJ,acm,gj];rw[CU];lia
theorem F9{a b:Type}{F:a->b->Prop}:∀{l:List a}{r:List b}{i:Nat}{x:a},aA F l r->l[i]?=a_ x->∃y,r[i]?=a_ y/\F x y
 | _,_,_,_,.nil,e=>by simp at e
 | _,_,0,_,.cons h _,e=>by simp at e;subst e;exact⟨_,xz,h⟩
 | _,_,i+1,x,.cons _ t,e=>by
  exact aq (F9 (i:=i) t<|by simpa using e) λy h1 h2=>au y (by simpa using h1) h2
section
variable{P:k_}{w:j_}{K:u_}{mg:bx->Option f_}{fi:i_}
def Wb(C:e_):Sp:=λvs H Q _=>∃a kd tn es q qr,vs=[.ref a]/\dY H a C kd tn es q qr/\es.length<64/\
 ∀H' l us,ak H H'->H l=b_->H' l=a_ (.lst us)->us.length=es.length->Q (.ref l) H'
def L8:bj [Q_,"waiting","queue"] fC (aU MF):=bG
def Zg:(["turn",aq5]:List bx).Nodup:=dk
def adF(F:aW K "listed" "Tray.listed" MF f fd)(B:BT mg)(M:nC K C):aM P w K mg fi aS 1 f fd fC (Wb C):=by
 refine F.ok L8 λaN A _ s H vs Q E hr h=>?_
 refine f9 h λa kd tn es q n=>c7 n λqr n T O k=>?_;subst n
 refine let d:TS:=_;let g:TS:=_;let l:TS:=_;⟨_,ay (bP (i:=1) L8.nd xz (aL xz)<|dP af) (pR l (ay (ik gJ xz (rB<|bT (pv 0) xz) (bC (i:=2) L8.nd xz<|aL xz)<|pR d<|aB<|dC<|je m_ PySem.F.slot_list_extend PySem.F.type_list_extend Gi (pv 1)<|ae (pv 2) af) (pR g (aB (a8 (jc (N:=["turn",aq5]) (idx:=[]) xz (dJ.of<|by kernel_rfl) (yT (aY _)<|aY _) (rB<|bw acX xz B.sorted boot_sorted<|ae (pv 1) af)
   (λ_ _ _ _=>nz xz<|eT (bC (i:=0) Zg xz (aL xz)<|.inr xz)<|eT (bC (i:=1) Zg xz (aL xz)<|.inr xz) ni)
   (λ_ _ _ _=>jD) λ_ _ _ _=>y6 (akZ K) (pv 1) ze<|zd ax)))))),?_⟩
 refine dO (id T.obj) λdx fs ea e1 e2 e3 em el=>?_;have hl:=T.len
 obtain⟨qv,I⟩:∃qv:Nat->List V,∀i(hi:i<qr.length),H qr[i]=a_ (.lst<|qv i)/\aA (mm H) (qv i) (cq es i):=by
  refine⟨λi=>match H (qr.getD i 0)with | some (.lst vs)=>vs | _=>[],λi hi=>aq (T.kT i _<|aQ hi) λvs h1 h2=>?_⟩;have eg:qr.getD i 0=qr[i]:=by simp[hi]
  dsimp only;rw[eg,h1];exact⟨xz,h2⟩
 refine⟨qc,λlw nw=>?_⟩;have s0:ak H (cB H _<|.lst []):=aH (ak.f8 _) nw;have nqw:=a7 T.qs nw;refine au _ xz<|eh a C dx _<|lC _ xz ((ag<|a7 ea nw)▸ea) M.cl M.xA e3 ⟨q,xz,⟨_,ao.of<|by rw[ag nqw];exact T.qs⟩,?_⟩
 let W1:IV:=λi σ H'=>∃D,σ=[a_ (.ref a),a_<|.ref lw,D]/\ak H H'/\H' lw=a_ (.lst<|(List.range i).flatMap qv)
 refine Df (xs:=qr.map V.ref) W1 ⟨b_,xz,s0,by rw[av];rfl⟩ ?_ ?_ ?_
 .rintro i σ H' _ ⟨D,rfl,u,_⟩;exact ao.of<|u _ _ T.qs
 .rintro i x σ H' R ⟨D,rfl,u,hw⟩;rw[cH]at R;refine aq (sU.mp R) λb hb n=>?_;subst n;refine oE (bu.mp hb) λhi eb=>oA (I i hi) λh1 h2=>?_;rw[eb]at h1;have lq:=r_ h2;have lq2:=NA es i
  have fl:=WL (qv:=qv) (m:=64) i λj hj=>by
   have:=r_ (I j li).2;have:=NA es j;lia
  refine vr xz ⟨.inl ⟨xz,_,ao.of hw⟩,⟨_,xz,lw,b,_,_,xz,xz,hw,u _ _ h1,?_,⟨_,xz,λc o e=>?_,?_⟩⟩⟩
  .rw[eA];lia
  .rw[ag<|a7 e nw];exact u _ _ e
  rw[av,kF,wR];simp
 rintro σ H' ⟨D,rfl,u,hw⟩;rw[aG,hl]at hw;have J:=UE _ _ 12 λi hi=>(I i wg).2;have S:=UD T.wf.nm;have ll:=S.length_eq;have U:=r_ J;refine oA (zip_parts J) λz1 z2=>?_;have W:=Dj (λ_ _ y=>y.keep (F:=[]) λb xs e=>u _ _ e) J;refine vr xz<|⟨lw,((((List.range 12).flatMap _).zip<|(List.range 12).flatMap<|cq _).map λz=>(z.2.t,z.1)),xz,(ao.of<|by rw[z1];exact hw),(by rw[aG,yI];omega),(λy L=>aP (LN W y L) λe _ et n=>cZ n λp st ep h1 h2=>fh p _ ep<|aF.of<|by rw[et];exact h1),(z2▸ac9 T.wf S),(λls qs hn X=>?_)⟩
 have lqs:qs.length=es.length:=by rw[X.length_eq,aG,yI];lia
 have s1:ak _ (cB _ _<|.lst<|qs.map (·.2)):=aH (ak.f8 _) hn;generalize AA:cB _ _ _=H1 at s1;have G:H1 ls=a_ (.lst<|qs.map (·.2)):=by rw[<-AA];exact av
 refine c8 _ xz ⟨_,ao.of G⟩<|gC (λi ys v=>ak _ v/\ys.length=i) (by rw[eA];exact w5) ⟨ak.f8 _,xz⟩ ?_ ?_ ?_ ?_ ?_
 .rintro i ys v ⟨_,r2⟩;exact mY r2
 .rintro i ys v hi ⟨s2,_⟩;exact fh _ ((qs.map (·.2))[i]'(by rw[aG];lia)) (ao.of<|s2 _ _ G)<|aQ _
 .rintro ys v ⟨s2,_⟩;exact au _ (ao.of<|s2 _ _ G) (by rw[aG];lia)
 .rintro i ys v hi ⟨s2,r2⟩ y H3 ⟨eH,L⟩;subst eH;have Y:=L _<|ao.of<|s2 _ _ G;rw[cH]at Y;refine aq (sU.mp Y) λz O ez=>aP (LN W z<|X.mem_iff.mp<|bz O) λe _ _ n=>cZ n λp st n h1 h2=>?_;subst ez;rw[n];have g2:=s2 _ _<|s1 _ _ h2;refine⟨p,⟨_,xz,aF.of<|s2 _ _<|s1 _ _ h1,xz,_,_,xz,_,_,xz,xz,?_⟩⟩;dsimp only[pE];rw[dL rfl];exact vr xz<|au 2 xz ⟨st,⟨_,xz,aF.of g2,by show ¬(HT.cC 3 0 _=0/\HT.cC 3 3 _=3);decide,λr eG=>⟨s2.f4<|aH (ak.f8 _) eG,by rw[ba,r2];rfl⟩⟩⟩
 rintro ys v ⟨s2,r2⟩;have Z:=u.f4<|s1.f4 s2;exact⟨by rw[eA];lia,λU nr=>k _ U ys (aH Z nr) (Z.free nr) av r2⟩
end
end TL
namespace L2
section
variable{X:Cx}
def ak5(K:u_):List V->Hp->VK->Prop:=λxs H Q=>∃(p:e_)(ns:List Int),xs=[.ref p]/\ao K H p (ns.map V.int)/\ns≠[]/\∀M,M∈ns->(∀a∈ns,M<=a)->Q (.int M) H
def VV(y:X.calm=c_):kP X (.builtin "min") (ak5 X.K):=by
 refine λp_ s σ H xs us Q I r h=>iG h λp ns e B C q=>?_;subst e;refine aq (vals1 r) λu c D=>?_;subst c;cases D;refine aP (I.list B) λd g pl S=>?_;have k:d.length=ns.length:=by have:=g.length;rw[aG]at this;exact this.f5
 have E:p≠s.heap.objs.size:=by
  exact aq pl.isList λo e _=>dg<|bH e
 have l:0<d.toArray.size:=by
  rw[de,k];exact KR.mpr C
 have m:∀i v,d.toArray[i]?=a_ v->∃t,v=gq (ns.getD i 0) t:=λi v f=>by
  have n:d[i]?=a_ v:=by simpa using f
  have T:=(bu.mp n).1
  obtain⟨u,w,F⟩:=g.get (i:=i) (x:=V.int<|ns.getD i 0) (by
   rw[cH,aQ wf,mU,aQ wf];rfl)
  rw[n]at w;cases w;exact F
 refine call_min_walk<|CD pl.isList<|⟨_,_,_,_,_,_,(⟨_,xz,(LW (show X.A.in1.handled=b_ from I.ok.hd y) _ p E _),⟨⟨_,dU _ xz,xz,xz⟩,pl.isList.push _⟩,?_,l,(CmpOf.ints_lt _ m),(λv h' tk f G=>?_)⟩)⟩
 .refine λb J=>aq pl.isList λo e _=>?_;have L:=bH e;have M:(s.heap.push {cls:=.type "list_iterator",data:=.fields #[.ref p,.int 0 0]}).objs.size=s.heap.objs.size+1:=qb _ _;have N:b=s.heap.objs.size\/b=p:=by simpa using J
  rw[M];obtain e|e:=N
  .rw[e];exact CH _
  rw[e];exact TH L
 refine oE (m _ _ f) λt c=>?_;subst c;refine oA (argBest_lt (λi=>ns.getD i 0)<|d.toArray.size-1) λh1 h2=>?_;rw[de,k]at h1 h2 l ⊢;refine di (.int _) H (I.kept λb o e=>G b o (λz=>?_)<|bh _ e) ⟨t,xz⟩ (q _ ?_ λa ha=>?_)
 .have O:b=s.heap.objs.size:=by simpa using z
  rw[O]at e;exact dV (bH e)<|jR _
 .rw[mU,aQ om];exact FH _
 refine oE (wQ ha) λj c=>oE c λP e=>?_;have:=h2 j om;have R:ns.getD j 0=a:=by rw[mU,aQ P,e];rfl
 rw[R]at this;exact this
end
end L2
namespace L2
open PySem.W
theorem VN{ns:List Int}(nd:ns.Nodup):∀i,i<=ns.length->(firstMet (λi=>ns.getD i 0) i).length=i
 | 0,_=>by rw[firstMet_zero];rfl
 | i+1,h=>by
  rw[firstMet_succ,step_length,firstMet_any,VN nd i li,dt];intro e;obtain⟨x,b,ex⟩:=Lc.mp e;obtain⟨j,a,rfl⟩:=dy.mp b;have a:=iC.mp a;have:=lj.mp nd j i li li a;exact this (by simpa[show j<ns.length by lia,show i<ns.length by lia]using ex)
def Iq(P:k_)(w:j_)(a:e_)(n:Nat):HO:=.ext λh=>∃S,Heap.SetOf (intKind P w) h a S n
section
variable{X:Cx}
def afa(j:X.calm=c_):kP X (.type "set") (λxs H Q=>∃(p:e_)(ns:List Int),xs=[.ref p]/\ao X.K H p (ns.map V.int)/\ns.length<4000/\ns.Nodup/\∀a,H a=b_->Q (.ref a) (cB H a<|Iq X.prog X.w a ns.length)):=by
 intro p_ s σ H xs us Q I r h;obtain⟨p,ns,rfl,l,x,nd,q⟩:=h;obtain⟨u,rfl,m⟩:=vals1 r;cases m;obtain⟨n,c,pl,_⟩:=I.list l;have d:=c.length;rw[aG]at d;refine call_set_list (ns:=ns) (I.ok.hd j) pl.isList (List.toList_toArray▸intsAre_of c) (by rw[de];unfold scanBound;lia) λh' tk S k=>?_;have v:n.toArray.size=ns.length:=by rw[de,d]
 rw[v,VN nd _<|aD _]at S;have hn:=I.aE.fresh<|aD _;have f:=I.gX (aD _) hn;have J:cP X _ _ H {s with heap:=h',toks:=tk}:=I.kept λb o e=>k b o (bH e) e;refine⟨.ref _,_,cP.adopt (o:=Iq _ _ _ _) J hn I.sz f.2.1 f.2.2.2.2.1 f.2.2.2.2.2 ⟨⟨_,S⟩,?_,λh1 h2 g k=>?_⟩,xz,q _ hn⟩
 .obtain⟨o,es,i,t,e,_⟩:=S;exact⟨o,e⟩
 obtain⟨S,o,es,i,t,e,r⟩:=g;exact⟨S,o,es,i,t,k _ e,r⟩
def afc:kP X (.builtin "len") (λxs H Q=>∃a n,xs=[.ref a]/\H a=a_ (Iq X.prog X.w a n)/\n<=4000/\Q (.int (n:Nat)) H):=by
 intro p_ s σ H xs us Q I r h;obtain⟨a,n,rfl,ha,d,q⟩:=h;obtain⟨u,rfl,b⟩:=vals1 r;cases b;obtain⟨_,o,es,e,t,h1,h2,h3,_,_,_,c,rfl⟩:=((I.aE a _ ha).1);exact call_len_set h1 h2 h3 c li ⟨.int _,H,(I.tok _).tok _,⟨s.toks+1,xz⟩,q⟩
end
section
variable{X:Cx}
def ai9(K:u_):List V->Hp->VK->Prop:=λxs H Q=>∃(a:e_)(ns:List Int),xs=[.ref a]/\ao K H a (ns.map V.int)/\ns.length<64/\∀l b,H l=b_->eW b ns->b.Pairwise (·<=·)->Q (.ref l) (cB H l<|.lst<|b.map V.int)
def acY:kP X (.builtin "sorted") (ai9 X.K):=by
 intro p_ s σ H xs us Q I r h;obtain⟨a,ns,rfl,k,w,q⟩:=h;obtain⟨u,rfl,l⟩:=vals1 r;cases l;obtain⟨x,c,pl,y⟩:=I.list k;have n:=c.length;rw[aG]at n;obtain⟨m,d⟩:=I.fr;refine sorted_N d af' pl.isList (intsAre_of c) li λh' p t e i j v po pw=>?_
 have keep:∀b o,b≠X.env.locals->s.heap.get? b=a_ o->h'.get? b=a_ o:=λb o h1 e=>by
  rcases g:X.base.get? b with _|u;exact(j _<|.tail _<|ac' h1 g e).1;have:=I.bk b u g;rw[e]at this;cases this;exact i.keep b _ g
 have hn:=I.aE.fresh<|jT _;have f:=I.gX (jT _) hn;have z:=po.length_eq;exact⟨.ref<|s.heap.objs.size+1,_,cP.adopt (o:=.lst<|t.map _) (cP.regrown (t':=s.toks) (d':=s.drawn) I d.ns i.ns keep) hn (tj I.sz) f.2.1 f.2.2.2.2.1 f.2.2.2.2.2 ⟨by rw[aG,eA];lia,p,e,LY v,(j _<|.head _).1⟩,xz,q _ _ hn po pw⟩
def ahv:List V->Hp->VK->Prop:=λvs H Q=>∃n:Nat,vs=[.int (n:Nat)]/\n<=3000/\∀l,H l=b_->Q (.ref l) (cB H l<|.lst<|(List.range n).map λ(i:Nat)=>V.int (i:Nat))
def adn:∀{n:Nat},vs.length=n->(∀(j:Nat)v,vs[j]?=a_ v->∃t,v=gq (0+(j:Int)*1) t)->d4 ((List.range n).map λ(i:Nat)=>V.int (i:Nat)) vs:=by
 intro n hn h
 have g:∀(l:List f_)(k:Nat),(∀(j:Nat)v,l[j]?=a_ v->∃t,v=gq ((k+j:Nat):Int) t)->d4 ((UM k l.length).map λ(i:Nat)=>V.int (i:Nat)) l:=by
  intro l
  induction l with
  | nil=>exact λk _=>.nil
  | cons v l ih=>
   refine λk a=>.cons ?_ (ih _ λj v e=>?_)
   .obtain⟨t,e⟩:=a 0 v rfl;exact⟨t,e⟩
   obtain⟨t,e⟩:=a (j+1) v (by simpa using e);exact⟨t,by rw[e];congr 1;lia⟩
 rw[List.range_eq_range',<-hn]
 exact g vs 0 λj v e=>by
  obtain⟨t,z⟩:=h j v e;exact⟨t,by rw[z];congr 1;lia⟩
def afM(f:X.calm=c_)(g:Gl X "list")(l:X.mg "list"=b_)(m:Gl X "range")(hm:X.mg "range"=b_)(ha:PA X [a] ta)(r:autoParam (bY [a] X.env=[(d_,eval a X.env)]) a3)
  (d:autoParam (bY [.Call (.Name "range" p2) [a] [] vW] X.env=[(d_,eval (.Call (.Name "range" p2) [a] [] vW) X.env)]) a3):PE X (.Call (.Name "list" p) [.Call (.Name "range" p2) [a] [] vW] [] pos) (Jm ahv ta):=by
 intro p_ s σ H Q I h;refine sX<|qm I g l Bc (wM ?_ d rfl) qc qc;rw[d];refine yE<|sX<|qm I m hm boot_range (wM (zT (ha _ _ s _ H _ I h) λus s1 vs C w x y=>?_) r xz) qc qc;obtain⟨n,rfl,hn,q⟩:=y;obtain⟨u,rfl,z⟩:=vals1 x;obtain⟨t,rfl⟩:=z;refine call_range_1<|CG ?_;have c:cP X _ _ _ {s1 with heap:=s1.heap.push {cls:=.type "range",data:=.fields #[.int 0 s1.toks,.int n t,.int 1<|s1.toks+1]},toks:=s1.toks+1+1}:=w.kept λb o e=>bh _ e;refine call_list_range (n:=n) (c.ok.hd f) (IsRange.new ..) (small_one qc qc li li) (by rw[rangeSize_one];split <;> lia) li λh' tk A B k e it=>⟨.ref _,_,c.laid k (aD _) (show dj _ _ _ _ _ (.lst<|(List.range n).map λ i=>V.int (i:Nat)) from ⟨by rw[aG,jB,eA];lia,A.toList,B,adn (by rw[fQ];exact it.1) λj v e=>it.2 j v (by rw[<-sW];exact e),by rw[abL];exact e⟩),xz,q _<|c.aE.fresh<|aD _⟩
end
end L2
namespace L5
abbrev at0(row:List Nat)(i:Nat):Nat:=row.getD i 0
end L5
namespace L2
def agx:plainId jZ=true:=dk
def aip:builtinKind jZ=a_ Manifest.AttrKind.slot:=by kernel_rfl
def agw:splitId jZ=a_ ("BaseException","__getattribute__"):=by kernel_rfl
def ais(a b:f_):argsOk jZ {pos:=[a,b]}:=by kernel_rfl
def air(self:f_):bindSpecial (.builtin jZ) self=pure (.builtin jZ,[self]):=by kernel_rfl
def agy:entryFor table jZ=a_ Builtin.«object.__getattribute__»:=by kernel_rfl
end L2
namespace L2
open L3
section
variable{prog:k_}{w:j_}{A:h_}{E:f_->g_->Prop}{s:g_}{K:u_}{x C:e_}{ox:bE}{od:Option bE}{name:bx}{tk:Tok}
def aio{b a:Bool}(X:K.In s.heap)(I:D_ s.heap x ox C od)(d:w_ K (.ref C) (iD "__getattribute__")=a_ (a_<|.builtin jZ))(f:w_ K (.ref C) (iD "__getattr__")=a_ b_)(g:A_ K C (.type "BaseException")=a_ c_)(h:am (ap prog w) A.in1 (Builtin.«object.__getattribute__» {pos:=[.ref x,.str name tk]}) (λfin c=>∃v,fin=Dh (Flow.ret v)/\am (ap prog w) A (handedOut v) Q E c) (λ_ _=>False) s):am (ap prog w) A (getAttrBy (.ref x) (.str name tk) b a) Q E s:=by
 have i:=W.InstAt.type (M:=ap prog w) I;have j:=W.looks_findIn (M:=ap prog w) X d;have L2:=W.looks_findIn (M:=ap prog w) X f;refine kG<|ah<|i.here<|ah<|j.here ?_;show am (ap prog w) A (if (onTheHeap (.ref C)&&(yN jZ==yN "object.__getattribute__"))=c_ then _ else getAttrByItsOwn (.ref x) (.str name tk) (.ref C) (.builtin jZ) b a) Q E s
 have k:(onTheHeap (.ref C)&&(yN jZ==yN "object.__getattribute__"))=false:=by
  show (c_&&(yN _==yN _))=d_;decide +kernel
 rw[k,dt dW];refine ah<|L2.here<|ah<|AV<|kG ?_
 have l:callGetattribute (.ref x) (.str name tk) (.builtin jZ) a=boundAndCalled (.builtin jZ) (.ref x) (.str name tk):=by
  unfold callGetattribute;rw[dt (by cases a <;> decide)]
 rw[l];unfold boundAndCalled;rw[air];refine ah<|aI ?_;have sub:s_ (ap prog w) _ (Gd _<|.type _) true:=W.Looks.andThen (W.InstAt.type I)<|W.looks_mroIn X g;refine A8<|Tp agx agy (gn (@W.check_slot _ _ _ s _ _ "__getattribute__" (.ref x) [.str _ _] [] (λ_ m=>m=s) aip agw sub (ais (.ref x)<|.str name tk) xz) (λ_ s1 e=>?_) λ_ _ z=>i9 z);subst e;refine gn h (λfin c z=>?_) λ_ _ z=>i9 z;obtain⟨v,e,z⟩:=z;subst e;exact z
def aiq{Q:f_->g_->Prop}{r:Kz}(X:K.In s.heap)(I:D_ s.heap x ox C od)(c:W.findObj K C od name=a_ r)
  (h:am (ap prog w) A (match r with
    | apq v=>ret v
    | apr g a=>aps g a (.ref x)<|.ref C
    | apo=>unsupported "no") (λfin b=>∃v,fin=Dh (Flow.ret v)/\Q v b) (λ_ _=>False) s) (d:r≠.missing) :
  am (ap prog w) A (Builtin.«object.__getattribute__» {pos:=[.ref x,.str name tk]}) (λfin b=>∃v,fin=Dh (Flow.ret v)/\Q v b) (λ_ _=>False) s:=by
 have e:=W.looks_find (M:=ap prog w) X I c;refine ah<|aI<|ah<|aI<|ah<|(W.InstAt.type (M:=ap prog w) I).here<|ah<|e.here ?_;rcases r with v|⟨g,a⟩|_;exact h;exact h;exact dV xz d
end
def ajd:classOwn (qh "ValueError") (iD "__setattr__")=pure none:=by kernel_rfl
def ak8:classOwn (qh "Exception") (iD "__setattr__")=pure none:=by kernel_rfl
def aje:classOwn (qh "BaseException") (iD "__setattr__")=pure none:=by kernel_rfl
theorem Uu:∀{l:List f_},vo l=c_->∃as:List e_,l=as.map bV++BJ
 | [],h=>by cases h
 | v::r,h=>by
  cases v with
  | ref a=>
   exact oE (Uu (l:=r) h) λas e=>⟨a::as,by rw[e];rfl⟩
  | type a=>
   have h':(a=="ValueError"&&(r==[.type "Exception",.type "BaseException",.type "object"]))=true:=h;rw[kE]at h';refine⟨[],?_⟩;rw[iE h'.1,iE h'.2];rfl
  | _=>cases h
theorem UU(self:f_):∀as:List e_,LU self (iD "__setattr__") (as.map bV++BJ)=pure ()
 | []=>by
  have e:=W.refuse_only self (l:=[.type "object"]) rfl;unfold LU at e ⊢;exact e
 | a::as=>by
  have e:=UU self as;rw[eu,TX];unfold LU at e ⊢;rw[AS];exact e
section
variable{prog:k_}{w:j_}{A:h_}{K:u_}{C x:e_}{s:g_}{ox:bE}{od:Option bE}{name:bx}{tk:Tok}{v:f_}
def aen(X:K.In s.heap)(I:D_ s.heap x ox C od)(d:W.clsIn K C=a_ cd)(g:vo cd.mro=c_)(ha:w_ K (.ref C) name=a_ b_)
  (h:am (ap prog w) A.in1 (apn (.ref x) (.ref C) (.str name tk) name v d_) (λfin a=>match fin with | Dh f=>R (V3 f) a | Fin.again c'=>c'.quiet=c_/\codeAny (ap prog w) A c' R a) (λe a=>R (LH e) a) s) :
  codeAny (ap prog w) A (Code.call (.builtin "object.__setattr__") {pos:=[.ref x,.str name tk,v]}) R s:=by
 have b:=F.store_object;refine oE (Uu g) λas c=>?_;have ne:cd.mro.isEmpty=false:=by rw[c];cases as <;> rfl
 have i:cd.mro.contains (.type "object")=true:=by rw[c,List.contains_eq_mem];exact ee<|f6 _ (by simp)
 have sub:s_ (ap prog w) s.heap (Gd (.ref x)<|.type "object") true:=W.Looks.andThen (W.InstAt.type I) (W.looks_mroIn X (by
  unfold A_;rw[d,Option.bind_some,dt (by rw[ne];exact dW),i]))
 have hm:s_ (ap prog w) s.heap (mroOf<|.ref C) cd.mro:=W.Looks.andThen (W.looks_clsIn X d) W.Looks.now;have h2:=b.entry;have h3:=b.kind;have h4:=b.split;have h5:=b.args (.ref x) (.str name tk) v
 have j:am (ap prog w) A.in1 (Builtin.«object.__setattr__» {pos:=[bV x,q9 name tk,v]})
   (λfin a=>match fin with | Dh f=>R (V3 f) a | Fin.again c'=>c'.quiet=c_/\codeAny (ap prog w) A c' R a) (λe a=>R (LH e) a) s:=by
  rw[W.osa_eq,refuse_eq];refine ah<|ah<|W.Looks.here (W.InstAt.type I)<|ah<|W.Looks.here hm ?_;rw[c,UU];exact aI<|ah<|W.Looks.here (W.InstAt.type I)<|ah<|W.Looks.here (W.looks_findIn X ha)<|ah<|aI h
 refine Tp b.slot.plain h2 ?_;exact @W.check_slot (ap prog w) A.in1 (λe a=>R (LH e) a) s "object.__setattr__" "object" "__setattr__" (.ref x) [.str name tk,v] [] (λ_ k=>am (ap prog w) A.in1 (Builtin.«object.__setattr__» {pos:=[bV x,q9 name tk,v]}) (λfin a=>match fin with | Dh f=>R (V3 f) a | Fin.again c'=>c'.quiet=c_/\codeAny (ap prog w) A c' R a) (λe a=>R (LH e) a) k) h3 h4 sub h5 j
def afr{sl:Array (Option f_)}(X:K.In s.heap)(c:s.heap.get? x=a_ ⟨.ref C,b_,.fields vs,sl⟩)(l:w_ K (.ref C) "__setattr__"=a_ (a_<|.builtin "object.__setattr__"))(f:W.clsIn K C=a_ cd)(m:vo cd.mro=c_)(hd:cd.hasDict=c_)(ha:w_ K (.ref C) name=a_ b_)(h:∀h',h'.get? x=a_ ⟨.ref C,a_ s.zS,.fields vs,sl⟩->h'.Ns1 s.zS (λy=>if y=name then a_ v else b_)->(∀b o,b≠x->s.heap.get? b=a_ o->h'.get? b=a_ o)->Q () {s with heap:=h',toks:=s.toks+2}):am (ap prog w) A (setAttr (.ref x) name v) Q E s:=by
 have J:D_ s.heap x ⟨.ref C,b_,.fields vs,sl⟩ C none:=⟨c,xz,xz,lZ⟩;have nx:x≠s.zS:=dg<|bH c;refine W.set_plain X J l<|aen (s:={s with toks:=s.toks+1}) X J f m ha<|ah<|aI<|ah<|ah<|wpAny_loadPart c<|ah<|W.Looks.here (s:={s with toks:=s.toks+1}) (W.looks_clsIn X f) ?_;rw[hd];refine ah<|wpAny_alloc<|ah ?_;have i:(s.heap.push {cls:=.type "dict",data:=.dict #[]}).get? x=a_ ⟨.ref C,b_,.fields vs,sl⟩:=bh _ c;refine wpAny_update i<|aI (a:=a_ s.zS)<|ah<|aI<|ah ?_;have d1:(s.heap.push {cls:=.type "dict",data:=.dict #[]}).get? s.zS=a_ {cls:=.type "dict",data:=.dict #[]}:=dU _ rfl;generalize d:(s.heap.push {cls:=.type "dict",data:=.dict #[]}).update x (λo=>{cls:=o.cls,dict:=a_ s.zS,data:=o.data,slots:=o.slots})=h1;have n:h1.get? x=a_ ⟨.ref C,a_ s.zS,.fields vs,sl⟩:=by rw[<-d];exact Cv _ i xz
 have p:h1.get? s.zS=a_ {cls:=.type "dict",data:=.dict #[]}:=by rw[<-d,yA _ _ nx];exact d1
 have q:h1.Ns1 s.zS (λ_=>b_):=⟨_,_,_,p,xz,λe r=>dV r (by simp),KZ,λ_=>rfl⟩;refine wpAny_nsSet1 (s:={s with heap:=h1,toks:=s.toks+1}) q λh' j k=>?_;have wi:PySem.Within (λ_:bx=>(b_:Option f_)) []:=λg t=>dV xz t;refine fE (j.count<|PySem.Within.cons name v wi) λF G H u z B=>ah<|wpAny_lookBehind u (by rw[z];exact pastItsLine_dict<|cF B<|by show 1<=bp+1;decide)<|aI (h _ ((k.2 _ nx).f4 n) j λb o D e=>?_);have nd:b≠s.zS:=dg<|bH e;rw[k.2 _ nd];rw[<-d,yA _ _<|b8 D];exact bh _ e
def ain{sl:Array (Option f_)}(X:K.In s.heap)(a:s.heap.get? x=a_ ⟨.ref C,a_ dx,.fields vs,sl⟩)(hn:s.heap.Ns1 dx mA)(b:w_ K (.ref C) (iD "__getattribute__")=a_ (a_<|.builtin jZ))(c:w_ K (.ref C) (iD "__getattr__")=a_ b_)(d:A_ K C (.type "BaseException")=a_ c_)(e:F_ K C=c_)(ha:w_ K (.ref C) name=a_ b_)(f:mA name=a_ v)(g:W.handedIn v=c_)(h:Q v {s with toks:=s.toks+1}):am (ap prog w) A (getAttr (.ref x) name expr) Q E s:=by
 refine aq (VE hn) λod i j=>?_;have J:D_ s.heap x ⟨.ref C,a_ dx,.fields vs,sl⟩ C (a_ od):=⟨a,xz,xz,i⟩;have k:=W.findObj_own e ha xz (show W.lookIn name od=a_ (a_ v) by rw[j,f]);refine ah<|wpAny_mkText<|aio (s:={s with toks:=s.toks+1}) X J b c d<|aiq (s:={s with toks:=s.toks+1}) (r:=.value v) X J k (aI ⟨v,xz,W.handed_on g h⟩) (by intro z;cases z)
end
def Ii(K:u_)(C:e_):Prop:=OK K C BJ "ValueError.__new__"=c_
def Ii.at{K:u_}(x:Ii K C)(X:K.In h):∃f,Jv h C f:=by
 unfold Ii OK at x
 split at x
 .rename_i dd cd sl g
  split at x
  .rename_i u i k0 b c d n e hm j
   simp only[kE,eY,Bool.not_eq_true']at x;refine oA x λa aE=>oA a λa k=>oA a λa m=>oA a λo p=>?_;subst o p;obtain⟨nm,bs,mro,ns,q,hd,sn,sub,r,s,del⟩:=cd;subst hm m
   have t:sl=#[k0,b,c,d,a_<|.builtin "ValueError.__new__",e]:=by
    obtain⟨l⟩:=sl;exact f0 Nd j
   subst t;exact⟨_,⟨nm,q,ns,bs,i,hd,sn,sub,r,s,dd,k0,b,c,d,e,_,X _ _ g,.of_isNs<|W.isNs_of_in X aE,xz,W.tail_of_in X k⟩⟩
  cases x
 cases x
section
variable{prog:k_}{w:j_}{A:h_}{E:f_->g_->Prop}{h:i_}{g:Array GenState}{d:Drawn}{t:Nat}{os:bt}{C f:e_}
def ae0(x:Jv h C oi)(l:us.length<=bp)(m:∀h',(∀b o,h.get? b=a_ o->h'.get? b=a_ o)->s_ (ap prog w) h' (yV (.ref C) "__init__") (a_<|.ref f))(n:∀h' self,(∀b o,h.get? b=a_ o->h'.get? b=a_ o)->s_ (ap prog w) h' (bindSpecial (.ref f) self) (.ref f,[self]))(p:am (ap prog w) A (call (.ref f) (.ref (h.zH+1)::us)) (λv k=>v=.none/\Q (.done<|.ret<|.ref<|h.zH+1) k) E ⟨(h.push<|Ea us).push<|newX C h.zH,g,d,t,os⟩):am (ap prog w) A (Builtin.«type.__call__» ⟨.ref C::us,[]⟩) Q E ⟨h,g,d,t,os⟩:=by
 refine wX x λnm q N bs r B sn sub D G i=>f9 i λdd k0 H I J i=>iG i λK L a M hi T=>?_;have c:=PySem.F.excBase_ValueError
 repeat (first | (with_reducible refine CF a ?_) | (with_reducible refine wpAny_madeBy_exc a ?_) | wp_step)
 refine codeAny_call_builtin_code (abX _ c.quiet)<|wpAny_check_new_subU c xz T a<|codeAny_exc_new_subU c xz c T a ?_ l;have j:∀b o,h.get? b=a_ o->((h.push {cls:=.type "tuple",data:=.seq us.toArray}).push {cls:=.ref C,data:=.fields #[.ref h.zH,.none,.none,.none,.bool d_,.none]}).get? b=a_ o:=λb o z=>bh _<|bh _ z;have s:((h.push {cls:=.type "tuple",data:=.seq us.toArray}).push {cls:=.ref C,data:=.fields #[.ref h.zH,.none,.none,.none,.bool d_,.none]}).get? (h.zH+1)=a_ {cls:=.ref C,data:=.fields #[.ref h.zH,.none,.none,.none,.bool d_,.none]}:=by heap_get
 have u:(bV C::r).contains (.ref C)=true:=by simp
 unfold Gd
 repeat (first | (with_reducible refine CF s ?_) | (with_reducible refine wpAny_isSubtype_exc (j _ _ a) ?_;rw[u]) | wp_step)
 refine(m _ j).at (kG<|ah<|(n _ _ j).at<|ah<|gn p (λv k z=>?_) λ_ _ y=>y);obtain⟨e,z⟩:=z;subst e;exact aI<|aI z
def ae1(x:Jv h C oi)(e:us.length<=bp)(i:∀h',(∀b o,h.get? b=a_ o->h'.get? b=a_ o)->s_ (ap prog w) h' (yV (.ref C) "__init__") (a_<|.ref f))(j:∀h' self,(∀b o,h.get? b=a_ o->h'.get? b=a_ o)->s_ (ap prog w) h' (bindSpecial (.ref f) self) (.ref f,[self]))(k:am (ap prog w) (A.under<|Code.builtin "type.__call__" ⟨.ref C::us,[]⟩) (call (.ref f) (.ref (h.zH+1)::us)) (λv l=>v=.none/\Q (.ref<|h.zH+1) l) E ⟨(h.push<|Ea us).push<|newX C h.zH,g,d,t,os⟩):am (ap prog w) A (call (.ref C) us) Q E ⟨h,g,d,t,os⟩:=by
 refine wX (id x) λnm q N bs m n sn sub p s a=>f9 a λdd k0 u y z a=>b9 a λB D c r=>?_;have F:=tc_lookup;have G:=tc_bind<|.ref C;have H:(⟨h,g,d,t,os⟩:g_).TypeIs (.ref C) "type":=⟨_,c,xz⟩;refine A8<|codeAny_of_tree ?_;show am _ _ (callAny (.ref C) _) _ _ _
 repeat (any_goals (first | assumption | (with_reducible refine CF c ?_) | wp_step))
 exact⟨xz,codeAny_call_builtin_at (abX _ dk) entry_typeCall<|wpAny_check_type_call_sub c<|ae0 x e i j k⟩
end
def uq(d:e_)(fs:List (bx×V)):HO:=.ext λh=>fs.length<=1000/\∃mA,h.Ns1 d mA/\(∀f,i0 (fs.lookup f)<|mA f)/\PySem.Within mA (fs.map (·.1))
def aiH{P:k_}{w:j_}{fs:List (bx×V)}(l:fs.length<=1000)(n:h.Ns1 d mA)(r:∀f,i0 (fs.lookup f)<|mA f)(wi:PySem.Within mA (fs.map (·.1))):dj P w H h d (uq d fs):=by
 exact eM ⟨l,mA,n,r,wi⟩ (zB n λo _ _ e _=>⟨o,e⟩) λh1 h2⟨l,m,n,r⟩k=>⟨l,m,zB n λo es a e c=>⟨o,es,a,(k _ e),c⟩,r⟩
def pP(ea:e_)(c:f_)(dd:Option e_)(vs:Array f_):HO:=.ext λh=>∃o,h.get? ea=a_ o/\o.cls=c/\o.dict=dd/\o.data=.fields vs
def YN{P:k_}{w:j_}{sl:Array (Option f_)}(e:h.get? ea=a_ ⟨c,dd,.fields vs,sl⟩):dj P w H h ea (pP ea c dd vs):=
 ⟨⟨_,e,xz,xz,xz⟩,⟨_,e⟩,λ_ _⟨o,e,r⟩k=>⟨o,k o e,r⟩⟩
def del(H:Hp)(a:e_):Hp:=λb=>if b=a then b_ else H b
def agM:del H a a=none:=by unfold del;rw[dL rfl]
def zu(h:b≠a):del H a b=H b:=by unfold del;rw[dt h]
def agL(h:del H a b=a_ o):b≠a/\H b=a_ o:=by
 unfold del at h
 split at h
 .cases h
 rename_i n;exact⟨n,h⟩
def GG(h:H b=b_):del H a b=none:=by
 unfold del
 split
 .rfl
 exact h
def cP.del(I:cP X p_ σ H s)(e:H a=a_ (.ext φ)):cP X p_ σ (del H a) s:=by
 refine⟨I.ok,I.os,I.bare,⟨I.base.keep,I.base.slot,λb o q n d=>GG<|I.base.free b o q n d,I.base.there,λb xs q=>?_,λb o u q=>?_,λb ps q=>?_⟩,I.loc,I.cell,GG I.free,λx c q=>GG<|I.jg x c q,λp f=>?_,λb u q=>?_,I.len⟩
 .have z:=I.base.pD b _ q;rw[zu<|gv z e (by intro y;cases y)];exact z
 .have z:=I.base.oC b o u q;rw[zu<|gv z e (by intro y;cases y)];exact z
 .exact oE (I.base.oq b _ q) λm z=>⟨m,by rw[zu<|gv z e (by intro y;cases y)];exact z⟩
 .exact du (I.pin p f) λg h i=>eM g (GG h) i
 .refine oA (agL q) λj q=>(I.aE b u q).ou (λ_ _ _ z=>z) (λc z=>?_) λc xs z=>?_
  .rw[zu<|gv z e (by intro y;cases y)];exact z
  .rw[zu<|gv z e (by intro y;cases y)];exact z
structure XF(K:u_)(C:e_):Prop where
 sa:w_ K (.ref C) "__setattr__"=a_ (a_<|.builtin "object.__setattr__")
 cd:∃cd,W.clsIn K C=a_ cd/\vo cd.mro=c_/\cd.hasDict=c_
 ga:w_ K (.ref C) (iD "__getattribute__")=a_ (a_<|.builtin jZ)
 gt:w_ K (.ref C) (iD "__getattr__")=a_ b_
 be:A_ K C (.type "BaseException")=a_ c_
def XF.hd{K:u_}(x:XF K C):F_ K C=true:=by
 refine aP x.cd λcd h1 _ h2=>?_;unfold F_;rw[h1];exact h2
section
variable{X:Cx}{p_:List (e_×bE)}{σ:St}{H:Hp}{s:g_}{a C d:e_}{fs:List (bx×V)}{f:bx}{v:V}{A:h_}{E:f_->g_->Prop}
def YO{P:k_}{w:j_}(ok:dR P w H h)(e:H a=a_ (pP a c dd vs)):∃sl,h.get? a=a_ ⟨c,dd,.fields vs,sl⟩:=by
 refine oA (ok a _ e) λb _=>c7 b λo q g hd i=>?_;obtain⟨j,d',k,sl⟩:=o;subst g hd i;exact⟨sl,q⟩
def aj1{P:k_}{w:j_}(ok:dR P w H h)(e:H a=a_ (uw a c dd)):∃vs sl,h.get? a=a_ ⟨c,dd,.fields vs,sl⟩:=by
 refine oA (ok a _ e) λb _=>iG b λo vs q g hd i=>?_;obtain⟨j,d',k,sl⟩:=o;subst g hd i;exact nN _ _ q
def aiI{P:k_}{w:j_}(ok:dR P w H h)(e:H d=a_ (uq d fs)):fs.length<=1000/\∃mA,h.Ns1 d mA/\(∀f,i0 (fs.lookup f)<|mA f)/\PySem.Within mA (fs.map (·.1)):=(ok d _ e).1
def aim(I:cP X p_ σ H s)(e:H a=a_ (uw a (.ref C)<|a_ d))(j:H d=a_ (uq d fs))(c:XF X.K C)(n:bU X.K C f)(l:fs.lookup f=a_ v)(h:∀u g,cP X p_ σ H g->d0 v u->Q u g):am (ap X.prog X.w) A (getAttr (.ref a) f b) Q E s:=by
 refine Eo (aj1 I.aE e) λvs sl k=>oA (aiI I.aE j) λ_ m=>aP m λmA hn r _=>?_;obtain⟨u,p,i⟩:=i0.some_of (v:=v) (o:=mA f) (by rw[<-l];exact r f);exact ain I.dI k hn c.ga c.gt c.be c.hd n p (VI i)<|h u _ (I.tok _) i
def afq(I:cP X p_ σ H s)(e:H a=a_ (pP a (.ref C) b_ vs))(c:XF X.K C)(n:bU X.K C f)(m:d0 y u)(h:∀d i,H d=b_->cP X p_ σ (cB (cB H a<|pP a (.ref C) (a_ d) vs) d<|uq d [(f,y)]) i->Q () i):am (ap X.prog X.w) A (setAttr (.ref a) f u) Q E s:=by
 refine oE (YO I.aE e) λsl j=>aP c.cd λcd h1 h2 h3=>afr I.dI j c.sa h1 h2 h3 n λh' l o k=>h _ _ (I.aE.fresh<|aD _) ?_
 have p:cP X p_ σ (cB H a<|pP a (.ref C) (a_ s.zS) vs) {s with heap:=h',toks:=s.toks+2}:=
  I.write (x:=a) (e:=a) (by rw[e];exact lZ) (.inl xz) (λb q r z=>k b q r z) ⟨_,l⟩ (YN l)
 have hn:cB H a (pP a (.ref C) (a_ s.zS) vs) s.zS=none:=by
  rw[ag<|tJ<|bH j];exact I.aE.fresh<|aD _
 have fp:=I.gX (aD _) hn;refine p.adopt hn I.sz fp.2.1 fp.2.2.2.2.1 fp.2.2.2.2.2 (aiH (by show 1<=1000;decide) o (λg=>?_) λg t=>?_)
 .show i0 _ _
  by_cases q:g=f
  .rw[dL q,q,AL];exact m
  rw[dt q,mV,eX.mpr q];exact lZ
 by_cases q:g=f
 .rw[q];exact cR.mpr xz
 exact dV (dt q) t
end
def Y3(K:u_)(c:TE)(f:bx):TE:=λσ H Q=>c σ H λx b=>∃a C d fs v,x=.ref a/\b a=a_ (uw a (.ref C)<|a_ d)/\b d=a_ (uq d fs)/\XF K C/\bU K C f/\fs.lookup f=a_ v/\Q v b
def ai5(K:u_)(c tv:TE)(f:bx):TS:=λD σ H=>tv σ H λy e=>c σ e λx b=>∃a C vs,x=.ref a/\b a=a_ (pP a (.ref C) b_ vs)/\XF K C/\bU K C f/\
 ∀d,b d=b_->D.nx σ (cB (cB b a<|pP a (.ref C) (a_ d) vs) d<|uq d [(f,y)])
section
variable{X:Cx}{o e value:b4}{f:bx}{pos pos':Pos}{ta tv:TE}
def ahB(ha:PE X e ta)(g:yM e f X.env (eval e X.env)=eval e X.env):PE X (.Attribute e f pos) (Y3 X.K ta f):=by
 refine λp_ s σ H Q I h=>XU g (aR (ha _ s _ H _ I h) λu s1 b=>cZ b λx r i j b=>f9 b λa C d fs v b=>qk b λex ea k c n b=>oA b λl q=>?_);subst ex;obtain rfl:u=bV a:=j;exact aim i ea k c n l λu s2 m p=>(di v _ m p q)
def afJ(ha:PE X o ta)(g:PE X value tv)(i:Dc value (a_<|.Attribute o f pos') pos.line X.env=pure d_):PS X (.Assign [.Attribute o f pos'] value pos) (ai5 X.K ta tv f):=by
 intro p_ s σ H D I h;refine aaX (QJ (g _ s _ H _ I h) λu s1 y t j k q=>aR (ha _ _ _ _ _ j q) λov s2 b=>cZ b λx v l m b=>P' b λa C vs b=>oj b λex ea c n p=>?_) i;subst ex;obtain rfl:ov=bV a:=m;exact afq l ea c n k λd w hd r=>(fh _ _ r<|p d hd)
end
structure QT(K:u_)(C f:e_):Prop where
 exc:Ii K C
 init:w_ K (.ref C) "__init__"=a_ (a_<|.ref f)
 fn:PySem.W.isFn K (.ref f)=c_
 kp:x_ K (.ref C)=c_
noncomputable abbrev OG(t:e_):Array Value:=#[.ref t,.none,.none,.none,.bool d_,.none]
def ag8(C:e_)(sp:Sp)(W:WX)(t:TA):TS:=λ_ σ H=>t σ H λvs a=>vs.length<=bp/\∀ea b,a ea=b_->sp (.ref ea::vs) (cB a ea<|pP ea (.ref C) b_<|OG b)
 (λr c=>r=.aJ/\∃dd,c ea=a_ (pP ea (.ref C) dd<|OG b)/\W σ (.ref C) dd (del c ea)) (λ_ _ _=>False)
section
variable{X:Cx}{W:WX}{k:Nat}{C f:e_}{fd:lz}{ps:List bx}{sp:Sp}{x:bx}{np gx pos:Pos}{e:b4}{es:List b4}{t:TA}{P:k_}{w:j_}
def aeh(B:X.calm=c_)(E:BC X W)(xc:QT X.K C f)(F:aM P w X.K X.mg X.base aS k f fd ps sp)(G:eE (k+1) X.A)(J:d5 X.K fd ps [])(L:Gl X x)(hm:X.mg x=a_ (.ref C))(ha:PA X (e::es) t)
  (M:autoParam (X.prog=P) a3) (hw:autoParam (X.w=w) a3) (N:autoParam ((x==("__debug__":bx))=false) a4)
  (O:autoParam (bY (e::es) X.env=(d_,eval e X.env)::bY es X.env) a3) (Q:autoParam ((bc gx<|bY es X.env).any (·.1)=false) a3) :
  PS X (.Raise (a_<|.Call (.Name x np) (e::es) [] gx) b_ pos) (ag8 C sp W t):=by
 subst M hw;intro p_ s σ H D I h;rw[arm_exec_Raise];refine ah<|FX<|adA (C:=C) (I.ok.hd B)<|ah (gn (sX<|zh I L hm ?_ N) (λv s3 z=>ah<|FX<|aI z) λ_ _ y=>y);refine G_ I.ok.mod.se xc.kp (zT (ha _ _ s _ H _ I h) λus s1 vs R c r S=>oA S λU q=>⟨c.dI,oE (xc.exc.at c.dI) λoi xa=>?_⟩) O Q;obtain⟨h1,Y,d1,j,Z⟩:=s1;have se:∀h':i_,(∀b o,h1.get? b=a_ o->h'.get? b=a_ o)->X.K.In h':=λh' k a o z=>k a o<|c.dI a o z;refine ae1 xa (by rw[FQ,<-r.length];exact U) (λh' k=>PySem.W.looks_findIn (se _ k) xc.init) (λh' self k=>PySem.W.bind_fn (se _ k) _<|eY.mp xc.fn) ?_;rw[FQ];have l:=q _ h1.zH<|c.aE.fresh<|jT _;have ge:((h1.push<|Ea us).push<|newX C h1.zH).get? (h1.zH+1)=a_ (newX C h1.zH):=by heap_get
 have g:cP X p_ σ (cB R (h1.zH+1)<|pP (h1.zH+1) (.ref C) b_<|OG h1.zH) ⟨(h1.push<|Ea us).push<|newX C h1.zH,Y,d1,j,Z⟩:=
  c.laid (t':=j) (h':=(h1.push<|Ea us).push<|newX C h1.zH) (λb o z=>bh _<|bh _ z) (jT _) (YN ge)
 have r2:d4 (V.ref (h1.zH+1)::vs) _:=.cons xz r
 have hl:(bV (h1.zH+1)::us++[]).length=ps.length:=by
  have e:=r2.length;rw[F.len _ _ _ _ l]at e;rw[gj];exact e.f5
 have m:=J _ _ g.dI hl;rw[gj]at m;refine A8 (AY (F.run _ _ _ _ ⟨bV (h1.zH+1)::us,[]⟩ _ _ _ _ (G.make C _ []) (g.IA.make C _ []) m r2 l) λr s' d=>?_);cases r with
 | error e=>exact d.elim
 | ok fl=>
  rcases fl with _|_|_|u;exact i9 d;exact i9 d;exact i9 d;refine iG (g.after d) λv H' i rv ev aa=>aq aa λdd n q3=>?_;subst ev;refine oE (YO i.aE n) λsl p=>oE (xc.exc.at i.dI) λoi' xa'=>⟨rv,⟨_,_,_,_,⟨_,xz,xa',p,xz,xz,xz,xz,E _ _ _ _ _ _ _ (tb:=b_) ⟨i.del n,⟨⟨_,_,_,p,xz,xz,xz,xz,xz,λ_=>rfl⟩,λT z=>by cases z⟩,c.gX (jT _) agM,λT z=>by cases z⟩ q3⟩⟩⟩
end
end L2
namespace L2
section
variable{κ:Type}[DecidableEq κ]
noncomputable def cx(fv:List (κ×V))(k:κ):Option V:=(fv.find? λkv=>decide<|kv.1=k).map (·.2)
noncomputable def putK(fv:List (κ×V))(k:κ)(v:V):List (κ×V):=
 if (fv.any λkv=>decide<|kv.1=k)=c_ then fv.map (λkv=>if kv.1=k then (kv.1,v) else kv) else fv++[(k,v)]
def afl{k:κ}:cx ([]:List (κ×V)) k=none:=rfl
def rh{k:κ}(e:p.1=k):cx (p::r) k=a_ p.2:=by simp[cx,e]
def rj{k:κ}(e:¬p.1=k):cx (p::r) k=cx r k:=by simp[cx,e]
theorem y0(k:κ):∀fv:List (κ×V),(fv.any λkv=>decide<|kv.1=k)=(cx fv k).isSome
 | []=>rfl
 | p::r=>by
  rw[vf]
  by_cases e:p.1=k
  .simp only[rh e,ee e,Bool.true_or,Option.isSome_some]
  rw[rj e,eF e,Bool.false_or];exact y0 k r
theorem V7(k j:κ)(y:V):∀fv:List (κ×V),cx (fv.map λkv=>if kv.1=k then (kv.1,y) else kv) j=(cx fv j).map λx=>if j=k then y else x
 | []=>rfl
 | p::r=>by
  have ih:=V7 k j y r;rw[eu]
  by_cases h:p.1=k
  .rw[dL h]
   by_cases e:p.1=j
   .rw[rh (p:=(p.1,y)) e,rh e,FP,dL<|e.f5.f4 h]
   rw[rj (p:=(p.1,y)) e,rj e,ih]
  rw[dt h]
  by_cases e:p.1=j
  .rw[rh (p:=p) e,rh e,FP,dt λz=>h<|e.f4 z]
  rw[rj (p:=p) e,rj e,ih]
theorem Vj(k j:κ)(y:V):∀fv:List (κ×V),cx fv k=b_->cx (fv++[(k,y)]) j=if j=k then a_ y else cx fv j
 | [],_=>by
  by_cases e:k=j
  .rw[dL e.f5];exact rh (p:=(k,y)) e
  rw[dt λz=>e z.f5];exact rj (p:=(k,y)) e
 | p::r,hn=>by
  rw[TX];have a:¬p.1=k:=λz=>by rw[rh z]at hn;cases hn
  rw[rj a]at hn;have ih:=Vj k j y r hn
  by_cases e:p.1=j
  .rw[rh e,rh e,dt λz=>a<|e.f4 z]
  rw[rj e,rj e,ih]
def tS(fv:List (κ×V))(k j:κ)(y:V):cx (putK fv k y) j=if j=k then a_ y else cx fv j:=by
 unfold putK
 by_cases a:(fv.any λkv=>decide<|kv.1=k)=c_
 .rw[dL a,V7];rw[y0]at a
  by_cases e:j=k
  .obtain⟨x,b⟩:=Ky.mp a;rw[dL e,e,b,FP,dL rfl]
  rw[dt e];rcases cx fv j with _|x;rfl;rw[FP,dt e]
 rw[dt a];refine Vj k j y _ ?_;rw[y0]at a;rcases q:cx fv k with _|x;rfl;rw[q]at a;exact(a xz).elim
def tL(fv:List (κ×V))(k:κ)(v:V):(putK fv k v).length<=fv.length+1:=by
 unfold putK
 split
 .rw[aG];omega
 rw[ba,gI,List.length_nil];omega
def i0.Md(r:i0 o u):o.isSome=u.isSome:=by
 rcases o with _|_
 ·cases u with
  | none=>rfl
  | some _=>exact r.elim
 cases u with
 | none=>exact r.elim
 | some _=>rfl
def i0.getD(r:i0 o u)(rd:d0 d d'):d0 (o.getD d) (u.getD d'):=by
 rcases o with _|_
 ·cases u with
  | none=>exact rd
  | some _=>exact r.elim
 cases u with
 | none=>exact r.elim
 | some _=>exact r
def KV.val(r:KV fv vs)(k:κ):i0 (cx fv k) (valueAt vs k):=by
 unfold KV at r
 induction r with
 | nil=>exact lZ
 | @cons p q ps qs h t ih=>
  obtain⟨h1,h2⟩:=h
  by_cases e:p.1=k
  .have a:=h1.f5.f4 e;have b:valueAt (q::qs) k=a_ q.2:=by simp[valueAt,a]
   rw[rh e,b];exact h2
  have a:¬q.1=k:=λz=>e<|h1.f4 z;have b:valueAt (q::qs) k=valueAt qs k:=by simp[valueAt,a]
  rw[rj e,b];exact ih
def KV.any(r:KV fv vs)(k:κ):(fv.any λkv=>decide<|kv.1=k)=vs.any λkv=>decide (kv.1=k):=by
 unfold KV at r
 induction r with
 | nil=>rfl
 | cons h t ih=>rw[vf,vf,ih,h.1]
def KV.P8(r:KV fv vs)(k:κ)(a:d0 y u):KV (fv.map λkv=>if kv.1=k then (kv.1,y) else kv) (vs.map λkv=>if kv.1=k then (kv.1,u) else kv):=by
 unfold KV at r ⊢
 induction r with
 | nil=>exact .nil
 | @cons p q ps qs h t ih=>
  rw[eu,eu];refine .cons ?_ ih;obtain⟨h1,h2⟩:=h
  by_cases e:p.1=k
  .rw[dL e,dL<|h1.f5.f4 e];exact⟨h1,a⟩
  rw[dt e,dt λz=>e<|h1.f4 z];exact⟨h1,h2⟩
def KV.put(r:KV fv vs)(k:κ)(a:d0 y u):KV (putK fv k y) (stored vs k u):=by
 unfold putK stored;rw[r.any k]
 by_cases e:(vs.any λkv=>decide<|kv.1=k)=c_
 .rw[dL e,dL e];exact r.P8 k a
 rw[dt e,dt e];exact Paired.snoc r ⟨xz,a⟩
def KV.length(r:KV fv vs):fv.length=vs.length:=r_ r
end
def xH{P:k_}{w:j_}{k:dc}(r:d0 (kV k) u):(jd P w).is k u=true:=by
 obtain (_|i)|x:=k
 .cases r;rfl
 .obtain⟨t,rfl⟩:=r;exact aeP i t
 obtain⟨t,rfl⟩:=r;simp[jd,DX,Value.isStrOf]
theorem VG{P:k_}{w:j_}:∀{a:List dc}{us:List f_},d4 (a.map kV) us->ItemsAre (jd P w) a us
 | [],_,r=>by rw[LG]at r;cases r;exact .nil
 | k::a,_,r=>by
  rw[eu]at r;cases r with
  | cons h t=>exact .cons (xH h)<|VG t
abbrev KT(H:Hp):List (List dc×V)->List (List dc×e_×f_)->Prop:=aA λp q=>p.1=q.1/\H q.2.1=a_ (.tup<|p.1.map kV)/\d0 p.2 q.2.2
def KT.val(r:KT H fv xs)(k:List dc):i0 (cx fv k) ((atKey xs k).map (·.2)):=by
 induction r with
 | nil=>exact lZ
 | @cons p q ps qs h t ih=>
  obtain⟨h1,_,h2⟩:=h
  by_cases e:p.1=k
  .have a:=h1.f5.f4 e;have b:atKey (q::qs) k=a_ q.2:=by simp[atKey,a]
   rw[rh e,b];exact h2
  have a:¬q.1=k:=λz=>e<|h1.f4 z;have b:atKey (q::qs) k=atKey qs k:=by simp[atKey,a]
  rw[rj e,b];exact ih
def KT.P8(r:KT H fv xs)(k:List dc)(a:d0 y u):KT H (fv.map λkv=>if kv.1=k then (kv.1,y) else kv) (xs.map<|putAt k u):=by
 induction r with
 | nil=>exact .nil
 | @cons p q ps qs h t ih=>
  rw[eu,eu];refine .cons ?_ ih;obtain⟨h1,h2,h3⟩:=h;unfold putAt
  by_cases e:p.1=k
  .rw[dL e,dL<|h1.f5.f4 e];exact⟨h1,h2,a⟩
  rw[dt e,dt λz=>e<|h1.f4 z];exact⟨h1,h2,h3⟩
def KT.put(r:KT H fv xs)(k:List dc)(c:H b=a_ (.tup<|k.map kV))(a:d0 y u):KT H (putK fv k y) (storedH xs k b u):=by
 have e:(fv.any λkv=>decide<|kv.1=k)=(atKey xs k).isSome:=by
  rw[y0,(r.val k).Md,ab5]
 unfold putK storedH;rw[e]
 by_cases q:(atKey xs k).isSome=c_
 .rw[dL q,dL q];exact r.P8 k a
 rw[dt q,dt q];exact Paired.snoc r ⟨xz,c,a⟩
def KT.keeps(r:KT H fv xs)(a:∀b ys,H b=a_ (.tup ys)->H' b=a_ (.tup ys)):KT H' fv xs:=
 df r λ_ _ z=>⟨z.1,a _ _ z.2.1,z.2.2⟩
section
variable{P:k_}{w:j_}{H:Hp}{h:i_}{a:e_}
def Zb(ok:dR P w H h)(e:Rd H a u):dj P w H h a u:=e.ok ok
def zF(ok:dR P w H h)(e:Rd H a (.dK fv)):fv.length<=bp/\(a==qg)=d_/\∃vs,KV fv vs/\h.DictOf (jd P w) a vs:=
 show dj P w H h a (.dK fv) from Zb ok e
def Po(ok:dR P w H h)(e:H a=a_ (.dK fv)):fv.length<=bp/\(a==qg)=d_/\∃vs,KV fv vs/\h.DictOf (jd P w) a vs:=zF ok<|.inl e
def Bw(ok:dR P w H h)(e:H a=a_ (.tup<|ks.map kV)):(Bb<|jd P w).is h ks a:=by
 obtain⟨_,b,r,o,h1,h2,n,h3⟩:=(ok a _ e);exact⟨o,b.toArray,n,h1,h2,h3,by simpa using VG r⟩
def zE(ok:dR P w H h)(e:Rd H a (.dT fv)):fv.length<=bp/\(a==qg)=d_/\∃xs,KT H fv xs/\h.DictOfH (Bb<|jd P w) a xs:=by
 obtain⟨z,y,xs,r,o,es,c,h1,h2,h3,h4,h5⟩:=(Zb ok e);refine⟨z,y,xs,r,o,es,c,h1,h2,h3,h4,λx b=>?_,h5⟩
 have all:∀{l:List (List dc×V)}{m:List (List dc×e_×f_)},KT H l m->∀x∈m,(Bb<|jd P w).is h x.1 x.2.1:=by
  intro l m q
  induction q with
  | nil=>exact λx b=>nomatch b
  | @cons p q ps qs hq t ih=>
   intro x b;obtain e|b:=bq.mp b
   .subst e;exact Bw ok (by rw[<-hq.1];exact hq.2.1)
   exact ih x b
 exact all r x b
def alN(ok:dR P w H h)(e:H a=a_ (.dT fv)):fv.length<=bp/\(a==qg)=d_/\∃xs,KT H fv xs/\h.DictOfH (Bb<|jd P w) a xs:=zE ok<|.inl e
end
def i5(H:Hp)(a:e_)(y:V)(r:Option V):Prop:=
 (∃fv k,Rd H a (.dK fv)/\y=kV k/\r=cx fv k)\/∃fv k b,Rd H a (.dT fv)/\y=.ref b/\H b=a_ (.tup<|k.map kV)/\r=cx fv k
def uo(H:Hp)(a:e_)(y v:V)(H':Hp):Prop:=
 (∃fv k,H a=a_ (.dK fv)/\y=kV k/\fv.length<bp/\H'=cB H a (.dK<|putK fv k v))\/
 ∃fv k b,H a=a_ (.dT fv)/\y=.ref b/\H b=a_ (.tup<|k.map kV)/\fv.length<bp/\H'=cB H a (.dT<|putK fv k v)
def i5.k{k:dc}(e:H a=a_ (.dK fv)):i5 H a (kV k) (cx fv k):=.inl ⟨fv,k,.inl e,xz,xz⟩
def i5.t{k:List dc}(e:H a=a_ (.dT fv))(c:H b=a_ (.tup<|k.map kV)):i5 H a (.ref b) (cx fv k):=.inr ⟨fv,k,b,.inl e,xz,c,xz⟩
def uo.k{k:dc}(e:H a=a_ (.dK fv))(b:fv.length<bp):uo H a (kV k) v (cB H a<|.dK<|putK fv k v):=.inl ⟨fv,k,e,xz,b,xz⟩
def uo.t{k:List dc}(e:H a=a_ (.dT fv))(c:H b=a_ (.tup<|k.map kV))(d:fv.length<bp):uo H a (.ref b) v (cB H a<|.dT<|putK fv k v):=.inr ⟨fv,k,b,e,xz,c,d,xz⟩
section
variable{X:Cx}{p_:List (e_×bE)}{σ:St}{H:Hp}{s:g_}{a:e_}{y v:V}{u r:f_}{o:Option V}{A:h_}{E:f_->g_->Prop}
def cP.big(I:cP X p_ σ H s):qg<s.zS:=by
 exact yP qc<|(I.mod.glob.keeps I.bk).lt
def ae9(n:A.units+1<cLine)(I:cP X p_ σ H s)(g:i5 H a y (a_ v))(j:d0 y u)(h:∀c m,cP X p_ σ H m->d0 v c->Q c m):am (ap X.prog X.w) A (getItem (.ref a) u) Q E s:=by
 obtain⟨fv,k,e,d,l⟩|⟨fv,k,b,e,d,q,l⟩:=g
 .subst d;obtain⟨z,hd,vs,f,dd⟩:=zF I.aE e;obtain⟨c,hw,i⟩:=i0.some_of (l▸f.val k);exact wpAny_getItem_of (xH j) dd.mapOf hw<|h _ _ (I.tok _) i
 subst d;cases j;obtain⟨z,hd,xs,f,dd⟩:=zE I.aE e;obtain⟨c,hw,i⟩:=i0.some_of (l▸f.val k);obtain⟨p,t,x⟩:=sU.mp hw;refine wpAny_getItem_heap (FA n) (Bw I.aE q) dd t ?_;rw[x];exact h _ _ (I.tok _) i
def aiz(j:A.units+1<cLine)(I:cP X p_ σ H s)(g:i5 H a y o)(f:d0 y u)(h:∀i,cP X p_ σ H i->Q (.bool<|!o.isSome) i):am (ap X.prog X.w) A (ja .NotIn u<|.ref a) Q E s:=by
 obtain⟨fv,k,e,c,l⟩|⟨fv,k,b,e,c,m,l⟩:=g
 .subst c;obtain⟨z,hd,vs,d,dd⟩:=zF I.aE e;refine wpAny_notIn_of (xH f) hd dd.mapOf ?_;rw[<-(d.val k).Md,<-l];exact h _<|I.tok _
 subst c;cases f;obtain⟨z,hd,xs,d,dd⟩:=zE I.aE e;refine wpAny_notIn_heap (FA j) (Bw I.aE m) hd dd ?_;have q:=(d.val k).Md;rw[ab5]at q;rw[<-q,<-l];exact h _<|I.tok _
def Hq(I:cP X p_ σ H s)(c:Eu (H a))(d:o7 a s.heap h')(f:∃q,h'.get? a=a_ q)(new:dj X.prog X.w (cB H a ob) h' a ob):cP X p_ σ (cB H a ob) {s with heap:=h',toks:=t'}:=
 I.write (x:=a) (e:=a) c (.inl xz) (λb q g z=>(d.2 b g).f4 z) f new
def OL{P:k_}{w:j_}(z:fv.length<=bp)(hd:(a==qg)=d_)(b:KV fv vs)(dd:h'.DictOf (jd P w) a vs):dj P w H' h' a (.dK fv):=⟨z,hd,vs,b,dd⟩
def ae8(F:A.units+1<cLine)(I:cP X p_ σ H s)(g:uo H a y v H')(t:d0 y u)(x:d0 v r)(h:∀B,cP X p_ σ H' B->Q () B):am (ap X.prog X.w) A (setItem (.ref a) u r) Q E s:=by
 obtain⟨fv,k,e,j,l,m⟩|⟨fv,k,b,e,j,C,l,m⟩:=g
 .subst j m;obtain⟨z,hd,vs,d,dd⟩:=Po I.aE e;have G:vs.length<=bp:=by rw[<-d.length];exact z
  have n:(putK fv k v).length<=bp:=by have:=tL fv k v;omega
  refine wpAny_setItem_pairs (xH t) dd λh' f p=>h _ ?_;have J:∃q,h'.get? a=a_ q:=let ⟨q,_,_,i,_⟩:=f;⟨q,i⟩
  exact Hq I (e▸lZ) p J<|OL n hd (d.put k x) f
 subst j m;cases t;obtain⟨z,hd,xs,d,dd⟩:=alN I.aE e;have G:xs.length<=bp:=by rw[<-r_ d];exact z
 have n:(putK fv k v).length<=bp:=by have:=tL fv k v;omega
 refine wpAny_setItem_heap (FA F) (Bw I.aE C) dd λh' f p=>h _ ?_;obtain⟨q,es,K,i,h2,h3,h4,_,h5⟩:=f;refine Hq I (e▸lZ) p ⟨q,i⟩ ⟨n,hd,_,(d.put k C x).keeps λc ys D=>?_,q,es,K,i,h2,h3,h4,h5⟩;rw[ag<|gv D e (λz=>nomatch z)];exact D
end
def m3(i:b4):Prop:=∀ov a,subscripted i d_ ov a=operate [ov,a] (getItem ov a)
def ahb{w:j_}{env:Env}{T id:String}(f:yV (.type T) "__getitem__"=pure (a_<|.builtin id))(g:m3 slice)(h:am (ap prog w) A (eval value env) (λo c=>am (ap prog w) A (eval slice env) (λi a=>a.TypeIs o T/\am (ap prog w) A (getItem o i) Q E a) E c) E s):am (ap prog w) A (eval (.Subscript value slice pos) env) Q E s:=by
 refine Subscript_ (gn h (λo c j=>gn j (λi a b=>?_) λ_ _ x=>x) λ_ _ x=>x);obtain⟨d,b⟩:=b;refine ah ?_;rw[getitemInPython_of_ne d.not_modules];refine ah<|T6 d f ?_
 have fin:am (ap prog w) A (subscripted slice d_ o i) (λr e=>am (ap prog w) A (letTemporaryGo value o r >>= λ_=>pure r) Q E e) E a:=by
  rw[g o i];exact wpAny_operating (gn b (λr e k=>ah<|wpAny_letTemporaryGo<|aI k) λ_ _ x=>x)
 first
  | exact aI (ah fin)
  | exact ah (aI (ah fin))
  | exact ah fin
def ade(I:cP X p_ σ H s)(g:i5 H a y o):s.TypeIs (.ref a) "dict":=by
 obtain⟨fv,k,e,_,_⟩|⟨fv,k,b,e,_,_,_⟩:=g
 .obtain⟨_,_,vs,_,dd⟩:=zF I.aE e;exact dd.typeIs
 obtain⟨_,_,xs,_,dd⟩:=zE I.aE e;exact dd.typeIs
def akW(td ty:TE):TE:=λσ H Q=>td σ H λx c=>ty σ c λy b=>∃a v,x=.ref a/\i5 b a y (a_ v)/\Q v b
def aha(ty td:TE):TE:=λσ H Q=>ty σ H λy c=>td σ c λx b=>∃a o,x=.ref a/\i5 b a y o/\Q (.bl<|!o.isSome) b
def Za(td ty tv:TE):TS:=λD σ H=>tv σ H λv c=>td σ c λx d=>ty σ d λy e=>∃a b,x=.ref a/\uo e a y v b/\D.nx σ b
section
variable{X:Cx}{o i e value:b4}{pos pos' Ee:Pos}{td ty tv:TE}
def NC(c:X.A.units+1<cLine)(d:PE X o td)(hi:PE X i ty)(f:m3 i):PE X (.Subscript o i pos) (akW td ty):=by
 refine λp_ s σ H Q I h=>ahb PySem.F.slot_dict_getitem.lookup f (aR (d _ s _ H _ I h) λu s1⟨x,t,j,k,l⟩=>aR (hi _ _ _ _ _ j l) λw s2⟨y,m,b,n,a,v,ex,g,p⟩=>?_);subst ex;obtain rfl:u=bV a:=k;exact⟨ade b g,ae9 c b g n λz B q r=>⟨v,m,q,r,p⟩⟩
def C7(b:X.A.units+1<cLine)(hi:PE X i ty)(c:PE X o td):PC X .NotIn i o (aha ty td):=by
 refine λp_ s σ H Q I h=>aR (hi _ s _ H _ I h) λq s1⟨y,r,d,f,j⟩=>aR (c _ _ _ _ _ d j) λu s2⟨x,k,l,m,a,ov,ex,g,n⟩=>?_;subst ex;obtain rfl:u=bV a:=m;exact aiz b l g f λt p=>⟨.bl<|!ov.isSome,k,p,xz,n⟩
def xq(b:X.A.units+1<cLine)(c:PE X o td)(hi:PE X i ty)(d:PE X value tv)(f:Dc value (a_<|.Subscript o i pos') pos.line X.env=pure d_):PS X (.Assign [.Subscript o i pos'] value pos) (Za td ty tv):=by
 refine λp_ s σ H D I h=>wpAny_Assign_Subscript (aR (d _ s _ H _ I h) λr s1⟨v,C,j,k,l⟩=>aR (c _ _ _ _ _ j l) λu s2⟨x,E,m,n,p⟩=>aR (hi _ _ _ _ _ m p) λF G⟨y,J,q,t,a,w,ex,g,z⟩=>?_) f;subst ex;obtain rfl:u=bV a:=n;exact ae8 b q g t k λK B=>⟨σ,w,B,z⟩
end
def agK{P:k_}{w:j_}(h:i_)(a:qg<h.zH):dj P w H (h.push {cls:=.type "dict",data:=.dict #[]}) h.zH (.dK []):=
 ⟨aY _,eX.mpr<|b8<|dg a,[],.nil,acz h⟩
def agI{P:k_}{w:j_}(h:i_)(a:qg<h.zH):dj P w H (h.push {cls:=.type "dict",data:=.dict #[]}) h.zH (.dT []):=
 ⟨aY _,eX.mpr<|b8<|dg a,[],.nil,_,#[],0,dU _ xz,⟨xz,xz,xz⟩,xz,xz,CN⟩
def aiR:TE:=λ_ H Q=>∀p,H p=b_->Q (.ref p) (cB H p<|.dK [])
def aiQ:TE:=λ_ H Q=>∀p,H p=b_->Q (.ref p) (cB H p<|.dT [])
section
variable{X:Cx}{pos:Pos}
def Gx:PE X (.Dict [] [] pos) aiR:=λp_ s σ H Q I h=>
 wpAny_Dict_empty ⟨.ref s.zS,_,I.laid (a:=s.zS) (o:=.dK []) (t':=s.toks) (λ_ _ q=>bh _ q) (aD _)<|agK s.heap I.big,xz,h _<|I.aE.fresh<|aD _⟩
def Wt:PE X (.Dict [] [] pos) aiQ:=λp_ s σ H Q I h=>
 wpAny_Dict_empty ⟨.ref s.zS,_,I.laid (a:=s.zS) (o:=.dT []) (t':=s.toks) (λ_ _ q=>bh _ q) (aD _)<|agI s.heap I.big,xz,h _<|I.aE.fresh<|aD _⟩
end
structure M1(X:Cx)(o:b4)(m:bx)(apos:Pos)(e:b4)(gx:Pos):Prop where
 base:yM o m X.env (eval o X.env)=eval o X.env
 kY:((bc gx (bY [e] X.env)).all (λx=>!x.1)&&(xn gx (wY [] X.env)).all (λx=>x.1.isSome)
  && decide (([e]:List b4).length+([]:List Keyword).length+(if ([]:List Keyword).isEmpty then 0 else 1)<30))=c_
 line:(apos.endLine==gx.line)=c_
 trees:bc gx (bY [e] X.env)=[(d_,eval e X.env)]
structure M2(X:Cx)(o:b4)(m:bx)(apos:Pos)(e f:b4)(gx:Pos):Prop where
 base:yM o m X.env (eval o X.env)=eval o X.env
 kY:((bc gx (bY [e,f] X.env)).all (λx=>!x.1)&&(xn gx (wY [] X.env)).all (λx=>x.1.isSome)
  && decide (([e,f]:List b4).length+([]:List Keyword).length+(if ([]:List Keyword).isEmpty then 0 else 1)<30))=c_
 line:(apos.endLine==gx.line)=c_
 trees:bc gx (bY [e,f] X.env)=[(d_,eval e X.env),(d_,eval f X.env)]
def JA(H:Hp)(a:e_):Prop:=(∃fv,Rd H a<|.dK fv)\/∃fv,Rd H a<|.dT fv
def OF(I:cP X p_ σ H s)(d:JA H a):s.TypeIs (.ref a) "dict"/\(∀b,bV a=.ref b->∃c,s.heap.get? b=a_ c/\c.dict=b_)/\(a==qg)=false:=by
 obtain⟨fv,e⟩|⟨fv,e⟩:=d
 .obtain⟨_,hd,vs,_,dd⟩:=zF I.aE e;refine⟨dd.typeIs,λb q=>?_,hd⟩;cases q;obtain⟨c,_,_,h1,h2,_⟩:=dd;exact⟨c,h1,h2.2.1⟩
 obtain⟨_,hd,xs,_,dd⟩:=zE I.aE e;refine⟨dd.typeIs,λb q=>?_,hd⟩;cases q;obtain⟨c,_,_,h1,h2,_⟩:=dd;exact⟨c,h1,h2.2.1⟩
section
variable{X:Cx}{p_:List (e_×bE)}{σ:St}{H:Hp}{s:g_}{a:e_}{y d:V}{u r:f_}{o:Option V}{A:h_}{E:f_->g_->Prop}
def aka(n:A.units+1<cLine)(I:cP X p_ σ H s)(g:i5 H a y o)(i:d0 y u)(h:∀j m,cP X p_ σ H m->d0 (o.getD .aJ) j->Q j m):am (ap X.prog X.w) A (call (.builtin "dict.get") [.ref a,u]) Q E s:=by
 obtain⟨fv,k,e,c,l⟩|⟨fv,k,b,e,c,p,l⟩:=g
 .subst c;obtain⟨z,hd,vs,f,dd⟩:=zF I.aE e;refine F4 PySem.F.slot_dict_get dd.typeIs PySem.F.entry_dict_get (PySem.F.args_dict_get_2 _ _) (meets_dict_get _ a (xH i) hd) ⟨_,dd.mapOf,h _ _ (I.tok _) ?_⟩;rw[l];exact(f.val k).getD xz
 subst c;cases i;obtain⟨z,hd,xs,f,dd⟩:=zE I.aE e;refine F4 PySem.F.slot_dict_get dd.typeIs PySem.F.entry_dict_get (PySem.F.args_dict_get_2 _ _) (meetsH_dict_get _ a b hd) ⟨FA n,k,xs,Bw I.aE p,dd,h _ _ (I.tok _) ?_⟩;rw[l];exact(f.val k).getD xz
def aj'(n:A.units+1<cLine)(I:cP X p_ σ H s)(g:i5 H a y o)(i:d0 y u)(rd:d0 d r)(h:∀j m,cP X p_ σ H m->d0 (o.getD d) j->Q j m):am (ap X.prog X.w) A (call (.builtin "dict.get") [.ref a,u,r]) Q E s:=by
 obtain⟨fv,k,e,c,l⟩|⟨fv,k,b,e,c,p,l⟩:=g
 .subst c;obtain⟨z,hd,vs,f,dd⟩:=zF I.aE e;refine F4 PySem.F.slot_dict_get dd.typeIs PySem.F.entry_dict_get (PySem.F.args_dict_get_3 _ _ _) (meets_dict_get_default _ a (xH i) hd r) ⟨_,dd.mapOf,h _ _ (I.tok _) ?_⟩;rw[l];exact(f.val k).getD rd
 subst c;cases i;obtain⟨z,hd,xs,f,dd⟩:=zE I.aE e;refine F4 PySem.F.slot_dict_get dd.typeIs PySem.F.entry_dict_get (PySem.F.args_dict_get_3 _ _ _) (meetsH_dict_get_default _ a b hd r) ⟨FA n,k,xs,Bw I.aE p,dd,h _ _ (I.tok _) ?_⟩;rw[l];exact(f.val k).getD rd
end
def aiT(td ty:TE):TE:=λσ H Q=>td σ H λx b=>∃a,x=.ref a/\JA b a/\ty σ b λy c=>∃o,i5 c a y o/\Q (o.getD .aJ) c
def aiS(td ty d:TE):TE:=λσ H Q=>td σ H λx b=>∃a,x=.ref a/\JA b a/\ty σ b λy e=>d σ e λz c=>∃o,i5 c a y o/\Q (o.getD z) c
section
variable{X:Cx}{o e f:b4}{apos gx:Pos}{td ty tx:TE}
def afO(c:X.A.units+1<cLine)(i:PE X o td)(j:PE X e ty)(m:M1 X o "get" apos e gx):PE X (.Call (.Attribute o "get" apos) [e] [] gx) (aiT td ty):=by
 refine λp_ s σ H Q I h=>TB m.base m.kY m.line PySem.F.plainAttrs_dict PySem.F.slot_dict_get PySem.F.type_dict_get (aR (i _ s _ H _ I h) λu s1⟨x,B,b,k,a,ex,d,l⟩=>?_);subst ex;obtain rfl:u=bV a:=k;obtain⟨n,p,_⟩:=OF b d;refine⟨n,p,?_⟩;rw[m.trees];exact KD xz<|KO<|yE (aR (j _ _ _ _ _ b l) λC s2⟨y,q,r,t,ov,g,v⟩=>CG<|aka c r g t λD E w z=>⟨_,q,w,z,v⟩)
def afN(c:X.A.units+1<cLine)(i:PE X o td)(j:PE X e ty)(k:PE X f tx)(m:M2 X o "get" apos e f gx):PE X (.Call (.Attribute o "get" apos) [e,f] [] gx) (aiS td ty tx):=by
 refine λp_ s σ H Q I h=>TB m.base m.kY m.line PySem.F.plainAttrs_dict PySem.F.slot_dict_get PySem.F.type_dict_get (aR (i _ s _ H _ I h) λu s1⟨x,l,b,n,a,ex,d,p⟩=>?_);subst ex;obtain rfl:u=bV a:=n;obtain⟨q,r,_⟩:=OF b d;refine⟨q,r,?_⟩;rw[m.trees]
 refine KD xz (KO (yE (aR (j p_ s1 σ l _ b p) λL s2⟨y,t,v,w,B⟩=>
  yE (aR (k p_ s2 σ t _ v B) λM N⟨z,C,D,E,ov,g,G⟩=>CG ?_))))
 exact aj' c D g w E λO P J K=>⟨_,C,J,K,G⟩
end
end L2
namespace PySem
section
variable{prog:k_}{w:j_}{A:h_}{s:g_}{E:f_->g_->Prop}{it d:e_}{i ep:Nat}{od:bE}{es:Array DictEntry}
def aih(a:s.heap.IsKeyIter it d i es.size ep)(b:s.heap.get? d=a_ od)(c:od.data=.dict es ep)(g:es[i]?=a_ e)(h:∀h',h'.IsKeyIter it d (i+1) es.size ep->o7 it s.heap h'->Q (a_ e.key) {s with heap:=h'}):am (ap prog w) A (pyNext<|.ref it) Q E s:=by
 obtain⟨j,rfl⟩:=Kv.mp g;have ⟨o,ho,hc,hd⟩:=a;refine ah<|AV<|yz a.typeIs Fy<|uZ Fy a.typeIs aa3 (ah<|aI<|ah<|ah ?_)<|aaZ _
 first | refine ah (Kt a.typeIs (aI (ah (Lm ho hd ?_)))) | refine ah (wpAny_typeNameOf_keyiter a.typeIs (aI (ah (Lm ho hd ?_))))
 have own:aa5 "dict_keyiterator"=false:=qc;show am _ _ (if (bV d==jt)=c_ then _ else _) _ _ s;rw[dt (show ¬(bV d==jt)=c_ from nofun)];refine ah<|aI<|ah<|Tz b c ?_;rw[dt (by simp)];refine ah<|aI<|ah<|T8 b c ?_;rw[dt (by simp)];refine aI ?_;simp only[show ¬((i:Int)<0) from by omega,if_false,jQ,abi j];refine ah ?_
 first | refine ah (Kt a.typeIs (aI (ah (Th a.typeIs ?_)))) | refine ah (wpAny_typeNameOf_keyiter a.typeIs (aI (ah (Th a.typeIs ?_))))
 show am _ _ (setField (.ref it) 1 (bv<|(i:Int)+1) >>= _) _ _ s;refine ah<|AU ho hd (by simp) ?_;have f:(s.heap.update it<|wU (·.setIfInBounds 1 (bv<|(i:Int)+1))).IsKeyIter it d (i+1) es.size ep:=⟨_,Cv _ ho<|KG<|AN hd _,(TF ..).f4 hc,by rw[AN hd];simp[bv]⟩;refine ah<|kG<|ah<|Th (s:={s with heap:=s.heap.update it (wU (·.setIfInBounds 1 (bv<|(i:Int)+1)))}) f.typeIs ?_;exact aI<|aI ⟨_,xz,aI<|h _ f<|CA ..⟩
def ajK(g:A.handled=b_)(c:s.heap.IsKeyIter it d i es.size ep)(e:s.heap.get? d=a_ od)(f:od.data=.dict es ep)(h:es.size<=i)(j:∀h',Ga it s.heap h'->Q b_ {s with heap:=h'}):am (ap prog w) A (pyNext<|.ref it) Q E s:=by
 have ⟨o,ho,hc,hd⟩:=c;refine ah<|AV<|yz c.typeIs Fy<|uZ Fy c.typeIs aa3 (ah<|aI<|ah<|ah ?_)<|aaZ _
 first | refine ah (Kt c.typeIs (aI (ah (Lm ho hd ?_)))) | refine ah (wpAny_typeNameOf_keyiter c.typeIs (aI (ah (Lm ho hd ?_))))
 have own:aa5 "dict_keyiterator"=false:=qc;show am _ _ (if (bV d==jt)=c_ then _ else _) _ _ s;rw[dt (show ¬(bV d==jt)=c_ from nofun)];refine ah<|aI<|ah<|Tz e f ?_;rw[dt (by simp)];refine ah<|aI<|ah<|T8 e f ?_;rw[dt (by simp)];refine aI ?_;simp only[show ¬((i:Int)<0) from by omega,if_false,jQ,Array.getElem?_eq_none h];refine ah ?_
 first | refine ah (Kt c.typeIs (aI ?_)) | refine ah (wpAny_typeNameOf_keyiter c.typeIs (aI ?_))
 show am _ _ (setField (.ref it) 0 .none >>= _) _ _ s;refine ah<|AU ho hd (by simp) ?_;refine ah ?_;refine ah<|p0 (ah (m:=Ln _ _)<|LL (a:=jt) (by first | rfl | (rfl))<|p0 ?_<|by size_fits) (by size_fits);refine ah<|wpAny_handled ?_;rw[show A.in1.handled=b_ from g];refine ah<|aI<|wpAny_throw ?_;exact ah<|K1 (T:="StopIteration") (b:=c_) ⟨_,dU _ xz,xz⟩ Ug (aI<|j _<|((CA ..).extBut.push _).push _)
def aii(e:(d==qg)=d_)(b:s.heap.get? d=a_ od)(a:s.TypeIs (.ref d) "dict")(c:od.data=.dict es ep)(f:Q (.ref s.heap.objs.size) {s with heap:=s.heap.push {cls:=.type "dict_keyiterator",data:=.fields #[.ref d,.int 0 0,.int es.size 0,.int ep 0]}}):am (ap prog w) A (pyIter<|.ref d) Q E s:=by
 refine wpAny_pyIter_slot a F.slot_dict_iter<|uZ F.slot_dict_iter a F.entry_dict_iter ?_<|F.args_dict_iter_1 _;refine ah ?_;refine ah<|abx a ?_;refine aI ?_;show am _ _ (abD d >>= _) _ _ s;unfold abD;rw[dt<|e▸dW];refine ah<|aI<|ah<|Tz b c<|ah<|T8 b c<|ah<|p0<|aI ⟨_,xz,"dict_keyiterator",_,⟨_,dU _ xz,xz⟩,Fy.lookup,?_⟩;simpa[bv]using f
end
end PySem
namespace L2
def Ez(a:e_)(o:bE)(fv:List (List dc×V)):It:=
 ⟨λi H=>H a=a_ (.gZ o<|.dT fv)/\i<fv.length,λi H x H'=>H'=H/\∃p k,fv[i]?.map xo=a_ k/\x=.ref p/\H p=a_ (.tup<|k.map kV),λi H=>H a=a_ (.gZ o<|.dT fv)/\fv.length<=i⟩
theorem KT.at:∀{fv:List (List dc×V)}{xs:List (List dc×e_×f_)},KT H fv xs->∀{i:Nat},i<fv.length->∃k p v,fv[i]?.map xo=a_ k/\xs[i]?=a_ (k,p,v)/\H p=a_ (.tup<|k.map kV)
 | _,_,.nil,_,h=>nomatch h
 | _,_,.cons (b:=q) h t,0,_=>⟨_,q.2.1,q.2.2,f0 a_ h.1,xz,by rw[<-h.1];exact h.2.1⟩
 | _,_,.cons h t,i+1,hi=>KT.at t<|Nat.lt_of_succ_lt_succ hi
def YM{P:k_}{w:j_}(ok:dR P w H h)(e:H a=a_ (.gZ o<|.dT fv))(hd:o.data=.dict es ep):h.get? a=a_ o/\es.size=fv.length/\∀i,i<fv.length->∃k p x,fv[i]?.map xo=a_ k/\es[i]?=a_ x/\x.key=.ref p/\H p=a_ (.tup<|k.map kV):=by
 obtain⟨b,z,y,xs,r,o',g,j,h1,h2,h3,h4,h5⟩:=(ok a _ e);rw[b]at h1;cases h1;rw[hd]at h3;cases h3;refine⟨b,by rw[<-fQ,h4,aG,(r_ r)],λi hi=>?_⟩;obtain⟨k,p,v,c,d,f⟩:=KT.at r hi;exact⟨k,p,_,c,by rw[<-sW,h4,cH,d];rfl,xz,f⟩
def ag5{P:k_}{w:j_}{K:u_}(a it:e_)(hd:o.data=.dict es ep):Turn P w K tg (Ez a o fv) [it] it (λi h=>h.IsKeyIter it a i es.size ep) where
 mem:=by simp
 obj:=λi h st b f=>by
  have e:b=it:=by simpa using f
  subst e;obtain⟨o,e,c,d⟩:=st;exact⟨o,e,λv z=>by rw[d]at z;cases z⟩
 keep:=λi h h' st k=>st.at λo e=>k it (by simp) o e
 item:=by
  intro X l hw m A i p_ s σ H E I j st g;subst l hw m;obtain⟨n,B,C⟩:=YM I.aE g.1 hd;obtain⟨k,p,x,D,F,G,J⟩:=C i g.2;obtain⟨q,r,L,t,u,y⟩:=j it (by simp);refine aih st n hd F λh' aw M=>?_;obtain⟨o',e,c,d⟩:=id aw;exact⟨_,xz,Ib (s:={s with heap:=h'}) e c d qc ⟨.ref p,H,I.turned (t':=s.toks) (λb o f e=>(M.2 b f).f4 e) q r t u y,by rw[G];rfl,⟨xz,p,k,D,xz,J⟩,aw,λb f=>(j b f).1⟩⟩
 done:=by
  intro X l hw m A i p_ s σ H E I j st g;subst l hw m;obtain⟨n,B,C⟩:=YM I.aE g.1 hd;obtain⟨q,r,L,t,u,y⟩:=j it (by simp);exact ajK (I.ok.hd A) st n hd (by rw[B];exact g.2) λh' N=>⟨xz,I.turned (t':=s.toks) (λb o f e=>N b o f e) q r t u y⟩
 self:=λ_ _ _ _ _ st h=>wpAny_pyIter_keyiter st h
section
variable{X:Cx}{tg:b4}
def iDT(tl:TE):TI:=λσ H R=>tl σ H λx b=>∃a fv,x=.ref a/\b a=a_ (.dT fv)/\∀o,R (Ez a o fv)<|cB b a<|.gZ o<|.dT fv
def ak6(i:PE X l tl):PI X tg l (iDT tl):=by
 refine λp_ s σ H R I h=>aR (i _ s _ H _ I h) λv s1⟨x,f,g,j,k⟩=>?_;obtain⟨a,fv,e,c,q⟩:=k;subst e;cases j;obtain⟨z,y,xs,r,o,es,m,h1,h2,h3,h4,h5⟩:=(g.aE a _ c);have n:∀b ys,f b=a_ (.tup ys)->cB f a (.gZ o<|.dT fv) b=a_ (.tup ys):=λb ys e=>by rw[ag (λz=>by rw[z,c]at e;cases e)];exact e
 have d:cP X _ _ (cB _ a<|.gZ o<|.dT _) s1:=Hq g (by rw[c];trivial) (o7.refl a _) ⟨_,h1⟩ ⟨h1,z,y,xs,KT.keeps r n,o,es,m,h1,h2,h3,h4,h5⟩;refine aii y h1 ⟨o,h1,h2.1⟩ h3 ⟨s1.zS,[s1.zS],_,_,_,xz,d.kept λb o e=>bh _ e,ag5 a _ h3,⟨_,dU _ xz,xz,xz⟩,λb p=>?_,q o⟩;have e:b=s1.zS:=by simpa using p
 subst e;exact d.gX (aD _)<|d.aE.fresh<|aD _
def cP.am3(I:cP X p_ σ H s)(e:H a=a_ (.gZ o<|.dT fv))(j:X.H₀ a=a_ (.dT fv)):cP X p_ σ (cB H a<|.dT fv) s:=by
 have ne:∀{b:e_},H b=b_->b≠a:=λh z=>by rw[z,e]at h;cases h
 have f:∀{b:e_},H b=b_->cB H a (.dT fv) b=none:=λh=>by rw[ag<|ne h];exact h
 have i:∀b ys,H b=a_ (.tup ys)->cB H a (.dT fv) b=a_ (.tup ys):=λb ys h=>by rw[ag (λz=>by rw[z,e]at h;cases h)];exact h
 refine⟨I.ok,I.os,I.bare,⟨I.base.keep,I.base.slot,λb u h1 h2 h3=>f<|I.base.free b u h1 h2 h3,I.base.there,λb xs h=>i _ _<|I.base.pD b _ h,λb o u h=>?_,λb ps h=>?_⟩,I.loc,I.cell,f I.free,λx c h=>f<|I.jg x c h,λp l=>?_,λb u g=>?_,I.len⟩
 .rw[ag (λz=>by rw[z,j]at h;cases h)];exact I.base.oC b o u h
 .rw[ag (λz=>by rw[z,j]at h;cases h)];exact I.base.oq b _ h
 .obtain⟨m,n,q⟩:=I.pin p l;exact⟨m,f n,q⟩
 have k:∀{d c:e_},H c=a_ (.own d)->cB H a (.dT fv) c=a_ (.own d):=λh=>by rw[ag (λz=>by rw[z,e]at h;cases h)];exact h
 by_cases z:b=a
 .subst z;rw[av]at g;cases g;exact dj.ou (I.aE b _ e).2 (λ_ _ _ h=>h) (λ_ h=>k h) i
 rw[ag z]at g;exact dj.ou (I.aE b u g) (λ_ _ _ h=>h) (λ_ h=>k h) i
def afH{t:TS}(h:fH X l t):fH X l (λD σ H=>∃a o fv,H a=a_ (.gZ o<|.dT fv)/\X.H₀ a=a_ (.dT fv)/\t D σ (cB H a<|.dT fv)):=λp_ s σ H D I q=>fE q λa o fv e b q=>h _ s _ _ D (I.am3 e b) q
end
def ajP{a:e_}{o:bE}{fv:List (List dc×V)}{g:TG}{tb:TS}{D:Ends}{σ:St}{H:Hp}(c:Nat->St->Hp->Prop)(n:c 0 σ H)(r:∀i σ H,i<=fv.length->c i σ H->H a=a_ (.gZ o<|.dT fv))(s:∀i σ H p k,i<fv.length->fv[i]?.map xo=a_ k->H p=a_ (.tup<|k.map kV)->c i σ H->g (.ref p) σ H λd f=>tb {D with nx:=c<|i+1,ct:=c<|i+1,bk:=D.nx} d f)(hd:∀σ H,c fv.length σ H->D.nx σ H):∃W:Nat->Nat->St->Hp->Prop,(∃m,W 0 m σ H)/\∀i m σ H,W i m σ H->((Ez a o fv).stop i H/\D.nx σ H)\/((Ez a o fv).go i H/\∃N:St->Hp->Prop,(∀h H',N h H'->∃l,l<m/\W (i+1) l h H')/\∀x H',(Ez a o fv).vZ i H x H'->g x σ H' λd f=>tb {D with nx:=N,ct:=N,bk:=D.nx} d f):=by
 refine⟨λi m σ H=>m=fv.length-i/\i<=fv.length/\c i σ H,⟨fv.length,by simp,aY _,n⟩,?_⟩;rintro i m σ H ⟨rfl,hi,p⟩;have q:=r i _ H hi p
 by_cases j:i<fv.length
 .refine .inr ⟨⟨q,j⟩,c<|i+1,λh H' t=>⟨fv.length-(i+1),om,xz,j,t⟩,λx H' y=>?_⟩;obtain⟨e,b,k,h1,h2,h3⟩:=y;subst e h2;exact s i _ _ b k j h1 h3 p
 have e:i=fv.length:=om;subst e;exact .inl ⟨⟨q,aD _⟩,hd _ H p⟩
end L2
namespace L2
open PySem.SeqAt
section
variable{X:Cx}
def aja:V->List V->Hp->VK->Prop:=λx vs H Q=>∃(l:e_)(ns:List Int)(k:Int),x=.ref l/\vs=[.int k]/\H l=a_ (.lst<|ns.map V.int)/\k∈ns/\Q (.int (ns.idxOf k:Nat)) H
def agd:Ew X "list.index" aja:=by
 intro p_ s σ H x vs v us Q I b c h;obtain⟨l,ns,k,rfl,rfl,d,f,q⟩:=h;cases b;obtain⟨u,rfl,⟨t,rfl⟩⟩:=c.one;obtain⟨z,j,n,r,o,e⟩:=I.oB d;have hi:=intsAre_of r;have a:=abk.mpr f;have p:=hi.length;have w:=eA;rw[aG]at z;refine yW F.slot_list_index ⟨_,e,xz⟩ F.entry_list_index (F.args_list_index_2 _ _) (SeqAt.list_indexAt l _ n _ _ _ _ _ (by rw[de];omega) om ?_ λm hm g=>?_) ⟨e,λy i=>ach.at (eq_isInt k t hi y<|by simpa using i) _ _,⟨.int _,H,I.tok _,⟨_,xz⟩,q⟩⟩
 .rw[abI,isInt_at k hi _ om a,List.getElem_idxOf a];exact beq_self_eq_true k
 rw[abI,isInt_at k hi m (by simpa using hm) _];exact ne_of_lt_idxOf g om
end
end L2
namespace L2
open PySem.W
section
variable{X:Cx}
def ajb:List V->Hp->VK->Prop:=λxs H Q=>∃(a:e_)(fv:List (dc×V)),xs=[.ref a]/\H a=a_ (.dK fv)/\∀l,H l=b_->Q (.ref l) (cB H l<|.lst<|fv.map λkv=>kV kv.1)
def alz{P:k_}{w:j_}{k:dc}(h:(jd P w).is k u=c_):d0 (kV k) u:=by
 obtain⟨i,t,rfl,rfl⟩|⟨rfl,rfl⟩|⟨x,t,rfl,rfl⟩:=tO h
 .exact⟨t,xz⟩
 .rfl
 exact⟨t,xz⟩
theorem Vi{P:k_}{w:j_}:∀{fv:List (dc×V)}{vs:List (dc×f_)}{us:List f_},KV fv vs->us.length=vs.length->(∀(j:Nat)u,us[j]?=a_ u->∃k x,vs[j]?=a_ (k,x)/\(jd P w).is k u=c_)->d4 (fv.map λkv=>kV kv.1) us
 | _,_,[],.nil,_,_=>.nil
 | _,_,_::_,.nil,h,_=>by simp at h
 | _,_,[],.cons _ _,h,_=>by simp at h
 | _,_,u::us,.cons (a:=p) (b:=q) r rs,h,g=>by
  obtain⟨k,x,e,c⟩:=g 0 u rfl;simp only[List.getElem?_cons_zero,FC]at e;subst e;refine .cons ?_ (Vi rs (by simpa using h) λj u e=>by simpa using g (j+1) u (by simpa using e));show d0 (kV p.1) u;rw[r.1];exact alz c
def adY(d:X.calm=c_):kP X (.type "list") ajb:=by
 intro p_ s σ H xs us Q I r h;obtain⟨a,fv,rfl,e,q⟩:=h;obtain⟨u,rfl,f⟩:=vals1 r;cases f;obtain⟨z,hd,vs,b,dd⟩:=Po I.aE e;obtain⟨m,i⟩:=dd.dictAt;refine kdl_call (kdl_dict hd) (I.ok.hd d) i (by rw[<-b.length];exact z) λh' tk zS k kp l c=>?_;exact⟨.ref _,_,I.laid kp (aD _) (show dj _ _ _ _ _ (.lst _) from ⟨by rw[aG];exact z,zS.toList,k,Vi b (fQ▸c.1) λj v g=>c.2 j v (by rw[<-sW];exact g),by simpa using l⟩),xz,q _<|I.aE.fresh<|aD _⟩
end
end L2
namespace PySem
def acW:yV (.type "list") "keys"=pure none:=by rw[T9,Ti];kernel_rfl
def ah0{w:j_}{k:Nat}(f:s.heap.get? a=a_ o)(m:o.cls=.type "list")(n:o.data=.seq xs k)(hd:o.dict=b_)(p:A.handled=b_)(h:∀h' tk,(∀b o,s.heap.get? b=a_ o->h'.get? b=a_ o)->Q b_ {s with heap:=h',toks:=tk}):am (ap prog w) A (getAttr? (.ref a) "keys") Q E s:=by
 obtain⟨c,r,dat,sl⟩:=o;subst m n hd;obtain⟨q,g,d,tk,os⟩:=s;have i:∀j,(⟨q,g,d,j,os⟩:g_).TypeIs (.ref a) "list":=λ_=>⟨_,f,xz⟩;have t:=sub_AttributeError;have u:=Ta.lookup;have v:=Ta.bind<|.ref a;have x:=am_list_getattr_none;unfold getAttr? getAttrBy? getAttrBy
 repeat (any_goals (first | assumption | exact i _ | ((with_reducible show am _ _ (call (yN "list.__getattribute__") _ _) _ _ _);refine yW Ta (i _) am_entry_list_getattribute (F.args_list_getattribute_2 _ _) (meets_getattribute_miss_list a xs k sl "keys" _ acW qc (by size_fits)) ⟨f,p,λh' j e l=>?_⟩) | wp_step))
 obtain⟨t',y,z⟩:=l.there;unfold getattributeRaised
 repeat (any_goals (first | assumption | wp_step))
 exact h _ _ l.keeps
def FR:plainId "dict.update.loop"=true:=dk
def Ud:entryFor table "dict.update.loop"=a_ Builtin.«dict.update.loop»:=entryFor_of_fast (by kernel_rfl)
section
variable{prog:k_}{w:j_}{K:Type}[DecidableEq K]{knd:KeyKind prog w K}{A:h_}{d it l:e_}{its:List f_}{R:Result->g_->Prop}{res:f_}
noncomputable def xP(knd:KeyKind prog w K)(h:i_)(d it:e_):List (K×f_)->List f_->Prop
 | [],[]=>True
 | (k,v)::ps,u::us=>(∃b o key n,u=.ref b/\b≠d/\b≠it/\h.get? b=a_ o/\o.cls=.type "tuple"/\o.data=.seq #[key,v] n/\knd.is k key=c_)/\xP knd h d it ps us
 | _,_=>False
theorem xP.keeps(kp:∀b o,b≠d->b≠it->h.get? b=a_ o->h'.get? b=a_ o):∀{ps:List (K×f_)}{us:List f_},xP knd h d it ps us->xP knd h' d it ps us
 | [],[],_=>trivial
 | (_,_)::_,_::_,⟨⟨b,o,key,n,e,h1,h2,h3,r⟩,q⟩=>⟨⟨b,o,key,n,e,h1,h2,kp b o h1 h2 h3,r⟩,xP.keeps kp q⟩
def afm(C:A.handled=b_)(m:d≠it)(D:l≠d)(E:l≠it):∀(us:List f_)(ps:List (K×f_))(i:Nat)(s:g_)(fv:List (K×f_))(t:Tok),its.drop i=us->xP knd s.heap d it ps us->s.heap.IsListIter it l i->s.heap.IsList l its.toArray->s.heap.DictOf knd d fv->fv.length+ps.length<=bp->(∀h' tk,(∀b o,b≠d->b≠it->s.heap.get? b=a_ o->h'.get? b=a_ o)->h'.DictOf knd d (merged fv ps)->R (.ok<|.ret res) {s with heap:=h',toks:=tk})->codeAny (ap prog w) A (.builtin "dict.update.loop" ⟨[.ref d,.ref it,.int i t,res],[]⟩) R s:=by
 intro us
 induction us with
 | nil=>
  intro ps i s fv t h f hi j hd y q;cases ps with
  | cons p ps=>exact f.elim
  | nil=>
  refine CJ Ud ?_;rw[Cy FR _];refine ah (abw C hi j (by rw[abB];exact pY<|by have:=f0 UN h;simp at this;omega) λh' z=>?_);exact ah<|aI<|aI<|q _ _ (λb o _ h2 e=>z b o h2 e) (let ⟨o,es,ep,ho,r⟩:=hd;⟨o,es,ep,z d o m ho,r⟩)
 | cons u us ih=>
  intro ps i s fv t h f hi j hd y q;cases ps with
  | nil=>exact f.elim
  | cons p ps=>
  obtain⟨k,v⟩:=p;obtain⟨⟨b,o,key,n,rfl,b1,b2,F,G,H,I⟩,f⟩:=f;have J:its[i]?=a_ (.ref b):=by have:=f0 (·[0]?) h;simpa using this
  refine CJ Ud ?_;rw[Cy FR _];refine ah (abo hi j (abB▸J) λh' L x=>?_);have g:=(x.2 b b2).f4 F;refine ah<|kG<|ah<|FT ?_;have M:(⟨h',s.gens,s.drawn,s.toks,s.os⟩:g_).TypeIs (.ref b) "tuple":=⟨_,g,G⟩;refine ah<|F3 M ?_;refine Lg (λ_=>ah<|tG g H<|aI ?_)<|dV xz;refine kG ?_;have T:fv.length+(ps.length+1)<=bp:=y;refine wpAny_dictSet_pairs I (hd.sameBut x m) (λh2 N B=>?_) om;have kp:∀b o,b≠d->b≠it->s.heap.get? b=a_ o->h2.get? b=a_ o:=λb o a c e=>((B.2 b a).f4<|x.2 b c).f4 e;refine aI ⟨yL FR _,ih _ _ _ _ _ (by rw[<-qY,h];rfl) (f.keeps kp) ?_ ?_ N (by have:=stored_length_le fv k v;omega) λh3 tk O P=>?_⟩
  .obtain⟨Q,a,c⟩:=L;exact⟨Q,(B.2 _<|b8 m).f4 a,c⟩
  .obtain⟨S,a,c⟩:=j;exact⟨S,kp l _ D E a,c⟩
  exact q _ _ (λb o a c e=>O b o a c<|kp b o a c e) P
end
section
variable{prog:k_}{w:j_}{K:Type}[DecidableEq K]{knd:KeyKind prog w K}{A:h_}{E:f_->g_->Prop}{s:g_}
def acp(j:A.handled=b_)(a:s.heap.get? l=a_ {cls:=.type "list",dict:=b_,data:=.seq its.toArray n,slots:=#[]})(q:∀d it,s.heap.objs.size<=d->s.heap.objs.size<=it->xP knd s.heap d it ps its)(t:ps.length<=bp)(h:∀h' tk,(∀b o,s.heap.get? b=a_ o->h'.get? b=a_ o)->h'.DictOf knd s.heap.objs.size (merged [] ps)->Q (.ref s.heap.objs.size) {s with heap:=h',toks:=tk}):am (ap prog w) A (call (.type "dict") [.ref l]) Q E s:=by
 refine callType_codes (Q₁:=λobj k=>obj=.ref _/\k={s with heap:=s.heap.push {cls:=.type _,data:=.dict #[]}}) F.kt_called_dict (F.kt_typeCall_dict_1 _) F.entry_dict_init (kt_code_dict_new _ ⟨xz,xz⟩) ?_;rintro obj k ⟨rfl,rfl⟩;have f:(s.heap.push {cls:=.type _,data:=.dict #[]}).DictOf knd _ []:=acz _;have m:=bh {cls:=.type "dict",data:=.dict #[]} a;refine⟨f.typeIs,F.args_dict_init_2 _ _,?_⟩;refine ah ?_;refine ah<|abx f.typeIs ?_;refine aI ?_;show am _ _ (abn "dict.__init__" s.heap.objs.size (.ref l) [] .none) _ _ _;refine ah<|F3 ⟨_,m,xz⟩ ?_;rw[dL qc];refine ah (ah0 m xz xz xz j λh1 tk kp=>Lg (λ_=>?_)<|dV xz);refine ah<|A7 ?_;have p:∀b o,s.heap.get? b=a_ o->h1.get? b=a_ o:=λb o e=>kp b o<|bh _ e;have sz:∀b o,s.heap.get? b=a_ o->b<s.heap.objs.size:=λb o e=>bH e;have c:=bH<|kp _ _<|dU _ xz;refine ah<|CD ⟨_,p _ _ a,xz,n,xz⟩ ?_;have g:∀b o,s.heap.get? b=a_ o->(h1.push {cls:=.type "list_iterator",data:=.fields #[.ref l,.int 0 0]}).get? b=a_ o:=λb o e=>bh _<|p b o e;refine aI ⟨yL FR _,afm (A:=A.in1) (i:=0) (fv:=[]) j (dg c) (dg<|sz _ _ a) (dg<|yP (sz _ _ a) c) _ _ _ _ xz ((q _ _ (aD _)<|dH c).keeps λb o _ _ e=>g b o e) ⟨_,dU _ xz,xz,xz⟩ ⟨_,g _ _ a,xz,n,xz⟩ ?_ (by simpa using t) λh' z u v=>?_⟩
 .obtain⟨o,es,x,y,r⟩:=f;exact⟨o,es,x,bh _<|kp _ _ y,r⟩
 exact⟨xz,h _ _ (λb o e=>u b o (dg<|sz b o e) (dg<|yP (sz b o e) c)<|g b o e) v⟩
end
end PySem
namespace L2
open PySem.W
section
variable{X:Cx}
noncomputable def IF(H:Hp):List (dc×V)->List V->Prop
 | [],[]=>True
 | (k,v)::ps,y::ys=>(∃b,y=.ref b/\H b=a_ (.tup [kV k,v]))/\IF H ps ys
 | _,_=>False
def pC(fv ps:List (dc×V)):List (dc×V):=ps.foldl (λa p=>putK a p.1 p.2) fv
theorem KV.all:∀{ps:List (dc×V)}{qs:List (dc×f_)}{fv:List (dc×V)}{vs:List (dc×f_)},KV fv vs->KV ps qs->KV (pC fv ps) (merged vs qs)
 | _,_,_,_,r,.nil=>r
 | _,_,_,_,r,.cons (a:=p) (b:=q) e es=>by
  obtain⟨k,y⟩:=p;obtain⟨k',u⟩:=q;obtain⟨rfl,c⟩:=e;exact KV.all (fv:=putK _ k y) (vs:=stored _ k u) (KV.put r k c) es
theorem Vt:∀(ps fv:List (dc×V)),(pC fv ps).length<=fv.length+ps.length
 | [],_=>aD _
 | p::ps,fv=>by
  have h1:=Vt ps<|putK fv p.1 p.2;have h2:=tL fv p.1 p.2;show (pC (putK fv p.1 p.2) ps).length<=fv.length+(ps.length+1);omega
theorem Yq{H:Hp}{s:g_}(ok:dR X.prog X.w H s.heap):∀{ps:List (dc×V)}{ys:List V}{us:List f_},IF H ps ys->d4 ys us->∃qs,KV ps qs/\∀d it,s.zS<=d->s.zS<=it->xP (jd X.prog X.w) s.heap d it qs us
 | [],[],_,_,.nil=>⟨[],.nil,λ_ _ _ _=>trivial⟩
 | (k,v)::ps,y::ys,_,⟨⟨b,e,hb⟩,hp⟩,.cons (b:=u) r rs=>by
  obtain⟨qs,r2,h2⟩:=Yq ok hp rs;subst e;obtain rfl:u=bV b:=r;obtain⟨z,l,f,pl⟩:=(show dj X.prog X.w H s.heap b (.tup [kV k,v]) from ok b _ hb);obtain⟨c,d,g,h,r3⟩:=vals2 f;subst g;obtain⟨o,a,i,n,j⟩:=pl;have lt:=bH a;exact⟨(k,d)::qs,.cons ⟨xz,r3⟩ r2,λdd it h3 h4=>⟨⟨b,o,c,n,xz,dg<|f7 lt h3,dg<|f7 lt h4,a,i,j,xH h⟩,h2 dd it h3 h4⟩⟩
def ahx:List V->Hp->VK->Prop:=λxs H Q=>∃(a:e_)(ys:List V)(ps:List (dc×V)),xs=[.ref a]/\H a=a_ (.lst ys)/\IF H ps ys/\ps.length<=bp/\∀l,H l=b_->Q (.ref l) (cB H l<|.dK<|pC [] ps)
def adg(b:X.calm=c_):kP X (.type "dict") ahx:=by
 intro p_ s σ H xs us Q I r h;obtain⟨a,ys,ps,rfl,e,c,d,q⟩:=h;obtain⟨u,rfl,f⟩:=vals1 r;cases f;obtain⟨z,m,n,g,o,i⟩:=I.oB e;obtain⟨qs,kv,j⟩:=Yq I.aE c g;refine acp (I.ok.hd b) i j (by rw[<-kv.length];exact d) λh' tk kp hd=>?_
 have k:(s.zS==qg)=false:=by
  exact eX.mpr<|tJ I.big
 have l:(pC [] ps).length<=bp:=by have:=Vt ps [];simp at this;omega
 exact⟨.ref _,_,I.laid kp (aD _)<|OL l k (KV.all .nil kv) hd,xz,q _<|I.aE.fresh<|aD _⟩
end
end L2
namespace PySem
section
variable{prog:k_}{w:j_}{A:h_}{E:f_->g_->Prop}{s:g_}{I l:e_}{xs:Array f_}
def aeI:yV (.type "list_reverseiterator") "__len__"=pure none:=by rw[T9,Ti];kernel_rfl
def agj:yV (.type "list_reverseiterator") "__length_hint__"=pure (a_<|.builtin "list_reverseiterator.__length_hint__"):=by rw[T9,Ti];kernel_rfl
def adf(k:A.handled=b_)(hi:s.heap.IsRevIter I l ((xs.size:Int)-1))(d:s.heap.IsList l xs)(m:l≠I)(n:xs.size<=bp)(h:∀(h':i_)tk,(∀b o,b≠I->s.heap.get? b=a_ o->h'.get? b=a_ o)->Q xs.toList.reverse {s with heap:=h',toks:=tk}):am (ap prog w) A (collect<|.ref I) Q E s:=by
 have p:I<s.heap.objs.size:=let ⟨o,e,_⟩:=hi;bH e
 have q:l<s.heap.objs.size:=let ⟨o,e,_⟩:=d;bH e
 have W:=(Walks.listRev (prog:=prog) (w:=w) (A:=A.in1) k I l m xs).toS;refine ah<|wpAny_runValue<|CJ F.entry_proto_collect ?_;rw[Cy F.plain_proto_collect _];refine ah<|p0<|aI ⟨yL F.plain_list_iadd _,CJ F.entry_list_iadd ?_⟩;rw[Cy F.plain_list_iadd _];show am _ _ (aa7 (.ref s.heap.objs.size) (.ref I)<|.ref s.heap.objs.size) _ _ _;have c:(s.heap.push {cls:=.type "list",data:=.seq #[]}).IsRevIter I l _:=hi.at λo e=>bh _ e;have a:({s with heap:=s.heap.push {cls:=.type _,data:=.seq #[]}}:g_).TypeIs _ "list_reverseiterator":=c.typeIs;have t:(s.heap.push {cls:=.type "list",data:=.seq #[]}).IsList l xs:=let ⟨o,e,r⟩:=d;⟨o,bh _ e,r⟩
 have ne:=tJ p;refine ah<|F3 a ?_;rw[dt (by simp[Builtin.List.listSameRef,ne])];refine ah<|wpAny_pyIter_revIter c<|ah<|kG ?_;refine ah<|T6 a aeI ?_;refine ah<|T6 a agj ?_;generalize f:("list_reverseiterator.__length_hint__":String)=id0
 wp_delta
 rw[show splitId _=a_ ("list_reverseiterator","__length_hint__") from by subst f;decide +kernel];subst f;refine ah<|K1 (b:=c_) a (by rw[isSubtype_type];kernel_rfl)<|aI ?_;rw[dt qc];refine aI ⟨yL F.plain_extend_loop _,codeAny_extend_loopS W n _ (by simp;exact⟨ne,tJ q⟩) _ _ 0 _ _ _ xz (aY _) ⟨aY _,by simpa using c,t⟩ (dU _ xz) (ItemsOf.nil _) λx zS y hm u j=>ah<|wpAny_load u<|aI ?_⟩
 have e:zS.toList=xs.toList.reverse:=by
  refine uX λi=>?_;have z:=j.1
  by_cases hi:i<xs.size
  .have g:zS[i]?=a_ (zS[i]' om):=abi _;have e:=j.2 i _ g;rw[Tj (by simpa using hi),sW,sW,fQ,g];exact e.f5
  rw[pY (by simp;omega),pY (by simp;omega)]
 rw[e,Moved.eq_with hm];exact h _ _ λb o v e=>hm.heap b o (by simp;exact⟨dg<|bH e,v⟩)<|bh _ e
def acC(f:A.handled=b_)(hi:s.heap.IsRevIter I l ((xs.size:Int)-1))(i:s.heap.IsList l xs)(j:l≠I)(e:xs.size<=bp)(h:∀(h':i_)tk,(∀b o,b≠I->s.heap.get? b=a_ o->h'.get? b=a_ o)->Q (.ref h'.objs.size) {s with heap:=h'.push {cls:=.type "tuple",data:=.seq xs.toList.reverse.toArray},toks:=tk}):am (ap prog w) A (call (.type "tuple") [.ref I]) Q E s:=by
 refine callType_codes (Q₁:=λobj a=>a.TypeIs obj "tuple"/\Q obj a) Uh (F.typeCall_tuple_1 _) F.entry_object_init ?_ λobj a c=>
  ⟨c.1,abK obj _,object_init_meets Uh.init.lookup Uh.made qc prog w A.in1 _ a ⟨c.1,xz,c.2⟩⟩
 refine Tp F.plain_tuple_new F.entry_tuple_new<|LL (F.newCall_tuple_1 _) ?_;have m:=sub_tuple_self;have n:=init_tuple_lookup;have p:=madeHere_tuple;have k:=λ{Q:List f_->g_->Prop}{E:f_->g_->Prop}h=>adf (prog:=prog) (w:=w) (A:=A.in1.in1) (E:=E) (Q:=Q) f hi i j e h;obtain⟨q,g,d,t,os⟩:=s
 wp_walk using F3 hi.typeIs,k
 intro h' tk kp;show am _ _ (Cu xs.toList.reverse.toArray >>= λv=>ret v) _ _ _;exact ah<|p0 (aI ⟨⟨_,dU _ xz,xz⟩,h _ _ kp⟩) (by show xs.toList.reverse.toArray.size<=bp;simpa using e)
end
end PySem
namespace L2
open PySem.W
section
variable{X:Cx}
def ak3(K:u_):List V->Hp->VK->Prop:=λvs H Q=>∃(a:e_)(ys:List V),vs=[.ref a]/\ao K H a ys/\∀l,H l=b_->Q (.ref l) (cB H l<|.tup ys.reverse)
def agT:tI "reversed"=a_ (.type "reversed"):=by kernel_rfl
def agS:tI "tuple"=a_ (.type "tuple"):=by kernel_rfl
def d4.rev(h:d4 vs us):d4 vs.reverse us.reverse:=by
 induction h with
 | nil=>exact .nil
 | cons a _ ih=>
  rw[KY,KY];exact ih.append<|.cons a .nil
def ael(i:X.calm=c_)(j:Gl X "tuple")(k:X.mg "tuple"=b_)(l:Gl X "reversed")(hm:X.mg "reversed"=b_)(ha:PA X [a] ta)(m:autoParam (bY [a] X.env=[(d_,eval a X.env)]) a3)
  (d:autoParam (bY [.Call (.Name "reversed" p2) [a] [] vW] X.env=[(d_,eval (.Call (.Name "reversed" p2) [a] [] vW) X.env)]) a3):PE X (.Call (.Name "tuple" p) [.Call (.Name "reversed" p2) [a] [] vW] [] pos) (Jm (ak3 X.K) ta):=by
 intro p_ s σ H Q I h;refine sX<|qm I j k agS (wM ?_ d rfl) qc qc;rw[d];refine yE<|sX<|qm I l hm agT (wM (zT (ha _ _ s _ H _ I h) λus s1 vs z c n r=>?_) m xz) qc qc;obtain⟨a,ys,rfl,t,q⟩:=r;obtain⟨u,rfl,v⟩:=vals1 n;cases v;obtain⟨w,f,pl,x⟩:=c.list t;have A:=f.length;refine call_reversed_list pl.isList<|CG ?_;have y:a<s1.zS:=let ⟨o,e,_⟩:=pl.isList;bH e
 refine acC (c.ok.hd i) ⟨_,dU _ xz,xz,xz⟩ (pl.isList.push _) (dg y) (by rw[de];omega) λh' tk kp=>?_;have g:=c.kept (t':=s1.toks) λb o e=>kp b o (dg<|bH e)<|bh _ e;refine⟨.ref _,_,g.laid (λb o e=>bh _ e) (aD _) (show dj _ _ _ _ _ (.tup _) from ⟨by rw[Cz];exact x,w.reverse,f.rev,V2 _ _⟩),xz,q _<|g.aE.fresh<|aD _⟩
end
end L2
namespace L2
section
variable{X:Cx}
def rRm:V->List V->Hp->VK->Prop:=λx vs H Q=>∃(l:e_)(ns:List Int)(i:Int),x=.ref l/\vs=[.int i]/\H l=a_ (.lst<|ns.map V.int)/\i∈ns/\Q .aJ (cB H l<|.lst<|(ns.erase i).map V.int)
theorem TM:∀(l:List Int)(x:Int)(m:Nat)(hm:m<l.length),l[m]=x->l.idxOf x<=m
 | a::l,x,0,_,e=>by simp at e;simp[Uc,e]
 | a::l,x,m+1,hm,e=>by
  rw[Uc]
  by_cases h:a=x
  .simp[h]
  .have:=TM l x m (by simpa using hm) (by simpa using e);rw[show (a==x)=d_ from eX.mpr h];exact tm this
def agE{ns:List Int}{i:Int}(h:i∈ns):∃j,∃b:j<ns.length,ns[j]=i/\(∀m(hm:m<ns.length),m<j->ns[m]≠i)/\ns.erase i=ns.eraseIdx j:=by
 exact⟨ns.idxOf i,List.idxOf_lt_length_of_mem h,by simp,λm hm a e=>dV (TM _ i m _ e)<|Nat.not_le_of_lt a,List.erase_eq_eraseIdx_of_idxOf xz⟩
def aeE:Ew X "list.remove" rRm:=by
 intro p_ s σ H x vs v us Q I g k h;obtain⟨l,ns,i,rfl,rfl,c,hm,q⟩:=h;cases g;obtain⟨u,rfl,o⟩:=k.one;obtain⟨t,rfl⟩:=o;obtain⟨z,b,n,r,L,e⟩:=I.oB c;obtain⟨j,d,p,A,B⟩:=agE hm;have f:=r.length;rw[aG]at f
 have at_:∀m(hm:m<b.toArray.size)(C:m<ns.length),∃tk,b.toArray[m]=gq ns[m] tk:=λm hm C=>by
  obtain⟨w,hw,D⟩:=r.get (show (ns.map V.int)[m]?=a_ (.int ns[m]) by rw[cH,aQ _];rfl);obtain⟨tk,e⟩:=D;rw[aQ (by simpa using hm)]at hw;exact⟨tk,by rw[<-e];simpa using hw⟩
 have E:b.toArray.size=ns.length:=by rw[de];exact f.f5
 refine yW F.slot_list_remove ⟨_,e,xz⟩ F.entry_list_remove (F.args_list_remove_2 _ _)
  (MeetsSeq.list_remove l b.toArray n (.int i t) (λy=>match y with | .int a _=>a==i | _=>d_) (λy G=>?_) j (by rw[E];exact d) ?_ (λm hm J=>?_)<|by rw[de];omega) ⟨e,?_⟩
 .obtain⟨m,hm,rfl⟩:=Array.getElem_of_mem G;obtain⟨tk,e⟩:=at_ m hm om;rw[e];exact ach.int _ _ _ _
 .obtain⟨tk,e⟩:=at_ j om d;rw[e];simp[p]
 .obtain⟨tk,e⟩:=at_ m hm om;rw[e];simp[A m om J]
 refine⟨.aJ,_,I.Iv (mz:=b.eraseIdx j) c e ?_ ?_ ?_,xz,q⟩
 .rw[aaY]
 .have h1:=r.eraseIdx j;rw[B]
  have K:∀(l:List Int)(j:Nat),(l.eraseIdx j).map V.int=(l.map V.int).eraseIdx j:=λl=>by
   induction l with
   | nil=>intro j;simp
   | cons a l ih=>intro j;rcases j with _|j;simp;simp[ih]
  rw[K];exact h1
 .have:=List.length_erase_le (a:=i) (l:=ns);rw[aG];omega
end
section
variable{X:Cx}{p_:List (e_×bE)}{σ:St}{H:Hp}{s:g_}{a:e_}{fv:List (dc×V)}{k:dc}{u r:f_}{d:V}{A:h_}{E:f_->g_->Prop}
def agO(I:cP X p_ σ H s)(e:H a=a_ (.dK fv))(j:d0 (kV k) u)(rd:d0 d r)(p:fv.length<bp)(h1:∀v h c,cx fv k=a_ v->cP X p_ σ H c->d0 v h->Q h c)(h2:cx fv k=b_->∀c,cP X p_ σ (cB H a<|.dK<|putK fv k d) c->Q r c):am (ap X.prog X.w) A (call (.builtin "dict.setdefault") [.ref a,u,r]) Q E s:=by
 obtain⟨z,hd,vs,f,dd⟩:=Po I.aE e;have l:vs.length<=bp:=by rw[<-f.length];exact z
 have b:=f.val k;refine F4 PySem.F.slot_dict_setdefault dd.typeIs PySem.F.entry_dict_setdefault (PySem.F.args_dict_setdefault_3 _ _ _) (kt_meets_setdefault _ a (xH j) hd r) ⟨vs,dd,l,λv g=>?_,λg h' i m=>?_⟩
 .rw[g]at b;rcases q:cx fv k with _|y
  ·rw[q]at b;exact b.elim
  rw[q]at b;exact h1 y v _ q (I.tok _) b
 rw[g]at b;rcases q:cx fv k with _|y
 ·have n:(putK fv k d).length<=bp:=by have:=tL fv k d;omega
  have o:∃q,h'.get? a=a_ q:=let ⟨q,_,_,hq,_⟩:=i;⟨q,hq⟩
  exact h2 q _<|Hq I (e▸lZ) m o<|OL n hd (f.put k rd) i
 rw[q]at b;exact b.elim
end
def akV(td ty d:TE):TE:=λσ H Q=>td σ H λx c=>∃a,x=.ref a/\JA c a/\ty σ c λy e=>d σ e λz b=>∃fv k,b a=a_ (.dK fv)/\y=kV k/\fv.length<bp/\(∀v,cx fv k=a_ v->Q v b)/\(cx fv k=b_->Q z (cB b a<|.dK<|putK fv k z))
def adC{td ty g:TE}(l:PE X o td)(n:PE X e ty)(p:PE X f g)(m:M2 X o "setdefault" apos e f gx):PE X (.Call (.Attribute o "setdefault" apos) [e,f] [] gx) (akV td ty g):=by
 refine λp_ s σ H Q I h=>TB m.base m.kY m.line PySem.F.plainAttrs_dict PySem.F.slot_dict_setdefault PySem.F.type_dict_setdefault (aR (l _ s _ H _ I h) λu s1⟨x,q,i,r,a,ex,d,t⟩=>?_);subst ex;obtain rfl:u=bV a:=r;obtain⟨w,A,_⟩:=OF i d;refine⟨w,A,?_⟩;rw[m.trees]
 refine KD xz (KO (yE (aR (n p_ s1 σ q _ i t) λS s2⟨y,B,C,D,E⟩=>
  yE (aR (p p_ s2 σ B _ C E) λT U⟨z,G,J,j,fv,k,K,L,M,N,O⟩=>CG ?_))))
 subst L;exact agO J K D j M (λv V P b c R=>⟨_,G,c,R,N v b⟩) λb P c=>⟨_,_,c,j,O b⟩
noncomputable abbrev Cx.zH(X:Cx)(pn:List (e_×bE))(E:f_->g_->Prop):Cx:={X with pn:=pn,xe:=E}
section
variable{X:Cx}{p_ pl:List (e_×bE)}{σ:St}{H:Hp}{s:g_}{E:f_->g_->Prop}
def af8(ok:X.Ok)(pn:List (e_×bE))(E:f_->g_->Prop):(X.zH pn E).Ok:=
 ⟨ok.mod,ok.kind,ok.glob,ok.blt,ok.above,ok.inj,ok.has,ok.uA,ok.hd,ok.frames,ok.v3,ok.sg,ok.bs,ok.mH,ok.ug,ok.rW,ok.lH,ok.qH⟩
def adK(ok:(X.zH pn E).Ok):X.Ok:=
 ⟨ok.mod,ok.kind,ok.glob,ok.blt,ok.above,ok.inj,ok.has,ok.uA,ok.hd,ok.frames,ok.v3,ok.sg,ok.bs,ok.mH,ok.ug,ok.rW,ok.lH,ok.qH⟩
def cP.zH(I:cP X p_ σ H s)(E:f_->g_->Prop):cP (X.zH (X.pn++p_) E) [] σ H s:=
 ⟨af8 I.ok _ E,I.os,I.bare,I.base,I.loc,I.cell,I.free,I.jg,λp a=>I.pin p (by simpa using a),I.aE,I.len⟩
def cP.GZ(I:cP (X.zH (X.pn++p_) E) pl σ H s):cP X p_ σ H s:=
 ⟨adK I.ok,I.os,I.bare,I.base,I.loc,I.cell,I.free,I.jg,λp a=>I.pin p<|jo _ a,I.aE,I.len⟩
def ahA{body:List aK}{t:TS}(b:∀pn:List (e_×bE),fH (X.zH pn λ_ _=>False) body t):PS X (.Try body (h::hs) [] [] pos) t:=by
 refine λp_ s σ H D I q=>wpAny_Try_except (gn (b _ [] s _ H D (I.zH _) q) (λf s1 q=>?_) λ_ _ y=>y.elim);rcases f with _|_|_|u
 ·obtain⟨a,H',I,q⟩:=q;exact CI ⟨a,H',I.GZ,q⟩
 ·obtain⟨a,H',I,q⟩:=q;exact⟨a,H',I.GZ,q⟩
 ·obtain⟨a,H',I,q⟩:=q;exact⟨a,H',I.GZ,q⟩
 obtain⟨v,a,H',I,r,q⟩:=q;exact⟨v,a,H',I.GZ,r,q⟩
end
def DJ{J:It}{n:Nat}{g:TG}{tb:TS}{D:Ends}{σ:St}{H:Hp}(a:Nat->St->Hp->Prop)(j:a 0 σ H)(k:∀i σ H,i<n->a i σ H->J.go i H)(cV:∀σ H,a n σ H->J.stop n H)(l:∀i σ H,i<n->a i σ H->∀x H',J.vZ i H x H'->g x σ H' λb c=>tb {D with nx:=a<|i+1,ct:=a<|i+1,bk:=D.nx} b c)(hd:∀σ H,a n σ H->D.nx σ H):∃W:Nat->Nat->St->Hp->Prop,(∃m,W 0 m σ H)/\∀i m σ H,W i m σ H->(J.stop i H/\D.nx σ H)\/(J.go i H/\∃N:St->Hp->Prop,(∀d H',N d H'->∃h,h<m/\W (i+1) h d H')/\∀x H',J.vZ i H x H'->g x σ H' λb c=>tb {D with nx:=N,ct:=N,bk:=D.nx} b c):=by
 refine⟨λi m σ H=>m=n-i/\i<=n/\a i σ H,⟨n,by simp,aY _,j⟩,?_⟩;refine λi m σ H o=>du o λq hi p=>?_;subst q
 by_cases f:i<n
 .exact .inr ⟨k i _ H f p,⟨a<|i+1,λd H' r=>⟨n-(i+1),om,xz,f,r⟩,l i _ H f p⟩⟩
 have e:i=n:=li;subst e;exact .inl ⟨cV _ H p,hd _ H p⟩
end L2
namespace TL
open PySem.SeqAt L2 L3 L4
variable{P:k_}{w:j_}{K:u_}{mg:bx->Option f_}{fi:i_}
noncomputable def tv(t:Tl):List V:=.str t.1::t.2.map λ(n:Nat)=>V.int (n:Int)
def xD(H:Hp)(v:V)(t:Tl):Prop:=∃a,v=.ref a/\H a=a_ (.tup<|tv t)
def IsPart(H:Hp)(v:V)(p:Pt):Prop:=∃a vs,v=.ref a/\H a=a_ (.tup vs)/\aA (xD H) vs p
def xE(H:Hp)(v:V)(ps:List Pt):Prop:=∃a vs,v=.ref a/\H a=a_ (.tup vs)/\aA (IsPart H) vs ps
def xD.keep{t:Tl}(k:∀b xs,H b=a_ (.tup xs)->H' b=a_ (.tup xs))(h:xD H v t):xD H' v t:=by
 exact aq h λa e h=>au a e<|k _ _ h
def IsPart.keep(k:∀b xs,H b=a_ (.tup xs)->H' b=a_ (.tup xs))(h:IsPart H v p):IsPart H' v p:=by
 exact cZ h λa vs e h r=>di a _ e (k _ _ h) (df r λ_ _ q=>q.keep k)
def xE.keep(k:∀b xs,H b=a_ (.tup xs)->H' b=a_ (.tup xs))(h:xE H v p):xE H' v p:=by
 exact cZ h λa vs e h r=>di a _ e (k _ _ h) (df r λ_ _ q=>q.keep k)
def PX(b:Bool):Sp:=λvs H Q _=>∃a,vs=[.ref a]/\Q (.bl b) H
def ahm:bj fC fC (aU HA):=bG
def ady:bj fC fC (aU Gg):=bG
def ac6:bj fC fC (aU Gb):=bG
def Dd(F:aW K O_ "Step.empties" HA f fd):aM P w K mg fi aS 1 f fd fC (PX d_):=by
 refine F.ok ahm λaN A _ s H vs Q E c h=>?_;refine aq h λa b k=>?_;subst b;exact rZ (aB<|a8 iV) k
def ac8(F:aW K O_ "Swap.empties" Gg f fd):aM P w K mg fi aS 1 f fd fC (PX c_):=by
 refine F.ok ady λaN A _ s H vs Q E c h=>?_;refine aq h λa b k=>?_;subst b;exact rZ (aB<|a8 iV) k
def acU(F:aW K O_ "Clear.empties" Gb f fd):aM P w K mg fi aS 1 f fd fC (PX c_):=by
 refine F.ok ac6 λaN A _ s H vs Q E c h=>?_;refine aq h λa b k=>?_;subst b;exact rZ (aB<|a8 iV) k
structure C6(K:u_)(c:e_)(t:a9)(QH QI QG PK PH PJ:Bool):Prop where
 cl:w_ K (.ref c) "__class__"=a_ (a_<|.builtin "object.__class__")
 mr:A_ K c (.type "object")=a_ c_
 ank:v_ K (.ref c) (.ref t.nJ)=a_ QH
 anl:v_ K (.ref c) (.ref t.nK)=a_ QI
 anj:v_ K (.ref c) (.ref t.lJ)=a_ QG
 ale:v_ K (.ref c) (.ref t.mj)=a_ PK
 ald:v_ K (.ref c) (.ref t.mi)=a_ PH
 Zf:v_ K (.ref c) (.ref t.kN)=a_ PJ
structure pQ where
 (BZ ZC ZD:e_)
 (Qe OH OI:lz)
structure zM(K:u_)(mg:bx->Option f_)(t:a9)(u:pQ):Prop where
 st:vA K mg t
 D':aW K O_ "Step.empties" HA u.BZ u.Qe
 z0:d5 K u.Qe fC []
 ajS:aW K O_ "Swap.empties" Gg u.ZC u.OH
 Pu:d5 K u.OH fC []
 ajX:aW K O_ "Clear.empties" Gb u.ZD u.OI
 Pw:d5 K u.OI fC []
 gt:W.specialIn K (.builtin "object.__class__") "__get__"=a_ (a_<|.builtin "getset_descriptor.__get__")
 tk:W.takesIn K (.builtin "object.__class__")=a_ c_
 alL:Meth K t.nJ O_ u.BZ
 alM:Meth K t.nK O_ u.BZ
 alK:Meth K t.lJ O_ u.BZ
 aj8:Meth K t.mj O_ u.BZ
 aj6:Meth K t.mi O_ u.ZC
 aix:Meth K t.vz O_ u.ZD
 aj7:Meth K t.kN O_ u.BZ
 Qb:C6 K t.nJ t c_ d_ d_ d_ d_ d_
 Qc:C6 K t.nK t d_ c_ d_ d_ d_ d_
 Qa:C6 K t.lJ t d_ d_ c_ d_ d_ d_
 Pg:C6 K t.mj t d_ d_ d_ c_ d_ d_
 Pe:C6 K t.mi t d_ d_ d_ d_ c_ d_
 OD:C6 K t.vz t d_ d_ d_ d_ d_ d_
 Pf:C6 K t.kN t d_ d_ d_ d_ d_ c_
def ue(t:a9)(H:Hp)(v:V)(s:Tl):Prop:=∃z a dx,v=.ref z/\H z=a_ (.ins (eJ t s.1) dx<|gQ (.ref a) s.1<|s.2.map λ(n:Nat)=>V.int (n:Int))
def ue.keep{t:a9}(k:∀b C dx fs,H b=a_ (.ins C dx fs)->v=.ref b->H' b=a_ (.ins C dx fs))(h:ue t H v s):ue t H' v s:=by
 exact zB h λz a dx c h=>⟨z,a,dx,c,(k _ _ _ _ h c)⟩
def Dm(m:bx)(h:∀f∈([R_,M_,J_,aq1,H_,aq2]:List bx),m≠f)(v:V)(x:bx)(ps:List V):(gQ v x ps).lookup m=none:=by
 have h1:=h R_ (by simp);have h2:=h M_ (by simp);have h3:=h J_ (by simp);have h4:=h aq1 (by simp);have h5:=h H_ (by simp);have a:=h aq2 (by simp);unfold gQ
 repeat (first | (split;(simp only[gm,dt h1,dt h2,dt h3,dt h4,dt h5,dt a];rfl)) | (simp only[gm,dt h1,dt h2,dt h3,dt h4,dt h5,dt a];rfl))
def rO(s:Tl):Bool:=decide (s.1 = l_)||decide (s.1 = N_)
def NM(t:a9):eJ t Z_ = t.nJ:=by kernel_rfl
def ago(ns:List Nat):rO (Z_,ns)=false:=by show (decide ((Z_ : bx) = l_)||decide ((Z_ : bx) = N_))=_;decide +kernel
def NO(t:a9):eJ t T_ = t.nK:=by kernel_rfl
def agp(ns:List Nat):rO (T_,ns)=false:=by show (decide ((T_ : bx) = l_)||decide ((T_ : bx) = N_))=_;decide +kernel
def NL(t:a9):eJ t L_ = t.lJ:=by kernel_rfl
def agn(ns:List Nat):rO (L_,ns)=false:=by show (decide ((L_ : bx) = l_)||decide ((L_ : bx) = N_))=_;decide +kernel
def M'(t:a9):eJ t I_ = t.mj:=by kernel_rfl
def aeO(ns:List Nat):rO (I_,ns)=false:=by show (decide ((I_ : bx) = l_)||decide ((I_ : bx) = N_))=_;decide +kernel
def M7(t:a9):eJ t l_ = t.mi:=by kernel_rfl
def aeM(ns:List Nat):rO (l_,ns)=true:=by show (decide ((l_ : bx) = l_)||decide ((l_ : bx) = N_))=_;decide +kernel
def VU(t:a9):eJ t N_ = t.vz:=by kernel_rfl
def adU(ns:List Nat):rO (N_,ns)=true:=by show (decide ((N_ : bx) = l_)||decide ((N_ : bx) = N_))=_;decide +kernel
def M8(t:a9):eJ t Y_ = t.kN:=by kernel_rfl
def aeN(ns:List Nat):rO (Y_,ns)=false:=by show (decide ((Y_ : bx) = l_)||decide ((Y_ : bx) = N_))=_;decide +kernel
def aj5{t:a9}(T:zM K mg t u){sz:Nat}(g:fU sz s)(b:H z=a_ (.ins (eJ t s.1) dx<|gQ (.ref a) s.1<|s.2.map λ(n:Nat)=>V.int (n:Int))):∃C f fd pn sp,H z=a_ (.ins C dx<|gQ (.ref a) s.1<|s.2.map λ(n:Nat)=>V.int (n:Int))/\eO K C/\Meth K C O_ f/\aM P w K mg fi aS 1 f fd pn sp/\d5 K fd pn []/\∀(Q:VK)(E:XK),Q (.bl<|rO s) H->sp [.ref z] H Q E:=by
 cases g with
 | put r m h1 h2=>
  rw[ago];have b:=b;rw[NM]at b;exact⟨_,_,_,_,_,b,T.st.zG,T.alL,(Dd T.D'),T.z0,(λQ E q=>⟨z,xz,q⟩)⟩
 | add r m h1 h2=>
  rw[agp];have b:=b;rw[NO]at b;exact⟨_,_,_,_,_,b,T.st.xM,T.alM,(Dd T.D'),T.z0,(λQ E q=>⟨z,xz,q⟩)⟩
 | set r m h1 h2=>
  rw[agn];have b:=b;rw[NL]at b;exact⟨_,_,_,_,_,b,T.st.vJ,T.alK,(Dd T.D'),T.z0,(λQ E q=>⟨z,xz,q⟩)⟩
 | look r m h1 h2=>
  rw[aeO];have b:=b;rw[M']at b;exact⟨_,_,_,_,_,b,T.st.vw,T.aj8,(Dd T.D'),T.z0,(λQ E q=>⟨z,xz,q⟩)⟩
 | swap r m h1 h2=>
  rw[aeM];have b:=b;rw[M7]at b;exact⟨_,_,_,_,_,b,T.st.tZ,T.aj6,(ac8 T.ajS),T.Pu,(λQ E q=>⟨z,xz,q⟩)⟩
 | clear=>
  rw[adU];have b:=b;rw[VU]at b;exact⟨_,_,_,_,_,b,T.st.Dn,T.aix,(acU T.ajX),T.Pw,(λQ E q=>⟨z,xz,q⟩)⟩
 | skip r m h1 h2 h3=>
  rw[aeN];have b:=b;rw[M8]at b;exact⟨_,_,_,_,_,b,T.st.xC,T.aj7,(Dd T.D'),T.z0,(λQ E q=>⟨z,xz,q⟩)⟩
def OE{t:a9}(T:zM K mg t u){sz:Nat}(g:fU sz s)(b:H z=a_ (.ins (eJ t s.1) dx<|gQ (.ref a) s.1<|s.2.map λ(n:Nat)=>V.int (n:Int))):∃C:e_,iZ K H (.ref z) (.ref C)/\C6 K C t (decide<|s.1 = Z_) (decide<|s.1 = T_) (decide<|s.1 = L_) (decide<|s.1 = I_) (decide<|s.1 = l_) (decide<|s.1 = Y_):=by
 cases g with
 | put r m h1 h2=>
  have b:=b;rw[NM]at b;exact au _ (iZ.ins b T.st.zG T.Qb.cl T.gt T.tk T.Qb.mr) T.Qb
 | add r m h1 h2=>
  have b:=b;rw[NO]at b;exact au _ (iZ.ins b T.st.xM T.Qc.cl T.gt T.tk T.Qc.mr) T.Qc
 | set r m h1 h2=>
  have b:=b;rw[NL]at b;exact au _ (iZ.ins b T.st.vJ T.Qa.cl T.gt T.tk T.Qa.mr) T.Qa
 | look r m h1 h2=>
  have b:=b;rw[M']at b;exact au _ (iZ.ins b T.st.vw T.Pg.cl T.gt T.tk T.Pg.mr) T.Pg
 | swap r m h1 h2=>
  have b:=b;rw[M7]at b;exact au _ (iZ.ins b T.st.tZ T.Pe.cl T.gt T.tk T.Pe.mr) T.Pe
 | clear=>
  have b:=b;rw[VU]at b;exact au _ (iZ.ins b T.st.Dn T.OD.cl T.gt T.tk T.OD.mr) T.OD
 | skip r m h1 h2 h3=>
  have b:=b;rw[M8]at b;exact au _ (iZ.ins b T.st.xC T.Pf.cl T.gt T.tk T.Pf.mr) T.Pf
structure g8 where
 (k:bx) (c n:Nat) (got gave seen:Option Int)
noncomputable def oV:Option Int->V
 | none=>.aJ
 | some i=>.int i
def IE(a:g8):List V:=[.str a.k,.int (a.c:Nat),.int (a.n:Nat),oV a.got,oV a.gave,oV a.seen]
def lF(H:Hp)(v:V)(a:g8):Prop:=∃p,v=.ref p/\H p=a_ (.tup<|IE a)
structure Ck where
 (pl ct:Nat) (rg:List Int) (tn:Int) (es:List fT)
structure Mc where
 (kd:bx) (ps:List Pt) (ck:List Ck) (bd:List Int) (ac:List g8) (ov:List (List Int))
structure MA where
 (lt:e_) (ts:List (e_×e_×List e_)) (pg st pl ct rg:e_) (rs:List e_) (ce ac cm:e_) (cs:List e_)
def YF:List bx:=["at_end","may_do","carries","moves","do","do_step","do_set","do_look","do_swap",ac2,"come","on_board","settle","ended","where","steps_done","registers","waiting","board","deeds","deeds_done","deed_at","over","twin"]
structure xZ(fs:List (bx×V))(A:MA)(S:Mc):Prop where
 iH:fs.lookup ("trays":bx)=a_ (.ref A.lt)
 program:fs.lookup (W_ : bx)=a_ (.ref A.pg)
 kind:fs.lookup (S_ : bx)=a_ (.str S.kd)
 steps:fs.lookup ("steps":bx)=a_ (.ref A.st)
 places:fs.lookup ("places":bx)=a_ (.ref A.pl)
 counts:fs.lookup ("counts":bx)=a_ (.ref A.ct)
 gc:fs.lookup ("regs":bx)=a_ (.ref A.rg)
 cells:fs.lookup ("cells":bx)=a_ (.ref A.ce)
 iX:fs.lookup ("acts":bx)=a_ (.ref A.ac)
 nA:fs.lookup ("comers":bx)=a_ (.ref A.cm)
 ms:∀m∈YF,fs.lookup m=b_
 kY:fs.length<=20
abbrev nu(CT:e_)(kd:bx)(H:Hp)(x:e_×e_×List e_)(k:Ck):Prop:=dY H x.1 CT kd k.tn k.es x.2.1 x.2.2
def Bo(t:a9)(H:Hp)(v:V)(p:Pt):Prop:=∃b us,v=.ref b/\H b=a_ (.tup us)/\aA (ue t H) us p
structure bb(t:a9)(C CT:e_)(H:Hp)(m:e_)(A:MA)(S:Mc):Prop where
 obj:∃dx fs,H m=a_ (.ins C dx fs)/\xZ fs A S
 lt:H A.lt=a_ (.lst<|A.ts.map λx=>V.ref x.1)
 ts:aA (nu CT S.kd H) A.ts S.ck
 pg:xE H (.ref A.pg) S.ps
 st:∃vs,H A.st=a_ (.tup vs)/\aA (Bo t H) vs S.ps
 pl:H A.pl=a_ (.lst<|S.ck.map λk=>V.int (k.pl:Nat))
 ct:H A.ct=a_ (.lst<|S.ck.map λk=>V.int (k.ct:Nat))
 rg:H A.rg=a_ (.lst<|A.rs.map V.ref)
 rs:aA (λa(k:Ck)=>H a=a_ (.lst<|k.rg.map V.int)) A.rs S.ck
 ce:H A.ce=a_ (.lst<|S.bd.map V.int)
 ac:∃vs,H A.ac=a_ (.lst vs)/\aA (lF H) vs S.ac
 cm:H A.cm=a_ (.lst<|A.cs.map V.ref)
 cs:aA (λa(o:List Int)=>H a=a_ (.lst<|o.map V.int)) A.cs S.ov
structure kQ(fx:e_->Nat)(m:e_)(A:MA):Prop where
 m:fx m=2
 lt:fx A.lt=4
 pl:fx A.pl=6
 ct:fx A.ct=8
 rg:fx A.rg=10
 ce:fx A.ce=12
 ac:fx A.ac=14
 cm:fx A.cm=16
 rs:∀i a,A.rs[i]?=a_ a->fx a=24+6*i
 cs:∀i a,A.cs[i]?=a_ a->fx a=26+6*i
 ts:∀i x,A.ts[i]?=a_ x->∀b∈x.1::x.2.1::x.2.2,fx b=28+6*i
inductive cX (m:e_) (A:MA):e_->Prop
 | m:cX m A m
 | lt:cX m A A.lt
 | pl:cX m A A.pl
 | ct:cX m A A.ct
 | rg:cX m A A.rg
 | ce:cX m A A.ce
 | ac:cX m A A.ac
 | cm:cX m A A.cm
 | rs {a:e_}:a∈A.rs->cX m A a
 | cs {a:e_}:a∈A.cs->cX m A a
 | ts {x:e_×e_×List e_} {b:e_}:x∈A.ts->b∈x.1::x.2.1::x.2.2->cX m A b
structure aZ(F:e_->Prop)(H H':Hp):Prop where
 k:∀b o,¬F b->(∀ps,o≠.fX ps)->H b=a_ o->H' b=a_ o
 t:∀b,H' b=b_->H b=b_
def aZ.of(s:ak H H'):aZ F H H':=⟨λb o _ _ e=>s b o e,λb h=>s.free h⟩
def aZ.refl(H:Hp):aZ F H H:=⟨λ_ _ _ _ e=>e,λ_ h=>h⟩
def aZ.f4(a:aZ F H H1)(b:aZ F H1 H2):aZ F H H2:=⟨λc o h1 h2 e=>b.k c o h1 h2<|a.k c o h1 h2 e,λc h=>a.t c<|b.t c h⟩
def aZ.mono{F G:e_->Prop}(a:aZ F H H')(h:∀b,F b->G b):aZ G H H':=⟨λc o h1 h2 e=>a.k c o (λz=>h1<|h c z) h2 e,a.t⟩
def aZ.QN{G:e_->Prop}(a:iw F H H')(h:∀b∈F,G b):aZ G H H':=⟨λc o h1 h2 e=>a.k c o (λz=>h1<|h c z) h2 e,a.t⟩
def aZ.cB(h:F x):aZ F H (cB H x o):=⟨λb q n _ e=>by rw[ag λz=>n (by rw[z];exact h)];exact e,λb e=>by
 by_cases z:b=x
 .rw[z,av]at e;cases e
 .rwa[ag z]at e⟩
def iw.ofA(k:Ik (a::q::qr) H H')(T:dY H' a C kd tn es q qr):iw (a::q::qr) H H':=
 ⟨λc o h1 _ e=>k c o h1 e,λc h=>by
  by_cases z:c∈a::q::qr
  .refine oE (T.there c z) λo e=>?_;rw[e]at h;cases h
  rcases e:H c with _|o;rfl;rw[k c o z e]at h;cases h⟩
def yj:e_->Prop:=λ_=>False
theorem iO{c d:Type}{F:c->d->Prop}{G:c->d->Prop}:∀{l:List c}{r:List d},aA F l r->(∀(i:Nat)a b,l[i]?=a_ a->r[i]?=a_ b->F a b->G a b)->aA G l r
 | _,_,.nil,_=>.nil
 | _,_,.cons h t,k=>.cons (k 0 _ _ xz xz h) (iO t λi a b e f q=>k (i+1) a b (by simpa using e) (by simpa using f) q)
def Bo.keep{t:a9}(c:∀b xs,H b=a_ (.tup xs)->H' b=a_ (.tup xs))(d:∀b C dx fs,H b=a_ (.ins C dx fs)->(∃x ps v,C=eJ t x/\fs=gQ v x ps)->H' b=a_ (.ins C dx fs))(h:Bo t H v p):Bo t H' v p:=by
 exact cZ h λb us e h1 h2=>di b _ e (c _ _ h1) (df h2 λv s q=>zB q λz a dx f q=>⟨z,a,dx,f,(d _ _ _ _ q<|nN _ _<|au _ xz xz)⟩)
def lF.keep(k:∀b xs,H b=a_ (.tup xs)->H' b=a_ (.tup xs))(h:lF H v a):lF H' v a:=by
 exact aq h λp e h=>au p e<|k _ _ h
theorem tK{b a:Type}{F:b->a->Prop}:∀{l:List b}{r:List a}{i:Nat}{y:a},aA F l r->r[i]?=a_ y->∃x,l[i]?=a_ x/\F x y
 | _,_,_,_,.nil,e=>by simp at e
 | _,_,0,_,.cons h _,e=>by simp at e;subst e;exact⟨_,xz,h⟩
 | _,_,i+1,x,.cons _ t,e=>by
  exact aq (tK (i:=i) t<|by simpa using e) λy h1 h2=>au y (by simpa using h1) h2
theorem wW{a b:Type}{F:a->b->Prop}{c:List a}{d:List b}(h':aA F c d):∀{l:List a}{r:List b},aA F l r->aA F (l++c) (r++d)
 | _,_,.nil=>h'
 | _,_,.cons g t=>.cons g<|wW h' t
theorem qf{a c:Type}{F:a->c->Prop}:∀{l:List a}{m:List c}{b:a},aA F l m->b∈l->∃y,y∈m/\F b y
 | _,_,_,.nil,h=>by simp at h
 | _,_,_,.cons h t,e=>by
  obtain z|z:=bq.mp e
  .subst z;exact⟨_,by simp,h⟩
  exact aq (qf t z) λy d q=>au y (eI _ d) q
def bb.keep{t:a9}(M:bb t C CT H m A S)(k:∀b,cX m A b->∀o,H b=a_ o->H' b=a_ o)(a:∀b xs,H b=a_ (.tup xs)->H' b=a_ (.tup xs))(f:∀b C dx fs,H b=a_ (.ins C dx fs)->H' b=a_ (.ins C dx fs)):bb t C CT H' m A S:=by
 obtain⟨⟨dx,fs,h1,h2⟩,lt,ts,pg,⟨vs,s1,s2⟩,pl,ct,rg,rs,ce,⟨us,g,h⟩,cm,cs⟩:=M;exact⟨⟨dx,fs,k _ .m _ h1,h2⟩,k _ .lt _ lt,iO ts λi x c d _ q=>q.keep (λb j o e=>k b (.ts (bz d) j) o e) a,pg.keep a,⟨vs,a _ _ s1,df s2 λ_ _ q=>q.keep a λb C dx fs e _=>f b C _ _ e⟩,k _ .pl _ pl,k _ .ct _ ct,k _ .rg _ rg,iO rs λi x c d _ q=>k x (.rs<|bz d) _ q,k _ .ce _ ce,⟨us,k _ .ac _ g,df h λ_ _ q=>q.keep a⟩,k _ .cm _ cm,iO cs λi x c d _ q=>k x (.cs<|bz d) _ q⟩
def bb.Pd{t:a9}{F:e_->Prop}(M:bb t C CT H m A S)(k:aZ F H H')(d:∀b,F b->¬cX m A b/\∀o,H b=a_ o->∃xs,o=.lst xs):bb t C CT H' m A S:=by
 have f:∀b o,cX m A b->H b=a_ o->∀ps,o≠.fX ps:=by
  intro b o a e ps z;subst z;cases a with
  | m=>obtain⟨dx,fs,h,_⟩:=M.obj;rw[h]at e;cases e
  | lt=>rw[M.lt]at e;cases e
  | pl=>rw[M.pl]at e;cases e
  | ct=>rw[M.ct]at e;cases e
  | rg=>rw[M.rg]at e;cases e
  | ce=>rw[M.ce]at e;cases e
  | ac=>obtain⟨vs,h,_⟩:=M.ac;rw[h]at e;cases e
  | cm=>rw[M.cm]at e;cases e
  | rs h=>
   refine aq (qf M.rs h) λc _ q=>?_;rw[q]at e;cases e
  | cs h=>
   refine aq (qf M.cs h) λc _ q=>?_;rw[q]at e;cases e
  | ts h h2=>
   refine aq (qf M.ts h) λc _ q=>?_;rcases q.kinds _ h2 _ e with ⟨_,_,_,z⟩ | ⟨_,z⟩ <;> cases z
 refine M.keep (λb a o e=>k.k b o (λz=>(d b z).1 a) (f b o a e) e) (λb xs e=>k.k b _ (λz=>?_) (λps z=>by cases z) e) λb C dx fs e=>k.k b _ (λz=>?_) (λps z=>by cases z) e
 .refine oE ((d b z).2 _ e) λys q=>?_;cases q
 refine oE ((d b z).2 _ e) λys q=>?_;cases q
def bb.same{t:a9}(M:bb t C CT H m A S)(s:ak H H'):bb t C CT H' m A S:=M.keep (λb _ o e=>s b o e) (λb xs e=>s b _ e) λb C dx fs e=>s b _ e
def bb.vE{t:a9}(M:bb t C CT H m A S)(k:aZ yj H H'):bb t C CT H' m A S:=M.Pd k λb z=>z.elim
def iA{a b c m:Nat}(l:autoParam (a<b) a4):a≠b+m*c:=λh=>jR a<|f7 l<|h ▸ FE b _
def qG{a b c m:Nat}(l:autoParam (a<b) a4):b+m*c≠a:=λe=>iA (l:=l) e.f5
def ye{a b i c m:Nat}(l:autoParam (a%m≠b%m) a4):a+m*i≠b+m*c:=λh=>l (by rw[<-abc a m i,h,abc])
def BW(h:autoParam (i≠c) a2):a+(b+1)*i≠a+(b+1)*c:=λe=>h<|Nat.eq_of_mul_eq_mul_left (F5 b)<|Nat.add_left_cancel e
def gy(n:autoParam (a≠b) a4):a≠b:=n
def cg(c:p=a)(d:q=b)(n:a≠b):p≠q:=λh=>n<|c.f5.f4<|h.f4 d
def r6(b:p=a)(n:a≠q):p≠q:=λh=>n<|b.f5.f4 h
def cb{fx:e_->Nat}(h:fx a≠fx b):a≠b:=λe=>h (by rw[e])
def AW{a b:Type}{f:a->b}{r:List a}{c:Nat}{k k':a}(h:r[c]?=a_ k)(e:f k'=f k):(r.set c k').map f=r.map f:=by
 rw[F7,e];refine oE (bu.mp h) λd g=>?_;rw[<-g]
 exact uX λi=>by
  rw[ab9]
  split
  .rename_i hi
   subst hi
   split
   .rw[cH,aQ _];rfl
   rename_i hn;rw[aG]at hn;exact dV d hn
  rfl
theorem yS{f d:Type}{F:f->d->Prop}{b':d}:∀{l:List f}{r:List d}{c:Nat}{b:d},aA F l r->r[c]?=a_ b->(∀a,l[c]?=a_ a->F a b->F a b')->aA F l (r.set c b')
 | _,_,_,_,.nil,_,_=>.nil
 | _,_,0,b,.cons h t,e,k=>by
  simp only[List.getElem?_cons_zero,FC]at e;subst e;exact .cons (k _ xz h) t
 | _,_,c+1,b,.cons h t,e,k=>by
  rw[abl]at e;exact .cons h (yS t e λa ha=>k a<|by simpa using ha)
theorem F8{g f:Type}{F G:g->f->Prop}{b':f}:∀{l:List g}{r:List f}{c:Nat},aA F l r->(∀i a b,i≠c->l[i]?=a_ a->r[i]?=a_ b->F a b->G a b)->(∀a b,l[c]?=a_ a->r[c]?=a_ b->F a b->G a b')->aA G l (r.set c b')
 | _,_,_,.nil,_,_=>.nil
 | _,_,0,.cons h t,k,k'=>by
  refine .cons (k' _ _ xz xz h) (iO t λi a b d e q=>k (i+1) a b li (by simpa using d) (by simpa using e) q)
 | _,_,c+1,.cons h t,k,k'=>by
  refine .cons (k 0 _ _ li xz xz h) (F8 t (λi a b hi d e q=>k (i+1) a b li (by simpa using d) (by simpa using e) q) λa b d e q=>k' a b (by simpa using d) (by simpa using e) q)
theorem qe{c d:Type}{F:c->d->Prop}{a:c}{b:d}:∀{l:List c}{r:List d},aA F l r->F a b->aA F (l++[a]) (r++[b])
 | _,_,.nil,h=>.cons h .nil
 | _,_,.cons g t,h=>.cons g<|qe t h
section
variable{t:a9}{C CT:e_}{H:Hp}{m:e_}{A:MA}{S:Mc}{fx:e_->Nat}
def tT(a:H x=a_ (.lst xs)):∀b ys,H b=a_ (.tup ys)->cB H x o b=a_ (.tup ys):=λb ys e=>by rw[ag<|gv e a (by intro z;cases z)];exact e
def Bh(a:H x=a_ (.lst xs)):∀b C dx fs,H b=a_ (.ins C dx fs)->cB H x o b=a_ (.ins C dx fs):=λb C dx fs e=>by rw[ag<|gv e a (by intro z;cases z)];exact e
def NJ{PT x:e_}(a:H x=a_ (.lst xs))(h:dm PT pos q H):dm PT pos q (cB H x o):=
 CZ (F:=[x]) h (λb o' n e=>by rw[ag λz=>n (by rw[z];exact cR.mpr xz)];exact e) λb c o' e=>by rw[cR.mp c,a]at e;cases e;exact .inr ⟨_,xz⟩
def akL(M:bb t C CT H m A S)(L:kQ fx m A){c:Nat}{k:Ck}(h:S.ck[c]?=a_ k)(v:Nat):bb t C CT (cB H A.pl<|.lst<|(S.ck.map λk=>V.int (k.pl:Nat)).set c<|.int (v:Nat)) m A {S with ck:=S.ck.set c {k with pl:=v}}:=by
 obtain⟨⟨dx,fs,h1,h2⟩,lt,ts,pg,⟨vs,s1,s2⟩,pl,ct,rg,rs,ce,⟨us,j,l⟩,cm,cs⟩:=M;have d:=L.pl;have f:=tT (o:=.lst<|(S.ck.map λk=>V.int k.pl).set c<|.int v) pl;have h2:xZ _ A {S with ck:=S.ck.set c {k with pl:=v}}:=⟨h2.iH,h2.program,h2.kind,h2.steps,h2.places,h2.counts,h2.gc,h2.cells,h2.iX,h2.nA,h2.ms,h2.kY⟩
 exact⟨⟨dx,fs,(ag<|cb (fx:=fx)<|cg L.m d gy).f4 h1,h2⟩,(ag<|cb (fx:=fx)<|cg L.lt d gy).f4 lt,yS (iO ts λi x c g _ q=>dY.keep q (λb n o e=>(ag<|cb (fx:=fx)<|cg (L.ts i x g b n) d qG).f4 e) f) h λa _ q=>q,pg.keep f,⟨vs,f _ _ s1,df s2 λ_ _ q=>q.keep f λb C dx fs e _=>(Bh (o:=.lst<|(S.ck.map λk=>V.int k.pl).set c<|.int v) pl) b C dx fs e⟩,by
   rw[av,F7],by
   rw[AW (k':={k with pl:=v}) h rfl];exact(ag<|cb<|cg L.ct d gy).f4 ct,(ag<|cb (fx:=fx)<|cg L.rg d gy).f4 rg,yS (iO rs λi x c g _ q=>(ag<|cb (fx:=fx)<|cg (L.rs i x g) d qG).f4 q) h λa _ q=>q,(ag<|cb (fx:=fx)<|cg L.ce d gy).f4 ce,⟨us,(ag<|cb (fx:=fx)<|cg L.ac d gy).f4 j,df l λ_ _ q=>q.keep f⟩,(ag<|cb (fx:=fx)<|cg L.cm d gy).f4 cm,iO cs λi x c g _ q=>(ag<|cb (fx:=fx)<|cg (L.cs i x g) d qG).f4 q⟩
def akN(M:bb t C CT H m A S)(L:kQ fx m A){c:Nat}{k:Ck}(h:S.ck[c]?=a_ k)(v:Nat):bb t C CT (cB H A.ct<|.lst<|(S.ck.map λk=>V.int (k.ct:Nat)).set c<|.int (v:Nat)) m A {S with ck:=S.ck.set c {k with ct:=v}}:=by
 obtain⟨⟨dx,fs,h1,h2⟩,lt,ts,pg,⟨vs,s1,s2⟩,pl,ct,rg,rs,ce,⟨us,j,l⟩,cm,cs⟩:=M;have d:=L.ct;have f:=tT (o:=.lst<|(S.ck.map λk=>V.int k.ct).set c<|.int v) ct;have h2:xZ _ A {S with ck:=S.ck.set c {k with ct:=v}}:=⟨h2.iH,h2.program,h2.kind,h2.steps,h2.places,h2.counts,h2.gc,h2.cells,h2.iX,h2.nA,h2.ms,h2.kY⟩
 exact⟨⟨dx,fs,(ag<|cb (fx:=fx)<|cg L.m d gy).f4 h1,h2⟩,(ag<|cb (fx:=fx)<|cg L.lt d gy).f4 lt,yS (iO ts λi x c g _ q=>dY.keep q (λb n o e=>(ag<|cb (fx:=fx)<|cg (L.ts i x g b n) d qG).f4 e) f) h λa _ q=>q,pg.keep f,⟨vs,f _ _ s1,df s2 λ_ _ q=>q.keep f λb C dx fs e _=>(Bh (o:=.lst<|(S.ck.map λk=>V.int k.ct).set c<|.int v) ct) b C dx fs e⟩,by
   rw[AW (k':={k with ct:=v}) h rfl];exact(ag<|cb<|cg L.pl d gy).f4 pl,by
   rw[av,F7],(ag<|cb (fx:=fx)<|cg L.rg d gy).f4 rg,yS (iO rs λi x c g _ q=>(ag<|cb (fx:=fx)<|cg (L.rs i x g) d qG).f4 q) h λa _ q=>q,(ag<|cb (fx:=fx)<|cg L.ce d gy).f4 ce,⟨us,(ag<|cb (fx:=fx)<|cg L.ac d gy).f4 j,df l λ_ _ q=>q.keep f⟩,(ag<|cb (fx:=fx)<|cg L.cm d gy).f4 cm,iO cs λi x c g _ q=>(ag<|cb (fx:=fx)<|cg (L.cs i x g) d qG).f4 q⟩
def HP(M:bb t C CT H m A S)(L:kQ fx m A){c:Nat}{k:Ck}(h:S.ck[c]?=a_ k)(ha:A.rs[c]?=a_ a)(r:Nat)(v:Int):bb t C CT (cB H a<|.lst<|(k.rg.map V.int).set r<|.int v) m A {S with ck:=S.ck.set c {k with rg:=k.rg.set r v}}:=by
 obtain⟨⟨dx,fs,h1,h2⟩,lt,ts,pg,⟨vs,s1,s2⟩,pl,ct,rg,rs,ce,⟨us,p,s⟩,cm,cs⟩:=M
 have j:H a=a_ (.lst<|k.rg.map V.int):=by
  refine aq (F9 rs ha) λu l q=>?_;rw[h]at l;cases l;exact q
 have d:=L.rs c a ha;have g:=tT (o:=.lst<|(k.rg.map V.int).set r<|.int v) j;have h2:xZ _ A {S with ck:=S.ck.set c {k with rg:=k.rg.set r v}}:=⟨h2.iH,h2.program,h2.kind,h2.steps,h2.places,h2.counts,h2.gc,h2.cells,h2.iX,h2.nA,h2.ms,h2.kY⟩
 exact⟨⟨dx,fs,(ag<|cb (fx:=fx)<|cg L.m d iA).f4 h1,h2⟩,(ag<|cb (fx:=fx)<|cg L.lt d iA).f4 lt,yS (iO ts λi x c f _ q=>dY.keep q (λb n o e=>(ag<|cb (fx:=fx)<|cg (L.ts i x f b n) d ye).f4 e) g) h λa _ q=>q,pg.keep g,⟨vs,g _ _ s1,df s2 λ_ _ q=>q.keep g λb C dx fs e _=>(Bh (o:=.lst<|(k.rg.map V.int).set r<|.int v) j) b C dx fs e⟩,by
   rw[AW (k':={k with rg:=k.rg.set r v}) h rfl];exact(ag<|cb<|cg L.pl d iA).f4 pl,by
   rw[AW (k':={k with rg:=k.rg.set r v}) h rfl];exact(ag<|cb<|cg L.ct d iA).f4 ct,(ag<|cb (fx:=fx)<|cg L.rg d iA).f4 rg,F8 rs (λi x b hi f _ q=>(ag<|cb (fx:=fx)<|cg (L.rs i x f) d BW).f4 q) λx b f n q=>by
   rw[ha]at f;cases f;rw[av,F7],(ag<|cb (fx:=fx)<|cg L.ce d iA).f4 ce,⟨us,(ag<|cb (fx:=fx)<|cg L.ac d iA).f4 p,df s λ_ _ q=>q.keep g⟩,(ag<|cb (fx:=fx)<|cg L.cm d iA).f4 cm,iO cs λi x c f _ q=>(ag<|cb (fx:=fx)<|cg (L.cs i x f) d ye).f4 q⟩
def akO(M:bb t C CT H m A S)(L:kQ fx m A)(n:Nat)(v:Int):bb t C CT (cB H A.ce<|.lst<|(S.bd.map V.int).set n<|.int v) m A {S with bd:=S.bd.set n v}:=by
 obtain⟨⟨dx,fs,h1,h2⟩,lt,ts,pg,⟨vs,s1,s2⟩,pl,ct,rg,rs,ce,⟨us,g,h⟩,cm,cs⟩:=M;have a:=L.ce;have d:=tT (o:=.lst<|(S.bd.map V.int).set n<|.int v) ce;have h2:xZ _ A {S with bd:=S.bd.set n v}:=⟨h2.iH,h2.program,h2.kind,h2.steps,h2.places,h2.counts,h2.gc,h2.cells,h2.iX,h2.nA,h2.ms,h2.kY⟩
 exact⟨⟨dx,fs,(ag<|cb (fx:=fx)<|cg L.m a gy).f4 h1,h2⟩,(ag<|cb (fx:=fx)<|cg L.lt a gy).f4 lt,iO ts λi x c f _ q=>dY.keep q (λb j o e=>(ag<|cb (fx:=fx)<|cg (L.ts i x f b j) a qG).f4 e) d,pg.keep d,⟨vs,d _ _ s1,df s2 λ_ _ q=>q.keep d λb C dx fs e _=>(Bh (o:=.lst<|(S.bd.map V.int).set n<|.int v) ce) b C dx fs e⟩,(ag<|cb (fx:=fx)<|cg L.pl a gy).f4 pl,(ag<|cb (fx:=fx)<|cg L.ct a gy).f4 ct,(ag<|cb (fx:=fx)<|cg L.rg a gy).f4 rg,iO rs λi x c f _ q=>(ag<|cb (fx:=fx)<|cg (L.rs i x f) a qG).f4 q,by
   rw[av,F7],⟨us,(ag<|cb (fx:=fx)<|cg L.ac a gy).f4 g,df h λ_ _ q=>q.keep d⟩,(ag<|cb (fx:=fx)<|cg L.cm a gy).f4 cm,iO cs λi x c f _ q=>(ag<|cb (fx:=fx)<|cg (L.cs i x f) a qG).f4 q⟩
def OS(M:bb t C CT H m A S)(L:kQ fx m A){ws:List V}(hw:H A.ac=a_ (.lst ws))(f:lF H x a):bb t C CT (cB H A.ac<|.lst<|ws++[x]) m A {S with ac:=S.ac++[a]}:=by
 obtain⟨⟨dx,fs,h1,h2⟩,lt,ts,pg,⟨vs,s1,s2⟩,pl,ct,rg,rs,ce,⟨us,h,j⟩,cm,cs⟩:=M;obtain rfl:ws=us:=by rw[hw]at h;cases h;rfl
 have d:=L.ac;have g:=tT (o:=.lst<|ws++[x]) hw;have h2:xZ _ A {S with ac:=S.ac++[a]}:=⟨h2.iH,h2.program,h2.kind,h2.steps,h2.places,h2.counts,h2.gc,h2.cells,h2.iX,h2.nA,h2.ms,h2.kY⟩;exact⟨⟨dx,fs,(ag<|cb<|cg L.m d gy).f4 h1,h2⟩,(ag<|cb<|cg L.lt d gy).f4 lt,iO ts λi x c f _ q=>dY.keep q (λb k o e=>(ag<|cb<|cg (L.ts i x f b k) d qG).f4 e) g,pg.keep g,⟨vs,g _ _ s1,df s2 λ_ _ q=>q.keep g λb C dx fs e _=>(Bh (o:=.lst<|ws++[x]) hw) b C _ _ e⟩,(ag<|cb<|cg L.pl d gy).f4 pl,(ag<|cb<|cg L.ct d gy).f4 ct,(ag<|cb<|cg L.rg d gy).f4 rg,iO rs λi x c f _ q=>(ag<|cb<|cg (L.rs i x f) d qG).f4 q,(ag<|cb<|cg L.ce d gy).f4 ce,⟨ws++[x],av,qe (df j λ_ _ q=>q.keep g)<|f.keep g⟩,(ag<|cb<|cg L.cm d gy).f4 cm,iO cs λi x c f _ q=>(ag<|cb<|cg (L.cs i x f) d qG).f4 q⟩
def akM(M:bb t C CT H m A S)(L:kQ fx m A){n:Nat}(hn:S.ov[n]?=a_ ov)(ha:A.cs[n]?=a_ a)(d:Int):bb t C CT (cB H a<|.lst<|ov.map V.int++[.int d]) m A {S with ov:=S.ov.set n (ov++[d])}:=by
 obtain⟨⟨dx,fs,h1,h2⟩,lt,ts,pg,⟨vs,s1,s2⟩,pl,ct,rg,rs,ce,⟨us,p,r⟩,cm,cs⟩:=M
 have j:H a=a_ (.lst<|ov.map V.int):=by
  refine aq (F9 cs ha) λs k q=>?_;rw[hn]at k;cases k;exact q
 have f:=L.cs n a ha;have h:=tT (o:=.lst<|ov.map V.int++[.int d]) j;have h2:xZ _ A {S with ov:=S.ov.set n (ov++[d])}:=⟨h2.iH,h2.program,h2.kind,h2.steps,h2.places,h2.counts,h2.gc,h2.cells,h2.iX,h2.nA,h2.ms,h2.kY⟩
 exact⟨⟨dx,fs,(ag<|cb (fx:=fx)<|cg L.m f iA).f4 h1,h2⟩,(ag<|cb (fx:=fx)<|cg L.lt f iA).f4 lt,iO ts λi x c g _ q=>dY.keep q (λb l o e=>(ag<|cb (fx:=fx)<|cg (L.ts i x g b l) f ye).f4 e) h,pg.keep h,⟨vs,h _ _ s1,df s2 λ_ _ q=>q.keep h λb C dx fs e _=>(Bh (o:=.lst<|ov.map V.int++[.int d]) j) b C dx fs e⟩,(ag<|cb (fx:=fx)<|cg L.pl f iA).f4 pl,(ag<|cb (fx:=fx)<|cg L.ct f iA).f4 ct,(ag<|cb (fx:=fx)<|cg L.rg f iA).f4 rg,iO rs λi x c g _ q=>(ag<|cb (fx:=fx)<|cg (L.rs i x g) f ye).f4 q,(ag<|cb (fx:=fx)<|cg L.ce f iA).f4 ce,⟨us,(ag<|cb (fx:=fx)<|cg L.ac f iA).f4 p,df r λ_ _ q=>q.keep h⟩,(ag<|cb (fx:=fx)<|cg L.cm f iA).f4 cm,F8 cs (λi x b hi g _ q=>(ag<|cb (fx:=fx)<|cg (L.cs i x g) f BW).f4 q) λx b g l q=>by
   rw[ha]at g;cases g;rw[av,dN];rfl⟩
def Y1{c:Nat}{k:Ck}{x:e_×e_×List e_}{tn:Int}(M:bb t C CT H m A S)(L:kQ fx m A)(l:S.ck[c]?=a_ k)(r:A.ts[c]?=a_ x)(kp:iw (x.1::x.2.1::x.2.2) H H')(T:dY H' x.1 CT S.kd tn es x.2.1 x.2.2):bb t C CT H' m A {S with ck:=S.ck.set c {k with tn:=tn,es:=es}}:=by
 obtain⟨⟨dx,fs,h1,h2⟩,lt,ts,pg,⟨vs,s1,s2⟩,pl,ct,rg,rs,ce,⟨us,F,G⟩,cm,cs⟩:=M;refine aq (F9 ts r) λk0 B p=>?_;rw[l]at B;cases B;have d:∀b o,fx b≠28+6*c->(∀ps,o≠.fX ps)->H b=a_ o->H' b=a_ o:=λb o n z e=>kp.k b o (λh=>n<|(L.ts c x r) b h) z e;have j:∀b ys,H b=a_ _->H' b=a_ (.tup ys):=λb ys e=>kp.k b _ (λh=>by rcases p.kinds b h _ e with ⟨_,_,_,z⟩ | ⟨_,z⟩ <;> cases z) (λps z=>by cases z) e
 have I:∀b C dx fs,H b=a_ (.ins C dx fs)->(∃x ps v,C=eJ t x/\fs=gQ v x ps)->H' b=a_ (.ins C dx fs):=λb C dx fs e J=>kp.k b _ (λh=>by
  obtain⟨O,ps,v,_,s⟩:=J;subst s;obtain z|z:=bq.mp h
  .refine cZ p.obj λQ R u D _=>?_;rw[z,u]at e;cases e;rw[Dm S_ dk]at D;cases D
  obtain z|z:=bq.mp z
  .rw[z,p.qs]at e;cases e
  refine oE (wQ z) λi s=>oE s λhi N=>?_;obtain⟨U,u,_⟩:=p.kT i b (by rw[<-N];exact aQ _);rw[u]at e;cases e) (λps z=>by cases z) e
 have f:∀ys:List V,∀ps,HO.lst ys≠.fX ps:=λys ps z=>by cases z
 have h2:xZ _ A {S with ck:=S.ck.set c {k with tn:=tn,es:=es}}:=⟨h2.iH,h2.program,h2.kind,h2.steps,h2.places,h2.counts,h2.gc,h2.cells,h2.iX,h2.nA,h2.ms,h2.kY⟩;refine⟨⟨dx,fs,d _ _ (r6 L.m iA) (λps z=>by cases z) h1,h2⟩,d _ _ (r6 L.lt iA) (f _) lt,?_,pg.keep j,⟨vs,j _ _ s1,df s2 λ_ _ q=>q.keep j I⟩,?_,?_,d _ _ (r6 L.rg iA) (f _) rg,?_,d _ _ (r6 L.ce iA) (f _) ce,⟨us,d _ _ (r6 L.ac iA) (f _) F,df G λ_ _ q=>q.keep j⟩,d _ _ (r6 L.cm iA) (f _) cm,iO cs λi y b g _ q=>d _ _ (r6 (L.cs i y g) ye) (f _) q⟩
 .refine F8 ts (λi y b hi g _ q=>dY.keep q (λb' E o e=>d _ o (r6 (L.ts i y g _ E) BW) (λps z=>?_) e) j) λy b g h q=>?_
  .rcases q.kinds b' E _ e with ⟨_,_,_,w⟩ | ⟨_,w⟩ <;> (rw[z]at w;cases w)
  rw[r]at g;cases g;exact T
 .rw[AW (k':={k with tn:=tn,es:=es}) l rfl];exact d _ _ (r6 L.pl iA) (f _) pl
 .rw[AW (k':={k with tn:=tn,es:=es}) l rfl];exact d _ _ (r6 L.ct iA) (f _) ct
 exact yS (iO rs λi y b g _ q=>d _ _ (r6 (L.rs i y g) ye) (f _) q) l λa _ q=>q
end
structure fV(K:u_)(C:e_):Prop where
 cl:eO K C
 iH:bU K C "trays"
 program:bU K C W_
 kind:bU K C S_
 steps:bU K C "steps"
 places:bU K C "places"
 counts:bU K C "counts"
 gc:bU K C "regs"
 cells:bU K C "cells"
 iX:bU K C "acts"
 nA:bU K C "comers"
def jW{a:Type}{f:a->V}{r:List a}{c:Nat}{k:a}(h:r[c]?=a_ k):gd (r.map f) (c:Int)=a_ (f k):=bZ (by rw[cH,h];rfl)
def CY{l:List (e_×e_×List e_)}{c:Nat}{x:e_×e_×List e_}(h:l[c]?=a_ x):gd (l.map λx=>V.ref x.1) (c:Int)=a_ (.ref x.1):=jW h
structure i6(S:Mc):Prop where
 good:BD S.ps
 len:S.ck.length=S.ps.length
 bd:S.bd.length=12
 ov:S.ov.length=12
 rg:∀k∈S.ck,k.rg.length=4
 pl:∀(c:Nat)k p,S.ck[c]?=a_ k->S.ps[c]?=a_ p->k.pl<=p.length
 ac:S.ac.length<=15000
 es:∀k∈S.ck,k.es.length<=S.ac.length
section
variable{t:a9}{C CT:e_}{H:Hp}{m:e_}{A:MA}{S:Mc}
def bb.xR(M:bb t C CT H m A S){c:Nat}{k:Ck}(h:S.ck[c]?=a_ k):∃x,A.ts[c]?=a_ x/\nu CT S.kd H x k:=tK M.ts h
def bb.gc(M:bb t C CT H m A S){c:Nat}{k:Ck}(h:S.ck[c]?=a_ k):∃a,A.rs[c]?=a_ a/\H a=a_ (.lst<|k.rg.map V.int):=tK (F:=λa k=>H a=a_ (.lst<|k.rg.map V.int)) M.rs h
def bb.over(M:bb t C CT H m A S){n:Nat}(h:S.ov[n]?=a_ o):∃a,A.cs[n]?=a_ a/\H a=a_ (.lst<|o.map V.int):=tK (F:=λa o=>H a=a_ (.lst<|o.map V.int)) M.cs h
def bb.part(M:bb t C CT H m A S){c:Nat}(h:S.ps[c]?=a_ p):∃vs b us,H A.st=a_ (.tup vs)/\vs[c]?=a_ (.ref b)/\H b=a_ (.tup us)/\aA (ue t H) us p:=by
 refine aq M.st λvs h1 h2=>aq (tK h2 h) λv d a=>cZ a λb us a h3 h4=>?_;subst a;exact⟨vs,b,us,h1,d,h3,h4⟩
end
section
variable{t:a9}{C CT:e_}
def Xi(t:a9)(C CT:e_):Sp:=λvs H Q _=>∃m A S c k p,vs=[.ref m,.int (c:Nat)]/\bb t C CT H m A S/\S.ck[c]?=a_ k/\S.ps[c]?=a_ p/\p.length<=1000/\Q (.bl<|decide<|k.pl=p.length) H
def ahp:bj g5 g5 (aU Og):=bG
def xv(a b:Nat):decide (V.int (a:Int)=V.int (b:Int))=decide (a=b):=decide_eq_decide.mpr ⟨λz=>by injection z with z;lia,λz=>by rw[z]⟩
def af7(F:aW K "at_end" "Machine.at_end" Og f fd)(e:mg aq6 = b_)(a:fV K C):aM P w K mg fi aS 1 f fd g5 (Xi t C CT):=by
 refine F.ok ahp λaN A _ s H vs Q E l h=>?_;obtain⟨m,A,S,c,k,p,d,M,g,i,j⟩:=h;subst d;refine oA j λn q=>rZ (aB<|a8<|xt dF (aO cG (bT (pv 0) xz)<|pv 1) (bw dE xz e q_<|ae (aO cw (bT (pv 0) xz)<|pv 1) af)<|bo _) (b9 (id M.obj) λdx fs hm G=>fE (M.part i) λvs b us h1 h2 d=>oA d λh3 h4=>vF xz hm a.cl a.places G.places<|vr xz<|rL (ao.of M.pl) (jW g)<|vF xz hm a.cl a.steps G.steps<|vr xz<|rT (aF.of h1) (bZ h2)<|qo b _ xz (.inr<|aF.of h3) xz ?_);rw[r_ h4,xv];exact q
def Bi(t:a9)(C CT:e_):Sp:=λvs H Q _=>∃m A S,vs=[.ref m]/\bb t C CT H m A S/\∀l ws,H l=b_->aA (lF H) ws S.ac->Q (.ref l) (cB H l<|.lst ws)
def ahn:bj fC fC (aU Ob):=bG
def af5(F:aW K "deeds" "Machine.deeds" Ob f fd)(b:mg "list"=b_)(a:fV K C):aM P w K mg fi aS 1 f fd fC (Bi t C CT):=by
 refine F.ok ahn λaN A _ s H vs Q E e h=>?_;refine fE h λm A S c M q=>?_;subst c;exact rZ (aB<|a8<|q8 LD xz b Bc<|ae (bT (pv 0) xz) af) (b9 (id M.obj) λdx fs hm G=>aq M.ac λws h1 h2=>vF xz hm a.cl a.iX G.iX ⟨A.ac,⟨_,xz,.inl<|ao.of h1,λl d=>q l _ d h2⟩⟩)
def Hu(t:a9)(C CT:e_):Sp:=λvs H Q _=>∃m A S n o,vs=[.ref m,.int (n:Nat)]/\bb t C CT H m A S/\S.ov[n]?=a_ o/\∀l,H l=b_->Q (.ref l) (cB H l<|.lst<|o.map V.int)
def aiZ:bj gi gi (aU O3):=bG
def ahQ(F:aW K "over" "Machine.over" O3 f fd)(d:mg "list"=b_)(c:fV K C):aM P w K mg fi aS 1 f fd gi (Hu t C CT):=by
 refine F.ok aiZ λaN A _ s H vs Q E g h=>?_;refine f9 h λm A S n o b=>nF b λb M hn q=>?_;subst b;exact rZ (aB<|a8<|q8 LD xz d Bc<|ae (aO cG (bT (pv 0) xz)<|pv 1) af) (b9 (id M.obj) λdx fs hm G=>aq (M.over hn) λa ha e=>vF xz hm c.cl c.nA G.nA<|vr xz<|rL (ao.of M.cm) (jW ha) ⟨a,⟨_,xz,.inl<|ao.of e,q⟩⟩)
def LZ(t:a9)(C CT:e_):Sp:=λvs H Q _=>∃m A S c k,vs=[.ref m,.int (c:Nat)]/\bb t C CT H m A S/\S.ck[c]?=a_ k/\k.es.length<64/\∀H' l us,ak H H'->H l=b_->H' l=a_ (.lst us)->us.length=k.es.length->Q (.ref l) H'
def aee:bj g5 g5 (aU ME):=bG
def adE(F:aW K "waiting" "Machine.waiting" ME f fd)(b:fV K C)(d:nC K CT)(e:aM P w K mg fi aS 1 fL fdL fC (Wb CT))(g:d5 K fdL fC [])(i:Meth K CT "listed" fL):aM P w K mg fi aS 2 f fd g5 (LZ t C CT):=by
 refine F.ok aee λaN A _ s H vs Q E j h=>?_;refine f9 h λm A S c k a=>oj a λa M l n q=>?_;subst a;exact rZ (aB<|a8<|Gw (aO cG (bT (pv 0) xz)<|pv 1) d.cl i e j g .nil dh) (b9 (id M.obj) λdx fs hm G=>aq (M.xR l) λx o T=>dO (id T.obj) λr u ea v y z p el=>vF xz hm b.cl b.iH G.iH<|vr xz<|rL (ao.of M.lt) (CY o)<|rM ea (p _ dk)<|⟨x.1,_,_,_,_,(lE _ xz T n q)⟩)
end
abbrev Mv:=bx×List Int
noncomputable def yh(a:Mv):List V:=.str a.1::a.2.map V.int
def pK(H:Hp)(v:V)(a:Mv):Prop:=∃p,v=.ref p/\H p=a_ (.tup<|yh a)
def pK.keep(k:∀b xs,H b=a_ (.tup xs)->H' b=a_ (.tup xs))(h:pK H v mv):pK H' v mv:=by
 exact aq h λp e h=>au p e<|k _ _ h
def aZ.tup(k:aZ F H H')(h:∀b,F b->∀xs,H b≠a_ (.tup xs)):∀b xs,H b=a_ (.tup xs)->H' b=a_ (.tup xs):=λb xs e=>k.k b _ (λz=>h b z _ e) (λps z=>by cases z) e
def aZ.PL(k:aZ yj H H'):∀b xs,H b=a_ (.tup xs)->H' b=a_ (.tup xs):=k.tup λb z=>z.elim
def aZ.xU(k:aZ yj H H')(e:H b=a_ (.lst xs)):H' b=a_ (.lst xs):=k.k b _ (λz=>z) (λps z=>by cases z) e
def rV(k:Ck)(p:Pt):Bool:=match p[k.pl]? with
 | none=>d_
 | some s=>decide (k.es=[])||!rO s
def D0(kd:bx)(x:Ck×Nat):List Mv:=(iT kd x.1.es).map λn=>((ac2 : bx),[(x.2:Int),n])
def xY(kd:bx)(l:List (Ck×Nat)):List Mv:=l.flatMap<|D0 kd
def ly(S:Mc):List Mv:=xY S.kd S.ck.zipIdx
def zK(S:Mc)(c:Nat):Bool:=match S.ck[c]?,S.ps[c]? with
 | some k,a_ p=>rV k p
 | _,_=>d_
def xX(S:Mc)(n:Nat):List Mv:=((List.range n).filter<|zK S).map λ(c:Nat)=>(("do":bx),[(c:Int)])
def pj(S:Mc):List Mv:=xX S S.ck.length++ly S
def U6(kd:bx)(es:List fT):(iT kd es).length<=12:=by
 unfold iT
 split
 .cases es.head? <;> simp
 unfold nB;rw[aG];exact cF (qW _ _)<|jB▸aD _
theorem GK(kd:bx):∀l:List (Ck×Nat),(xY kd l).length<=12*l.length
 | []=>by simp[xY]
 | x::l=>by
  have h:=GK kd l;unfold xY at h ⊢;rw[TJ,ba,gI];have h2:(D0 kd x).length<=12:=by unfold D0;rw[aG];exact U6 _ _
  lia
section
variable{t:a9}{C CT:e_}{u:pQ}
def Xb(t:a9)(C CT:e_):Sp:=λvs H Q _=>∃m A S c k p,vs=[.ref m,.int (c:Nat)]/\bb t C CT H m A S/\S.ck[c]?=a_ k/\S.ps[c]?=a_ p/\p.length<=1000/\k.pl<=p.length/\(∀s∈p,∃sz,fU sz s)/\∀H',ak H H'->Q (.bl<|rV k p) H'
def Xm:bj gl g5 (aU N8):=bG
def afZ(F:aW K "may_do" "Machine.may_do" N8 f fd)(g:fV K C)(J:nC K CT)(O:zM K mg t u)(L:Mt P w K mg fi C 1 "at_end" g5 (Xi t C CT))(o:Mt P w K mg fi CT 1 "is_empty" fC (Xf CT)):aM P w K mg fi aS 2 f fd g5 (Xb t C CT):=by
 refine F.ok Xm λaN A _ s H vs Q E r h=>?_
 obtain⟨m,A,S,c,k,p,j,M,y,D,N⟩:=h;subst j;refine nF N λR hle U q=>?_;refine let d:TS:=_;⟨_,ay (bX (gu<|jX (pv 0) g.cl L r<|ae (pv 1) af) (aB<|a8 iV) cj)<|pR d<|ay (bP (i:=2) Xm.nd xz (aL xz)<|aO cw (aO cw (bT (pv 0) xz)<|pv 1)<|aO cG (bT (pv 0) xz)<|pv 1)<|aB<|a8<|ak7 (Gw (aO cG (bT (pv 0) xz)<|pv 1) J.cl o.m o.G r o.b .nil dh)<|Bu<|Om<|afL (pv 2) r dh,b9 (id M.obj) λdx fs hm G=>aq (M.xR y) λx W T=>dO (id T.obj) λwK sQ ea e1 e2 e3 X el=>fE (M.part D) λvs b us h1 h2 j=>oA j λh3 h4=>vM xz hm (G.ms _ dk)<|vr xz<|⟨m,A,S,c,k,p,xz,M,y,D,R,(tk<|bQ (λl=>?_) λl=>?_)⟩⟩
 .have e:rV k p=false:=by unfold rV;rw[pY li]
  have q:=q H<|ak.f8 H;rw[e]at q;exact q
 have I:k.pl<p.length:=li;have B:=aQ I;refine aq (tK h4 B) λv Y j=>zB j λz a Z j hz=>?_;subst j;refine oE (U _<|FH I) λsz gs=>au _ xz<|eh m C _ _<|lC _ xz hm g.cl g.steps G.steps<|vr xz<|rT (aF.of h1) (bZ h2)<|vF xz hm g.cl g.places G.places<|vr xz<|rL (ao.of M.pl) (jW y)<|rT (aF.of h3) (bZ Y)<|au _ xz<|eh m C _ _<|lC _ xz hm g.cl g.iH G.iH<|vr xz<|rL (ao.of M.lt) (CY W)<|rM ea (X _ dk)<|⟨x.1,_,_,_,_,(c8 _ xz T λH1 s1=>(tk<|bQ (λl=>?_) λl=>?_))⟩
 .have e:rV k p=true:=by unfold rV;rw[B];rw[ee l];rfl
  have q:=q _ s1;rw[e]at q;exact q
 have e:rV k p=!rO p[k.pl]:=by unfold rV;rw[B];rw[eF l];rfl
 have q:=q _ s1;rw[e]at q;exact LJ (aj5 O gs<|s1 _ _ hz) λC1 f1 fd1 pn sp hc cl me G1 bi q1=>au _ xz<|⟨z,C1,Z,_,f1,fd1,pn,sp,xz,hc,Dm O_ dk (.ref a) p[k.pl].1 (p[k.pl].2.map λ(n:Nat)=>V.int n),cl,me,G1,⟨bi,(q1 _ _ ⟨_,xz,q⟩)⟩⟩
def L7(t:a9)(C CT PT:e_):Sp:=λvs H Q _=>∃m A S,vs=[.ref m]/\bb t C CT H m A S/\S.ck.length<=4/\dm PT LP LQ H/\∀H' l vs,aZ yj H H'->dm PT LP LQ H'->H l=b_->H' l=a_ (.lst vs)->aA (pK H') vs (ly S)->Q (.ref l) H'
def Gf:bj [Q_,"found",X_,"tray"] fC (aU MM):=bG
def alo:([X_,H_]:List bx).Nodup:=dk
def adJ{f PT:e_}(F:aW K "carries" "Machine.carries" MM f fd)(cM:fV K C)(cT:nC K CT)(uM:mg "enumerate"=b_)(DF:Mt P w K mg fi CT 2 "fronts" fC (Mx CT PT)):aM P w K mg fi aS 3 f fd fC (L7 t C CT PT):=by
 refine F.ok Gf λaN A _ s H vs Q E hr h=>?_
 obtain⟨m,A,S,aa,M,h4,hL,q⟩:=h;subst aa
 refine let a:TS:=_;let d:TS:=_;⟨_,ay (bP (i:=1) Gf.nd xz (aL xz)<|dP af) (pR d (ay (ik gJ xz (zf (b:=c_) xz uM<|ae (bT (pv 0) xz) af) (nz xz<|eT (bC (i:=2) Gf.nd xz<|pA xz)<|eT (bC (i:=3) Gf.nd xz<|aL xz) ni) (pR a (aB (dC (je m_ PySem.F.slot_list_extend PySem.F.type_list_extend Gi (pv 1) (ae (jc (N:=[X_,H_]) (idx:=[2]) xz (dJ.of<|by kernel_rfl) (jr<|aD _)
    (rB<|ph (pv 3) cT.cl DF hr) (λ_ _ _ _=>bC (i:=1) alo xz (aL xz)<|.inr xz) (λ_ _ _ _=>jD) λ_ _ _ _=>fA<|ae cU<|ae (pv 0)<|ae (pv 1) af) af))))))
  (aB<|a8<|pv 1))),?_⟩
 refine b9 (id M.obj) λdx fs hm G=>⟨qc,λlw nw=>?_⟩;have I:ak H (cB H _<|.lst []):=aH (ak.f8 _) nw;have hlen:=r_ M.ts;have hlm:(A.ts.map λx=>V.ref x.1).length=A.ts.length:=aG _;refine vF xz (I _ _ hm) cM.cl cM.iH G.iH ⟨A.lt,⟨_,xz,ao.of<|I _ _ M.lt,?_⟩⟩
 let W1:IV:=λi σ H'=>i<=A.ts.length/\∃c y vs,σ=[a_ (.ref m),a_<|.ref lw,c,y]/\aZ yj H H'/\dm PT LP LQ H'/\H' lw=a_ (.lst vs)/\aA (pK H') vs (xY S.kd<|S.ck.zipIdx.take i)
 refine DJ (n:=A.ts.length) W1 ⟨aY _,b_,b_,[],xz,aZ.of I,lX hL I,av,.nil⟩ ?_ ?_ ?_ ?_
 .rintro i σ H' hi ⟨_,_,_,_,_,kp,_,_,_⟩;exact fh _ _ (ao.of<|kp.xU M.lt) (by rw[cH,aQ hi];rfl)
 .rintro σ H' ⟨_,_,_,_,_,kp,_,_,_⟩;exact au _ (ao.of<|kp.xU M.lt)<|hlm▸aD _
 .rintro i σ O hi ⟨_,c,y,vs,rfl,kp,R,hw,B⟩ z H2 ⟨r,x,eG,ez,U,fu⟩;subst ez;subst U;have sD:=fu _<|ao.of<|kp.xU M.lt;rw[cH,aQ hi]at sD;cases sD;have s2:ak _ (cB _ r<|.tup [.int i,.ref A.ts[i].1]):=aH (ak.f8 _) eG;have W:=s2 _ _ hw;have aaw:=df B λ_ _ q=>pK.keep (λb xs e=>s2 _ _ e) q;have sO:=lX R s2;have hrt:cB O r _ r=a_ (.tup [.int i,.ref A.ts[i].1]):=av;generalize cB _ r _=H2 at s2 W aaw sO hrt ⊢;have X:=kp.f4<|aZ.of s2;have hck:=wf;refine aq ((M.vE X).xR<|aQ hck) λx' mI T=>?_;rw[aQ hi]at mI;cases mI;refine dO (id T.obj) λwK sQ ea e1 e2 e3 em el=>⟨r,⟨_,xz,aF.of hrt,xz,.int i,[.ref A.ts[i].1],xz,.ref A.ts[i].1,[],xz,xz,vr xz ⟨.inl ⟨xz,_,ao.of W⟩,⟨_,xz,_,wK,sQ,xz,ea,em _ dk,_,_,_,_,_,_,xz,T,sO,λH3 lf k3 wI nf J=>?_⟩⟩⟩⟩;have Y:aZ yj _ H3:=aZ.QN k3 λb hb=>nomatch hb;refine c8 _ xz ⟨_,ao.of J⟩ ?_;have RZ:=U6 S.kd S.ck[i].es;refine gC (n:=(iT S.kd S.ck[i].es).length) (λj ys g=>j<=(iT S.kd S.ck[i].es).length/\ak H3 g/\aA (pK g) ys (((iT S.kd S.ck[i].es).take j).map λn=>((ac2 : bx),[(i:Int),n]))) (dH<|ic w4) (eM (aY _) (ak.f8 _) .nil) ?_ ?_ ?_ ?_ ?_
  .rintro j ys g ⟨_,_,e⟩;rw[r_ e,aG,dn];exact xl
  .rintro j ys g D ⟨_,l,_⟩;exact fh _ _ (ao.of<|l _ _ J) (by rw[cH,aQ D];rfl)
  .rintro ys g ⟨_,l,_⟩;exact au _ (ao.of<|l _ _ J) (by rw[aG];exact aD _)
  .rintro j ys g D ⟨_,l,e⟩ v H5 ⟨U,hv1⟩;subst U;have hv:=hv1 _<|ao.of<|l _ _ J;rw[cH,aQ D]at hv;cases hv;refine au _ xz<|vr xz ⟨(sl (n:=3)),(λtp ht=>⟨D,aH l ht,?_⟩)⟩;rw[jP,aQ D,dN];exact qe (df e λ_ _ q=>q.keep λb xs e=>aH (ak.f8 _) ht _ _ e)<|au _ xz av
  rintro ys g ⟨_,l,e⟩;rw[jA<|aD _]at e;refine⟨by rw[r_ e,aG];exact dH<|ic li,λrl gz=>?_⟩;have L:=aH (o:=.lst ys) l gz;have Z:=L _ _<|Y.xU W;have cl:=GK S.kd<|S.ck.zipIdx.take i;rw[dn]at cl;refine⟨lw,rl,vs,ys,xz,xz,Z,av,?_,hi,(nN _ _<|fG _ xz ?_ ?_ av ?_)⟩
  .rw[(r_ B),r_ e,aG];exact dH<|ic li
  .have kk:=Y.f4<|aZ.of L;refine⟨λb o nb nt p=>?_,λb p=>(X.f4 kk).t b ?_⟩
   .have:b≠lw:=a7 p nw;rw[ag this];exact(X.f4 kk).k b o nb nt p
   by_cases z:b=lw
   .rw[z,av]at p;cases p
   rwa[ag z]at p
  .exact NJ Z (lX wI L)
  have et:S.ck.zipIdx.take (i+1)=S.ck.zipIdx.take i++[(S.ck[i],i)]:=by
   rw[jP,List.getElem?_zipIdx,aQ hck];simp
  rw[et];unfold xY;rw[wR,TJ,acm,gj];have kt5:∀b xs,cB g rl (.lst ys) b=a_ (.tup xs)->cB (cB g rl<|.lst ys) lw (.lst<|vs++ys) b=a_ (.tup xs):=λb xs e=>by rw[ag<|gv e Z (by intro z;cases z)];exact e
  exact wW (df e λ_ _ q=>q.keep λb xs e=>kt5 b xs<|aH (ak.f8 _) gz _ _ e) (df aaw λ_ _ q=>(q.keep Y.PL).keep λb xs e=>kt5 b xs<|L _ _ e)
 rintro σ O ⟨_,c,y,vs,rfl,kp,R,hw,B⟩;rw[jA (by rw[Tv];lia)]at B;exact vr xz<|q O lw vs kp R nw hw B
end
def KL(H H':Hp):Prop:=∀b o,(∀xs,o≠.lst xs)->H b=a_ o->H' b=a_ o
def KL.f4(a:KL H H1)(b:KL H1 H2):KL H H2:=λc o n e=>b c o n<|a c o n e
def KL.of(s:ak H H'):KL H H':=λb o _ e=>s b o e
def KL.cB(a:H x=a_ (.lst xs)):KL H (cB H x o):=λb q n e=>by
 rw[ag λz=>?_]
 .exact e
 .rw[z,a]at e;cases e;exact n _ xz
def KL.lam(k:KL H H'){PT:e_}(h:dm PT pos q H):dm PT pos q H':=by
 refine aq h λps b a=>au _ (k _ _ (λxs z=>by cases z) b) ?_;obtain e|⟨c,e,a⟩:=a
 .exact .inl e
 exact .inr (au c e<|k _ _ (λxs z=>by unfold B1 at z;cases z) a)
def KL.tup(k:KL H H'):∀b xs,H b=a_ (.tup xs)->H' b=a_ (.tup xs):=λb xs e=>k b _ (λys z=>by cases z) e
noncomputable def rE(S:Mc)(n:Nat)(num d:Int):Mc:={S with bd:=S.bd.set n num,ov:=S.ov.set n (S.ov.getD n []++[d])}
def jG(S:Mc)(c n:Nat):Mc:=match S.ck[c]? with
 | none=>S
 | some k=>match (cq k.es n).head? with
  | none=>S
  | some e=>rE {S with ck:=S.ck.set c {k with es:=jH k.es n}} n e.num e.d
def DQ(S:Mc)(n:Nat):List V:=[.int (n:Nat),.int<|S.bd.getD n 0,oV (S.ov.getD n []).getLast?]
def jE{a:Type}{l:List a}{n:Nat}{x d:a}(h:l[n]?=a_ x):l.getD n d=x:=by rw[mU,h];rfl
section
variable{t:a9}{C CT:e_}{u:pQ}
def N0(t:a9)(C CT:e_):Sp:=λvs H Q _=>∃m A S st n num d fx,vs=[.ref m,.ref st]/\bb t C CT H m A S/\kQ fx m A/\H st=a_ (.tup [.int (n:Nat),.int num,.int d])/\n<12/\S.bd.length=12/\S.ov.length=12/\(∀o∈S.ov,o.length<=16000)/\
 ∀H',bb t C CT H' m A (rE S n num d)->aZ (cX m A) H H'->KL H H'->Q .aJ H'
def Yn:bj [Q_,aq5,H_] [Q_,aq5] (aU O8):=bG
def vG(h:j<n):pO n (j:Int)=a_ j:=by
 unfold pO
 first | (rw[dL _];simp;done) | (simp;exact w0)
def ahV(F:aW K "come" "Machine.come" O8 f fd)(e:fV K C):aM P w K mg fi aS 1 f fd [Q_,aq5] (N0 t C CT):=by
 refine F.ok Yn λaN A _ s H vs Q E x h=>?_;refine f9 h λm A S st n c=>fE c λnum d fx c M l=>?_;subst c;refine qk l λL cV hn o y c=>oA c λp q=>?_;refine let b:TS:=_;⟨_,ay (bP (i:=2) Yn.nd xz (aL xz)<|aO cw (pv 1) ax)<|pR b<|ay (Bs (aO cw (pv 1) ax)<|Bt (bT (pv 0) xz) (pv 2) set_list)<|aB<|dC<|je m_ n_ o_ m5 (aO cG (bT (pv 0) xz)<|pv 2)<|ae (aO cw (pv 1) ax) af,?_⟩;refine b9 (id M.obj) λdx fs hm G=>iI xz cV xz<|iI xz cV xz<|vF xz hm e.cl e.cells G.cells<|vr xz<|⟨A.ce,_,_,n,xz,xz,M.ce,(vG<|by rw[aG,o];exact hn),?_⟩;have M1:=akO M L n num;have k:aZ (cX m A) H (cB H _<|.lst<|(S.bd.map V.int).set n<|.int num):=aZ.cB .ce;have l1:KL H (cB H _<|.lst<|(S.bd.map V.int).set n<|.int num):=KL.cB M.ce;generalize cB H _ _=H1 at M1 k l1 ⊢;refine b9 (id M1.obj) λz B r v=>?_;have g:=aQ wg;refine aq (M1.over g) λa ha j=>au _ xz<|eh m C _ _<|lC _ xz r e.cl e.nA v.nA<|vr xz<|rL (ao.of M1.cm) (jW ha) ⟨.inl ⟨xz,_,ao.of j⟩,(iI xz ((l1.tup _ _ cV)) xz ?_)⟩;have D:=p _<|bz g;refine nN a _<|fG _ xz xz j (by rw[aG,eA];exact wb) ?_;have M2:=akM M1 L g ha d;refine q _ ?_ (k.f4<|aZ.cB<|.cs<|bz ha)<|l1.f4<|KL.cB j;unfold rE;rw[jE g];exact M2
def L6(t:a9)(C CT:e_):Sp:=λvs H Q _=>∃m A S n,vs=[.ref m,.int (n:Nat)]/\bb t C CT H m A S/\n<12/\S.bd.length=12/\S.ov.length=12/\∀a,H a=b_->Q (.ref a) (cB H a<|.tup<|DQ S n)
def Vr:bj [Q_,H_,"comers"] gi (aU MK):=bG
def adI(F:aW K "on_board" "Machine.on_board" MK f fd)(b:fV K C)(x:mg aq6 = b_):aM P w K mg fi aS 1 f fd gi (L6 t C CT):=by
 refine F.ok Vr λaN A _ s H vs Q E J h=>?_
 obtain⟨m,A,S,n,y,M,hn,L,N,q⟩:=h;subst y;refine⟨_,ay (bP (i:=2) Vr.nd xz (aL xz)<|aO cG (bT (pv 0) xz)<|pv 1)<|aB<|a8<|fA<|ae (pv 1)<|ae (aO cG (bT (pv 0) xz)<|pv 1)<|ae (MP (bA dF (bw dE xz x q_<|ae (pv 2) af) ax<|bo _) og<|aO cG (pv 2)<|HW Hs ax) af,?_⟩;refine b9 (id M.obj) λdx fs hm G=>?_;have g:=aQ wg;have p:S.bd[n]?=a_ (S.bd[n]'wg):=aQ wg;refine aq (M.over g) λa ha j=>?_
 have k:∀v,oV (S.ov[n]'wg).getLast?=v->∀c,H c=b_->Q (.ref c) (cB H c<|.tup [.int (n:Nat),.int<|S.bd[n]'wg,v]):=λv B c D=>by
  have q:=q _ D;unfold DQ at q;rw[jE g,jE p,B]at q;exact q
 generalize S.ov[n]'wg=o at g j k;refine vF xz hm b.cl b.nA G.nA<|vr xz<|rL (ao.of M.cm) (jW ha)<|au _ xz<|vF xz hm b.cl b.cells G.cells<|vr xz<|rL (ao.of M.ce) (jW p)<|vr xz ⟨a,⟨_,xz,.inl<|ao.of j,xz,_,xz,bQ (λz=>?_) λz=>?_⟩⟩
 .have I:o=[]:=by
   have l:=z;injection l with l
   rw[aG]at l;exact qU.mp om
  subst I;exact⟨(sl (n:=3)),k _ xz⟩
 have r:o≠[]:=λe=>z (by rw[e];rfl);obtain⟨o',d,rfl⟩:∃o' d,o=o'++[d]:=⟨o.dropLast,o.getLast r,(List.dropLast_concat_getLast r).f5⟩;refine vr xz<|au _ xz<|rL (ao.of j) (dN▸WV _ _) ⟨(sl (n:=3)),(k (.int d) ?_)⟩;rw[abH];rfl
end
def i6.four(w:i6 S):S.ck.length<=4:=by rw[w.len];exact w.good.le
def i6.part(w:i6 S){c:Nat}{k:Ck}(h:S.ck[c]?=a_ k):∃p,S.ps[c]?=a_ p/\p.length<=120/\k.pl<=p.length/\∀s∈p,fU p.length s:=by
 refine oE (bu.mp h) λb _=>?_;have a:S.ps[c]?=a_ (S.ps[c]'(by rw[<-w.len];exact b)):=aQ _;exact oA (w.good.part _<|bz a) λd e=>lE _ a d (w.pl c k _ h a) e
def NG{k:Ck}(h:S.ck[c]?=a_ k)(h':S.ps[c]?=a_ p):zK S c=rV k p:=by unfold zK;rw[h,h']
def M5(S:Mc)(n:Nat):(xX S n).length<=n:=by
 unfold xX;rw[aG];exact cF (qW _ _)<|jB▸aD _
def ae6(S:Mc)(n:Nat):xX S (n+1)=xX S n++(if zK S n=c_ then [(("do":bx),[(n:Int)])] else []):=by
 unfold xX;rw[kF,qX,dN]
 congr 1
 cases h:zK S n with
 | true=>simp[h]
 | false=>simp[h]
def alg:(g5:List bx).Nodup:=dk
section
variable{t:a9}{C CT:e_}{u:pQ}
def Ni(t:a9)(C CT PT:e_):Sp:=λvs H Q _=>∃m A S,vs=[.ref m]/\bb t C CT H m A S/\i6 S/\dm PT LP LQ H/\∀H' l vs,aZ yj H H'->dm PT LP LQ H'->H l=b_->H' l=a_ (.lst vs)->aA (pK H') vs (pj S)->Q (.ref l) H'
def afx:bj fC fC (aU Nr):=bG
def aez{f PT:e_}(F:aW K "moves" "Machine.moves" Nr f fd)(a:fV K C)(J:mg aq6 = b_)(L:mg aq3 = b_)(O:Mt P w K mg fi C 2 "may_do" g5 (Xb t C CT))(R:Mt P w K mg fi C 3 "carries" fC (L7 t C CT PT)):aM P w K mg fi aS 4 f fd fC (Ni t C CT PT):=by
 refine F.ok afx λaN A _ s H vs Q E l h=>?_
 obtain⟨m,A,S,T,M,W,U,q⟩:=h;subst T;have X:=l.mono (show 2<=3 by decide)
 refine⟨_,aB (a8 (bg Dz (jc (N:=[Q_,X_]) (idx:=[0]) xz (dJ.of<|by kernel_rfl) (jr<|aD _) (ju xz L<|ae (bw dE xz J q_<|ae (bT (pv 0) xz) af) af)
  (λ_ _ _ _=>bC (i:=1) alg xz (aL xz)<|.inr xz) (λ_ _ _ _=>xp<|gu<|jX (pv 0) a.cl O X<|ae (pv 1) af) λ_ _ _ _=>fA<|ae cU<|ae (pv 1) af)
  (ph (pv 0) a.cl R l))),?_⟩
 refine b9 (id M.obj) λdx fs hm G=>?_;have hlen:=r_ M.ts;have h4:=W.four;refine vF xz hm a.cl a.iH G.iH ⟨A.lt,⟨_,xz,.inl<|ao.of M.lt,_,xz,by rw[aG];lia,by rw[aG];lia,?_⟩⟩;have en:(((A.ts.map λx=>V.ref x.1).length:Int)).toNat=S.ck.length:=by rw[aG];lia
 rw[en];refine gC (n:=S.ck.length) (λi ys H'=>i<=S.ck.length/\ak H H'/\aA (pK H') ys (xX S i)) (dH<|ic w4) (eM (aY _) (ak.f8 _) .nil) ?_ ?_ ?_ ?_ ?_
 .rintro i ys H' ⟨_,_,e⟩;rw[r_ e];exact M5 S i
 .rintro i ys H' hi _;exact hi
 .rintro ys H' _;exact aD _
 .rintro i ys Y hi ⟨_,s1,e⟩ x H2 ⟨Z,ex⟩;subst Z;subst ex;have j:=aQ hi;refine c7 (W.part j) λp v kr sG hp3=>vM xz (s1 _ _ hm) (G.ms _ dk)<|vr xz<|⟨m,A,S,i,_,p,?_,(M.same s1),j,v,w4,sG,(λs hs=>⟨_,hp3 s hs⟩),(λy c=>(au _ xz ?_))⟩
  .show [V.ref m,V.int<|0+i]=_;rw[lW]
  rw[ae6,NG j v];refine Iy (λk=>?_) λk=>?_
  .refine vr xz ⟨(sl (n:=2)),(λtp z=>⟨hi,s1.f4<|aH c z,?_⟩)⟩;rw[k,dL rfl];refine qe (df e λ_ _ q=>q.keep λb xs e=>aH c z _ _ e)<|au _ xz ?_;rw[av];show a_ _=_;rw[lW];rfl
  refine eM hi (s1.f4 c) ?_;rw[k,dt dW,gj];exact df e λ_ _ q=>q.keep λb xs e=>c _ _ e
 rintro ys Y ⟨_,s1,e⟩;have hd:=M5 S S.ck.length;refine⟨by rw[r_ e];exact dH<|ic li,λr B=>?_⟩;have s2:=aH (o:=.lst ys) s1 B;refine vM xz (s2 _ _ hm) (G.ms _ dk) (m8 m A S xz (M.same s2) h4 (lX U s2) λy lc us d wI nc hc D=>?_);have cl:=GK S.kd S.ck.zipIdx;rw[Tv]at cl;have lg:=r_ D
 have apT:us.length<=48:=by
  rw[lg];unfold ly;lia
 refine mZ r _ _ _ xz xz (d.xU av) hc ?_ λl3 g=>?_
 .rw[r_ e];exact dH<|ic li
 have k4:aZ _ H (cB _ _<|.lst<|ys++us):=((aZ.of s2).f4 d).f4<|aZ.of<|aH (ak.f8 _) g;have hn:=((aZ.of s2).f4 d).t _ g;refine q _ _ _ k4 (lX wI<|aH (ak.f8 _) g) hn av ?_;unfold pj;have I:∀b xs,y b=a_ _->cB _ _ (.lst<|ys++us) b=a_ (.tup xs):=λb xs e=>aH (ak.f8 _) g _ _ e;exact wW (df D λ_ _ q=>q.keep I) (df e λ_ _ q=>(q.keep λb xs e=>d.PL _ _<|aH (ak.f8 _) B _ _ e).keep I)
end
def alU:dX Z_ = a_ [4,nL]:=by kernel_rfl
def alV:dX T_ = a_ [4,4]:=by kernel_rfl
def alT:dX L_ = a_ [12,4]:=by kernel_rfl
def akk:dX I_ = a_ [4,12]:=by kernel_rfl
def aki:dX l_ = a_ [4,12]:=by kernel_rfl
def aiC:dX N_ = a_ []:=by kernel_rfl
def akj:dX Y_ = a_ [4,121]:=by kernel_rfl
def Bz{a b:Nat}{u v:Int}(e:dX x=a_ [u,v])(h1:(a:Int)<u)(h2:(b:Int)<v):stepOk [.str x,.int a,.int b]=true:=by
 show (match dX x with | none=>d_ | some bs=>decide ([V.int a,V.int b].length=bs.length)&&([V.int a,V.int b].zip _).all λp=>pN _ _)=c_;rw[e];show (decide (2=2)&&((decide (0<=(a:Int))&&decide ((a:Int)<u))&&((decide (0<=(b:Int))&&decide ((b:Int)<v))&&c_)))=c_;rw[ee h1,ee h2,ee<|Tw a,ee<|Tw b];rfl
def top_lt{m:Nat}(h:m<10^60):(m:Int)<nL:=by
 have e:((10^60:Nat):Int)=nL:=dk;rw[<-e];exact Uw.mpr h
def VJ{sz:Nat}{t:Tl}(g:fU sz t):stepOk (tv t)=true:=by
 cases g with
 | put r m h1 h2=>exact Bz alU li<|top_lt h2
 | add r m h1 h2=>exact Bz alV om li
 | set r m h1 h2=>exact Bz alT li om
 | look r m h1 h2=>exact Bz akk om li
 | swap r m h1 h2=>exact Bz aki om om
 | clear=>
  show (match dX N_ with | none=>d_ | some bs=>decide (([]:List V).length=bs.length)&&(([]:List V).zip bs).all λp=>pN p.1 p.2)=c_;rw[aiC];rfl
 | skip r m h1 h2 h3=>exact Bz akj li li
def WI{sz:Nat}{t:Tl}(g:fU sz t):(t.2.map λ(n:Nat)=>V.int (n:Int)).length<=900:=by
 rw[aG];have:=g.len;exact w4
def XD(l:List Nat):∀y∈l.map λ(n:Nat)=>V.int (n:Int),∃T,db H y=a_ T:=λy a=>by
 refine aq (dy.mp a) λn _ b=>?_;subst b;exact⟨_,xz⟩
def aeV{sz:Nat}(g:fU sz s)(h:s.1 = Y_):∃r q:Nat,s=((Y_ : bx),[r,q])/\q<=sz:=by
 cases g with
 | skip r q _ h2 _=>exact⟨r,q,xz,h2⟩
 | put r n _ _=>exact dV (show ("put":bx)="skip" from h) dk
 | add r n _ _=>exact dV (show ("add":bx)="skip" from h) dk
 | set r n _ _=>exact dV (show ("set":bx)="skip" from h) dk
 | look r n _ _=>exact dV (show ("look":bx)="skip" from h) dk
 | swap r n _ _=>exact dV (show ("swap":bx)="skip" from h) dk
 | clear=>exact dV h dk
def alA(K:u_)(h:autoParam (X.K=K) a3):kP X (.builtin "isinstance") (ZW K):=by subst h;exact jb
def ah3:([an3]:List bx).Nodup:=dk
theorem pe{a b:Type}{F:a->b->Prop}:∀{l:List a}{r:List b}{i:Nat}{x:a},aA F l r->l[i]?=a_ x->∃y,r[i]?=a_ y/\F x y
 | _,_,_,_,.nil,e=>by simp at e
 | _,_,0,_,.cons h _,e=>by simp at e;subst e;exact⟨_,xz,h⟩
 | _,_,i+1,x,.cons _ t,e=>by
  exact aq (pe (i:=i) t<|by simpa using e) λy h1 h2=>au y (by simpa using h1) h2
def aiD(n:Nat):(eQ n c_).all id=true:=by
 induction n with
 | zero=>rfl
 | succ n ih=>rw[AM,CS,ih];rfl
section
variable{t:a9}{u:pQ}
def Y7:Sp:=λvs H Q _=>∃v ps,vs=[v]/\xE H v ps/\BD ps/\∀H',ak H H'->Q (.bl c_) H'
def ak2:bj [W_] [W_] (aU P6):=bG
def ajm(F:aW K "has_clerks" "has_clerks" P6 f fd)(B:Bl mg)(C:∃u,mg "CLERKS"=a_ u/\d0 (.int 4) u):aM P w K mg fi aS 1 f fd [W_] Y7:=by
 refine aq C λR y z=>F.ok ak2 λaN A _ s H vs Q E S h=>?_
 refine iG h λv ps j l g k=>?_;clear h;subst j;refine cZ l λa xs j ha m=>?_;clear l;subst j
 refine let c:TS:=_;⟨_,ay (bX (PW.pt<|pw_or (kK<|gu<|bw jb xz B.kg jq<|ae (pv 0)<|ae (nj (v:=.ty P_) xz B.tuple tQ xz) af)<|pw_or1<|kK<|afG Pb Pb ax (bw dE xz B.len q_<|ae (pv 0) af)<|gD xz y z)
   xb cj)
  (pR c (aB (a8 (bw (GO xz) xz B.all boot_all (ae (jc (N:=[an3]) (idx:=[]) xz (dJ.of<|by kernel_rfl) (jr<|aY _)
   (vt<|pv 0) (λ_ _ _ _=>bC (i:=0) ah3 xz (aL xz)<|.inr xz) (λ_ _ _ _=>jD)
   λ_ _ _ _=>bw (alA K) xz B.kg jq<|ae (pv 0)<|ae (nj (v:=.ty P_) xz B.tuple tQ xz) af) af))))),?_⟩
 have o:=A2 ha;have hi:pG P_ P_ = true:=qc;have T:=r_ m;have U:=g.ne;have W:=g.le;refine vr xz<|eh _ _ _ _<|fG _ xz (mE o) xz (mq o qc)<|au _ xz ?_;rw[hi];refine dG<|vr xz<|di a _ xz (.inr<|aF.of ha) ⟨_,⟨_,xz,xz,_,xz,bQ (λh1=>?_) λh1=>dV (show 1<=(xs.length:Int) by lia) h1⟩⟩;refine⟨_,⟨_,xz,xz,_,xz,jY (λh2=>dV (show (xs.length:Int)<=4 by lia) h2) λh2=>au _ xz<|c8 a xz ⟨xs,aF.of ha⟩<|gC (n:=xs.length) (λi ys H'=>i<=xs.length/\ak H H'/\ys=(eQ i c_).map V.bl) (dH<|ic w8) (eM (aY _) (ak.f8 _) xz) ?_ ?_ ?_ ?_ ?_⟩⟩
 .intro i ys H' d;refine du d λ_ _ e=>?_;rw[e,aG,KH];exact aD _
 .intro i ys H' hi d;exact du d λ_ s1 _=>fh _ _ (aF.of<|s1 _ _ ha)<|aQ hi
 .intro ys H' d;exact du d λ_ s1 _=>au _ (aF.of<|s1 _ _ ha)<|aD _
 .intro i ys H' D d x X G;refine du d λ_ s1 e=>oA G λI J=>?_;subst I;have L:=J _<|aF.of<|s1 _ _ ha;refine aq (pe m L) λp _ j=>cZ j λb us j M _=>?_;subst j;have q:=A2<|s1 _ _ M;refine vr xz<|eh _ _ _ _<|⟨_,xz,(mE q),xz,(mq q qc),D,s1,?_⟩;rw[hi,e,List.replicate_succ',dN];rfl
 intro ys H' d;refine du d λ_ s1 e=>⟨?_,λr O=>?_⟩
 .rw[e,aG,KH];exact dH<|ic w8
 refine di r _ xz (ao.of<|by rw[av,e]) ?_;rw[aiD];exact k _<|aH s1 O
def Yg:Sp:=λvs H Q _=>∃(v:V)(s:Tl)(p n:Nat),vs=[v,.int (p:Nat),.int (n:Nat)]/\xD H v s/\fU n s/\p<120/\∀H',ak H H'->Q (.bl c_) H'
def Ym:bj [ac1,aq2,"length","step"] [ac1,aq2,"length"] (aU O5):=bG
def ahT(F:aW K "fits" "fits" O5 f fd)(O:zM K mg t u):aM P w K mg fi aS 5 f fd [ac1,aq2,"length"] Yg:=by
 have T:=O.st;have m:aM P w K _ fi _ 4 _ _ [ac1] (Mw t):=Vw T;refine aq T.cn.long λG o rL=>F.ok Ym λaN A _ s H vs Q E x h=>?_;obtain⟨v,st,p,n,c,e,g,I,k⟩:=h;subst c;refine let b:TS:=_;⟨_,ay (ahA λpn=>aB<|bP (i:=3) Ym.nd xz (aL xz)<|jU m x xz T.mO T.QQ.kp T.bO .nil dh<|ae (pv 0) af)<|pR b<|ay (bX (PW.pt<|pw_and (gu<|bw jb xz T.bl.kg jq<|ae (pv 3)<|ae (gD (v:=.ref _) xz T.Oz xz) af)<|pw_and1<|bA zz (bT (pv 3) xz) (pv 2)<|bo _) xb cj)<|aB<|a8<|xt BA (pv 1) (gD xz o rL)<|bo _,?_⟩;refine aq e λa c ha=>?_;clear e;subst c;have y:decide ((p:Int)<120)=true:=ee li;refine vr xz<|nN a _ (fG _ xz ha (VJ g) ⟨WI g,XD _⟩ λz dx J s1 L j=>?_);have d:=k _ s1;rw[<-y]at d;refine aq (OE O g j) λC ty B=>vr xz<|⟨_,(.ref _),(.ref C),(.ref _),(decide<|st.1 = Y_),xz,ty,xz,B.Zf,(tk<|bQ (λl=>?_) λl=>dG<|au _ xz ⟨_,⟨_,xz,xz,d⟩⟩)⟩;refine b9 (aeV g l) λr q c M=>?_;subst c;refine vF xz j T.xC T.Ox xz<|vr xz ⟨_,⟨_,xz,xz,_,xz,bQ (λD=>?_) λ_=>⟨_,xz,_,_,xz,xz,d⟩⟩⟩;exact dV D (by show ¬(n<(q:Int));lia)
def Yd:Sp:=λvs H Q _=>∃v ps,vs=[v]/\xE H v ps/\BD ps/\∀H',ak H H'->Q .aJ H'
def Dt:bj [W_,X_,an3,aq2,ac1] [W_] (aU L9):=bG
def ahR(F:aW K "look_over" "look_over" L9 f fd)(B:Bl mg)(O:mg "enumerate"=b_)(L:Dp P w K mg fi 1 "has_clerks" [W_] Y7)(Y:Dp P w K mg fi 5 "fits" [ac1,aq2,"length"] Yg):aM P w K mg fi aS 6 f fd [W_] Yd:=by
 refine F.ok Dt λaN A _ s H vs Q E R h=>?_
 refine iG h λv ps D S g k=>?_;clear h;subst D;refine cZ S λa xs D ha T=>?_;clear S;subst D
 refine let l:TS:=_;let o:TS:=_;let t:TS:=_;⟨_,ay (bX (kK<|gu<|jU L.G (R.mono qc) xz L.m L.k L.b .nil dh<|ae (pv 0) af) xb cj)
  (pR t<|aB<|ik gJ xz (zf (b:=d_) xz O<|ae (pv 0) af) (nz xz<|eT (bC (i:=1) Dt.nd xz<|aL xz)<|eT (bC (i:=2) Dt.nd xz<|aL xz) ni)<|pR o<|aB<|ik gJ xz (zf (b:=d_) xz O<|ae (pv 2) af) (nz xz<|eT (bC (i:=3) Dt.nd xz<|aL xz)<|eT (bC (i:=4) Dt.nd xz<|aL xz) ni)<|pR l<|aB<|bX (kK<|gu<|gF Y R xz<|ae (pv 4)<|ae (pv 3)<|ae (bw dE xz B.len q_<|ae (pv 2) af) af) xb cj),?_⟩
 refine vr xz (qo _ _ xz ⟨a,xs,xz,ha,T⟩ g λH1 s1=>(au _ xz<|dG ?_))
 let Z:IV:=λi σ H'=>∃c q p d,σ=[a_ (.ref a),c,q,p,d]/\ak H H'
 refine vr xz<|di a _ xz (aF.of<|s1 _ _ ha)<|DJ (n:=xs.length) Z ⟨b_,b_,b_,b_,xz,s1⟩ ?_ ?_ ?_ ?_
 .intro i σ H' hi C;exact kL C λ_ _ _ _ _ s2=>fh _ _ (aF.of<|s2 _ _ ha)<|aQ hi
 .intro σ H' C;exact kL C λ_ _ _ _ _ s2=>au _ (aF.of<|s2 _ _ ha)<|aD _
 .intro i σ H2 hi C z H3 M;refine kL C λc q p d D s2=>?_;clear C;subst D;refine iG M λr x eG ez eH fu=>?_;subst ez;subst eH;have sD:=fu _<|aF.of<|s2 _ _ ha;refine aq (pe T sD) λpt qM D=>cZ D λb us D J U=>?_;subst D;refine oA (g.part _<|bz qM) λg3 V=>?_;have lg:=r_ U;rw[<-lg]at g3 V;have W:ak H (cB _ r<|.tup [.int i,.ref b]):=aH s2 eG;refine qo r _ xz (aF.of av) xz (fh _ _ xz<|di _ _ xz xz ?_)
  let W2:IV:=λj σ H'=>∃p d,σ=[a_ (.ref a),a_<|.int i,a_<|.ref b,p,d]/\ak H H'
  refine vr xz<|di b _ xz (aF.of<|W _ _ J)<|DJ (n:=us.length) W2 ⟨p,d,xz,W⟩ ?_ ?_ ?_ ?_
  .intro j σ H' X C;exact b9 C λ_ _ _ I=>fh _ _ (aF.of<|I _ _ J)<|aQ X
  .intro σ H' C;exact b9 C λ_ _ _ I=>au _ (aF.of<|I _ _ J)<|aD _
  .intro j σ H4 X C z' H5 M;refine b9 C λp' d' D I=>?_;clear C;subst D;refine iG M λr' y J' ez' SH uH=>?_;subst ez';subst SH;have hyj:=uH _<|aF.of<|I _ _ J;refine aq (pe U hyj) λst cV hI=>?_;have N:ak H (cB _ _<|.tup [.int j,y]):=aH I J';exact qo _ _ xz (aF.of av) xz<|fh _ _ xz<|di y _ xz xz<|au _ xz<|vr xz<|vr xz ⟨b,⟨_,xz,.inr<|aF.of<|N _ _ J,y,st,j,us.length,xz,hI.keep λb xs e=>N _ _ e,V _<|bz cV,wh,λH6 s6=>⟨_,xz,dG ⟨_,_,xz,N.f4 s6⟩⟩⟩⟩
  intro σ H4 C;refine b9 C λp' d' D I=>?_;clear C;subst D;exact⟨_,_,_,(au _ xz I)⟩
 intro σ H2 C;refine kL C λ_ _ _ _ D s2=>?_;clear C;subst D;exact k _ s2
end
structure g0(H0:Hp)(m:e_)(H:Hp)(R:e_->Nat->Prop):Prop where
 l:∃fx:e_->Nat,∀a v,R a v->fx a=v
 p:∀a v,R a v->H a≠b_
 f:∀a v,R a v->a=m\/H0 a=b_
 t:∀b,H b=b_->H0 b=b_
section
variable{H0 H H':Hp}{m:e_}{R R':e_->Nat->Prop}
def g0.keep(h:g0 H0 m H R)(k:∀b,H' b=b_->H b=b_):g0 H0 m H' R:=⟨h.l,λa v r z=>h.p a v r<|k a z,h.f,λb z=>h.t b<|k b z⟩
def g0.adds(h:g0 H0 m H R)(k:∀b,H' b=b_->H b=b_){B:e_->Prop}{n:Nat}(c:∀b,B b->H b=b_)(d:∀b,B b->H' b≠b_):g0 H0 m H' λa v=>R a v\/(B a/\v=n):=by
 obtain⟨⟨fx,h1⟩,h2,h3,h4⟩:=h
 classical
 refine⟨⟨λa=>if B a then n else fx a,λa v r=>?_⟩,λa v r=>?_,λa v r=>?_,λb z=>h4 b<|k b z⟩
 .obtain r|⟨r,rfl⟩:=r
  .show (if B a then n else fx a)=v;rw[dt λz=>h2 a v r<|c a z];exact h1 a v r
  show (if B a then v else fx a)=v;rw[dL r]
 .obtain r|⟨r,rfl⟩:=r
  .exact λz=>h2 a v r<|k a z
  exact d a r
 obtain r|⟨r,rfl⟩:=r
 .exact h3 a v r
 exact .inr (h4 a<|c a r)
def g0.add(h:g0 H0 m H R)(k:∀b,H' b=b_->H b=b_)(d:H b=b_)(e:H' b≠b_):g0 H0 m H' λa v=>R a v\/(a=b/\v=n):=
 h.adds k (B:=λa=>a=b) (λc z=>by rw[z];exact d) (λc z=>by rw[z];exact e)
def Gz:∀b,cB H x o b=b_->H b=none:=λb e=>by
 by_cases z:b=x
 .rw[z,av]at e;cases e
 rwa[ag z]at e
def g0.new(h:g0 H0 m H R)(c:H b=b_):g0 H0 m (cB H b o) λa v=>R a v\/(a=b/\v=n):=h.add Gz c (by rw[av];intro z;cases z)
end
structure fg(m:e_)(H H':Hp):Prop where
 k:∀b o,b≠m->H b=a_ o->H' b=a_ o
 t:∀b,H' b=b_->H b=b_
def fg.of(s:ak H H'):fg m H H':=⟨λb o _ e=>s b o e,λb h=>s.free h⟩
def fg.f4(a:fg m H H1)(b:fg m H1 H2):fg m H H2:=⟨λc o n e=>b.k c o n<|a.k c o n e,λc h=>a.t c<|b.t c h⟩
def fg.cB:fg m H (cB H m o):=⟨λb q n e=>by rw[ag n];exact e,Gz⟩
section
variable{t:a9}{C CT:e_}{u:pQ}
def ue.same(a:ak H H')(h:ue t H v s):ue t H' v s:=h.keep λb C dx fs e _=>a _ _ e
def Vn(t:a9):Sp:=λvs H Q _=>∃v p,vs=[v]/\IsPart H v p/\p.length<=120/\(∀s∈p,fU p.length s)/\∀H' b us,ak H H'->H b=b_->H' b=a_ (.tup us)->aA (ue t H') us p->Q (.ref b) H'
def aef:bj [an3] [an3] (aU MJ):=bG
def ah1:([ac1]:List bx).Nodup:=dk
theorem Ly{a b:Type}{F:a->b->Prop}{x:a}{y:b}(h:F x y):∀{l:List a}{r:List b},aA F l r->aA F (l++[x]) (r++[y])
 | _,_,.nil=>.cons h .nil
 | _,_,.cons g t=>.cons g<|Ly h t
def adH(F:aW K "steps_of" "steps_of" MJ f fd)(T:vA K mg t)(G:mg P_ = b_):aM P w K mg fi aS 5 f fd [an3] (Vn t):=by
 have I:aM P w K _ fi _ 4 _ _ [ac1] (Mw t):=Vw T;refine F.ok aef λaN A _ s H vs Q E J h=>?_
 refine iG h λv p d m g L=>?_;clear h;subst d;refine cZ m λa vs d ha x=>?_;clear m;subst d;refine oA L λM k=>?_
 refine⟨_,aB (a8 (q8 CO xz G tQ (ae (jc (N:=[ac1]) (idx:=[]) xz (dJ.of<|by kernel_rfl) (jr<|aY _) (vt<|pv 0)
  (λ_ _ _ _=>bC (i:=0) ah1 xz (aL xz)<|.inr xz) (λ_ _ _ _=>jD) λ_ _ _ _=>jU I J xz T.mO T.QQ.kp T.bO .nil dh<|ae (pv 0) af) af))),?_⟩
 have hlen:=r_ x;refine au _ xz<|c8 a xz ⟨_,aF.of ha⟩<|gC (n:=vs.length) (λi ys H'=>i<=vs.length/\ak H H'/\aA (ue t H') ys (p.take i)) (dH<|ic w8) (eM (aY _) (ak.f8 _) .nil) ?_ ?_ ?_ ?_ ?_
 .intro i ys H' c;refine du c λ_ _ e=>?_;rw[r_ e,dn];exact xl
 .intro i ys H' hi c;exact du c λ_ s1 _=>fh _ _ (aF.of<|s1 _ _ ha)<|aQ hi
 .intro ys H' c;exact du c λ_ s1 _=>au _ (aF.of<|s1 _ _ ha)<|aD _
 .intro i ys O hi c z H2 R;refine du c λ_ s1 e=>oA R λS U=>?_;subst S;have V:=U _<|aF.of<|s1 _ _ ha;refine aq (pe x V) λst cV W=>?_;have y:=M _<|bz cV;have B:=W.keep λb xs e=>s1 _ _ e;refine aq B λb d X=>?_;clear B;subst d;dsimp only[pE,kM];rw[dL rfl];refine vr xz<|nN b _ (fG _ xz X (VJ y) ⟨WI y,XD _⟩ λz dx H3 j J0 Y=>(eM hi (s1.f4 j) ?_));rw[jP,cV];exact Ly ⟨z,b,dx,xz,Y⟩ (df e λ_ _ q=>q.same j)
 intro ys O c;refine du c λ_ s1 e=>?_;have Z:=r_ e;rw[dn]at Z;refine⟨dH<|ic li,λr D=>⟨r,ys,xz,.inl ⟨ao.of av,λl g=>?_⟩⟩⟩;have s2:=aH (o:=.lst ys) s1 D;have j:=aH (o:=.tup ys) s2 g;rw[jA li]at e;exact k _ l _ j (s2.free g) av (df e λ_ _ q=>(q.same<|aH (ak.f8 _) D).same<|aH (ak.f8 _) g)
end
structure Ed(K:u_)(x qual:bx)(st:aK)(f:e_)(fd:lz)(d:bx):Prop where
 ex:∃(oc:f_)(od:Option e_)(T:e_)(kV doc pm:f_)(an:Option e_)(aN ct:f_)(jz:Array (Option f_))(c1:f_)(d1:Option e_)(n1:Nat)(wt:Array (Option f_))(tk:Nat),fd=B_ x qual (nv st) (jV st) (aU st) (.ref T) kV doc pm an aN ct/\K.lookup f=a_ ⟨oc,od,.func fd,jz⟩/\W.codeIn K aN qual=c_/\K.lookup T=a_ ⟨c1,d1,.seq #[.str d tk] n1,wt⟩
 kp:x_ K (.ref f)=c_
noncomputable def k0:Ck:=⟨0,0,[0,0,0,0],0,[]⟩
def BF(kd:bx)(ps:List Pt):Mc:=⟨kd,ps,ps.map λ_=>k0,eQ 12 0,[],eQ 12 []⟩
theorem Lz{a b c:Type}{F:a->b->Prop}{y:b}:∀{l:List a}{r:List c},l.length=r.length->(∀x∈l,F x y)->aA F l (r.map λ_=>y)
 | [],[],_,_=>.nil
 | [],_::_,h,_=>by cases h
 | _::_,[],h,_=>by cases h
 | x::l,z::r,h,g=>.cons (g x<|by simp) (Lz (by simpa using h) λx d=>g x<|eI _ d)
theorem UX{a b:Type}{F:a->b->Prop}{y:b}:∀{l:List a}{n:Nat},l.length=n->(∀x∈l,F x y)->aA F l (eQ n y)
 | [],0,_,_=>.nil
 | [],_+1,h,_=>by cases h
 | _::_,0,h,_=>by cases h
 | x::l,n+1,h,g=>.cons (g x<|by simp) (UX (by simpa using h) λx c=>g x<|eI _ c)
def alk:([S_,an3]:List bx).Nodup:=dk
def HX:([an3]:List bx).Nodup:=dk
def alh:([H_]:List bx).Nodup:=dk
def My{a:Type}{l:List a}{x y:a}{i:Nat}(h:(l++[x])[i]?=a_ y):l[i]?=a_ y\/(i=l.length/\y=x):=by
 by_cases hi:i<l.length
 .left;rwa[iN hi]at h
 right
 rw[lR li]at h
 by_cases e:i-l.length=0
 .rw[e]at h;simp at h;exact⟨li,h.f5⟩
 rw[pY (by simp;lia)]at h;cases h
def g0.nx(n:Nat)(h:g0 H0 m H R)(d:H b=b_):∃c,g0 H0 m (cB H b o) c/\(∀a v,R a v->c a v)/\c b n:=⟨_,h.new d,λa v z=>.inl z,.inr ⟨xz,xz⟩⟩
def g0.nw(n:Nat)(h:g0 H0 m H R)(d:H b=b_):∃H' c,H'=cB H b o/\ak H H'/\H' b=a_ o/\g0 H0 m H' c/\(∀a v,R a v->c a v)/\c b n:=aP (h.nx n d) λc a i r=>⟨_,c,xz,aH (ak.f8 _) d,av,a,i,r⟩
def xT{fs:List (bx×V)}{k:Nat}(x:bx)(v:V)(_:h m=a_ (.ins C dx fs))(a:fs.length<=k)(O:g0 H m h R):∃f h',f=aT x v fs/\h'=cB h m (.ins C dx f)/\f.length<=k+1/\fg m h h'/\h' m=a_ (.ins C dx f)/\g0 H m h' R:=⟨_,_,xz,xz,cF (tM x v _)<|tm a,fg.cB,av,O.keep Gz⟩
def g0.nxs(n:Nat)(B:e_->Prop)(h:g0 H0 m H R)(k:∀b,H' b=b_->H b=b_)(d:∀b,B b->H b=b_)(e:∀b,B b->H' b≠b_):∃c,g0 H0 m H' c/\(∀a v,R a v->c a v)/\∀b,B b->c b n:=⟨_,h.adds k d e,λa v z=>.inl z,λb z=>.inr ⟨z,xz⟩⟩
def fg.tup{fs:List (bx×V)}(k:fg m H H')(hm:H m=a_ (.ins C dx fs)):∀b xs,H b=a_ (.tup xs)->H' b=a_ (.tup xs):=λb xs e=>k.k b _ (λz=>by rw[z,hm]at e;cases e) e
def fg.lst{fs:List (bx×V)}(k:fg m H H')(hm:H m=a_ (.ins C dx fs))(e:H b=a_ (.lst xs)):H' b=a_ (.lst xs):=k.k b _ (λz=>by rw[z,hm]at e;cases e) e
def rF{fs a:List (bx×V)}(e:a=aT x v fs):a.lookup x=a_ v:=by rw[e,gm,dL rfl]
def cy{fs a:List (bx×V)}(h:fs.lookup y=r)(e:a=aT x v fs)(n:y≠x):a.lookup y=r:=by rw[e,gm,dt n];exact h
def WG{K:u_}{H h:Hp}{m C dx pg:e_}{fs:List (bx×V)}{c:bx}{d:List V}{ps:List Pt}{D:Ends}{σ:L2.St}{R:e_->Nat->Prop}{k:Nat}(n:Nat)(u:σ[0]?=a_ (a_<|.ref m))(y:σ[1]?=a_ (a_<|.ref pg))(f:h pg=a_ (.tup d))(J:d.length=ps.length)(h4:ps.length<=4)(hm:h m=a_ (.ins C dx fs))(cl:eO K C)(A:bU K C c)(L:fs.length<=k)(M:k<900)(O:g0 H m h R)(q:∀l h' f' g,f'=aT c (.ref l) fs->f'.length<=k+1->h' m=a_ (.ins C dx f')->h' l=a_ (.lst<|ps.map λ_=>V.int 0)->fg m h h'->g0 H m h' g->(∀a v,R a v->g a v)->g l n->D.nx σ h'):ZU K (rS 0) (OU (Z5 K<|rS 1) (kM 0) pE (tC<|.int 0) [] 1) c D σ h:=by
 refine⟨_,y,pg,xz,⟨_,aF.of f⟩,gC (n:=d.length) (λi ys H'=>i<=d.length/\H'=h/\ys=(ps.take i).map λ_=>V.int 0) (dH<|ic li) (eM (aY _) xz xz) ?_ ?_ ?_ ?_ ?_⟩
 .intro i ys H' b;obtain⟨_,_,e⟩:=b;rw[e,aG,dn];lia
 .intro i ys H' hi b;obtain⟨_,rfl,_⟩:=b;exact fh _ _ (aF.of f)<|aQ hi
 .intro ys H' b;obtain⟨_,rfl,_⟩:=b;exact au _ (aF.of f)<|aD _
 .intro i ys H' hi b z N B;obtain⟨_,rfl,e⟩:=b;obtain⟨E,Q⟩:=B;subst E;dsimp only[pE,kM];rw[dL rfl];refine eM hi xz ?_;rw[jP,aQ (show i<ps.length by lia),dN,<-e];rfl
 intro ys H' b;obtain⟨_,F,e⟩:=b;subst F;rw[jA li]at e;subst e;refine⟨by rw[aG];exact dH<|ic li,λl p=>?_⟩;have s1:ak _ (cB _ l<|.lst<|ps.map λ_=>V.int 0):=aH (ak.f8 _) p;have r:cB H' l _ l=a_ (.lst<|ps.map λ_=>V.int 0):=av;obtain⟨S,s,G,I⟩:=O.nx (o:=.lst<|ps.map λ_=>V.int 0) n p;have j:=s1 _ _ hm;generalize cB _ l _=v at s1 r s j ⊢;refine⟨_,u,m,C,dx,fs,xz,j,cl,A,li,?_⟩;have t:fg m v (cB v m<|.ins C dx<|aT c (.ref l) fs):=fg.cB;exact q l _ _ _ xz (by have:=tM c (V.ref l) fs;lia) av (t.lst j r) ((fg.of s1).f4 t) (s.keep<|Gz (x:=m)) G I
section
variable{t:a9}{C CT:e_}{u:pQ}
def Ed.ok{st:aK}{k:Nat}{sp:Sp}(F:Ed K x qual st f fd d)(S:bj N ps (aU st))
  (b:∀(aN:f_)(A:h_)(outer:List Env)(s:g_)(H:Hp)(vs:List V)(Q:VK)(E:XK),eE k (A.deeper<|cr qual (aU st) s.zS f aN)->sp vs H Q E->
   ∃t,fH (qB aS P w K mg fi N qual (aU st) f aN A outer s H E).yf (jV st) t/\t {nx:=λ_ H'=>Q .aJ H',rt:=Q} (start N vs) H) (len:∀vs H Q E,sp vs H Q E->vs.length=ps.length:=by intro _ _ _ _ h;(repeat obtain⟨_,h⟩:=h);subst_vars;rfl):aM P w K mg fi aS (k+1) f fd ps sp:=by
 refine wX F.ex λoc od T kV doc pm an aN ct jz a=>f9 a λc1 d1 n1 wt tk a=>nF a λa c e _=>?_;subst a;exact xK c e S len λA outer s H vs Q E g i=>aq (b _ A _ s H _ Q E g i) λt h q=>au t h.yf q
def is3(h:us.length=3):∃a b c,us=[a,b,c]/\True:=by
 cases us with
 | nil=>cases h
 | cons a l=>
  cases l with
  | nil=>cases h
  | cons b l=>exact oE (Tg.mp<|LF<|LF h) λc z=>⟨a,b,c,by rw[z],trivial⟩
def ah9(F:Ed K K_ "Machine.__init__" Hx f fd V_):d5 K fd i8 []:=by
 refine wX F.ex λoc od T kV doc pm an aN ct jz d=>f9 d λc1 d1 n1 wt tk d=>nF d λd i j g=>?_;subst d;intro s us h e;obtain⟨a,b,c,z,_⟩:=(is3<|by rw[gj]at e;exact e);subst z;exact W.binds_K h xz g xz xz xz
def Xc(t:a9)(C CT:e_):Sp:=λvs H Q _=>∃m dx v ps kd,vs=[.ref m,v,.str kd]/\H m=a_ (.ins C dx [])/\xE H v ps/\BD ps/\(kd = V_\/kd = H_\/kd="none")/\
 ∀H' A fx,bb t C CT H' m A (BF kd ps)->kQ fx m A->v=.ref A.pg->fg m H H'->(∀b,cX m A b->b=m\/H b=b_)->Q .aJ H'
def ahk:bj i8 i8 (aU Hx):=bG
def af0{f:e_}{fd:lz}(F:Ed K K_ "Machine.__init__" Hx f fd V_)(r:fV K C)(T:vA K mg t)(kj:mg P_ = b_)(da:mg aq3 = b_)(DK:Dp P w K mg fi 6 "look_over" [W_] Yd)(DT:Dp P w K mg fi 3 "tray_of" [S_] (V' CT))(DS:Dp P w K mg fi 5 "steps_of" [an3] (Vn t)):aM P w K mg fi aS 7 f fd i8 (Xc t C CT):=by
 refine aq T.cn.names λuN mN rN=>aq T.cn.gc λuR mR rR=>F.ok ahk λaN A _ s H vs Q E hr h=>?_
 obtain⟨m,dx,v,ps,kd,aa,hm,hP,g,sI,q⟩:=h;subst aa;have uJ:=hr.mono (show 3<=6 by decide);have EZ:=hr.mono (show 5<=6 by decide)
 refine let R1:TS:=_;let R2:TS:=_;let R3:TS:=_;let R4:TS:=_;let R5:TS:=_;let R6:TS:=_;let R7:TS:=_;let R8:TS:=_;let R9:TS:=_;let J:TS:=_;⟨_,ay (dC<|gF DK hr xz<|ae (pv 1) af) (pR J (ay (gL (pv 0) (jc (N:=[S_,an3]) (idx:=[2]) xz (dJ.of<|by kernel_rfl) (jr<|aD _) (vt<|pv 1) (λ_ _ _ _=>bC (i:=1) alk xz (aL xz)<|.inr xz) (λ_ _ _ _=>jD)
    λ_ _ _ _=>gF DT uJ xz<|ae (pv 0) af) xz)
  (pR R9 (ay (gL (pv 0) (pv 1) xz) (pR R8 (ay (gL (pv 0) (pv 2) xz) (pR R7 (ay (gL (pv 0) (q8 CO xz kj tQ (ae (jc (N:=[an3]) (idx:=[]) xz (dJ.of<|by kernel_rfl) (jr<|aY _) (vt<|pv 1) (λ_ _ _ _=>bC (i:=0) HX xz (aL xz)<|.inr xz) (λ_ _ _ _=>jD)
    λ_ _ _ _=>gF DS EZ xz<|ae (pv 0) af) af)) xz)
  (pR R6 (ay (gL (pv 0) (jc (N:=[an3]) (idx:=[]) xz (dJ.of<|by kernel_rfl) (jr<|aY _) (vt<|pv 1) (λ_ _ _ _=>bC (i:=0) HX xz (aL xz)<|.inr xz) (λ_ _ _ _=>jD) λ_ _ _ _=>ax) xz)
  (pR R5 (ay (gL (pv 0) (jc (N:=[an3]) (idx:=[]) xz (dJ.of<|by kernel_rfl) (jr<|aY _) (vt<|pv 1) (λ_ _ _ _=>bC (i:=0) HX xz (aL xz)<|.inr xz) (λ_ _ _ _=>jD) λ_ _ _ _=>ax) xz)
  (pR R4 (ay (gL (pv 0) (jc (N:=[an3]) (idx:=[]) xz (dJ.of<|by kernel_rfl) (jr<|aY _) (vt<|pv 1) (λ_ _ _ _=>bC (i:=0) HX xz (aL xz)<|.inr xz) (λ_ _ _ _=>jD) λ_ _ _ _=>bg Oq (dP<|ae ax af)<|gD xz mR rR) xz)
  (pR R3<|ay (gL (pv 0) (bg Oq (dP<|ae ax af)<|gD xz mN rN) xz)<|pR R2<|ay (gL (pv 0) (dP af) xz)<|pR R1<|aB<|gL (pv 0) (jc (N:=[H_]) (idx:=[]) xz (dJ.of<|by kernel_rfl) (jr<|aY _) (ju xz da<|ae (gD xz mN rN) af) (λ_ _ _ _=>bC (i:=0) alh xz (aL xz)<|.inr xz) (λ_ _ _ _=>jD) λ_ _ _ _=>dP af) xz))))))))))))))),?_⟩
 refine cZ (id hP) λpg jK aa X qN=>?_;subst aa;refine vr xz (qo _ _ xz hP g λH1 s1=>?_);have fK:=r_ qN;have hle:=g.le;have npm:=gv X hm (by intro z;cases z);have mM:=s1 _ _ hm;obtain⟨R0,o0,r0⟩:∃R,g0 H m H1 R/\R m 2:=⟨λa v=>a=m/\v=2,⟨⟨λ_=>2,λa v z=>z.2.f5⟩,λa v z e=>(by rw[z.1,mM]at e;cases e),λa v z=>.inl z.1,λb z=>s1.free z⟩,xz,xz⟩
 have Ej:V.str kd=.str V_\/V.str kd=.str H_\/V.str kd=.str "none":=by
  obtain e|e|e:=sI
  .exact .inl (by rw[e])
  .exact .inr (.inl<|by rw[e])
  exact .inr (.inr<|by rw[e])
 refine au _ xz<|c8 pg xz ⟨_,aF.of<|s1 _ _ X⟩<|gC (n:=jK.length) (λi ys H'=>i<=jK.length/\∃ts:List (e_×e_×List e_),ys=(ts.map λx=>V.ref x.1)/\ts.length=i/\ak H1 H'/\(∀x∈ts,dY H' x.1 CT kd 0 [] x.2.1 x.2.2)/\∃R,g0 H m H' R/\(∀a v,R0 a v->R a v)/\∀j x,ts[j]?=a_ x->∀b∈x.1::x.2.1::x.2.2,R b<|28+6*j) (dH<|ic<|by exact w8) ⟨aY _,⟨[],xz,xz,ak.f8 _,λx B=>(by cases B),R0,o0,λ_ _ z=>z,λj x z=>(by simp at z)⟩⟩ ?_ ?_ ?_ ?_ ?_
 .intro i ys H' c;obtain⟨_,ts,rfl,rfl,_⟩:=c;rw[aG];exact aD _
 .intro i ys H' hi c;obtain⟨_,ts,_,_,s2,_⟩:=c;exact fh _ _ (aF.of<|(s1.f4 s2) _ _ X)<|aQ hi
 .intro ys H' c;obtain⟨_,ts,_,_,s2,_⟩:=c;exact au _ (aF.of<|(s1.f4 s2) _ _ X)<|aD _
 .intro i ys H2 hi c z H3 Z;obtain⟨_,ts,rfl,rfl,s2,ht,R,o2,r2,r3⟩:=c;obtain⟨eH,gf⟩:=Z;subst eH;dsimp only[pE,kM];rw[dL rfl];refine vr xz (c8 _ xz sI λH4 x q' qr T4 k4 ky=>?_);have s4:ak _ H4:=λb o e=>k4 b o (by simp) e
  obtain⟨R',o4,i4,n4⟩:=o2.nxs (28+6*ts.length) (λb=>b∈x::q'::qr) (λb z=>s4.free z) ky (λb D y=>by
   refine oE (T4.there b D) λo e=>?_;rw[e]at y;cases y)
  refine⟨hi,⟨ts++[(x,q',qr)],by rw[dN];rfl,by rw[ba];rfl,s2.f4 s4,λy d=>?_,R',o4,λa v z=>i4 a v<|r2 a v z,λj y d b D=>?_⟩⟩
  .obtain d|d:=cp.mp d
   .exact(ht y d).keep (λb _ o e=>s4 b o e) λb xs e=>s4 b _ e
   rw[cR.mp d];exact T4
  obtain d|⟨e1,e2⟩:=My d
  .exact i4 _ _ (r3 j y d b D)
  subst e1;subst e2;exact n4 b D
 intro ys H2 c;obtain⟨_,ts,rfl,Ap,s2,ht,R1,o2,i1,r1⟩:=c;refine⟨by rw[aG];exact dH<|ic (by exact wu),λlt nlt=>dO (o2.nw (o:=.lst<|ts.map λx=>V.ref x.1) 4 nlt) λH3 R2 e s3 cu o3 i2 r2=>?_⟩;rw[<-e];clear e;have kx:=s3 _ _<|s2 _ _ mM;have T3:=λx B=>(ht x B).keep (λb _ o e=>s3 b o e) λb xs e=>s3 b _ e;have K3:fg m H H3:=fg.of<|s1.f4<|s2.f4 s3;refine vr xz<|mZ m C _ _ xz kx r.cl r.iH qc (dO (xT "trays" (V.ref lt) kx (aD 0) o3) λuP H4 Km e hf1 k4 lh o4=>?_);rw[<-Km,<-e];clear e;have K4:=K3.f4 k4;refine au _ xz<|vr xz<|mZ m C _ _ xz lh r.cl r.program (by exact wb) (dO (xT W_ (V.ref pg) lh hf1 o4) λsQ H5 Fq e hf2 k5 Au o5=>?_);rw[<-Fq,<-e];clear e;have K5:=K4.f4 k5;refine au _ xz<|vr xz<|mZ m C _ _ xz Au r.cl r.kind (by exact wb) (dO (xT S_ (V.str kd) Au hf2 o5) λsf H6 Cq e hf3 k6 Kd o6=>?_);rw[<-Cq,<-e];clear e;have K6:=K5.f4 k6;have IS:=K6.tup hm _ _ X;refine au _ xz<|c8 pg xz ⟨_,aF.of IS⟩<|gC (n:=jK.length) (λi ys H'=>i<=jK.length/\ak H6 H'/\aA (Bo t H') ys (ps.take i)) (dH<|ic<|by exact w8) (eM (aY _) (ak.f8 _) .nil) ?_ ?_ ?_ ?_ ?_
 .intro i ys H' c;obtain⟨_,_,e⟩:=c;rw[r_ e,dn];exact xl
 .intro i ys H' hi c;obtain⟨_,s,_⟩:=c;exact fh _ _ (aF.of<|s _ _ IS)<|aQ hi
 .intro ys H' c;obtain⟨_,s,_⟩:=c;exact au _ (aF.of<|s _ _ IS)<|aD _
 .intro i ys H' hi c z kC Z;obtain⟨_,s7,e⟩:=c;obtain⟨eH,gf⟩:=Z;subst eH;have hz:=gf _<|aF.of<|s7 _ _ IS;refine aq (pe qN hz) λp hp hI=>oA (g.part p<|bz hp) λg1 g2=>?_;dsimp only[pE,kM];rw[dL rfl];refine vr xz<|⟨z,p,xz,((hI.keep<|K6.tup hm).keep λb xs e=>s7 _ _ e),g1,g2,(λH8 b us Y nb D dM=>⟨hi,s7.f4 Y,?_⟩)⟩;rw[jP,hp];exact Ly ⟨b,us,xz,D,dM⟩ (df e λ_ _ q=>q.keep (λb xs e=>Y _ _ e) λb C dx fs e _=>Y _ _ e)
 intro ys H7 c;obtain⟨_,s7,e7⟩:=c;have aoj:=r_ e7;rw[dn]at aoj;rw[jA li]at e7;refine⟨dH<|ic li,λr7 nr7=>⟨r7,ys,xz,.inl ⟨ao.of av,λst B3=>?_⟩⟩⟩;have Y:ak _ (cB _ _<|.tup ys):=aH (aH (ak.f8 _) nr7) B3;have cV:cB (cB H7 r7<|.lst ys) _ _ st=a_ (.tup ys):=av;generalize cB _ _ _=H8 at Y cV ⊢;have hs8:=df e7 λ_ _ q=>q.keep (λb xs e=>Y _ _ e) λb C dx fs e _=>Y _ _ e;have JI:=s7.f4 Y;have yr:=JI _ _ Kd;have o8:=o6.keep (λb z=>JI.free z);have K8:=K6.f4<|fg.of JI;refine vr xz<|mZ m C _ _ xz yr r.cl r.steps (by exact wb) (dO (xT "steps" (V.ref st) yr hf3 o8) λfs4 H9 Cp e hf4 k9 Kc o9=>?_);rw[<-Cp,<-e];clear e;have K9:=K8.f4 k9;have an5:=K9.tup hm _ _ X;refine WG 6 xz xz an5 fK hle Kc r.cl r.places hf4 qc o9 λpl nV fs5 R3 Co hf5 zQ gpl Ak o11 i10 r10=>?_;have K11:=K9.f4 Ak;have amI:=K11.tup hm _ _ X;refine WG 8 xz xz amI fK hle zQ r.cl r.counts hf5 qc o11 λct H13 fs6 R4 AD hf6 aaD hct k12 o13 i12 r12=>?_;have K13:=K11.f4 k12;have PD:=K13.tup hm _ _ X;refine au _ xz<|c8 pg xz ⟨_,aF.of PD⟩<|gC (n:=jK.length) (λi ys H'=>i<=jK.length/\∃rs:List e_,ys=rs.map V.ref/\rs.length=i/\ak H13 H'/\(∀a∈rs,H' a=a_ (.lst<|([0,0,0,0]:List Int).map V.int))/\∃R,g0 H m H' R/\(∀a v,R4 a v->R a v)/\∀(j:Nat)a,rs[j]?=a_ a->R a (24+6*j)) (dH<|ic<|by exact w8) ⟨aY _,⟨[],xz,xz,ak.f8 _,λx B=>(by cases B),R4,o13,λ_ _ z=>z,λj x z=>(by simp at z)⟩⟩ ?_ ?_ ?_ ?_ ?_
 .intro i ys H' c;obtain⟨_,rs,rfl,rfl,_⟩:=c;rw[aG];exact aD _
 .intro i ys H' hi c;obtain⟨_,rs,_,_,s,_⟩:=c;exact fh _ _ (aF.of<|s _ _ PD)<|aQ hi
 .intro ys H' c;obtain⟨_,rs,_,_,s,_⟩:=c;exact au _ (aF.of<|s _ _ PD)<|aD _
 .intro i ys H' hi c z kC Z;obtain⟨_,rs,rfl,rfl,s,EY,R,oR,iR,Ra⟩:=c;obtain⟨eH,gf⟩:=Z;subst eH;dsimp only[pE,kM];rw[dL rfl];refine⟨qc,λy ny=>⟨y,4,_,xz,xz,av,qc,qc,qc,λx nx=>?_⟩⟩;have sy:ak _ (cB _ y<|.lst [.int 0]):=aH (ak.f8 _) ny;have oy:=oR.keep (λb z=>sy.free z);refine aP (oy.nx (o:=.lst<|([0,0,0,0]:List _).map V.int) (24+6*rs.length) nx) λR' o' i' r'=>?_;have sx:ak _ (cB _ x<|.lst<|([0,0,0,0]:List _).map V.int):=aH sy nx;have B:cB (cB kC y<|.lst [.int 0]) x _ x=a_ (.lst<|([0,0,0,0]:List Int).map V.int):=av;refine⟨hi,⟨rs++[x],by rw[dN];rfl,by rw[ba];rfl,s.f4 sx,λy d=>?_,R',o',λa v z=>i' a v<|iR a v z,λj y d=>?_⟩⟩
  .obtain d|d:=cp.mp d
   .exact sx _ _ (EY y d)
   rw[cR.mp d];exact B
  obtain d|⟨e1,e2⟩:=My d
  .exact i' _ _ (Ra j y d)
  subst e1;subst e2;exact r'
 intro ys H14 c;obtain⟨_,rs,rfl,apU,su,EY,R5,o14,i14,r14⟩:=c;refine⟨by rw[aG];exact dH<|ic (by exact wu),λrg nrg=>dO (o14.nw (o:=.lst<|rs.map V.ref) 10 nrg) λH15 R6 e JM da o15 i15 r15=>?_⟩;rw[<-e];clear e;have IU:=JM _ _<|su _ _ aaD;have an0:=λa ha=>JM _ _<|EY a ha;have K15:=K13.f4<|fg.of<|su.f4 JM;refine vr xz<|mZ m C _ _ xz IU r.cl r.gc (by exact wb) (dO (xT "regs" (V.ref rg) IU hf6 o15) λSA Cs W e hf7 k16 aof o16=>?_);rw[<-W,<-e];clear e;have K16:=K15.f4 k16;refine⟨qc,λy ny=>⟨y,12,_,xz,xz,av,qc,qc,qc,λce nce=>?_⟩⟩;have sy:ak _ (cB _ y<|.lst [.int 0]):=aH (ak.f8 _) ny;have oy:=o16.keep (λb z=>sy.free z);refine aP (oy.nx (o:=.lst<|(eQ 12 0).map V.int) 12 nce) λR7 o17 i17 r17=>?_;have JL:ak _ (cB _ _<|.lst<|(eQ 12 0).map V.int):=aH sy nce;have yu:cB (cB Cs y<|.lst [.int 0]) _ _ ce=a_ (.lst<|(eQ 12 (0:Int)).map V.int):=av;rw[show (eQ (12:Int).toNat [V.int 0]).flatten=(eQ 12 (0:Int)).map V.int from rfl];generalize cB (cB Cs y<|.lst [.int 0]) ce (.lst<|(eQ 12 (0:Int)).map V.int)=H17 at JL yu o17 ⊢;have Qx:=JL _ _ aof;have K17:=K16.f4<|fg.of JL;refine vr xz<|mZ m C dx SA xz Qx r.cl r.cells (by exact wb) (dO (xT "cells" (V.ref ce) Qx hf7 o17) λfs8 H18 U e hf8 k18 aoe o18=>?_);rw[<-U,<-e];clear e;have K18:=K17.f4 k18;refine⟨qc,λac nac=>dO (o18.nw (o:=.lst []) 14 nac) λH19 R8 e Q8 dD o19 i19 r19=>?_⟩;rw[<-e];clear e;have Qw:=Q8 _ _ aoe;have K19:=K18.f4<|fg.of Q8;refine vr xz<|mZ m C dx fs8 xz Qw r.cl r.iX (by exact wb) (dO (xT "acts" (V.ref ac) Qw hf8 o19) λfs9 H20 O e Sa k20 aod o20=>?_);rw[<-O,<-e];clear e;have K20:=K19.f4 k20;refine lE 12 xz qc qc ?_;rw[show (12:Int).toNat=12 from rfl];refine gC (n:=12) (λi ys H'=>i<=12/\∃rs:List e_,ys=rs.map V.ref/\rs.length=i/\ak H20 H'/\(∀a∈rs,H' a=a_ (.lst<|([]:List Int).map V.int))/\∃R,g0 H m H' R/\(∀a v,R8 a v->R a v)/\∀(j:Nat)a,rs[j]?=a_ a->R a (26+6*j)) (dH<|ic li) ⟨aY _,⟨[],xz,xz,ak.f8 _,λx B=>(by cases B),R8,o20,λ_ _ z=>z,λj x z=>(by simp at z)⟩⟩ ?_ ?_ ?_ ?_ ?_
 .intro i ys H' c;obtain⟨_,rs,rfl,rfl,_⟩:=c;rw[aG];exact aD _
 .intro i ys H' hi c;obtain⟨_,rs,_,_,s,_⟩:=c;exact hi
 .intro ys H' c;obtain⟨_,rs,_,_,s,_⟩:=c;exact aD _
 .intro i ys H' hi c z kC Z;obtain⟨_,rs,rfl,rfl,s,EY,R,oR,iR,Ra⟩:=c;obtain⟨eH,gf⟩:=Z;subst eH;dsimp only[pE,kM];rw[dL rfl];refine⟨qc,λx nx=>aP (oR.nx (o:=.lst<|([]:List Int).map V.int) (26+6*rs.length) nx) λR' o' i' r'=>?_⟩;have sx:ak kC (cB kC x<|.lst<|([]:List Int).map V.int):=aH (ak.f8 _) nx;have B:cB kC x (.lst<|([]:List Int).map V.int) x=a_ (.lst<|([]:List Int).map V.int):=av;refine⟨hi,⟨rs++[x],by rw[dN];rfl,by rw[ba];rfl,s.f4 sx,λy d=>?_,R',o',λa v z=>i' a v<|iR a v z,λj y d=>?_⟩⟩
  .obtain d|d:=cp.mp d
   .exact sx _ _ (EY y d)
   rw[cR.mp d];exact B
  obtain d|⟨e1,e2⟩:=My d
  .exact i' _ _ (Ra j y d)
  subst e1;subst e2;exact r'
 intro ys H21 c;obtain⟨_,cs,rfl,aok,Q7,Ci,R9,o21,i21,r21⟩:=c;refine⟨by rw[aG];exact dH<|ic (by exact w6),λcm ncm=>dO (o21.nw (o:=.lst<|cs.map V.ref) 16 ncm) λH22 J e JK Cj o22 i22 r22=>?_⟩;rw[<-e];clear e;have IT:=JK _ _<|Q7 _ _ aod;have aot:=λa ha=>JK _ _<|Ci a ha;have K22:=K20.f4<|fg.of<|Q7.f4 JK;refine vr xz<|mZ m C dx fs9 xz IT r.cl r.nA (by exact wb) (dO (xT "comers" (V.ref cm) IT Sa o22) λaaO Kr G e BR JW aoc S=>?_);rw[<-G,<-e];clear e;have K23:=K22.f4 JW;have n20:=(fg.of (m:=m)<|Q7.f4 JK).f4 JW;have n19:=k20.f4 n20;have n18:=(fg.of (m:=m) Q8).f4 n19;have n17:=k18.f4 n18;have n16:=(fg.of (m:=m) JL).f4 n17;have EO:=k16.f4 n16;have n13:=(fg.of (m:=m)<|su.f4 JM).f4 EO;have n11:=k12.f4 n13;have n9:=Ak.f4 n11;have n8:=k9.f4 n9;have n6:=(fg.of (m:=m) JI).f4 n8;have n3:=k4.f4<|k5.f4<|k6.f4 n6;have j9:=i22;have j8:∀a v,R8 a v->J a v:=λa v z=>j9 _ _<|i21 _ _ z;have j7:∀a v,R7 a v->J a v:=λa v z=>j8 _ _<|i19 _ _ z;have j6:∀a v,R6 a v->J a v:=λa v z=>j7 _ _<|i17 _ _ z;have j5:∀a v,R5 a v->J a v:=λa v z=>j6 _ _<|i15 _ _ z;have j4:∀a v,R4 a v->J a v:=λa v z=>j5 _ _<|i14 _ _ z;have j3:∀a v,R3 a v->J a v:=λa v z=>j4 _ _<|i12 _ _ z;have j2:∀a v,R2 a v->J a v:=λa v z=>j3 _ _<|i10 _ _ z;have j1:∀a v,R1 a v->J a v:=λa v z=>j2 _ _<|i2 _ _ z;have j0:∀a v,R0 a v->J a v:=λa v z=>j1 _ _<|i1 _ _ z;refine oE S.l λfx I=>?_;have lm:=I _ _<|j0 _ _ r0;have tk:=cy (cy (rF Km) Fq dk) Cq dk;have anW:ts.length=ps.length:=by exact wo
 have gz:rs.length=ps.length:=by exact wo
 have no:∀x∈YF,aaO.lookup x=none:=by
  intro x B
  have n:∀y∈(["trays",W_,S_,"steps","places","counts","regs","cells","acts","comers"]:List bx),x≠y:=by
   intro y d e;subst e
   revert B
   revert x
   decide +kernel
  have hn:([]:List (bx×V)).lookup x=none:=rfl;exact cy (cy (cy (cy (cy (cy (cy (cy (cy (cy hn Km<|n _<|by simp) Fq<|n _<|by simp) Cq<|n _<|by simp) Cp<|n _<|by simp) Co<|n _<|by simp) AD<|n _<|by simp) W<|n _<|by simp) U<|n _<|by simp) O<|n _<|by simp) G<|n _ (by simp)
 have M:bb t C CT Kr m ⟨lt,ts,pg,st,pl,ct,rg,rs,ce,ac,cm,cs⟩ (BF kd ps):=by
  refine⟨⟨dx,aaO,aoc,⟨cy (cy (cy (cy (cy (cy (cy (cy (cy (rF Km) Fq dk) Cq dk) Cp dk) Co dk) AD dk) W dk) U dk) O dk) G dk,cy (cy (cy (cy (cy (cy (cy (cy (rF Fq) Cq dk) Cp dk) Co dk) AD dk) W dk) U dk) O dk) G dk,cy (cy (cy (cy (cy (cy (cy (rF Cq) Cp dk) Co dk) AD dk) W dk) U dk) O dk) G dk,cy (cy (cy (cy (cy (cy (rF Cp) Co dk) AD dk) W dk) U dk) O dk) G dk,cy (cy (cy (cy (cy (rF Co) AD dk) W dk) U dk) O dk) G dk,cy (cy (cy (cy (rF AD) W dk) U dk) O dk) G dk,cy (cy (cy (rF W) U dk) O dk) G dk,cy (cy (rF U) O dk) G dk,cy (rF O) G dk,rF G,no,by exact w4⟩⟩,n3.lst kx cu,?_,hP.keep<|K23.tup hm,⟨ys,n8.tup yr _ _ cV,?_⟩,?_,?_,EO.lst IU da,?_,n17.lst Qx yu,⟨[],n19.lst Qw dD,.nil⟩,JW.lst IT Cj,?_⟩
  .refine Lz anW λx B=>(T3 x B).keep (λb D o e=>n3.k b o (λz=>?_) e)<|n3.tup kx;refine oE (oW B) λj hj=>?_;have:=I _ _<|j1 _ _<|r1 j x hj b D;rw[z,lm]at this;exact wk
  .refine df hs8 λ_ _ q=>q.keep (n8.tup yr) λb C' Fw oU e h=>n8.k b _ (λz=>?_) e;obtain⟨x,us,v,e1,e2⟩:=h;rw[z,yr]at e;cases e;rw[e2,Dm "trays" dk]at tk;cases tk
  .have h:=n11.lst zQ gpl;rw[h];show _=a_ (HO.lst<|(ps.map λ_=>k0).map λk=>V.int (k.pl:Nat));rw[vg];rfl
  .have h:=n13.lst aaD hct;rw[h];show _=a_ (HO.lst<|(ps.map λ_=>k0).map λk=>V.int (k.ct:Nat));rw[vg];rfl
  .exact Lz (F:=λa(k:Ck)=>Kr a=a_ (.lst<|k.rg.map V.int)) (y:=k0) gz λa ha=>EO.lst IU<|an0 a ha
  exact UX (F:=λa(o:List Int)=>Kr a=a_ (.lst<|o.map V.int)) (y:=[]) aok λa ha=>JW.lst IT<|aot a ha
 have L:kQ fx m ⟨lt,ts,pg,st,pl,ct,rg,rs,ce,ac,cm,cs⟩:=⟨lm,I _ _<|j2 _ _ r2,I _ _<|j3 _ _ r10,I _ _<|j4 _ _ r12,I _ _<|j6 _ _ r15,I _ _<|j7 _ _ r17,I _ _<|j8 _ _ r19,I _ _ r22,λi a z=>I _ _<|j5 _ _<|r14 i a z,λi a z=>I _ _<|j9 _ _<|r21 i a z,λi x z b D=>I _ _<|j1 _ _<|r1 i x z b D⟩;refine q Kr _ fx M L xz K23 λb D=>?_;cases D with
 | m=>exact .inl xz
 | lt=>exact S.f _ _<|j2 _ _ r2
 | pl=>exact S.f _ _<|j3 _ _ r10
 | ct=>exact S.f _ _<|j4 _ _ r12
 | rg=>exact S.f _ _<|j6 _ _ r15
 | ce=>exact S.f _ _<|j7 _ _ r17
 | ac=>exact S.f _ _<|j8 _ _ r19
 | cm=>exact S.f _ _ r22
 | rs h=>
  refine oE (oW h) λj hj=>?_;exact S.f _ _<|j5 _ _<|r14 j _ hj
 | cs h=>
  refine oE (oW h) λj hj=>?_;exact S.f _ _<|j9 _ _<|r21 j _ hj
 | ts h h2=>
  refine oE (oW h) λj hj=>?_;exact S.f _ _<|j1 _ _<|r1 j _ hj _ h2
end
def apw(H:Hp)(v:V)(e:fT):Prop:=∃p,v=.ref p/\H p=a_ (.tup [.int e.n,.int e.num,.int e.d])
def i6.bounds(w:i6 S){c:Nat}{k:Ck}(h:S.ck[c]?=a_ k):k.es.length<=15000:=cF (w.es k<|bz h) w.ac
def B2(S:Mc):Prop:=∀o∈S.ov,o.length<=16000
def UW(h:(cq es n).head?=a_ e):e.n=(n:Int):=by
 have hm:=abA h;have:=(lu.mp hm).2;simpa using this
noncomputable def iY(S:Mc)(a:g8):Mc:={S with ac:=S.ac++[a]}
noncomputable def zL(S:Mc)(c n:Nat)(k:Ck)(g:Int):Mc:={S with ck:=S.ck.set c {k with tn:=k.tn+1,es:=k.es++[⟨k.tn,n,g,S.ac.length⟩]}}
def setM(S:Mc)(c n r:Nat):Mc:=match S.ck[c]? with
 | none=>S
 | some k=>
  let g:=k.rg.getD r 0
  let S':=iY (zL S c n k g) ⟨L_,c,n,b_,a_ g,b_⟩
  if S.kd="none" then jG S' c n else S'
noncomputable def iW(S:Mc)(c r:Nat)(v:Int):Mc:=match S.ck[c]? with
 | none=>S
 | some k=>{S with ck:=S.ck.set c {k with rg:=k.rg.set r v}}
def dq(S:Mc)(k:Ck)(n:Nat):Int×Option Int:=match Bn k.es n with
 | some e=>(e.num,a_ e.d)
 | none=>(S.bd.getD n 0,(S.ov.getD n []).getLast?)
def qy(S:Mc)(c r n:Nat):Mc:=match S.ck[c]? with
 | none=>S
 | some k=>iW (iY S ⟨"look",c,n,a_ (dq S k n).1,b_,(dq S k n).2⟩) c r (dq S k n).1
def rJ(S:Mc)(c r n:Nat):Mc:=match S.ck[c]? with
 | none=>S
 | some k=>
  let g:=k.rg.getD r 0
  iW (iY (rE S n g S.ac.length) ⟨l_,c,n,a_<|S.bd.getD n 0,a_ g,(S.ov.getD n []).getLast?⟩) c r (S.bd.getD n 0)
section
variable{t:a9}{C CT:e_}{u:pQ}
def Nj(t:a9)(C CT PT:e_):Sp:=λvs H Q _=>∃m A S c k n fx,vs=[.ref m,.int (c:Nat),.int (n:Nat)]/\bb t C CT H m A S/\kQ fx m A/\dm PT LP LQ H/\S.ck[c]?=a_ k/\(n:Int)∈iT S.kd k.es/\n<12/\S.bd.length=12/\S.ov.length=12/\B2 S/\
 ∀H',bb t C CT H' m A (jG S c n)->aZ (cX m A) H H'->dm PT LP LQ H'->Q .aJ H'
def aho:bj hZ hZ (aU Od):=bG
def af6{f PT:e_}(F:aW K ac2 "Machine.carry" Od f fd)(g:fV K C)(y:nC K CT)(i:Mt P w K mg fi CT 3 "take" gi (X7 CT PT))(z:Mt P w K mg fi C 1 "come" [Q_,aq5] (N0 t C CT)):aM P w K mg fi aS 4 f fd hZ (Nj t C CT PT):=by
 refine F.ok aho λaN A _ s H vs Q E r h=>?_;refine f9 h λm A S c k a=>iG a λn fx a M L B=>?_;subst a;refine qk B λD j I hn l a=>du a λJ N q=>?_;refine rZ (aB<|dC<|jX (pv 0) g.cl z (r.mono (show 1<=3 by decide))<|ae (Hh (aO cG (bT (pv 0) xz)<|pv 1) y.cl i.m i.G r i.b .nil dh<|ae (pv 2) af) af) (b9 (id M.obj) λdx fs hm G=>aq (M.xR j) λx o T=>dO (id T.obj) λW X ea Y Z e3 O el=>vM xz hm (G.ms _ dk)<|vF xz hm g.cl g.iH G.iH<|vr xz<|rL (ao.of M.lt) (CY o)<|rM ea (O _ dk)<|vr xz<|⟨x.1,n,_,_,_,_,(fG _ xz T D I λH1 e st p R v U cV=>?_)⟩);rw[jQ]at p;rw[(UW p)]at cV;refine⟨m,A,_,st,n,e.num,e.d,fx,xz,Y1 M L j o v R,L,cV,hn,l,(eM J N λH2 M2 V l2=>q _ ?_ ((aZ.QN v λb l=>.ts (bz o) l).f4 V)<|l2.lam U)⟩;unfold jG;rw[j];dsimp only;rw[p];exact M2
def aiu(a:e_)(n r:Nat):gQ (.ref a) L_ ([n,r].map λ(n:Nat)=>V.int (n:Int))=aT M_ (.int (r:Nat)) (aT H_ (.int (n:Nat))<|aT J_ (.ref a) []):=by kernel_rfl
def ad7{n:Nat}(hn:n<12)(a:e.n=(n:Int)):(n:Int)∈nB (es++[e]):=by
 refine A'.mpr (c8 n hn xz λz=>?_);rw[Xr,dL a]at z;simp at z
def Xg(t:a9)(C CT PT:e_):Sp:=λvs H Q _=>∃m A S c k z b a n r fx,vs=[.ref m,.int (c:Nat),.ref z]/\bb t C CT H m A S/\kQ fx m A/\i6 S/\B2 S/\dm PT LP LQ H/\S.ck[c]?=a_ k/\H z=a_ (.ins t.lJ b<|gQ (.ref a) L_<|[n,r].map λ(n:Nat)=>V.int (n:Int))/\n<12/\r<4/\
 ∀H',bb t C CT H' m A (setM S c n r)->aZ (cX m A) H H'->dm PT LP LQ H'->Q .aJ H'
def Xn:bj [Q_,X_,"step","gave"] gl (aU Oa):=bG
def af4{f PT:e_}(F:aW K "do_set" "Machine.do_set" Oa f fd)(l:fV K C)(cT:nC K CT)(cE:mg aq6 = b_)(D:vA K mg t)(X:Mt P w K mg fi CT 1 T_ ib (Y9 CT))(DC:Mt P w K mg fi C 4 ac2 hZ (Nj t C CT PT)):aM P w K mg fi aS 5 f fd gl (Xg t C CT PT):=by
 refine F.ok Xn λaN A _ s H vs Q E hr h=>?_
 refine wX h λm A S c k z dz a n r I=>Ov I λfx I M L W aX=>?_;subst I;refine qk aX λnR hL J p hn I=>oA I λwz q=>?_;refine let d:TS:=_;let j:TS:=_;⟨_,ay (bP (i:=3) Xn.nd xz (aL xz)<|aO cG (aO cG (bT (pv 0) xz)<|pv 1)<|bT (pv 2) xz)<|pR j<|ay (dC<|Hh (aO cG (bT (pv 0) xz)<|pv 1) cT.cl X.m X.G (hr.mono (show 1<=4 by decide)) X.b .nil dh<|ae (bT (pv 2) xz)<|ae (pv 3)<|ae (bw dE xz cE q_<|ae (bT (pv 0) xz) af) af)<|pR d<|ay (dC<|je m_ n_ o_ m5 (bT (pv 0) xz)<|ae (fA<|ae cU<|ae (pv 1)<|ae (bT (pv 2) xz)<|ae og<|ae (pv 3)<|ae og af) af)<|aB<|bX (bA dF (bT (pv 0) xz) cU<|bo _) (aB<|dC<|jX (pv 0) l.cl DC hr<|ae (pv 1)<|ae (bT (pv 2) xz) af) cj,?_⟩;rw[aiu]at p;refine b9 (id M.obj) λdx fs hm G=>aq (M.gc J) λra kl gz=>aq (M.xR J) λx Y T=>dO (id T.obj) λwK sQ ea e1 e2 e3 em el=>aq M.ac λws dD k8=>?_;have aaM:=W.ac;have aoq:=W.bounds J;have da:=W.rg k<|bz J
 have Z:∀(nm:bx),(aT M_ (.int (r:Nat))<|aT H_ (.int (n:Nat))<|aT J_ (.ref a) []).lookup nm=if nm = M_ then a_ (.int (r:Nat)) else if nm = H_ then a_ (.int (n:Nat)) else if nm = J_ then a_ (.ref a) else none:=λnm=>by
  rw[gm,gm,gm];rfl
 have lr:(aT M_ (.int (r:Nat))<|aT H_ (.int (n:Nat))<|aT J_ (.ref a) []).lookup (M_ : bx)=a_ (V.int (r:Nat)):=by rw[Z,dL rfl]
 have ln:(aT M_ (.int (r:Nat))<|aT H_ (.int (n:Nat))<|aT J_ (.ref a) []).lookup (H_ : bx)=a_ (V.int (n:Nat)):=by rw[Z,dt dk,dL rfl]
 have hg:k.rg[r]?=a_ (k.rg[r]'wg):=aQ wg;have eg:k.rg.getD r 0=k.rg[r]'wg:=jE hg;refine vF xz hm l.cl l.gc G.gc<|vr xz<|rL (v:=.ref ra) (ao.of M.rg) (jW kl)<|vF xz p D.vJ D.Zm lr<|rL (ao.of gz) (jW hg) ?_;generalize hgv:k.rg[r]'wg=g at eg;refine au _ xz<|eh m C dx fs<|lC _ xz hm l.cl l.iH G.iH<|vr xz<|rL (v:=.ref x.1) (ao.of M.lt) (CY Y)<|rM ea (em _ dk)<|vF xz p D.vJ D.HY ln<|vr xz<|vF xz hm l.cl l.iX G.iX<|di A.ac ws xz (.inl<|ao.of dD)<|⟨x.1,n,g,_,_,_,_,_,(lC _ xz T li li w4 λN T1 k1=>?_)⟩;have kf:=iw.ofA k1 T1;have M1:=Y1 M L J Y kf T1;have ew:((ws.length:Nat):Int)=((S.ac.length:Nat):Int):=by rw[(r_ k8)]
 rw[ew]at M1 T1
 have gf:N z=a_ (.ins t.lJ dz<|aT M_ (.int (r:Nat))<|aT H_ (.int (n:Nat))<|aT J_ (.ref a) []):=k1 _ _ (λzb=>by
  obtain y|y:=bq.mp zb
  .rw[y,ea]at p;cases p;rw[Z,dt dk,dt dk,dt dk]at e1;cases e1
  obtain⟨_,_,_,_⟩|⟨_,y2⟩:=T.kinds z zb _ p
  .obtain y|y:=bq.mp y
   .rw[y,T.qs]at p;cases p
   refine oE (wQ y) λi I=>oE I λhi ez=>?_;obtain⟨oN,e',_⟩:=T.kT i z (by rw[<-ez];exact aQ hi);rw[e']at p;cases p
  cases y2) p
 have sP:=CZ hL k1 T.kinds;have ER:aZ (cX m A) H N:=aZ.QN kf λb hb=>.ts (bz Y) hb;refine b9 (id M1.obj) λyy uP mM G1=>aq M1.ac λO R anS=>au _ xz<|eh m C yy uP<|⟨_,xz,mM,l.cl,l.iX,G1.iX,(.inl ⟨xz,_,ao.of R⟩),(au _ xz<|vF xz gf D.vJ D.HY ln<|vr xz ⟨(sl (n:=6)),(λB ht=>?_)⟩)⟩;have s2:=aH (o:=.tup [.str L_,.int (c:Nat),.int (n:Nat),.aJ,.int g,.aJ]) (ak.f8 N) ht;refine m8 A.ac O (.ref B) xz xz (s2 _ _ R) (by rw[(r_ anS),eA];exact wb) ?_;have M2:=OS (M1.same s2) L (s2 _ _ R) (x:=.ref B) (a:=⟨L_,c,n,b_,a_ g,b_⟩) ⟨B,xz,av⟩;have uG:aZ (cX m A) H (cB (cB N B<|.tup [.str L_,.int (c:Nat),.int (n:Nat),.aJ,.int g,.aJ]) A.ac<|.lst<|O++[.ref B]):=ER.f4<|(aZ.of s2).f4<|aZ.cB .ac;have l2:KL N (cB (cB N B<|.tup [.str L_,.int (c:Nat),.int (n:Nat),.aJ,.int g,.aJ]) A.ac<|.lst<|O++[.ref B]):=(KL.of s2).f4<|KL.cB<|s2 _ _ R;have sO:=l2.lam sP;have sC:=l2 _ _ (λxs z=>by cases z) gf;generalize cB (cB N B<|.tup [.str L_,.int (c:Nat),.int (n:Nat),.aJ,.int g,.aJ]) A.ac (.lst<|O++[.ref B])=H2 at M2 uG l2 sO sC ⊢;refine b9 (id M2.obj) λAG sf kx G3=>?_
 have eS:setM S c n r=if S.kd="none" then jG (iY (zL S c n k g) ⟨L_,c,n,b_,a_ g,b_⟩) c n else iY (zL S c n k g) ⟨L_,c,n,b_,a_ g,b_⟩:=by
  unfold setM;rw[J];dsimp only;rw[eg]
 rw[eS]at q;refine au _ xz<|eh m C AG sf<|lC _ xz kx l.cl l.kind G3.kind ⟨xz,⟨_,xz,bQ (λsI=>?_) λsI=>?_⟩⟩
 .have U:S.kd="none":=PR sI;rw[dL U]at q;have wG:c<S.ck.length:=(bu.mp J).1;refine vM xz kx (G3.ms _ dk)<|vr xz<|vF xz sC D.vJ D.HY ln<|⟨m,A,(iY (zL S c n k g) ⟨L_,c,n,b_,a_ g,b_⟩),c,({k with tn:=k.tn+1,es:=k.es++[⟨k.tn,n,g,S.ac.length⟩]}),n,fx,xz,M2,L,sO,?_,?_,hn,(⟨W.bd,W.ov,nR,(λH3 M3 k3 wI=>q H3 M3 (uG.f4 k3) wI)⟩)⟩
  .show (S.ck.set c _)[c]?=a_ _;rw[lU wG]
  show (n:Int)∈iT S.kd (k.es++[⟨k.tn,n,g,S.ac.length⟩]);unfold iT;rw[U,dt dk];exact ad7 hn xz
 have U:¬S.kd="none":=λe=>sI (by rw[e]);rw[dt U]at q;exact q H2 M2 uG sO
end
end TL
namespace L2
open PySem.SeqAt
def MW:mu X (λx y H Q=>∃p xs,∃i:Nat,∃v,x=.ref p/\y=.int (i:Nat)/\H p=a_ (.lst xs)/\xs[i]?=a_ v/\Q v H):=by
 refine λp_ s σ H o i ov k Q I c r2 h=>kL h λp xs j z a d=>?_;subst a;refine nF d λa e b q=>?_;subst a;cases c;refine oE r2 λt a=>?_;subst a;refine aP (I.list<|ao.of e) λl r pl m=>aq (r.get b) λw f g=>?_;have hn:=DG;have n:=(bu.mp b).1;exact wpAny_getItem_list pl.isList li li (by rw[jQ];simpa using f) ⟨z,H,I,g,q⟩
end L2
namespace TL
open PySem.SeqAt L2 L3 L4
def aiv(a:e_)(r n:Nat):gQ (.ref a) Z_ ([r,n].map λ(n:Nat)=>V.int (n:Int))=aT R_ (.int (n:Nat)) (aT M_ (.int (r:Nat))<|aT J_ (.ref a) []):=by kernel_rfl
def aiw(a:e_)(r n:Nat):gQ (.ref a) T_ ([r,n].map λ(n:Nat)=>V.int (n:Int))=aT aq1 (.int (n:Nat)) (aT M_ (.int (r:Nat))<|aT J_ (.ref a) []):=by kernel_rfl
def agD(a:e_)(r n:Nat):gQ (.ref a) Y_ ([r,n].map λ(n:Nat)=>V.int (n:Int))=aT aq2 (.int (n:Nat)) (aT M_ (.int (r:Nat))<|aT J_ (.ref a) []):=by kernel_rfl
def OA:(aT x v<|aT y u<|aT J_ (.ref a) []).lookup x=a_ v:=by rw[gm,dL rfl]
def HG(h:y≠x):(aT x v<|aT y u<|aT J_ (.ref a) []).lookup y=a_ u:=by rw[gm,dt h,gm,dL rfl]
def jF(s:Tl)(rg:List Int)(pl:Nat):Nat:=if s.1 = Y_/\rg.getD (s.2.getD 0 0) 0=0 then s.2.getD 1 0 else pl+1
def cO(S:Mc)(c:Nat)(s:Tl):Mc:=
 if s.1 = Z_ then iW S c (s.2.getD 0 0) (s.2.getD 1 0:Nat)
 else if s.1 = T_ then (match S.ck[c]? with
  | none=>S
  | some k=>iW S c (s.2.getD 0 0)<|(k.rg.getD (s.2.getD 0 0) 0+k.rg.getD (s.2.getD 1 0) 0)%nL)
 else if s.1 = L_ then setM S c (s.2.getD 0 0) (s.2.getD 1 0)
 else if s.1 = I_ then qy S c (s.2.getD 0 0) (s.2.getD 1 0)
 else if s.1 = l_ then rJ S c (s.2.getD 0 0) (s.2.getD 1 0)
 else S
def ui(S:Mc)(c:Nat)(s:Tl):Mc:=match S.ck[c]? with
 | none=>S
 | some k=>{S with ck:=S.ck.set c {k with pl:=jF s k.rg k.pl,ct:=k.ct+1}}
def si(S:Mc)(c:Nat):Mc:=match S.ck[c]?,S.ps[c]? with
 | some k,a_ p=>(match p[k.pl]? with
  | some s=>ui (cO S c s) c s
  | none=>S)
 | _,_=>S
section
variable{t:a9}{C CT:e_}{H:Hp}{m:e_}{A:MA}{S:Mc}
def bb.ahc(M:bb t C CT H m A S)(b:H z=a_ (.ins cz dz<|gQ (.ref a) x ps)):¬cX m A z:=by
 intro f;cases f with
 | m=>
  refine b9 M.obj λdx fs h G=>?_;rw[h]at b;cases b;have e:=G.iH;rw[Dm _ dk]at e;cases e
 | lt=>rw[M.lt]at b;cases b
 | pl=>rw[M.pl]at b;cases b
 | ct=>rw[M.ct]at b;cases b
 | rg=>rw[M.rg]at b;cases b
 | ce=>rw[M.ce]at b;cases b
 | ac=>obtain⟨vs,h,_⟩:=M.ac;rw[h]at b;cases b
 | cm=>rw[M.cm]at b;cases b
 | rs h=>
  refine aq (qf M.rs h) λc _ q=>?_;rw[q]at b;cases b
 | cs h=>
  refine aq (qf M.cs h) λc _ q=>?_;rw[q]at b;cases b
 | ts h h2=>
  refine aq (qf M.ts h) λc _ T=>dO (id T.obj) λl n ea d o p r el=>?_;obtain y|y:=bq.mp h2
  .rw[y,ea]at b;cases b;rw[Dm _ dk]at d;cases d
  obtain y|y:=bq.mp y
  .rw[y,T.qs]at b;cases b
  refine oE (wQ y) λi g=>oE g λhi j=>?_;obtain⟨s,k,_⟩:=T.kT i z (by rw[<-j];exact aQ _);rw[k]at b;cases b
end
section
variable{P:k_}{w:j_}{K:u_}{mg:bx->Option f_}{fi:i_}{t:a9}{C CT:e_}{u:pQ}
def Ui(t:a9):Sp:=λvs H Q _=>∃z a c s sz b rg,∃pl:Nat,vs=[.ref z,.int (pl:Nat),.ref b]/\H z=a_ (.ins (eJ t s.1) c<|gQ (.ref a) s.1<|s.2.map λ(n:Nat)=>V.int (n:Int))/\fU sz s/\H b=a_ (.lst<|rg.map V.int)/\rg.length=4/\Q (.int (jF s rg pl:Nat)) H
def acJ:bj ia ia (aU Lw):=bG
def WQ(g:Int):decide (V.int g=V.int 0)=decide (g=0):=decide_eq_decide.mpr ⟨λz=>by injection z,λz=>by rw[z]⟩
def acA(F:aW K "place_behind" "place_behind" Lw f fd)(O:zM K mg t u):aM P w K mg fi aS 1 f fd ia (Ui t):=by
 refine F.ok acJ λaN A _ s H vs Q E o h=>?_
 refine f9 h λz a x s sz d=>fE d λy rg pl d c l=>?_;subst d;refine nF l λg m B q=>?_;refine⟨_,ay (bX (PW.pt<|pw_and (gu<|bw jb xz O.st.bl.kg jq<|ae (pv 0)<|ae (gD (v:=.ref _) xz O.st.Oz xz) af)<|pw_and1<|bA dF (aO cG (pv 2)<|bT (pv 0) xz) ax<|bo _) (aB<|a8<|bT (pv 0) xz) cj)<|aB<|a8<|bg jv (pv 1) ax,aq (OE O g c) λD ty n=>vr xz<|eh _ _ _ _<|fG _ xz ty xz n.Zf<|tk<|bQ (λb=>?_) λb=>?_⟩
 .cases g with
  | skip r p h1 h2 h3=>
   have c:=c;rw[M8,agD]at c;have j:=aQ wg;have k:rg.getD r 0=rg[r]'wg:=jE j;refine vr xz<|vF xz c O.st.xC O.st.YA (HG dk)<|rL (ao.of m) (jW j) ⟨xz,⟨_,xz,bQ (λi=>?_) λi=>?_⟩⟩
   .have e:jF (Y_,[r,p]) rg pl=p:=by
     unfold jF;rw[dL ⟨xz,by show rg.getD r 0=0;rw[k];injection i⟩];rfl
    rw[e]at q;exact vF xz c O.st.xC O.st.Ox OA q
   have e:jF (Y_,[r,p]) rg pl=pl+1:=by
    unfold jF;rw[dt λh=>i (by have:=h.2;rw[<-show rg.getD r 0=rg[r]'wg from k];rw[show rg.getD r 0=0 from this])]
   rw[e]at q;exact au _ xz ⟨_,⟨_,xz,xz,q⟩⟩
  | put=>exact dV (show ("put":bx)="skip" from b) dk
  | add=>exact dV (show ("add":bx)="skip" from b) dk
  | set=>exact dV (show ("set":bx)="skip" from b) dk
  | look=>exact dV (show ("look":bx)="skip" from b) dk
  | swap=>exact dV (show ("swap":bx)="skip" from b) dk
  | clear=>exact dV b dk
 have e:jF s rg pl=pl+1:=by
  unfold jF;rw[dt λh=>b h.1]
 rw[e]at q;exact au _ xz ⟨_,⟨_,xz,xz,q⟩⟩
end
end TL
namespace L2
def fH.Z4{t t':TS}(h:fH X ss t)(hi:∀D σ H,t' D σ H->t D σ H):fH X ss t':=λp_ s σ H D I q=>h _ s _ H D I<|hi D _ H q
end L2
namespace TL
open PySem.SeqAt L2 L3 L4
variable{P:k_}{w:j_}{K:u_}{mg:bx->Option f_}{fi:i_}
def WK(a:e_)(r n:Nat):gQ (.ref a) I_ ([r,n].map λ(n:Nat)=>V.int (n:Int))=aT H_ (.int (n:Nat)) (aT M_ (.int (r:Nat))<|aT J_ (.ref a) []):=by kernel_rfl
def agC(a:e_)(r n:Nat):gQ (.ref a) l_ ([r,n].map λ(n:Nat)=>V.int (n:Int))=aT H_ (.int (n:Nat)) (aT M_ (.int (r:Nat))<|aT J_ (.ref a) []):=by kernel_rfl
def Bm(n r:Nat)(a:e_):(aT H_ (.int (n:Nat))<|aT M_ (.int (r:Nat))<|aT J_ (.ref a) []).lookup (H_ : bx)=a_ (V.int (n:Nat)):=by rw[gm,dL rfl]
def OB(n r:Nat)(a:e_):(aT H_ (.int (n:Nat))<|aT M_ (.int (r:Nat))<|aT J_ (.ref a) []).lookup (M_ : bx)=a_ (V.int (r:Nat)):=by rw[gm,dt dk,gm,dL rfl]
section
variable{t:a9}{C CT:e_}{u:pQ}
def Wg(t:a9)(C CT:e_):Sp:=λvs H Q _=>∃m A S c k z b a r n fx,vs=[.ref m,.int (c:Nat),.ref z]/\bb t C CT H m A S/\kQ fx m A/\i6 S/\S.ck[c]?=a_ k/\H z=a_ (.ins t.mj b<|gQ (.ref a) I_<|[r,n].map λ(n:Nat)=>V.int (n:Int))/\r<4/\n<12/\
 ∀H',bb t C CT H' m A (qy S c r n)->aZ (cX m A) H H'->KL H H'->Q .aJ H'
def MC:bj [Q_,X_,"step",aq5] gl (aU Nv):=bG
def aeC(F:aW K "do_look" "Machine.do_look" Nv f fd)(B:fV K C)(cT:nC K CT)(l:vA K mg t)(N:Mt P w K mg fi CT 1 "latest" gi (Wc CT))(DB:Mt P w K mg fi C 1 "on_board" gi (L6 t C CT)):aM P w K mg fi aS 2 f fd gl (Wg t C CT):=by
 refine F.ok MC λaN A _ s H vs Q E Z h=>?_
 refine wX h λm A S c k z dz a r n O=>Ov O λfx O M L W aX=>?_;subst O;refine oj aX λI R wz hn q=>⟨_,ay (bP (i:=3) MC.nd xz (aL xz)<|Hh (aO cG (bT (pv 0) xz)<|pv 1) cT.cl N.m N.G Z N.b .nil dh<|ae (bT (pv 2) xz) af)<|ay (bX (bA Ou (pv 3) og<|bo _) (aB<|bP (i:=3) MC.nd xz (aL xz)<|jX (pv 0) B.cl DB Z<|ae (bT (pv 2) xz) af) cj)<|fH.Z4 (t':=λD σ p=>∃st x,σ=[a_ (.ref m),a_<|.int (c:Nat),a_<|.ref z,a_<|.ref st]/\p st=a_ (.tup [x,.int (dq S k n).1,oV (dq S k n).2])/\ak H p/\∀U H',bb t C CT H' m A (qy S c r n)->aZ (cX m A) H H'->KL H H'->D.nx U H') (ay (dC<|je m_ n_ o_ m5 (bT (pv 0) xz)<|ae (fA<|ae cU<|ae (pv 1)<|ae (bT (pv 2) xz)<|ae (aO cw (pv 3) ax)<|ae og<|ae (aO cw (pv 3) ax) af) af)<|aB<|Bs (aO cw (pv 3) ax)<|Bt (aO cG (bT (pv 0) xz)<|pv 1) (bT (pv 2) xz) set_list) ?tl,?_⟩
 case tl=>
  rintro D σ p ⟨st,x,rfl,cV,s1,q⟩;rw[WK]at R;have M1:=M.same s1;refine b9 (id M1.obj) λdx fs hm G=>aq M1.ac λws J k8=>?_;have gf:=s1 _ _ R;refine vF xz hm B.cl B.iX G.iX ⟨.inl ⟨xz,_,ao.of J⟩,au _ xz<|vF xz gf l.vw l.HE (Bm n r a)<|iI (j:=1) xz cV xz<|iI (j:=2) xz cV xz ⟨(sl (n:=6)),(λg V=>?_)⟩⟩;have s2:=aH (o:=.tup [.str I_,.int (c:Nat),.int (n:Nat),.int (dq S k n).1,.aJ,oV (dq S k n).2]) (ak.f8 p) V;have aaM:=W.ac;refine m8 A.ac ws (.ref g) xz xz (s2 _ _ J) (by rw[(r_ k8),eA];exact wb) ?_;have M2:=OS (M1.same s2) L (s2 _ _ J) (x:=.ref g) (a:=⟨I_,c,n,a_ (dq S k n).1,b_,(dq S k n).2⟩) ⟨g,xz,av⟩;have uG:aZ (cX m A) H (cB (cB p g<|.tup [.str I_,.int (c:Nat),.int (n:Nat),.int (dq S k n).1,.aJ,oV (dq S k n).2]) A.ac<|.lst<|ws++[.ref g]):=(aZ.of s1).f4<|(aZ.of s2).f4<|aZ.cB .ac;have l2:KL p (cB (cB p g<|.tup [.str I_,.int (c:Nat),.int (n:Nat),.int (dq S k n).1,.aJ,oV (dq S k n).2]) A.ac<|.lst<|ws++[.ref g]):=(KL.of s2).f4<|KL.cB<|s2 _ _ J;have sC:=l2 _ _ (λxs z=>by cases z) gf;have BP:=l2.tup _ _ cV;generalize cB (cB p g<|.tup [.str I_,.int (c:Nat),.int (n:Nat),.int (dq S k n).1,.aJ,oV (dq S k n).2]) A.ac (.lst<|ws++[.ref g])=H2 at M2 uG l2 sC BP ⊢;refine b9 (id M2.obj) λAG sf kx G3=>aq (M2.gc (k:=k) I) λra X gz=>?_;refine iI (j:=1) xz BP xz<|vF xz kx B.cl B.gc G3.gc<|vr xz<|rL (v:=.ref ra) (ao.of M2.rg) (jW X)<|vF xz sC l.vw l.YB (OB n r a)<|⟨ra,_,_,r,xz,xz,gz,(vG<|by rw[aG,(W.rg k<|bz I)];exact wz),?_⟩;refine q _ _ ?_ (uG.f4<|aZ.cB<|.rs<|bz X)<|(KL.of s1).f4<|l2.f4<|KL.cB gz
  have e:qy S c r n={ (iY S ⟨I_,c,n,a_ (dq S k n).1,b_,(dq S k n).2⟩)with ck:=S.ck.set c {k with rg:=k.rg.set r (dq S k n).1}}:=by
   unfold qy;rw[I];dsimp only;unfold iW;rw[show (iY S ⟨I_,c,n,a_ (dq S k n).1,b_,(dq S k n).2⟩).ck[c]?=a_ k from I];rfl
  rw[e];exact HP M2 L (k:=k) I X r (dq S k n).1
 refine b9 (id M.obj) λdx fs hm G=>aq (M.xR I) λx hx T=>dO (id T.obj) λwK sQ ea e1 e2 e3 em el=>?_;have aoq:=W.bounds I;have Y:=R;rw[WK]at Y;refine vF xz hm B.cl B.iH G.iH<|vr xz<|rL (v:=.ref x.1) (ao.of M.lt) (CY hx)<|rM ea (em _ dk)<|vF xz Y l.vw l.HE (Bm n r a)<|⟨x.1,n,_,_,_,_,(⟨_,xz,T,li,li,w4,(λjm=>?_),(λe st he cV=>?_)⟩)⟩
 .rw[jQ]at jm;refine au _ xz ⟨xz,⟨_,xz,bQ (λ_=>vM xz hm (G.ms _ dk)<|vF xz Y l.vw l.HE (Bm n r a)<|mZ m A S n xz M hn W.bd W.ov λg V=>?_) λy=>dV xz y⟩⟩;have es:dq S k n=(S.bd.getD n 0,(S.ov.getD n []).getLast?):=by unfold dq;rw[jm]
  refine qo g (.int (n:Nat)) xz ?_ (aH (ak.f8 H) V) λU H' h1 h2 h3=>q H' h1 h2 h3;rw[av,es];rfl
 rw[jQ]at he;refine au _ xz ⟨xz,⟨_,xz,bQ (λy=>by cases y) λ_=>?_⟩⟩;have es:dq S k n=(e.num,a_ e.d):=by unfold dq;rw[he]
 exact qo st (.int e.n) xz (by rw[es];exact cV) (ak.f8 H) λU H' h1 h2 h3=>q H' h1 h2 h3
def We(t:a9)(C CT:e_):Sp:=λvs H Q _=>∃m A S c k z b a r n fx,vs=[.ref m,.int (c:Nat),.ref z]/\bb t C CT H m A S/\kQ fx m A/\i6 S/\B2 S/\S.ck[c]?=a_ k/\H z=a_ (.ins t.mi b<|gQ (.ref a) l_<|[r,n].map λ(n:Nat)=>V.int (n:Int))/\r<4/\n<12/\
 ∀H',bb t C CT H' m A (rJ S c r n)->aZ (cX m A) H H'->KL H H'->Q .aJ H'
def Mz:bj [Q_,X_,"step","gave",aq5] gl (aU Nt):=bG
def aeA(F:aW K "do_swap" "Machine.do_swap" Nt f fd)(b:fV K C)(d:vA K mg t)(cE:mg aq6 = b_)(DB:Mt P w K mg fi C 1 "on_board" gi (L6 t C CT))(DC:Mt P w K mg fi C 1 "come" [Q_,aq5] (N0 t C CT)):aM P w K mg fi aS 2 f fd gl (We t C CT):=by
 refine F.ok Mz λaN A _ s H vs Q E V h=>?_
 refine wX h λm A S c k z dz a r n O=>Ov O λfx O M L W aX=>?_;subst O;refine qk aX λnR p B wz hn q=>⟨_,ay (bP (i:=3) Mz.nd xz (aL xz)<|aO cG (aO cG (bT (pv 0) xz)<|pv 1)<|bT (pv 2) xz)<|ay (bP (i:=4) Mz.nd xz (aL xz)<|jX (pv 0) b.cl DB V<|ae (bT (pv 2) xz) af)<|ay (dC<|jX (pv 0) b.cl DC V<|ae (fA<|ae (bT (pv 2) xz)<|ae (pv 3)<|ae (bw dE xz cE q_<|ae (bT (pv 0) xz) af) af) af)<|ay (dC<|je m_ n_ o_ m5 (bT (pv 0) xz)<|ae (fA<|ae cU<|ae (pv 1)<|ae (bT (pv 2) xz)<|ae (aO cw (pv 4) ax)<|ae (pv 3)<|ae (aO cw (pv 4) ax) af) af)<|aB<|Bs (aO cw (pv 4) ax)<|Bt (aO cG (bT (pv 0) xz)<|pv 1) (bT (pv 2) xz) set_list,?_⟩;rw[agC]at B;refine b9 (id M.obj) λdx fs hm G=>aq (M.gc p) λra kl gz=>?_;have da:=W.rg k<|bz p;have X:k.rg[r]?=a_ (k.rg[r]'wg):=aQ wg;have Y:k.rg.getD r 0=k.rg[r]'wg:=jE X;refine vF xz hm b.cl b.gc G.gc<|vr xz<|rL (v:=.ref ra) (ao.of M.rg) (jW kl)<|vF xz B d.tZ d.Oy (OB n r a)<|rL (ao.of gz) (jW X) ?_;generalize k.rg[r]'wg=g at Y;refine vM xz hm (G.ms _ dk)<|vF xz B d.tZ d.HD (Bm n r a) (mZ m A S n xz M hn W.bd W.ov λst anY=>?_);have s1:=aH (o:=.tup<|DQ S n) (ak.f8 H) anY;have cV:cB H st (.tup<|DQ S n) st=a_ (.tup [.int (n:Nat),.int<|S.bd.getD n 0,oV (S.ov.getD n []).getLast?]):=av;have M1:=M.same s1;generalize cB H st (.tup<|DQ S n)=H1 at s1 cV M1 ⊢;refine aq M1.ac λws dD k8=>?_;have kh:=r_ k8;have aaM:=W.ac;refine vM xz (s1 _ _ hm) (G.ms _ dk)<|vF xz (s1 _ _ B) d.tZ d.HD (Bm n r a)<|vr xz<|vF xz (s1 _ _ hm) b.cl b.iX G.iX (qo A.ac ws xz (.inl<|ao.of dD) (sl (n:=3)) λtp ht=>?_);have s2:=aH (o:=.tup [.int (n:Nat),.int g,.int (ws.length:Nat)]) (ak.f8 H1) ht;refine⟨m,A,S,tp,n,g,(ws.length:Nat),fx,xz,(M1.same s2),L,av,hn,W.bd,(eM W.ov nR λD M2 k2 l2=>?_)⟩;have R:=(KL.of s2).f4 l2;have Z:=R _ _ (λxs z=>by cases z)<|s1 _ _ B;have T:=R.tup _ _ cV;refine b9 (id M2.obj) λAG sf kx G3=>aq M2.ac λI N pL=>?_;have anT:I.length=S.ac.length:=r_ pL;refine au _ xz<|eh m C AG sf<|⟨_,xz,kx,b.cl,b.iX,G3.iX,(.inl ⟨xz,_,ao.of N⟩),(au _ xz<|vF xz Z d.tZ d.HD (Bm n r a)<|iI (j:=1) xz T xz<|vr xz<|iI (j:=2) xz T xz ⟨(sl (n:=6)),(λl hq=>?_)⟩)⟩;have y:=aH (o:=.tup [.str l_,.int (c:Nat),.int (n:Nat),.int<|S.bd.getD n 0,.int g,oV (S.ov.getD n []).getLast?]) (ak.f8 D) hq;refine m8 A.ac I (.ref l) xz xz (y _ _ N) (by rw[anT,eA];exact wb) ?_;have J:=OS (M2.same y) L (y _ _ N) (x:=.ref l) (a:=⟨l_,c,n,a_<|S.bd.getD n 0,a_ g,(S.ov.getD n []).getLast?⟩) ⟨l,xz,av⟩;have JV:aZ (cX m A) H (cB (cB D l<|.tup [.str l_,.int (c:Nat),.int (n:Nat),.int<|S.bd.getD n 0,.int g,oV (S.ov.getD n []).getLast?]) A.ac<|.lst<|I++[.ref l]):=((aZ.of s1).f4<|(aZ.of s2).f4 k2).f4<|(aZ.of y).f4<|aZ.cB .ac;have l3:KL D (cB (cB D l<|.tup [.str l_,.int (c:Nat),.int (n:Nat),.int<|S.bd.getD n 0,.int g,oV (S.ov.getD n []).getLast?]) A.ac<|.lst<|I++[.ref l]):=(KL.of y).f4<|KL.cB<|y _ _ N;have JZ:=l3 _ _ (λxs z=>by cases z) Z;have aaz:=l3.tup _ _ T;generalize cB (cB D l<|.tup [.str l_,.int (c:Nat),.int (n:Nat),.int<|S.bd.getD n 0,.int g,oV (S.ov.getD n []).getLast?]) A.ac (.lst<|I++[.ref l])=H3 at J JV l3 JZ aaz ⊢;refine b9 (id J.obj) λdx4 fs4 lh G4=>aq (J.gc (k:=k) p) λra4 U aaA=>iI (j:=1) xz aaz xz<|vF xz lh b.cl b.gc G4.gc<|vr xz<|rL (v:=.ref ra4) (ao.of J.rg) (jW U)<|vF xz JZ d.tZ d.Oy (OB n r a)<|⟨ra4,_,_,r,xz,xz,aaA,(vG<|by rw[aG,da];exact wz),?_⟩;refine q _ ?_ (JV.f4<|aZ.cB<|.rs<|bz U)<|(KL.of s1).f4<|R.f4<|l3.f4<|KL.cB aaA
 have e:rJ S c r n={ (iY (rE S n g (ws.length:Nat)) ⟨l_,c,n,a_<|S.bd.getD n 0,a_ g,(S.ov.getD n []).getLast?⟩)with ck:=S.ck.set c {k with rg:=k.rg.set r (S.bd.getD n 0)}}:=by
  unfold rJ;rw[p];dsimp only;rw[Y,kh];unfold iW;rw[show (iY (rE S n g (S.ac.length:Nat)) ⟨l_,c,n,a_<|S.bd.getD n 0,a_ g,(S.ov.getD n []).getLast?⟩).ck[c]?=a_ k from p];rfl
 rw[e];exact HP J L (k:=k) p U r<|S.bd.getD n 0
end
section
variable{S:Mc}{c:Nat}{k:Ck}
structure lT(S S':Mc)(c:Nat)(k k':Ck):Prop where
 at':S'.ck[c]?=a_ k'
 pl:k'.pl=k.pl
 ct:k'.ct=k.ct
 rg:k'.rg.length=k.rg.length
def Hg(a:S.ck[c]?=a_ k):lT S (iW S c r v) c k {k with rg:=k.rg.set r v}:=by
 have e:iW S c r v={S with ck:=S.ck.set c {k with rg:=k.rg.set r v}}:=by unfold iW;rw[a]
 rw[e];exact⟨lU (bu.mp a).1,xz,xz,qa⟩
def aj9{sz:Nat}(g:fU sz s)(a:S.ck[c]?=a_ k):∃k',lT S (cO S c s) c k k':=by
 have b:=(bu.mp a).1;cases g with
 | put r n h1 h2=>exact⟨_,Hg a⟩
 | add r o h1 h2=>
  have e:cO S c (T_,[r,o])=iW S c r ((k.rg.getD r 0+k.rg.getD o 0)%nL):=by
   unfold cO;rw[dt (show ¬(T_ : bx) = Z_ from dk),dL xz,a];rfl
  rw[e];exact⟨_,Hg a⟩
 | set n r h1 h2=>
  have e:cO S c (L_,[n,r])=setM S c n r:=by kernel_rfl
  rw[e];unfold setM;rw[a];dsimp only
  split
  .unfold jG;rw[show (iY (zL S c n k<|k.rg.getD r 0) ⟨L_,c,n,b_,a_<|k.rg.getD r 0,b_⟩).ck[c]?=a_ {k with tn:=k.tn+1,es:=k.es++[⟨k.tn,n,k.rg.getD r 0,S.ac.length⟩]} from lU b];dsimp only
   split
   .exact⟨_,⟨lU b,xz,xz,xz⟩⟩
   exact⟨{k with tn:=k.tn+1,es:=jH _ n},⟨lU (by show c<(S.ck.set c _).length;rw[qa];exact b),xz,xz,xz⟩⟩
  exact⟨_,⟨lU b,xz,xz,xz⟩⟩
 | look r n h1 h2=>
  have e:cO S c (I_,[r,n])=iW (iY S ⟨I_,c,n,a_ (dq S k n).1,b_,(dq S k n).2⟩) c r (dq S k n).1:=by
   unfold cO;rw[dt (show ¬(I_ : bx) = Z_ from dk),dt (show ¬(I_ : bx) = T_ from dk),dt (show ¬(I_ : bx) = L_ from dk),dL rfl];show qy S c r n=_;unfold qy;rw[a]
  rw[e];have r:=Hg (S:=iY S ⟨I_,c,n,a_ (dq S k n).1,b_,(dq S k n).2⟩) (r:=r) (v:=(dq S k n).1) a;exact⟨_,⟨r.at',r.pl,r.ct,r.rg⟩⟩
 | swap r n h1 h2=>
  have e:cO S c (l_,[r,n])=iW (iY (rE S n (k.rg.getD r 0) S.ac.length) ⟨l_,c,n,a_<|S.bd.getD n 0,a_<|k.rg.getD r 0,(S.ov.getD n []).getLast?⟩) c r (S.bd.getD n 0):=by
   unfold cO;rw[dt (show ¬(l_ : bx) = Z_ from dk),dt (show ¬(l_ : bx) = T_ from dk),dt (show ¬(l_ : bx) = L_ from dk),dt (show ¬(l_ : bx) = I_ from dk),dL rfl];show rJ S c r n=_;unfold rJ;rw[a]
  rw[e];have r:=Hg (S:=iY (rE S n (k.rg.getD r 0) S.ac.length) ⟨l_,c,n,a_<|S.bd.getD n 0,a_<|k.rg.getD r 0,(S.ov.getD n []).getLast?⟩) (r:=r) (v:=(S.bd.getD n 0)) a;exact⟨_,⟨r.at',r.pl,r.ct,r.rg⟩⟩
 | clear=>
  have e:cO S c (N_,[])=S:=by kernel_rfl
  rw[e];exact⟨k,⟨a,xz,xz,xz⟩⟩
 | skip r q h1 h2 h3=>
  have e:cO S c (Y_,[r,q])=S:=by kernel_rfl
  rw[e];exact⟨k,⟨a,xz,xz,xz⟩⟩
end
section
variable{t:a9}{C CT:e_}{u:pQ}
def Wf(t:a9)(C CT PT:e_):Sp:=λvs H Q _=>∃m A S c k p s sz fx,vs=[.ref m,.int (c:Nat)]/\bb t C CT H m A S/\kQ fx m A/\i6 S/\B2 S/\dm PT LP LQ H/\S.ck[c]?=a_ k/\S.ps[c]?=a_ p/\p[k.pl]?=a_ s/\fU sz s/\
 ∀H',bb t C CT H' m A (si S c)->aZ (cX m A) H H'->dm PT LP LQ H'->Q .aJ H'
def MB:bj [Q_,X_,"step","regs"] g5 (aU Nu):=bG
def Oi{k:Ck}(a:S.ck[c]?=a_ k):iW S c r v={S with ck:=S.ck.set c {k with rg:=k.rg.set r v}}:=by unfold iW;rw[a]
def aeB{f PT:e_}(F:aW K "do_step" "Machine.do_step" Nu f fd)(cM:fV K C)(O:zM K mg t u)(DP:Dp P w K mg fi 1 "place_behind" ia (Ui t))(DS:Mt P w K mg fi C 5 "do_set" gl (Xg t C CT PT))(DL:Mt P w K mg fi C 2 "do_look" gl (Wg t C CT))(DW:Mt P w K mg fi C 2 "do_swap" gl (We t C CT)):aM P w K mg fi aS 6 f fd g5 (Wf t C CT PT):=by
 refine aq O.st.cn.top λuT mT rT=>F.ok MB λaN A _ s H vs Q E hr h=>?_
 refine f9 h λm A S c k aa=>kL aa λp st sz fx aa aX=>?_;subst aa;refine qk aX λM L W nR hL aa=>oj aa λhk hp hs g q=>?_;have jk:=hr.mono (show 2<=5 by decide);refine aq (M.gc hk) λra kl gz=>?_;have da:=W.rg k<|bz hk;refine fE (M.part hp) λvs b us h1 h2 aa=>oA aa λh3 h4=>aq (tK h4 hs) λv hv aa=>zB aa λz a dz aa Z=>?_;subst aa;have an7:=M.ahc Z
 have Kh:si S c=ui (cO S c st) c st:=by
  unfold si;rw[hk,hp];dsimp only;rw[hs]
 refine let d:TS:=_;let j:TS:=_;let l:TS:=_;let x:TS:=_;let B:TS:=_;let I:TS:=_;let J:TS:=_;let N:TS:=_;let R:TS:=_;let T:TS:=_;let U:TS:=_;let X:TS:=_;let Y:TS:=_;⟨_,ay (bP (i:=2) MB.nd xz (aL xz)<|aO cw (aO cw (bT (pv 0) xz)<|pv 1)<|aO cG (bT (pv 0) xz)<|pv 1) (pR Y (ay (bP (i:=3) MB.nd xz (aL xz)<|aO cG (bT (pv 0) xz)<|pv 1) (pR X (ay (bX (gu<|bw jb xz O.st.bl.kg jq<|ae (pv 2)<|ae (gD (v:=.ref t.nJ) xz O.st.Zs xz) af) (pR d<|aB<|Bs (bT (pv 2) xz)<|Bt (pv 3) (bT (pv 2) xz) set_list) (pR R (aB (bX (gu<|bw jb xz O.st.bl.kg jq<|ae (pv 2)<|ae (gD (v:=.ref t.nK) xz O.st.Zt xz) af) (pR j<|aB<|Bs (bg gE (bg jv (aO cG (pv 3)<|bT (pv 2) xz)<|aO cG (pv 3)<|bT (pv 2) xz)<|gD xz mT rT)<|Bt (pv 3) (bT (pv 2) xz) set_list) (pR N (aB (bX (gu<|bw jb xz O.st.bl.kg jq<|ae (pv 2)<|ae (gD (v:=.ref t.lJ) xz O.st.Zr xz) af) (pR l<|aB<|dC<|jX (pv 0) cM.cl DS hr<|ae (pv 1)<|ae (pv 2) af) (pR J (aB (bX (gu<|bw jb xz O.st.bl.kg jq<|ae (pv 2)<|ae (gD (v:=.ref t.mj) xz O.st.YE xz) af) (pR x<|aB<|dC<|jX (pv 0) cM.cl DL jk<|ae (pv 1)<|ae (pv 2) af) (pR I (aB (bX (gu<|bw jb xz O.st.bl.kg jq<|ae (pv 2)<|ae (gD (v:=.ref t.mi) xz O.st.YD xz) af) (pR B<|aB<|dC<|jX (pv 0) cM.cl DW jk<|ae (pv 1)<|ae (pv 2) af)
        cj)))))))))))))
  (fH.Z4 (t':=λD σ H1=>σ=[a_ (.ref m),a_<|.int (c:Nat),a_<|.ref z,a_<|.ref ra]/\bb t C CT H1 m A (cO S c st)/\aZ (cX m A) H H1/\dm PT LP LQ H1/\∀σ' H',bb t C CT H' m A (si S c)->aZ (cX m A) H H'->dm PT LP LQ H'->D.nx σ' H') (pR U<|ay (Bs (gF DP (hr.mono (show 1<=5 by decide)) xz<|ae (pv 2)<|ae (aO cG (bT (pv 0) xz)<|pv 1)<|ae (pv 3) af)<|Bt (bT (pv 0) xz) (pv 1) set_list)<|pR T<|aB<|NB (bT (pv 0) xz) (pv 1) MW ax YJ set_list) ?tl))))),?_⟩
 case tl=>
  rintro D σ H1 ⟨rfl,M1,k1,sP,q⟩;refine oE (aj9 g hk) λk' ef=>b9 (id M1.obj) λdx fs hm G=>?_;refine aq (M1.gc ef.at') λra' aaB an1=>?_;have era:ra'=ra:=by rw[kl]at aaB;exact(cI aaB).f5
  subst era;have hc:=(bu.mp ef.at').1;refine vr xz<|vF xz hm cM.cl cM.places G.places<|vr xz<|rL (ao.of M1.pl) (jW ef.at')<|vr xz<|⟨z,a,dz,st,sz,ra',k'.rg,k'.pl,xz,k1.k z _ an7 (λps y=>by cases y) Z,g,an1,(ef.rg▸da),(vF xz hm cM.cl cM.places G.places<|vr xz<|⟨A.pl,_,_,c,xz,xz,M1.pl,(vG<|by rw[aG];exact hc),?_⟩)⟩;have M2:=akL M1 L ef.at'<|jF st k'.rg k'.pl;have k2:aZ (cX m A) _ (cB H1 _<|.lst<|((cO S c st).ck.map λk=>V.int k.pl).set c<|.int (jF st k'.rg k'.pl:Nat)):=aZ.cB .pl;have l2:KL _ (cB _ _<|.lst<|((cO S c st).ck.map λk=>V.int k.pl).set c<|.int (jF st k'.rg k'.pl:Nat)):=KL.cB M1.pl;generalize cB _ _ _=H2 at M2 k2 l2 ⊢;refine b9 (id M2.obj) λAG sf kx G3=>?_;have e2:((cO S c st).ck.set c {k' with pl:=jF st _ k'.pl})[c]?=a_ {k' with pl:=jF st k'.rg k'.pl}:=lU hc;refine au _ xz<|eh m C _ _<|lC _ xz kx cM.cl cM.counts G3.counts<|vr xz<|⟨A.ct,_,c,(.int _),xz,xz,M2.ct,(by rw[cH,e2];rfl),⟨_,_,xz,xz,A.ct,_,_,c,xz,xz,M2.ct,vG (by rw[aG,qa];exact hc),?_⟩⟩;refine q _ _ ?_ ((k1.f4 k2).f4<|aZ.cB .ct)<|(l2.f4<|KL.cB M2.ct).lam sP;rw[Kh]
  have e:ui (cO S c st) c st={ (cO S c st)with ck:=((cO S c st).ck.set c {k' with pl:=jF st k'.rg k'.pl}).set c {k' with pl:=jF st k'.rg k'.pl,ct:=k'.ct+1}}:=by
   unfold ui;rw[ef.at',F6]
  rw[e];exact akN M2 L e2<|k'.ct+1
 refine b9 (id M.obj) λdx fs hm G=>vF xz hm cM.cl cM.steps G.steps<|vr xz<|⟨A.st,_,_,(.ref b),xz,xz,(aF.of h1),(bZ h2),(vF xz hm cM.cl cM.places G.places<|vr xz<|rL (ao.of M.pl) (jW hk)<|⟨b,_,_,(.ref z),xz,xz,(aF.of h3),(bZ hv),(au _ xz<|eh m C _ _<|lC _ xz hm cM.cl cM.gc G.gc<|vr xz<|rL (ao.of M.rg) (jW kl)<|aq (OE O g Z) λD ty c6=>vr xz<|eh _ _ _ _<|fG _ xz ty xz c6.ank<|tk<|bQ (λh=>?_) λn1=>?_)⟩)⟩
 .cases g with
  | put r n g1 g2=>
   have Z:=Z;rw[NM,aiv]at Z;refine vF xz Z O.st.zG O.st.Zn OA<|vr xz<|vF xz Z O.st.zG O.st.Zp (HG dk)<|⟨ra,_,_,r,xz,xz,gz,(vG<|by rw[aG,da];exact g1),(⟨xz,?_,(aZ.cB<|.rs<|bz kl),((KL.cB gz).lam hL),(λσ' H' h1 h2 h3=>q _ h1 h2 h3)⟩)⟩;have e:cO S c (Z_,[r,n])=iW S c r n:=rfl;rw[e,Oi hk];exact HP M L hk kl r n
  | add=>exact dV (show ("add":bx)="put" from h) dk
  | set=>exact dV (show ("set":bx)="put" from h) dk
  | look=>exact dV (show ("look":bx)="put" from h) dk
  | swap=>exact dV (show ("swap":bx)="put" from h) dk
  | clear=>exact dV h dk
  | skip=>exact dV (show ("skip":bx)="put" from h) dk
 refine vr xz<|eh _ _ _ _<|fG _ xz ty xz c6.anl<|tk (bQ (λh=>?_) λn2=>?_)
 .cases g with
  | add r o g1 g2=>
   have Z:=Z;rw[NO,aiw]at Z;have hg1:k.rg[r]?=a_ (k.rg[r]'wg):=aQ wg;have hg2:=aQ wg;have eg1:k.rg.getD r 0=k.rg[r]'wg:=jE hg1;have eg2:k.rg.getD o 0=k.rg[o]'wg:=jE hg2;refine vr xz<|vF xz Z O.st.xM O.st.Pc (HG dk)<|rL (ao.of gz) (jW hg1)<|vr xz<|vF xz Z O.st.xM O.st.Zo OA<|rL (ao.of gz) (jW hg2) ⟨_,⟨_,xz,xz,_,_,xz,xz,by show 0<nL;decide +kernel,vr xz<|vF xz Z O.st.xM O.st.Pc (HG dk)<|⟨ra,_,_,r,xz,xz,gz,(vG<|by rw[aG,da];exact g1),(⟨xz,?_,(aZ.cB<|.rs<|bz kl),((KL.cB gz).lam hL),(λσ' H' h1 h2 h3=>q H' h1 h2 h3)⟩)⟩⟩⟩
   have e:cO S c (T_,[r,o])=iW S c r ((k.rg[r]'wg+k.rg[o]'wg)%nL):=by
    unfold cO;rw[dt (show ¬(T_ : bx) = Z_ from dk),dL xz,hk];show iW S c r ((k.rg.getD r 0+k.rg.getD o 0)%nL)=_;rw[eg1,eg2]
   rw[e,Oi hk];exact HP M L hk kl r _
  | put=>exact dV (show ("put":bx)="add" from h) dk
  | set=>exact dV (show ("set":bx)="add" from h) dk
  | look=>exact dV (show ("look":bx)="add" from h) dk
  | swap=>exact dV (show ("swap":bx)="add" from h) dk
  | clear=>exact dV h dk
  | skip=>exact dV (show ("skip":bx)="add" from h) dk
 refine vr xz<|eh _ _ _ _<|fG _ xz ty xz c6.anj<|tk (bQ (λh=>?_) λn3=>?_)
 .cases g with
  | set n r g1 g2=>
   have Z:=Z;rw[NL]at Z;refine vM xz hm (G.ms _ dk)<|vr xz<|vr xz ⟨m,⟨A,S,c,k,z,dz,a,n,r,fx,xz,M,L,W,nR,hL,hk,Z,g1,g2,λH1 M1 k1 sP=>⟨xz,?_,k1,sP,(λσ' H' h1 h2 h3=>q _ h1 h2 h3)⟩⟩⟩;have e:cO S c (L_,[n,r])=setM S c n r:=by kernel_rfl
   rw[e];exact M1
  | put=>exact dV (show ("put":bx)="set" from h) dk
  | add=>exact dV (show ("add":bx)="set" from h) dk
  | look=>exact dV (show ("look":bx)="set" from h) dk
  | swap=>exact dV (show ("swap":bx)="set" from h) dk
  | clear=>exact dV h dk
  | skip=>exact dV (show ("skip":bx)="set" from h) dk
 refine vr xz<|eh _ _ _ _<|fG _ xz ty xz c6.ale<|tk (bQ (λh=>?_) λn4=>?_)
 .cases g with
  | look r n g1 g2=>
   have Z:=Z;rw[M']at Z;refine vM xz hm (G.ms _ dk)<|vr xz<|vr xz ⟨m,⟨A,S,c,k,z,dz,a,r,n,fx,xz,M,L,W,hk,Z,g1,g2,λH1 M1 k1 l1=>⟨xz,?_,k1,(l1.lam hL),(λσ' H' h1 h2 h3=>q _ h1 h2 h3)⟩⟩⟩;have e:cO S c (I_,[r,n])=qy S c r n:=by kernel_rfl
   rw[e];exact M1
  | put=>exact dV (show ("put":bx)="look" from h) dk
  | add=>exact dV (show ("add":bx)="look" from h) dk
  | set=>exact dV (show ("set":bx)="look" from h) dk
  | swap=>exact dV (show ("swap":bx)="look" from h) dk
  | clear=>exact dV h dk
  | skip=>exact dV (show ("skip":bx)="look" from h) dk
 refine vr xz<|eh _ _ _ _<|fG _ xz ty xz c6.ald<|tk (bQ (λh=>?_) λn5=>?_)
 .cases g with
  | swap r n g1 g2=>
   have Z:=Z;rw[M7]at Z;refine vM xz hm (G.ms _ dk)<|vr xz<|vr xz ⟨m,⟨A,S,c,k,z,dz,a,r,n,fx,xz,M,L,W,nR,hk,Z,g1,g2,λH1 M1 k1 l1=>⟨xz,?_,k1,(l1.lam hL),(λσ' H' h1 h2 h3=>q _ h1 h2 h3)⟩⟩⟩;have e:cO S c (l_,[r,n])=rJ S c r n:=by kernel_rfl
   rw[e];exact M1
  | put=>exact dV (show ("put":bx)="swap" from h) dk
  | add=>exact dV (show ("add":bx)="swap" from h) dk
  | set=>exact dV (show ("set":bx)="swap" from h) dk
  | look=>exact dV (show ("look":bx)="swap" from h) dk
  | clear=>exact dV h dk
  | skip=>exact dV (show ("skip":bx)="swap" from h) dk
 have e:cO S c st=S:=by
  unfold cO;rw[dt n1,dt n2,dt n3,dt n4,dt n5]
 exact⟨xz,(by rw[e];exact M),(aZ.refl H),hL,(λσ' H' h1 h2 h3=>q _ h1 h2 h3)⟩
end
def Pk:List V->Bool
 | .str _::r=>r.all v8
 | _=>d_
theorem XY:∀is:List Int,(is.map V.int).all v8=c_
 | []=>rfl
 | i::is=>by rw[eu,CS,XY is];rfl
def ah6(a:Mv):Pk (yh a)=true:=XY _
noncomputable def v7(a:Mv):bn:=.tuple (.str a.1::a.2.map vh)
theorem WN:∀l m:List Int,CQ (l.map vh) (m.map vh)=decide (l=m)
 | [],[]=>by simp[CQ]
 | [],_::_=>by simp[CQ]
 | _::_,[]=>by simp[CQ]
 | a::l,b::m=>by
  rw[eu,eu];simp only[CQ,vj];rw[WN l m]
  by_cases h1:a=b
  .subst h1
   by_cases h2:l=m
   .subst h2;simp
   simp[h2]
  simp[h1]
def aj3(a b:Mv):vj (v7 a) (v7 b)=decide (a=b):=by
 obtain⟨x,is⟩:=a;obtain⟨y,c⟩:=b;unfold v7;simp only[vj,CQ];rw[WN]
 by_cases h1:x=y
 .subst h1
  by_cases h2:is=c
  .subst h2;simp
  simp 
 simp[h1]
def akm(l:List Mv)(b:Mv):(l.map v7).any (λd=>vj d<|v7 b)=decide (b∈l):=by
 induction l with
 | nil=>simp
 | cons a l ih=>
  rw[eu,vf,ih,aj3]
  by_cases h:a=b
  .subst h;simp
  have h':¬b=a:=λz=>h z.f5;simp[h,h']
def VA(h:AZ mv.1=c_):shaped (v7 mv)=true:=by
 unfold v7 shaped;rw[kE];refine⟨?_,ee ?_⟩
 .simp only[yJ,uV];rw[h,FZ];exact C2 λa _=>rfl
 have h:=C8 (f:=vh) (k:=1) (l:=mv.2) (λa _=>by simp[yO]);simp only[yO,yG];lia
theorem C0{K:u_}:∀is:List Int,nD K H (is.map V.int)<|is.map vh
 | []=>.nil
 | i::is=>.cons (.int i)<|C0 is
def YC{K:u_}(h:H p=a_ (.tup<|yh mv)):i3 K H (.ref p) (v7 mv):=.tup (aF.of h)<|.cons (.str _)<|C0 _
section
variable{t:a9}{C CT:e_}{u:pQ}
def Ye:Sp:=λvs H Q _=>∃p xs,vs=[.ref p]/\H p=a_ (.tup xs)/\(∀x∈xs,∃T,db H x=a_ T)/\xs.length<=1000/\∀H',ak H H'->Q (.bl<|Pk xs) H'
def ai1:bj ["move"] ["move"] (aU O4):=bG
def agb:([an3]:List bx).Nodup:=dk
def ahS(F:aW K "has_form_of_move" "has_form_of_move" O4 f fd)(T:vA K mg t):aM P w K mg fi aS 2 f fd ["move"] Ye:=by
 have n:aM P w K _ fi _ 1 _ _ [aq7] Ng:=Wv T.QP T.bl;refine F.ok ai1 λaN A _ s H vs Q E o h=>?_
 obtain⟨a,xs,p,ha,g,D,k⟩:=h;subst p;have B:=T.bl
 refine let b:TS:=_;⟨_,ay (bX (PW.pt<|pw_or (kK<|gu<|bw jb xz B.kg jq<|ae (pv 0)<|ae (nj (v:=.ty P_) xz B.tuple tQ xz) af)<|pw_or (bA dF (bw dE xz B.len q_<|ae (pv 0) af) ax<|bo _)<|pw_or1<|kK<|gu<|bw jb xz B.kg jq<|ae (aO cw (pv 0) ax)<|ae (nj (v:=.ty "str") xz B.str boot_str xz) af) (aB<|a8 iV) cj) (pR b (aB (a8 (bw (GO xz) xz B.all boot_all (ae (jc (N:=[an3]) (idx:=[]) xz (dJ.of<|by kernel_rfl) (jr<|aY _)
   (vt<|y6 N2 (pv 0) (zd ax) ze)
   (λ_ _ _ _=>bC (i:=0) agb xz (aL xz)<|.inr xz)
   (λ_ _ _ _=>jD)
   λ_ _ _ _=>jU n o xz T.mW T.QP.kp T.bW .nil dh<|ae (pv 0) af) af))))),?_⟩
 have j:=A2 ha;refine vr xz<|eh _ _ _ _<|fG _ xz (mE j) xz (mq j qc)<|au _ xz<|dG ?_;rcases xs with _|⟨y,ps⟩
 ·refine vr xz<|di a _ xz (.inr<|aF.of ha) ⟨xz,⟨_,xz,bQ (λe=>?_) (dV xz)⟩⟩;exact lG<|k H<|ak.f8 H
 refine vr xz<|di a _ xz (.inr<|aF.of ha) ⟨xz,⟨_,xz,bQ (λe=>?_) λW=>?_⟩⟩
 .injection e with e
  exact dV e (by simp only[gI];lia)
 refine oE (g y gg) λX d=>iI xz ha xz<|eh _ _ _ _<|fG _ xz (mE d) xz (mq d qc)<|au _ xz (Ph (λh1=>?_) λh1=>?_)
 .have e:Pk (y::ps)=false:=by
   cases y with
   | str x=>exact dV ((HH d).mpr ⟨x,xz⟩)<|h1▸dW
   | _=>rfl
  have q:=k H<|ak.f8 H;rw[e]at q;exact q
 refine oE ((HH d).mp h1) λY G=>?_;subst G;have k:=k;refine au _ xz<|au 1 xz ⟨a,⟨_,xz,aF.of ha,?_,λq I=>?_⟩⟩
 .intro z;have l:=z.1;rw[P5]at l;cases l
 rw[Qi];have s2:ak H (cB H q<|.tup ps):=aH (ak.f8 H) I;have c:cB H q _ q=a_ (.tup ps):=av;generalize cB H q _=H3 at s2 c ⊢;have Z:ps.length<=1000:=by rw[gI]at D;lia
 refine c8 q xz ⟨_,aF.of c⟩<|gC (λi ys H'=>i<=ps.length/\H'=H3/\ys=(ps.take i).map λz=>V.bl<|v8 z) (dH<|ic w0) (eM (aY _) xz xz) ?_ ?_ ?_ ?_ ?_
 .rintro i ys H' ⟨_,_,e⟩;rw[e,aG,dn];exact xl
 .rintro i ys H' hi ⟨_,rfl,_⟩;exact fh _ _ (aF.of c)<|aQ hi
 .rintro ys H' ⟨_,rfl,_⟩;exact au _ (aF.of c)<|aD _
 .rintro i ys H' hi ⟨_,rfl,e⟩ z kC ⟨J,L⟩;subst J;have m:=L _<|aF.of c;refine oE (g z<|eI _<|bz m) λM O=>?_;have R:=UB s2 O;dsimp only[pE,kM];rw[dL rfl];refine vr xz<|⟨z,M,xz,R,hi,xz,?_⟩;rw[jP,m,dN,<-e];rfl
 rintro ys H' ⟨_,rfl,e⟩;refine⟨?_,λr S=>?_⟩
 .rw[e,aG,dn];have:=ic w0;lia
 have U:ys=(ps.map v8).map V.bl:=by
  rw[e,jA<|aD _,vg];rfl
 refine di r _ xz (ao.of<|by rw[av,U]) ?_;rw[CV];exact k _<|aH s2 S
end
def jf(S:Mc)(a:Mv):Mc:=if a.1="do" then si S (a.2.getD 0 0).toNat else jG S (a.2.getD 0 0).toNat (a.2.getD 1 0).toNat
def Ba(h:mv∈pj S):(∃c:Nat,mv=(("do":bx),[(c:Int)])/\c<S.ck.length/\zK S c=c_)\/(∃(c:Nat)(k:Ck)(n:Int),mv=((ac2 : bx),[(c:Int),n])/\S.ck[c]?=a_ k/\n∈iT S.kd k.es):=by
 obtain h|h:=cp.mp h
 .left
  refine aq (dy.mp h) λc b a=>?_;subst a;exact oA (lu.mp b) λh1 h2=>c8 c xz (iC.mp h1) h2
 right
 refine aq (oY.mp h) λa d hm=>?_;obtain⟨k,c⟩:=a;refine aq (dy.mp hm) λn hn a=>?_;subst a;exact rG c k n xz (S0.mp d) hn
def VB(h:mv∈pj S):AZ mv.1=true:=by
 obtain⟨c,rfl,_,_⟩|⟨c,k,n,rfl,_,_⟩:=Ba h
 .show AZ "do"=c_;decide +kernel
 show AZ ac2 = c_;decide +kernel
def GA(W:i6 S)(d:c<S.ck.length)(h:zK S c=c_):∃k p s sz,S.ck[c]?=a_ k/\S.ps[c]?=a_ p/\p[k.pl]?=a_ s/\fU sz s:=by
 have a:=aQ d;refine c7 (W.part a) λp b _ _ f=>?_;rw[NG a b]at h;unfold rV at h;rcases e:p[S.ck[c].pl]? with _|s
 ·rw[e]at h;cases h
 exact⟨_,p,s,_,a,b,e,f s<|bz e⟩
def ajv(a:Mv):∀x∈yh a,∃T,db H x=a_ T:=by
 intro x b;obtain e|e:=bq.mp b
 .rw[e];exact⟨_,xz⟩
 refine aq (dy.mp e) λi _ c=>?_;subst c;exact⟨_,xz⟩
def ajw(h:mv∈pj S):(yh mv).length<=1000:=by
 rcases Ba h with ⟨c,rfl,_⟩ | ⟨c,k,n,rfl,_⟩ <;> simp[yh]
section
variable{t:a9}{C CT:e_}{u:pQ}
def PV(t:a9)(C CT PT:e_):Sp:=λvs H Q _=>∃m A S p a fx,vs=[.ref m,.ref p]/\bb t C CT H m A S/\kQ fx m A/\i6 S/\B2 S/\dm PT LP LQ H/\H p=a_ (.tup<|yh a)/\a∈pj S/\
 ∀H',bb t C CT H' m A (jf S a)->aZ (cX m A) H H'->dm PT LP LQ H'->Q .aJ H'
def ak1:bj [Q_,"move"] [Q_,"move"] (aU P4):=bG
def ag4{k:Nat}(r:eE k A):A.units+65<cLine:=by have:=r.un;lia
def agN{K:u_}(h:aA (pK H) vs l):nD K H vs (l.map v7):=Mi (F:=pK H) (λv a q=>by
 obtain⟨p,rfl,q⟩:=q;exact YC q) h
def ajl{f PT:e_}(F:aW K "do" "Machine.do" P4 f fd)(B:fV K C)
  (DF:Dp P w K mg fi 2 "has_form_of_move" ["move"] Ye)
  (DM:Mt P w K mg fi C 4 "moves" fC (Ni t C CT PT))
  (DS:Mt P w K mg fi C 6 "do_step" g5 (Wf t C CT PT))
  (DC:Mt P w K mg fi C 4 ac2 hZ (Nj t C CT PT)):aM P w K mg fi aS 7 f fd [Q_,"move"] (PV t C CT PT):=by
 refine F.ok ak1 λaN A _ s H vs Q E o h=>?_
 obtain⟨m,A,S,p,mv,fx,e,M,L,W,aX⟩:=h;subst e;refine oj aX λO zR R r q=>?_;have jk:=o.mono (show 2<=6 by decide);have U:=o.mono (show 4<=6 by decide);refine⟨_,ay (bX (PW.pt<|pw_or (kK<|gu<|gF DF jk xz<|ae (pv 1) af)<|pw_or1<|bA (aeo<|ag4 o) (pv 1) (ph (pv 0) B.cl DM U) xz) xb cj)<|aB<|bX (bA dF (aO cw (pv 1) ax) cU<|bo _) (aB<|dC<|jX (pv 0) B.cl DS o<|ae (aO cw (pv 1) ax) af)<|aB<|dC<|jX (pv 0) B.cl DC U<|ae (aO cw (pv 1) ax)<|ae (aO cw (pv 1) ax) af,vr xz<|⟨p,_,xz,R,(ajv _),(ajw r),(λH1 s1=>(au _ xz ?_))⟩⟩;rw[ah6];have M1:=M.same s1;refine b9 (id M1.obj) λdx fs hm G=>dG<|vr xz<|vM xz hm (G.ms _ dk) (m8 m A S xz M1 W (lX zR s1) λH2 l vs D V hn oS Ao=>?_);have j:=D.PL _ _<|s1 _ _ R;refine⟨l,vs,_,(⟨_,xz,(ao.of oS),(agN Ao),(YC j),(VA<|VB r),(λd hd=>?_),(au _ xz ?_)⟩)⟩
 .refine aq (dy.mp hd) λa ha e=>?_;subst e;exact VA<|VB ha
 rw[dL xz,akm];have k02:=(aZ.of s1).f4 D
 rw[ee r];refine dG ?_;have M2:=M1.vE D;refine b9 (id M2.obj) λAG sf X Y=>?_;have Z:∀H',aZ _ _ _->aZ (cX m A) H H':=λH' k=>(k02.mono λb z=>z.elim).f4 k;obtain⟨c,rfl,hc,rY⟩|⟨c,k,n,rfl,v,ky⟩:=Ba r
 .exact kL (GA W hc rY) λk pt st sz v e=>du e λqM cV g=>iI xz j xz ⟨xz,⟨_,xz,bQ (λ_=>vM xz X (Y.ms _ dk)<|iI xz j xz<|⟨m,A,S,c,k,pt,st,sz,fx,xz,M2,L,W,O,(⟨V,v,qM,cV,g,(λH3 I J N=>q _ I (Z _ J) N)⟩)⟩)<|dV xz⟩⟩
 refine aq (M.xR v) λx hx T=>aP (Gj T.wf ky) λi hi e _=>?_;subst e;exact iI xz j xz ⟨xz,⟨_,xz,bQ (λy=>dV (show (ac2 : bx)="do" from PR y) dk) λ_=>vM xz X (Y.ms _ dk)<|iI xz j xz<|iI xz j xz<|⟨m,A,S,c,k,i,fx,xz,M2,L,V,v,ky,hi,(⟨W.bd,W.ov,O,(λH3 I J N=>q _ I (Z _ J) N)⟩)⟩⟩⟩
end
structure iJ(n:Nat)(S:Mc):Prop where
 wf:i6 S
 ac:S.ac.length<=n
 ov:∀o∈S.ov,o.length<=n
def iJ.ovf(W:iJ n S)(h:n<=16000):B2 S:=λo a=>cF (W.ov o a) h
structure sk(n:Nat)(nm:Option Nat)(S S':Mc)(c:Nat)(k k':Ck):Prop where
 ck:S'.ck=S.ck.set c k'
 ps:S'.ps=S.ps
 kd:S'.kd=S.kd
 rg:k'.rg.length=k.rg.length
 bd:S'.bd.length=S.bd.length
 Jp:S'.ov.length=S.ov.length
 Ju:S.ac.length<=S'.ac.length
 Er:S'.ac.length<=S.ac.length+1
 es:k'.es.length<=S'.ac.length
 ov:∀o∈S'.ov,o.length<=n+1
 en:∀e∈k'.es,e∈k.es\/∃i:Nat,nm=a_ i/\e.n=(i:Int)
def ahD(W:iJ n S)(i:Nat):(S.ov.getD i []).length<=n:=by
 rcases h:S.ov[i]? with _|o
 ·rw[mU,h];exact aY _
 rw[mU,h];exact W.ov o<|bz h
def Yr(W:iJ n S):∀o∈S.ov.set i (S.ov.getD i []++[d]),o.length<=n+1:=by
 intro o a;obtain h|h:=Kw a
 .exact tj (W.ov o h)
 rw[h,ba];exact tm<|ahD W i
def O9(W:iJ n S):∀o∈S.ov,o.length<=n+1:=λo a=>tj<|W.ov o a
def agJ(es:List fT)(n:Int):(jH es n).length<=es.length:=List.length_eraseP_le
def Vo{a:Type}{l:List a}{c:Nat}{k:a}(h:l[c]?=a_ k):l.set c k=l:=by
 refine oE (bu.mp h) λb e=>?_;rw[<-e];exact List.set_getElem_self _
section
variable{S:Mc}{n c:Nat}{k:Ck}{nm:Option Nat}
def WJ(W:iJ n S)(a:S.ck[c]?=a_ k):sk n nm S S c k k:=⟨(Vo a).f5,xz,xz,xz,xz,xz,aD _,jT _,W.wf.es k<|bz a,O9 W,λe b=>.inl b⟩
def Ho(h:sk n nm S S' c k k')(a:c<S.ck.length)(r:Nat)(v:Int):sk n nm S (iW S' c r v) c k {k' with rg:=k'.rg.set r v}:=by
 have e:S'.ck[c]?=a_ k':=by rw[h.ck];exact lU a
 rw[Oi e];exact⟨by rw[h.ck,F6],h.ps,h.kd,by rw[qa];exact h.rg,h.bd,h.Jp,h.Ju,h.Er,h.es,h.ov,h.en⟩
def VL(W:iJ n S)(h:sk n nm S S' c k k')(b:S'.ov=S.ov)(f:c<S.ck.length)(i:Nat):∃a,sk n nm S (jG S' c i) c k a/\a.pl=k'.pl/\a.ct=k'.ct:=by
 have e:S'.ck[c]?=a_ k':=by rw[h.ck];exact lU f
 unfold jG;rw[e];dsimp only;rcases (cq k'.es i).head? with _|x;exact⟨k',h,xz,xz⟩
 refine c8 ({k' with es:=jH _ i}) ⟨by show S'.ck.set c _=_;rw[h.ck,F6],h.ps,h.kd,h.rg,?_,?_,h.Ju,h.Er,cF (agJ _ _) h.es,?_,λe g=>h.en e<|abt g⟩ xz xz
 .show (S'.bd.set i _).length=_;rw[qa];exact h.bd
 .show (S'.ov.set i<|S'.ov.getD i []++[x.d]).length=_;rw[qa];exact h.Jp
 show ∀o∈S'.ov.set i _,o.length<=n+1;rw[b];exact Yr W
def XM{sz:Nat}(W:iJ n S)(g:fU sz s)(a:S.ck[c]?=a_ k):∃k',sk n (if s.1 = L_ then s.2.head? else b_) S (cO S c s) c k k'/\k'.pl=k.pl/\k'.ct=k.ct:=by
 have f:=(bu.mp a).1;have b:=λnm=>WJ (nm:=nm) W a;cases g with
 | put r m h1 h2=>exact⟨_,Ho (b _) f _ _,xz,xz⟩
 | add r o h1 h2=>
  have e:cO S c (T_,[r,o])=iW S c r ((k.rg.getD r 0+k.rg.getD o 0)%nL):=by
   unfold cO;rw[dt (show ¬(T_ : bx) = Z_ from dk),dL xz,a];rfl
  rw[e];exact c8 _ (Ho (b _) f _ _) xz xz
 | set i r h1 h2=>
  have e:cO S c (L_,[i,r])=setM S c i r:=by kernel_rfl
  rw[e];unfold setM;rw[a];dsimp only
  have d:sk n (a_ i) S (iY (zL S c i k<|k.rg.getD r 0) ⟨L_,c,i,b_,a_<|k.rg.getD r 0,b_⟩) c k {k with tn:=k.tn+1,es:=k.es++[⟨k.tn,i,k.rg.getD r 0,S.ac.length⟩]}:=by
   refine⟨xz,xz,xz,xz,xz,xz,?_,?_,?_,λo j=>O9 W o j,λe h=>?_⟩
   .show _<=(S.ac++[_]).length;rw[ba];exact FE _ _
   .show (S.ac++[_]).length<=_;rw[ba];exact aD _
   .show (k.es++[_]).length<=(S.ac++[_]).length;rw[ba,ba];exact tm<|W.wf.es k<|bz a
   exact(cp.mp h).imp id λz=>⟨i,xz,by rw[cR.mp z]⟩
  rw[show (if ((L_,[i,r]):Tl).1 = L_ then ((L_,[i,r]):Tl).2.head? else b_)=a_ i by kernel_rfl]
  split
  .exact aP (VL W d xz f i) c8
  exact c8 _ d xz xz
 | look r i h1 h2=>
  have e:cO S c (I_,[r,i])=iW (iY S ⟨I_,c,i,a_ (dq S k i).1,b_,(dq S k i).2⟩) c r (dq S k i).1:=by
   unfold cO;rw[dt (show ¬(I_ : bx) = Z_ from dk),dt (show ¬(I_ : bx) = T_ from dk),dt (show ¬(I_ : bx) = L_ from dk),dL rfl];show qy S c r i=_;unfold qy;rw[a]
  rw[e]
  have d:∀nm,sk n nm S (iY S ⟨I_,c,i,a_ (dq S k i).1,b_,(dq S k i).2⟩) c k k:=by
   refine λnm=>⟨(b b_).ck,xz,xz,xz,xz,xz,?_,?_,?_,λo j=>O9 W o j,λe h=>.inl h⟩
   .show _<=(S.ac++[_]).length;rw[ba];exact FE _ _
   .show (S.ac++[_]).length<=_;rw[ba];exact aD _
   show _<=(S.ac++[_]).length;rw[ba];exact tj<|W.wf.es k<|bz a
  exact c8 _ (Ho (d _) f _ _) xz xz
 | swap r i h1 h2=>
  have e:cO S c (l_,[r,i])=iW (iY (rE S i (k.rg.getD r 0) S.ac.length) ⟨l_,c,i,a_<|S.bd.getD i 0,a_<|k.rg.getD r 0,(S.ov.getD i []).getLast?⟩) c r (S.bd.getD i 0):=by
   unfold cO;rw[dt (show ¬(l_ : bx) = Z_ from dk),dt (show ¬(l_ : bx) = T_ from dk),dt (show ¬(l_ : bx) = L_ from dk),dt (show ¬(l_ : bx) = I_ from dk),dL rfl];show rJ S c r i=_;unfold rJ;rw[a]
  rw[e]
  have d:∀nm,sk n nm S (iY (rE S i (k.rg.getD r 0) S.ac.length) ⟨l_,c,i,a_<|S.bd.getD i 0,a_<|k.rg.getD r 0,(S.ov.getD i []).getLast?⟩) c k k:=by
   refine λnm=>⟨(b b_).ck,xz,xz,xz,?_,?_,?_,?_,?_,?_,λe h=>.inl h⟩
   .show (S.bd.set i _).length=_;rw[qa]
   .show (S.ov.set i _).length=_;rw[qa]
   .show _<=(S.ac++[_]).length;rw[ba];exact FE _ _
   .show (S.ac++[_]).length<=_;rw[ba];exact aD _
   .show _<=(S.ac++[_]).length;rw[ba];exact tj<|W.wf.es k<|bz a
   exact Yr W
  exact c8 _ (Ho (d _) f _ _) xz xz
 | clear=>
  have e:cO S c (N_,[])=S:=by kernel_rfl
  rw[e];exact c8 k (b _) xz xz
 | skip r q h1 h2 h3=>
  have e:cO S c (Y_,[r,q])=S:=by kernel_rfl
  rw[e];exact c8 k (b _) xz xz
def ajQ(W:iJ n S)(hn:n<15000)(h:sk n nm S S' c k k')(d:S.ck[c]?=a_ k)(f:∀p,S.ps[c]?=a_ p->k'.pl<=p.length):iJ (n+1) S':=by
 have j:=W.ac;have h2:=h.Er;have g:=(bu.mp d).1;refine⟨⟨by rw[h.ps];exact W.wf.good,by rw[h.ck,qa,h.ps];exact W.wf.len,by rw[h.bd];exact W.wf.bd,by rw[h.Jp];exact W.wf.ov,?_,?_,li,?_⟩,li,h.ov⟩
 .intro x a;rw[h.ck]at a;obtain y|y:=Kw a
  .exact W.wf.rg x y
  rw[y,h.rg];exact W.wf.rg k<|bz d
 .intro i x p a b;rw[h.ps]at b;rw[h.ck]at a
  by_cases e:c=i
  .subst e;rw[lU g]at a;cases a;exact f p b
  rw[Cw e]at a;exact W.wf.pl i x p a b
 intro x a;rw[h.ck]at a;obtain y|y:=Kw a
 .exact cF (W.wf.es x y) h.Ju
 rw[y];exact h.es
def afd{s:Tl}{rg:List Int}{pl:Nat}{p:Pt}(g:fU p.length s)(h:pl<p.length):jF s rg pl<=p.length:=by
 unfold jF
 split
 .rename_i a
  cases g with
  | skip r q h1 h2 h3=>exact h2
  | put=>exact dV (show ("put":bx)="skip" from a.1) dk
  | add=>exact dV (show ("add":bx)="skip" from a.1) dk
  | set=>exact dV (show ("set":bx)="skip" from a.1) dk
  | look=>exact dV (show ("look":bx)="skip" from a.1) dk
  | swap=>exact dV (show ("swap":bx)="skip" from a.1) dk
  | clear=>exact dV a.1 dk
 exact h
def agi(W:iJ n S)(h:mv∈pj S):∃(c:Nat)(k k':Ck)(nm:Option Nat)(p:Pt),S.ck[c]?=a_ k/\S.ps[c]?=a_ p/\sk n nm S (jf S mv) c k k'/\((nm=b_/\k'.pl=k.pl)\/∃s rg,p[k.pl]?=a_ s/\fU p.length s/\nm=(if s.1 = L_ then s.2.head? else b_)/\k'.pl=jF s rg k.pl/\(k.es=[]\/rO s=d_)):=by
 obtain⟨c,rfl,d,b⟩|⟨c,k,i,rfl,a,z⟩:=Ba h
 .refine kL (GA W.wf d b) λk p s _ a t=>du t λj l _=>c7 (W.wf.part a) λm o _ _ r=>?_;have u:m=p:=by rw[j]at o;exact(cI o).f5
  subst u;have g:=r s<|bz l;refine aP (XM W g a) λk' f q v=>?_
  have e:jf S ("do",[(c:Int)])=ui (cO S c s) c s:=by
   unfold jf;rw[dL rfl];show si S ((c:Int)).toNat=_;rw[jQ];unfold si;rw[a,j];dsimp only;rw[l]
  rw[e];have x:(cO S c s).ck[c]?=a_ k':=by rw[f.ck];exact lU d
  refine⟨c,k,{k' with pl:=jF s _ _,ct:=k'.ct+1},(if s.1 = L_ then s.2.head? else b_),m,a,j,?_,.inr ⟨s,k'.rg,l,g,xz,by rw[<-q],?_⟩⟩
  .unfold ui;rw[x];exact⟨by show (cO S c s).ck.set c _=_;rw[f.ck,F6],f.ps,f.kd,f.rg,f.bd,f.Jp,f.Ju,f.Er,f.es,f.ov,f.en⟩
  rw[NG a j]at b;unfold rV at b;rw[l]at b;simpa using b
 have d:=(bu.mp a).1
 have e:jf S (ac2,[(c:Int),i])=jG S c i.toNat:=by
  unfold jf;rw[dt (show ¬(ac2 : bx)="do" from dk)];show jG S ((c:Int)).toNat _=_;rw[jQ];rfl
 rw[e];exact aP (VL W (WJ W a) xz d _) λy f q v=>c7 (W.wf.part a) λm o _ _ r=>⟨c,k,y,b_,m,a,o,f,.inl ⟨xz,q⟩⟩
def XA(W:iJ n S)(hn:n<15000)(h:mv∈pj S):iJ (n+1) (jf S mv):=by
 obtain⟨c,k,k',nm,p,a,b,f,o⟩:=agi W h;refine ajQ W hn f a λq d=>?_;rw[b]at d;cases d;obtain⟨_,e⟩|⟨s,rg,i,g,_,e,_⟩:=o
 .rw[e];exact W.wf.pl c k p a b
 rw[e];exact afd g (bu.mp i).1
end
def ajp(g:BD ps):iJ 0 (BF kd ps):=by
 refine⟨⟨g,by show (ps.map _).length=_;rw[aG];rfl,by rfl,by rfl,?_,?_,aY _,?_⟩,aD _,?_⟩
 .refine λk a=>aq (dy.mp a) λ_ _ b=>?_;subst b;rfl
 .intro c k p a e;have:k∈(ps.map λ_=>k0):=bz a;refine aq (dy.mp this) λ_ _ b=>?_;subst b;exact aY _
 .refine λk a=>aq (dy.mp a) λ_ _ b=>?_;subst b;exact aD _
 intro o d;rw[List.eq_of_mem_replicate d];exact aD _
noncomputable def jx:Nat->List (List Int)->List (Int×Int)
 | _,[]=>[]
 | n,o::r=>(o.map λd=>((n:Int),d))++jx (n+1) r
noncomputable def dQ(k:Ck):List (Int×Int):=k.es.map λe=>(e.n,e.d)
def pI(a:g8)(i:Nat):List (Int×Int):=if a.k = I_ then [] else [((a.n:Int),(i:Int))]
noncomputable def mw:Nat->List g8->List (Int×Int)
 | _,[]=>[]
 | i,a::r=>pI a i++mw (i+1) r
def vQ(S:Mc):List (Int×Int):=jx 0 S.ov++S.ck.flatMap dQ
theorem XG(a:g8):∀(l:List g8)(i:Nat),mw i (l++[a])=mw i l++pI a (i+l.length)
 | [],i=>by simp[mw]
 | b::l,i=>by
  show pI b i++mw (i+1) (l++[a])=(pI b i++mw (i+1) l)++_;rw[XG a l<|i+1,dw,gI,show i+1+l.length=i+(l.length+1) by lia]
def WB:x∈pI a i↔a.k ≠ I_/\x=((a.n:Int),(i:Int)):=by
 unfold pI
 split <;> simp_all
theorem Dl:∀{l:List g8}{i:Nat},x∈mw i l↔∃(j:Nat)(a:g8),l[j]?=a_ a/\a.k ≠ I_/\x=((a.n:Int),((i+j:Nat):Int))
 | [],i=>by simp[mw]
 | b::l,i=>by
  show x∈pI b i++mw (i+1) l↔_;rw[cp,WB,Dl];constructor
  .rintro(⟨h1,h2⟩ | ⟨j,a,h1,h2,h3⟩)
   .exact di 0 b xz h1 h2
   exact di (j+1) a h1 h2 (by rw[h3,show i+1+j=i+(j+1) by lia])
  rintro⟨j,a,h1,h2,h3⟩;rcases j with _|j
  ·cases h1;exact .inl ⟨h2,h3⟩
  exact .inr ⟨j,a,h1,h2,by rw[h3,show i+1+j=i+(j+1) by omega]⟩
theorem YK:∀(l:List g8)(i:Nat),(mw i l).Nodup
 | [],_=>CN
 | b::l,i=>by
  refine uW.mpr (eM ?_ (YK l _) λx c y d e=>?_)
  .unfold pI
   split <;> simp
  subst e;refine cZ (Dl.mp d) λj a _ _ h=>?_;rw[(WB.mp c).2]at h;injection h with _ h
  lia
theorem Hi:∀{l:List (List Int)}{i:Nat},x∈jx i l↔∃(n:Nat)(o:List Int)(d:Int),l[n]?=a_ o/\d∈o/\x=(((i+n:Nat):Int),d)
 | [],i=>by simp[jx]
 | b::l,i=>by
  show x∈_++jx (i+1) l↔_;rw[cp,dy,Hi];constructor
  .rintro(⟨d,h1,h2⟩ | ⟨n,o,d,h1,h2,h3⟩)
   .exact rG 0 b d xz h1 h2.f5
   exact rG (n+1) o d h1 h2 (by rw[h3,show i+1+n=i+(n+1) by omega])
  rintro⟨n,o,d,h1,h2,h3⟩;rcases n with _|n
  ·cases h1;exact .inl ⟨d,h2,h3.f5⟩
  exact .inr ⟨n,o,d,h1,h2,by rw[h3,show i+1+n=i+(n+1) by omega]⟩
theorem ND(d:Int):∀{l:List (List Int)}{n:Nat}(i:Nat),n<l.length->(jx i<|l.set n<|l.getD n []++[d]).Perm (jx i l++[(((i+n:Nat):Int),d)])
 | [],_,_,h=>by simp at h
 | o::r,0,i,_=>by
  show ((o++[d]).map (λd=>((i:Int),d))++jx (i+1) r).Perm ((o.map (λd=>((i:Int),d))++jx (i+1) r)++[((i:Int),d)]);rw[dN,dw,dw];exact sV _ qV
 | o::r,n+1,i,h=>by
  have ih:=ND d (l:=r) (n:=n) (i+1) (by simpa using h);rw[show i+1+n=i+(n+1) by lia]at ih;show (_++jx (i+1) (r.set n<|r.getD n []++[d])).Perm ((_++jx (i+1) r)++_);rw[dw];exact ih.append_left _
theorem NP{k k':Ck}(a:(dQ k').Perm (dQ k++[x])):∀{l:List Ck}{c:Nat},l[c]?=a_ k->((l.set c k').flatMap dQ).Perm (l.flatMap dQ++[x])
 | [],_,h=>by simp at h
 | z::l,0,h=>by
  cases h;show (dQ k'++l.flatMap dQ).Perm ((dQ k++l.flatMap dQ)++[x]);refine(a.append_right _).f4 ?_;rw[dw,dw];exact sV _ qV
 | z::l,c+1,h=>by
  show (dQ z++(l.set c k').flatMap dQ).Perm ((dQ z++l.flatMap dQ)++[x]);rw[dw];exact(NP a (l:=l) (c:=c) h).append_left _
theorem XS{k k':Ck}(a:dQ k'=dQ k):∀{l:List Ck}{c:Nat},l[c]?=a_ k->(l.set c k').flatMap dQ=l.flatMap dQ
 | [],_,h=>by simp at h
 | z::l,0,h=>by
  cases h;show dQ k'++l.flatMap dQ=dQ k++l.flatMap dQ;rw[a]
 | z::l,c+1,h=>by
  show dQ z++(l.set c k').flatMap dQ=dQ z++l.flatMap dQ;rw[XS a (l:=l) (c:=c) h]
def ae4(h:(cq es n).head?=a_ x):es.Perm (jH es n++[x]):=by
 have hm:=abA h;unfold cq at h hm;refine oA (lu.mp hm) λh1 h2=>fE (List.exists_of_eraseP (p:=λe:fT=>decide<|e.n=n) h1 h2) λa l1 l2 h3 h4 c=>oA c λh5 d=>?_;unfold jH;rw[d]
 have e:a=x:=by
  rw[h5,qX,abu.mpr λb f=>h3 b f,FQ,abm (p:=λe:fT=>decide<|e.n=(n:Int)) h4]at h;exact cI h
 subst e;rw[h5];exact aci.f4<|qV (l₁:=[a])
structure Pz(m:Nat)(a:g8):Prop where
 c:a.c<m
 n:a.n<12
 k:a.k = L_/\a.got=b_\/a.k = I_/\a.got.isSome=c_\/a.k = l_/\a.got.isSome=c_
structure dS(S:Mc):Prop where
 pm:(vQ S).Perm (mw 0 S.ac)
 ok:∀a∈S.ac,Pz S.ps.length a
 sn:∀(i:Nat)a,S.ac[i]?=a_ a->∀d,a.seen=a_ d->((a.n:Int),d)∈mw 0 S.ac/\d<i
section
variable{S:Mc}{c:Nat}{k:Ck}
def dS.ck(h:dS S)(a:S.ck[c]?=a_ k)(e:k'.es=k.es):dS {S with ck:=S.ck.set c k'}:=
 ⟨by show (jx 0 _++_).Perm _;rw[XS (by unfold dQ;rw[e]) a];exact h.pm,h.ok,h.sn⟩
def dS.Jo(h:dS S)(c r:Nat)(v:Int):dS (iW S c r v):=by
 unfold iW;rcases e:S.ck[c]? with _|k;exact h;exact h.ck e xz
def dS.gon(h:dS S)(c:Nat)(s:Tl):dS (ui S c s):=by
 unfold ui;rcases e:S.ck[c]? with _|k;exact h;exact h.ck e xz
def dS.carry(h:dS S)(hn:n<S.ov.length):dS (jG S c n):=by
 unfold jG;cases e:S.ck[c]? with
 | none=>exact h
 | some k=>
  dsimp only;cases q:(cq k.es n).head? with
  | none=>exact h
  | some x=>
   refine⟨?_,h.ok,h.sn⟩;refine acy (((ND _ 0 hn).append_right _).f4 ?_) h.pm;rw[dw];refine sV _<|qV.f4 ?_;have a:=(bu.mp e).1
   have z:=NP (k:={k with es:=jH k.es n}) (k':=k) (x:=(x.n,x.d)) (l:=S.ck.set c {k with es:=jH k.es n}) (c:=c) (by
    exact(ae4 q).map (λe:fT=>(e.n,e.d)) |>.f4 (dN▸yK _))<|lU a
   rw[F6,Vo e,UW q]at z;rw[A0];exact z.f5
def dS.act(h:dS S)(l:S'.ps=S.ps)(g:S'.ac=S.ac++[a])(aE:Pz S.ps.length a)(m:∀d,a.seen=a_ d->((a.n:Int),d)∈vQ S)(o:(vQ S').Perm (vQ S++pI a S.ac.length)):dS S':=by
 have e:=XG a S.ac 0;rw[A0]at e;refine⟨by rw[g,e];exact o.f4<|h.pm.append_right _,λb f=>?_,λi b f d hd=>?_⟩
 .rw[g]at f;rw[l];obtain q|q:=cp.mp f
  .exact h.ok b q
  rw[cR.mp q];exact aE
 rw[g]at f ⊢;rw[e]
 by_cases z:i<S.ac.length
 .rw[iN z]at f;exact⟨jo _ (h.sn i b f d hd).1,(h.sn i b f d hd).2⟩
 rw[lR li]at f;have:=(bu.mp f).1;have hi:i-S.ac.length=0:=by simp at this;lia
 rw[hi]at f;cases f;have hm:=h.pm.mem_iff.mp<|m d hd;refine⟨jo _ hm,cZ (Dl.mp hm) λj b h1 _ h3=>?_⟩;injection h3 with _ h3
 have:=(bu.mp h1).1;lia
def WA(h:(S.ov.getD n []).getLast?=a_ d):((n:Int),d)∈vQ S:=by
 have hm:=abG h;rcases e:S.ov[n]? with _|o
 ·rw[mU,e]at hm;cases hm
 rw[jE e]at hm;exact jo _<|Hi.mpr<|rG n o d e hm (by rw[A0])
def agg(a:S.ck[c]?=a_ k)(h:(dq S k n).2=a_ d):((n:Int),d)∈vQ S:=by
 unfold dq at h;cases e:Bn k.es n with
 | none=>rw[e]at h;exact WA h
 | some x=>
  rw[e]at h;have hm:=abG e;refine oA (lu.mp hm) λh1 h2=>?_;have h4:=cI h;refine f6 _<|oY.mpr<|au k (bz a)<|dy.mpr<|au x h1 (by rw[(ec h2),h4])
def dS.eff{sz:Nat}(h:dS S)(W:i6 S)(g:fU sz s)(a:S.ck[c]?=a_ k):dS (cO S c s):=by
 have b:=W.len ▸ ((bu.mp a).1);cases g with
 | put r m h1 h2=>exact h.Jo c _ _
 | add r o h1 h2=>
  unfold cO;rw[dt (show ¬(T_ : bx) = Z_ from dk),dL xz,a];exact h.Jo c _ _
 | set i r h1 h2=>
  have e:cO S c (L_,[i,r])=setM S c i r:=by kernel_rfl
  rw[e];unfold setM;rw[a];dsimp only
  have f:dS (iY (zL S c i k<|k.rg.getD r 0) ⟨L_,c,i,b_,a_<|k.rg.getD r 0,b_⟩):=by
   refine h.act xz xz ⟨b,h1,.inl ⟨xz,xz⟩⟩ (λd z=>by cases z) ?_;show (jx 0 S.ov++(S.ck.set c _).flatMap dQ).Perm ((jx 0 S.ov++S.ck.flatMap dQ)++_);rw[dw];refine(NP ?_ a).append_left _;show (List.map _<|k.es++[_]).Perm _;rw[dN];exact yK _
  split
  .exact f.carry (by show i<S.ov.length;rw[W.ov];exact h1)
  exact f
 | look r i h1 h2=>
  unfold cO;rw[dt (show ¬(I_ : bx) = Z_ from dk),dt (show ¬(I_ : bx) = T_ from dk),dt (show ¬(I_ : bx) = L_ from dk),dL rfl];show dS (qy S c r i);unfold qy;rw[a];refine dS.Jo (S:=iY S _) (h.act xz xz ⟨b,h2,.inr<|.inl ⟨xz,xz⟩⟩ (λd z=>agg a z) ?_) _ _ _;rw[show pI (⟨I_,c,i,a_ (dq S k i).1,b_,(dq S k i).2⟩:g8) S.ac.length=[] from dL xz,gj];exact yK _
 | swap r i h1 h2=>
  unfold cO;rw[dt (show ¬(l_ : bx) = Z_ from dk),dt (show ¬(l_ : bx) = T_ from dk),dt (show ¬(l_ : bx) = L_ from dk),dt (show ¬(l_ : bx) = I_ from dk),dL rfl];unfold rJ;rw[a];refine dS.Jo (S:=iY (rE S _ _ _) _) (h.act xz xz ⟨b,h2,.inr<|.inr ⟨xz,xz⟩⟩ (λd z=>WA z) ?_) _ _ _;show (jx 0 (S.ov.set i<|S.ov.getD i []++[(S.ac.length:Int)])++S.ck.flatMap dQ).Perm ((jx 0 S.ov++S.ck.flatMap dQ)++[_]);refine((ND _ 0<|by rw[W.ov];exact h2).append_right _).f4 ?_;rw[dw,dw,A0];exact sV _ qV
 | clear=>exact h
 | skip r q h1 h2 h3=>exact h
def dS.made(h:dS S)(W:iJ n S)(d:∀k∈S.ck,lL k.tn k.es)(hm:mv∈pj S):dS (jf S mv):=by
 obtain⟨c,rfl,e,f⟩|⟨c,k,i,rfl,a,l⟩:=Ba hm
 .refine kL (GA W.wf e f) λk p s sz a b=>du b λm o g=>?_;unfold jf;rw[dL rfl];show dS (si S ((c:Int)).toNat);rw[jQ];unfold si;rw[a,m];dsimp only;rw[o];exact(h.eff W.wf g a).gon c s
 unfold jf;rw[dt (show ¬(ac2 : bx)="do" from dk)];refine aP (Gj (d k<|bz a) l) λj q b _=>?_;subst b;exact h.carry<|W.wf.ov▸q
end
def dS.new:dS (BF kd ps):=by
 refine⟨?_,λa ha=>(by cases ha),λi a ha=>(by cases ha)⟩
 have e:(ps.map λ_=>k0).flatMap dQ=[]:=Td.mpr λk b=>by
  refine aq (dy.mp b) λ_ _ c=>?_;subst c;rfl
 show (jx 0 _++(ps.map λ_=>k0).flatMap _).Perm [];rw[e];exact yK _
def aj2(b:∀k∈S.ck,lL k.tn k.es)(h:ly S=[]):∀k∈S.ck,k.es=[]:=by
 intro k a;rcases e:k.es with _|⟨x,r⟩;rfl
 exfalso;refine oE (oW a) λc d=>?_
 have hw:x.n∈iT S.kd k.es:=by
  unfold iT
  split
  .rw[e];simp
  exact F2 (b k a) (by rw[e];rfl)
 have:((ac2 : bx),[(c:Int),x.n])∈ly S:=oY.mpr ⟨(k,c),S0.mpr d,dy.mpr ⟨x.n,hw,xz⟩⟩;rw[h]at this;cases this
structure ke(S:Mc):Prop where
 nd:∀(n:Nat)o,S.ov[n]?=a_ o->o.Nodup
 im:∀(n:Nat)o,S.ov[n]?=a_ o->∀d∈o,∃(j:Nat)(a:g8),d=(j:Int)/\S.ac[j]?=a_ a/\a.n=n
 sn:∀(i:Nat)a,S.ac[i]?=a_ a->∀d,a.seen=a_ d->∃(j:Nat)(o:List Int),d=(j:Int)/\j<S.ac.length/\S.ov[a.n]?=a_ o/\d∈o
 el:∀(i:Nat)a,S.ac[i]?=a_ a->∀d,a.seen=a_ d->d<i
 ok:∀(i:Nat)a,S.ac[i]?=a_ a->Pz S.ps.length a
def ak9:∀{i:Nat},(jx i l).Nodup->∀(n:Nat)o,l[n]?=a_ o->o.Nodup:=by
 induction l with
 | nil=>intro i _ n o h;simp at h
 | cons b l ih=>
  intro i h n o c;refine du (uW.mp h) λh1 h2 _=>?_;rcases n with _|n
  ·cases c;exact kH.of_map _ (λa b z e=>z<|by rw[e]) h1
  exact ih h2 n o c
def dS.ZR(h:dS S)(f:∀k∈S.ck,k.es=[]):ke S:=by
 have g:S.ck.flatMap dQ=[]:=Td.mpr λk l=>by unfold dQ;rw[f k l];rfl
 have p:(jx 0 S.ov).Perm (mw 0 S.ac):=by
  have q:=h.pm;unfold vQ at q;rw[g,gj]at q;exact q
 refine⟨ak9<|p.nodup_iff.mpr<|YK _ _,λn o m d hd=>?_,λi a ha d hd=>?_,λi a ha d hd=>(h.sn i a ha d hd).2,λi a ha=>h.ok a<|bz ha⟩
 .refine cZ (Dl.mp<|p.mem_iff.mp<|Hi.mpr ⟨n,o,d,m,hd,xz⟩) λj a h1 _ h3=>?_;injection h3 with h3 h4
  exact di j a (by rw[h4,A0]) h1 li
 have c:=(h.sn i a ha d hd).1;refine cZ (Dl.mp c) λj b h1 _ h3=>fE (Hi.mp<|p.mem_iff.mpr c) λn o d' h4 h5 e=>?_;injection h3 with _ h3
 injection e with e h7
 have:n=a.n:=li;subst this;exact qo j o (by rw[h3,A0]) ((bu.mp h1).1) h4<|h7 ▸ h5
def Xj(h:n<=3000):n<bp:=yD h qc
def zc{k:Nat}(r:eE k A):A.units+64<cLine:=by have:=r.un;lia
noncomputable def lK(l:List Int)(w:bx):List T3:=(l.zip l.tail).map λx=>(x.1,x.2,w)
noncomputable def fj(S:Mc)(j:Nat):Option Nat:=S.ac[j]?.map g8.c
def nG(S:Mc)(c i:Nat):List Nat:=(List.range i).filter λj=>decide<|fj S j=a_ c
def zW(S:Mc)(c:Nat):List T3:=lK ((nG S c S.ac.length).map λ(n:Nat)=>(n:Int)) "own"
def oz(S:Mc)(m:Nat):List T3:=(List.range m).flatMap<|zW S
noncomputable def qt(S:Mc)(j:Nat):Option T3:=(S.ac[j]?.bind g8.seen).map λd=>(d,(j:Int),("seen":bx))
def pB(S:Mc)(i:Nat):List T3:=(List.range i).filterMap<|qt S
def yg(S:Mc)(n:Nat):List T3:=lK (S.ov.getD n []) "over"
def qw(S:Mc)(m:Nat):List T3:=(List.range m).flatMap<|yg S
noncomputable def nextM(o:List Int)(s:Option Int):Option Int:=((b_::o.map a_).zip o).lookup s
def rH(S:Mc)(j:Nat)(a:g8):Option T3:=if a.k = L_ then b_ else (nextM (S.ov.getD a.n []) a.seen).bind λb=>if b=(j:Int) then b_ else a_ ((j:Int),b,(aq8 : bx))
def mf(S:Mc)(j:Nat):Option T3:=S.ac[j]?.bind (rH S j)
def qp(S:Mc)(i:Nat):List T3:=(List.range i).filterMap<|mf S
def iF(S:Mc):List T3:=oz S S.ps.length++pB S S.ac.length++qw S 12++qp S S.ac.length
def tY(S:Mc)(i m:Nat):List Nat:=(UM (i+1) m).filter λj=>decide<|fj S j=fj S i
def rQ(S:Mc)(i:Nat):List T3:=((tY S i<|S.ac.length-(i+1)).head?.map λ(j:Nat)=>((i:Int),(j:Int),("own":bx))).toList
noncomputable def vI(S:Mc)(i m:Nat):List T3:=((List.range m).filter λj=>decide<|S.ac[j]?.bind g8.seen=a_ (i:Int)).map λ(j:Nat)=>((i:Int),(j:Int),("seen":bx))
def rX(S:Mc)(i:Nat):List T3:=rQ S i++vI S i S.ac.length
noncomputable def oo(o:List Int)(m:Nat):List T3:=(List.range m).map λk=>(o.getD k 0,o.getD (k+1) 0,("over":bx))
def t9(S:Mc)(n i:Nat):Option T3:=if S.ac[i]?.map g8.n=a_ n then mf S i else b_
def ud(S:Mc)(n m:Nat):List T3:=(List.range m).filterMap<|t9 S n
def pJ(S:Mc)(n:Nat):List T3:=oo (S.ov.getD n []) ((S.ov.getD n []).length-1)++ud S n S.ac.length
def xV(S:Mc):List T3:=(List.range S.ac.length).flatMap (rX S)++(List.range 12).flatMap (pJ S)
theorem QS:∀{l:List Nat},l.Pairwise (· < ·)->∀i j,(i,j)∈l.zip l.tail↔i∈l/\j∈l/\i<j/\∀k∈l,¬(i<k/\k<j)
 | [],_,i,j=>by simp
 | [x],_,i,j=>by
  simp only[List.tail_cons,List.zip_nil_right,List.not_mem_nil,cR,false_iff];omega
 | x::y::r,h,i,j=>by
  refine oA (sY.mp h) λh1 h2=>?_;have h3:=(sY.mp h2).1;have g:=h1 y (by simp);have ih:=QS h2 i j;show (i,j)∈(x,y)::(y::r).zip r↔_;rw[bq];constructor
  .rintro(e | e)
   .cases e;refine⟨(by simp),(by simp),g,(λk f z=>?_)⟩;obtain q|q:=bq.mp f
    .lia
    obtain q|q:=bq.mp q
    .lia
    .have:=h3 k q;lia
   refine nF (ih.mp e) λa b c d=>⟨(eI _ a),(eI _ b),c,(λk f z=>?_)⟩;obtain q|q:=bq.mp f
   .have:=h1 i a;lia
   exact d k q z
  refine λm=>nF m λa b c d=>?_;obtain e|e:=bq.mp a
  .subst e;obtain q|q:=bq.mp b
   .lia
   obtain z|z:=bq.mp q
   .left;rw[z]
   exact dV ⟨g,h3 j z⟩ (d y<|by simp)
  right
  refine ih.mpr<|⟨e,?_,c,(λk f=>d k<|eI _ f)⟩;obtain q|q:=bq.mp b
  .have:=h1 i e;lia
  exact q
theorem X2{a b:Type}:∀{l:List a}(m:List b),l.Nodup->(l.zip m).Nodup
 | [],m,_=>by simp
 | _::_,[],_=>by simp
 | x::l,y::m,h=>by
  exact oA (vd.mp h) λh1 h2=>vd.mpr ⟨λz=>h1 (vc z).1,X2 m h2⟩
def Zl{w:bx}(h:l.Nodup):(lK l w).Nodup:=uY _ (λa b z e=>z (by
 injection e with d c
 injection c with c _
 exact rA d c))<|X2 _ h
def Bv{w:bx}:x∈lK l w↔(x.1,x.2.1)∈l.zip l.tail/\x.2.2=w:=by
 unfold lK;rw[dy];constructor
 .refine λa=>aq a λp h b=>?_;subst b;exact⟨h,xz⟩
 refine λa=>oA a λh b=>?_;subst b;exact au _ h xz
def ahC(l:List Int):oo l (l.length-1)=lK l "over":=by
 refine List.ext_getElem (by simp[oo,lK]) λi h1 h2=>?_;have hi:i+1<l.length:=by simp[oo]at h1;omega
 simp only[oo,lK,FJ,List.getElem_range,La,List.getElem_tail];rw[jE<|aQ _,jE<|aQ _]
def Zz{f:Nat->Option T3}(g:T3->Int)(h:∀j x,f j=a_ x->g x=(j:Int))(m:Nat):((List.range m).filterMap f).Nodup:=by
 refine List.pairwise_filterMap.mpr<|kH.imp (λ{a b}z x c y d e=>z ?_)<|FG (n:=m);have h1:=h a x c;have h2:=h b y d;rw[e]at h1;lia
def ZA{f:Nat->List T3}{m:Nat}(h1:∀i,i<m->(f i).Nodup)(h2:∀i j,i<m->j<m->i≠j->∀x∈f i,∀y∈f j,x≠y):((List.range m).flatMap f).Nodup:=by
 refine List.pairwise_flatMap.mpr ⟨λi hi=>h1 i<|iC.mp hi,kH.imp_of_mem (λ{i j}hi a z=>h2 i j (iC.mp hi) (iC.mp a) z)<|FG⟩
def y4(h:qt S j=a_ x):∃a,S.ac[j]?=a_ a/\a.seen=a_ x.1/\x.2.1=(j:Int)/\x.2.2="seen":=by
 refine aq (sU.mp h) λd h1 b=>?_;subst b;exact aq (AK.mp h1) λa h2 h3=>lE a h2 h3 xz xz
def Gm(h:mf S j=a_ x):(∃a,S.ac[j]?=a_ a)/\x.1=(j:Int)/\x.2.2 = aq8:=by
 refine aq (AK.mp h) λa h1 h2=>?_;unfold rH at h2
 split at h2
 .cases h2
 refine aq (AK.mp h2) λb _ h4=>?_
 split at h4
 .cases h4
 cases h4;exact eM ⟨a,h1⟩ xz xz
section
variable{S:Mc}
def tX:j∈nG S c m↔j<m/\fj S j=a_ c:=by
 unfold nG;rw[lu,iC,decide_eq_true_iff]
def Hl(c m:Nat):(nG S c m).Pairwise (· < ·):=abJ _ Tf
def mt(S:Mc)(x:T3):Prop:=∃i j c:Nat,x=((i:Int),(j:Int),("own":bx))/\i<j/\j<S.ac.length/\fj S i=a_ c/\fj S j=a_ c/\∀k,i<k->k<j->fj S k≠a_ c
def Bk:x∈zW S c↔∃i j:Nat,x=((i:Int),(j:Int),("own":bx))/\i<j/\j<S.ac.length/\fj S i=a_ c/\fj S j=a_ c/\∀k,i<k->k<j->fj S k≠a_ c:=by
 unfold zW;rw[Bv,<-Lv,List.zip_map,dy];constructor
 .intro d;refine oA d λf hw=>aq f λp g e=>?_;refine nF ((QS (Hl c _) _ _).mp g) λh1 h2 h3 h4=>⟨p.1,p.2,?_,h3,((tX.mp h2).1),((tX.mp h1).2),((tX.mp h2).2),(λk a b z=>h4 k (tX.mpr ⟨yP b (tX.mp h2).1,z⟩) ⟨a,b⟩)⟩;injection e with h e2
  exact rA h.f5<|rA e2.f5 hw
 refine λd=>dO d λi j f h1 h2 h3 h4 h5=>?_;subst f;exact⟨⟨(i,j),(QS (Hl c _) i j).mpr ⟨tX.mpr ⟨yP h1 h2,h3⟩,tX.mpr ⟨h2,h4⟩,h1,λk l z=>h5 k z.1 z.2 (tX.mp l).2⟩,xz⟩,xz⟩
def VD(hi:i<S.ac.length):x∈rQ S i↔∃j c:Nat,x=((i:Int),(j:Int),("own":bx))/\i<j/\j<S.ac.length/\fj S i=a_ c/\fj S j=a_ c/\∀k,i<k->k<j->fj S k≠a_ c:=by
 have f:fj S i=a_ S.ac[i].c:=by unfold fj;rw[aQ _];rfl
 unfold rQ tY;rw[List.head?_filter,Option.mem_toList,sU,f];constructor
 .refine λd=>aq d λj h1 e=>?_;subst e;refine du (abh.mp h1) λh2 h3 h4=>?_;rw[ab8]at h3
  exact⟨j,S.ac[i].c,xz,li,om,xz,ec h2,λk a b z=>by
   have:=h4 k li b;rw[z]at this;simp at this⟩
 refine λd=>dO d λj c e h1 h2 h3 h4 h5=>?_;subst e;cases h3;refine au j (abh.mpr ⟨ee h4,by rw[ab8];lia,λk a b=>?_⟩) rfl;simp[h5 k li b]
def VC:x∈vI S i m↔∃j,j<m/\qt S j=a_ x/\x.1=(i:Int):=by
 unfold vI;rw[dy];constructor
 .refine λb=>aq b λj h c=>?_;subst c;refine oA (lu.mp h) λh1 h2=>c8 j (iC.mp h1) ?_ rfl;unfold qt;rw[ec h2];rfl
 intro b;refine aP b λj h1 h2 h3=>c7 (y4 h2) λa d e f g=>au j (lu.mpr ⟨iC.mpr h1,ee ?_⟩)<|rA h3.f5<|rA f.f5 g.f5;rw[d,<-h3];exact e
def Wo(Z:ke S)(f:∀(i:Nat)a,S.ac[i]?=a_ a->a.c<S.ps.length)(x:T3):x∈iF S↔x∈xV S:=by
 have g:x∈iF S↔mt S x\/(∃j,j<S.ac.length/\qt S j=a_ x)\/(∃n,n<12/\x∈yg S n)\/∃j,j<S.ac.length/\mf S j=a_ x:=by
  unfold iF oz pB qw qp;simp only[cp,oY,oX,iC,or_assoc];refine or_congr ?_ Iff.rfl;constructor
  .intro d;exact aq d λc h1 h2=>Eo (Bk.mp h2) λi j r=>⟨i,j,c,r⟩
  intro d;refine P' d λi j c r=>au c ?_<|Bk.mpr<|nN i j r;refine aq (sU.mp r.2.2.2.1) λa h1 h2=>?_;rw[<-h2];exact f i a h1
 have h:x∈xV S↔mt S x\/(∃j,j<S.ac.length/\qt S j=a_ x)\/(∃n,n<12/\x∈yg S n)\/∃j,j<S.ac.length/\mf S j=a_ x:=by
  unfold xV rX pJ ud;simp only[cp,oY,oX,iC,ahC];constructor
  .rintro(⟨i,h1,h2 | h2⟩ | ⟨n,h1,h2 | ⟨i,h2,h3⟩⟩)
   .exact b9 ((VD h1).mp h2) λj c e r=>.inl<|⟨i,j,c,e,r⟩
   .exact aP (VC.mp h2) λj k r2 _=>.inr<|.inl<|au j k r2
   .exact .inr (.inr<|.inl<|au n h1 h2)
   unfold t9 at h3
   split at h3
   .exact .inr (.inr<|.inr<|au i h2 h3)
   cases h3
  rintro(⟨i,j,c,e,r⟩ | ⟨j,h1,h2⟩ | ⟨n,h1,h2⟩ | ⟨i,h1,h2⟩)
  .exact .inl (au i (yP r.1 r.2.1)<|.inl<|(VD<|yP r.1 r.2.1).mpr<|fh j c e r)
  .exact c7 (y4 h2) λa b l s t=>cZ (Z.sn j a b _ l) λi o m p _=>.inl<|au i p<|.inr<|VC.mpr<|c8 j h1 h2 m
  .exact .inr (au n h1<|.inl h2)
  refine oA (Gm h2) λq _=>oE q λa b=>.inr<|au _ ((Z.ok i a b).n)<|.inr<|au i h1 ?_;unfold t9;rw[b];exact(dL xz).f4 h2
 rw[g,h]
theorem OR:∀{l:List Int},l.Pairwise R->∀{a b},(a,b)∈l.zip l.tail->R a b
 | [],_,a,b,h=>by cases h
 | [x],_,a,b,h=>by simp at h
 | x::y::r,p,a,b,h=>by
  have h:(a,b)∈(x,y)::(y::r).zip r:=h;have q:=sY.mp p;obtain e|e:=bq.mp h
  .cases e;exact q.1 y gg
  exact OR q.2 e
def Yz(h:x∈zW S c):∃i j:Nat,x=((i:Int),(j:Int),("own":bx))/\i<j/\j<S.ac.length/\fj S i=a_ c/\fj S j=a_ c:=by
 obtain⟨h1,h2⟩:=Bv.mp h;have lt:=OR (AO.mpr<|(Hl c _).imp λh=>(Uw.mpr h:_<_)) h1;have hm:=vc h1;obtain⟨i,hi,b⟩:=dy.mp hm.1;obtain⟨j,a,d⟩:=dy.mp<|abF hm.2;have a:=tX.mp a;exact⟨i,j,rA b.f5<|rA d.f5 h2,om,a.1,(tX.mp hi).2,a.2⟩
def ajr(Z:ke S)(n:Nat):(yg S n).Nodup:=by
 refine Zl ?_;rcases e:S.ov[n]? with _|o
 ·rw[mU,e];exact CN
 rw[jE e];exact Z.nd n o e
def Ow(Z:ke S)(h:x∈yg S n):x.2.2="over"/\∃(j:Nat)(a:g8),x.1=(j:Int)/\S.ac[j]?=a_ a/\a.n=n:=by
 refine oA (Bv.mp h) λh1 h2=>⟨h2,?_⟩;have h3:=(vc h1).1;rcases e:S.ov[n]? with _|o
 ·rw[mU,e]at h3;cases h3
 rw[jE e]at h3;exact Z.im n o e _ h3
def afe(Z:ke S):(iF S).Nodup:=by
 have m:∀x∈oz S S.ps.length,x.2.2="own":=λx h=>by
  refine aq (oY.mp h) λc _ h2=>b9 (Bk.mp h2) λi j k _=>?_;subst k;rfl
 have o:∀x∈pB S S.ac.length,x.2.2="seen":=λx h=>by
  exact aq (oX.mp h) λj _ h2=>(y4 h2).choose_spec.2.2.2
 have s:∀x∈qw S 12,x.2.2="over":=λx h=>by
  exact aq (oY.mp h) λj _ h2=>(Ow Z h2).1
 have v:∀x∈qp S S.ac.length,x.2.2 = aq8:=λx h=>by
  exact aq (oX.mp h) λj _ h2=>(Gm h2).2.2
 refine uW.mpr<|eM (uW.mpr ⟨uW.mpr ⟨?_,?_,?_⟩,?_,?_⟩) ?_ ?_
 .refine ZA (λc _=>Zl<|uY _ (λa b z e=>z li)<|(Hl c _).imp dg) λc d _ _ p x f y g e=>p ?_
  subst e;refine Dk (Bk.mp f) λi j t _ _ q _=>Dk (Bk.mp g) λA u r _ _ l _=>?_;rw[t]at r;injection r with z _
  have:i=A:=li;subst this;rw[q]at l;exact cI l
 .exact Zz _ (λj x h=>(y4 h).choose_spec.2.2.1) _
 .intro x f y g e;have h1:=m x f;rw[e,o y g]at h1;exact dV h1 dk
 .refine ZA (λn _=>ajr Z n) λc d _ _ p x f y g e=>p ?_;subst e;refine oA (Ow Z f) λ_ k=>cZ k λj a t q B=>oA (Ow Z g) λ_ k=>cZ k λu a' r l C=>?_;have:j=u:=li;subst this;rw[q]at l;cases l;rw[<-B,<-C]
 .intro x f y g e;have h2:=s y g;rw[<-e]at h2;obtain h|h:=cp.mp f
  .rw[m x h]at h2;exact dV h2 dk
  rw[o x h]at h2;exact dV h2 dk
 .exact Zz _ (λj x h=>(Gm h).2.1) _
 intro x f y g e;have h2:=v y g;rw[<-e]at h2;obtain h|h:=cp.mp f
 .obtain h|h:=cp.mp h
  .rw[m x h]at h2;exact dV h2 dk
  rw[o x h]at h2;exact dV h2 dk
 rw[s x h]at h2;exact dV h2 dk
end
def L'(h1:jh x y=c_)(h2:jh y x=c_):False:=by
 unfold jh at h1 h2
 by_cases a:x.1=y.1
 .rw[dL a]at h1;rw[dL a.f5]at h2
  by_cases b:x.2.1=y.2.1
  .rw[dL b]at h1;rw[dL b.f5]at h2
   by_cases c:x.2.2=y.2.2
   .rw[dL c]at h1;cases h1
   rw[dt c]at h1;rw[dt<|b8 c]at h2;exact List.lt_asymm (ec h1)<|ec h2
  rw[dt b]at h1;rw[dt<|b8 b]at h2;have:=ec h1;have:=ec h2;lia
 rw[dt a]at h1;rw[dt<|b8 a]at h2;have:=ec h1;have:=ec h2;lia
theorem UC:∀{a b:List T3},a.Pairwise (λx y=>jh x y=c_)->b.Pairwise (λx y=>jh x y=c_)->(∀x,x∈a↔x∈b)->a=b
 | [],[],_,_,_=>rfl
 | [],y::b,_,_,h=>dV ((h y).mpr<|by simp) (by simp)
 | x::a,[],_,_,h=>dV ((h x).mp<|by simp) (by simp)
 | x::a,y::b,ha,hb,h=>by
  refine oA (sY.mp ha) λc d=>oA (sY.mp hb) λb1 b2=>?_
  have e:x=y:=by
   rcases bq.mp ((h x).mp<|by simp)with q | q
   .exact q
   rcases bq.mp ((h y).mpr<|by simp)with z | z
   .exact z.f5
   exact(L' (c y z)<|b1 x q).elim
  subst e
  congr 1
  refine UC d b2 λz=>⟨λq=>?_,λq=>?_⟩
  .rcases bq.mp ((h z).mp<|eI _ q)with e | e
   .subst e;exact(L' (c z q)<|c z q).elim
   exact e
  rcases bq.mp ((h z).mpr<|eI _ q)with e | e
  .subst e;exact(L' (b1 z q)<|b1 z q).elim
  exact e
def Zq(a b:Int)(h:0<b):0<=a%b/\a%b<b:=⟨Li _ li,Int.emod_lt_of_pos _ h⟩
def NZ:Sp:=λvs H Q _=>∃(a:e_)(ns:List Int)(k:Nat),vs=[.ref a,.int (k:Nat)]/\H a=a_ (.lst<|ns.map V.int)/\ns.length<=63/\k<=100000/\∀H'(d:Nat),ak H H'->Q (.int (d:Nat)) H'
def Br:bj ["_law_script",aq9,"_law_cell","_law_number"] i7 (aU O6):=bG
def ahI(F:aW K "_law_draw" "_law_draw" O6 f fd)(g:mg aq6 = b_):aM P w K mg fi aS 1 f fd i7 NZ:=by
 refine F.ok Br λaN A _ s H vs Q E C h=>?_
 obtain⟨a,ns,k,D,ha,hn,N,q⟩:=h;subst D;have m:=zc C;refine let n:TS:=_;let R2:TS:=_;let p:TS:=_;let r:TS:=_;let G:TS:=_;⟨_,ay (bP (i:=2) Br.nd xz (aL xz) ax)<|pR G<|ay (bX (PW.pt<|pw_and (bA (y8 m) (pv 0) (dP af)<|bo _)<|pw_and1<|bA dF (bg gE (aO cG (pv 0) ax) ax) ax<|bo _) (ay (bX (bA BA (bg jv ax<|bg oa (pv 1) ax) (bw dE xz g q_<|ae (pv 0) af)<|bo _) (aB<|bP (i:=2) Br.nd xz (aL xz)<|aO cG (pv 0)<|bg jv ax<|bg oa (pv 1) ax) cj)<|pR n<|aB<|a8<|bg gE (bg ajf (pv 2)<|bg zt ax<|bg gE (pv 1) ax)<|bg ajg ax ax) cj)<|pR r<|ay (bX (bA (y8 m) (pv 0) (dP af)<|bo _) (aB<|bP (i:=2) Br.nd xz (aL xz)<|aO cG (pv 0)<|bg gE (pv 1)<|bw dE xz g q_<|ae (pv 0) af) cj)<|pR p<|ay (bP (i:=3) Br.nd xz (aL xz)<|bg gE (bg zt (bg jv (bg jv (pv 2)<|bg zt ax<|pv 1) ax) ax) ax)<|pR R2<|ay (bP (i:=3) Br.nd xz (aL xz)<|bg gE (bg zt (pv 3)<|bg jv (bg oa (pv 3) ax) ax) ax)<|aB<|a8<|bg gE (bg zt (pv 3)<|bg jv (bg oa (pv 3) ax) ax) ax,?_⟩
 have fin:∀(x:Int)b,ak H b->0<=x->Q (.int x) b:=λx b s1 I=>by
  have:=q _ x.toNat s1;rw[KU I]at this;exact this
 have t:∀(c:Int)b,ak H b->n {nx:=λ_ H'=>Q .aJ H',rt:=Q} [a_ (.ref a),a_<|.int (k:Nat),a_<|.int c,b_] b:=λc b s1=>by
  refine vr xz<|vr xz ⟨_,⟨_,xz,xz,(show 0<50 by decide),_,_,xz,xz,.inl ⟨qc,qc⟩,_,_,xz,xz,?_,_,_,xz,xz,⟨qc,qc,qc⟩,_,_,xz,xz,?_,fin _ _ s1<|Li _ qc⟩⟩
  .have:=Li k (show 50≠0 by decide);lia
  show 0<2^20;decide
 have u:∀(c:Int)b,ak H b->p {nx:=λ_ H'=>Q .aJ H',rt:=Q} [a_ (.ref a),a_<|.int (k:Nat),a_<|.int c,b_] b:=λc b s1=>by
  refine vr xz<|vr xz ⟨_,⟨_,xz,xz,.inl ⟨qc,qc⟩,_,_,xz,xz,_,_,xz,xz,_,_,xz,xz,.inr ⟨qc,qc⟩,_,_,xz,xz,(show 0<2147483647 by decide),?_⟩⟩;have J:=Zq ((c+7919*k+1)*48271) 2147483647 qc;generalize (c+7919*k+1)*48271%2147483647=n1 at J ⊢;refine au _ xz<|vr xz ⟨_,⟨_,xz,xz,⟨qc,qc⟩,_,_,xz,xz,_,_,xz,xz,.inl ⟨li,li⟩,_,_,xz,xz,(show 0<2147483647 by decide),?_⟩⟩;have L:=Zq (n1*(n1/1009+69621)) 2147483647 qc;generalize n1*(n1/1009+69621)%2147483647=n2 at L ⊢;exact au _ xz<|vr xz ⟨_,⟨_,xz,xz,⟨qc,qc⟩,_,_,xz,xz,_,_,xz,xz,.inl ⟨li,li⟩,_,_,xz,xz,(show 0<2147483399 by decide),fin _ _ s1<|Li _ qc⟩⟩
 have y:∀b,ak H b->r {nx:=λ_ H'=>Q .aJ H',rt:=Q} [a_ (.ref a),a_<|.int (k:Nat),a_<|.int 0,b_] b:=λb s1=>by
  refine vr xz ⟨qc,(λl d=>⟨a,l,_,xz,xz,aH (ak.f8 _) d _ _<|s1 _ _ ha,av,_,xz,jY (λz=>?_) λz=>?_⟩)⟩
  .have s2:=aH (o:=.lst []) s1 d;generalize cB _ l _=H2 at s2 ⊢;have B:0<ns.length:=KR.mpr λe=>z (by rw[e];rfl);have M:k%ns.length<ns.length:=yX _ B;refine vr xz<|vr xz<|vr xz ⟨a,⟨_,xz,.inl<|ao.of<|s2 _ _ ha,_,_,xz,xz,?_,a,_,_,.int<|ns[k%ns.length],xz,xz,ao.of<|s2 _ _ ha,?_,u _ _ s2⟩⟩
   .rw[aG];lia
   rw[aG,<-TY];exact bZ (by rw[cH,aQ _];rfl)
  exact u 0 _<|aH s1 d
 refine c8 _ xz qc λl d=>(nN a l<|fG _ xz xz (aH (ak.f8 _) d _ _ ha) av<|au _ xz<|jY (λz=>?_) λz=>?_)
 .have s2:=aH (o:=.lst []) (ak.f8 H) d;generalize cB H l _=H2 at s2 ⊢;have B:0<ns.length:=KR.mpr λe=>z (by rw[e];rfl);refine vL (v:=.int ns[0]) xz (ao.of<|s2 _ _ ha) (bZ (j:=0)<|by rw[cH,aQ _];rfl) ⟨_,_,xz,xz,(show (0:Int)<2 by decide),xz,_,xz,bQ (λz=>?_) λz=>?_⟩
  .refine vr xz ⟨_,⟨_,xz,xz,⟨qc,qc⟩,_,_,xz,xz,_,xz,a,_,xz,.inl<|ao.of<|s2 _ _ ha,_,_,xz,xz,_,xz,bQ (λz=>?_) λz=>?_⟩⟩
   .rw[aG]at z;have e:1+k/50=((1+k/50:Nat):Int):=li;have M:1+k/50<ns.length:=by rw[e]at z;lia
    refine vr xz<|vr xz ⟨_,⟨_,xz,xz,⟨qc,qc⟩,_,_,xz,xz,a,_,_,.int<|ns[1+k/50],xz,xz,ao.of<|s2 _ _ ha,?_,t _ _ s2⟩⟩;rw[e];exact bZ (by rw[cH,aQ _];rfl)
   exact t 0 _ s2
  exact y _ s2
 exact y _<|aH (ak.f8 H) d
noncomputable def t3V(x:T3):List V:=[.int x.1,.int x.2.1,.str x.2.2]
def c9(H:Hp)(v:V)(x:T3):Prop:=∃p,v=.ref p/\H p=a_ (.tup<|t3V x)
def c9.keep(k:∀b xs,H b=a_ (.tup xs)->H' b=a_ (.tup xs))(h:c9 H v x):c9 H' v x:=aq h λp e q=>⟨p,e,k _ _ q⟩
def c9.all(h:aA (c9 H) vs L)(k:∀b xs,H b=a_ (.tup xs)->H' b=a_ (.tup xs)):aA (c9 H') vs L:=df h λ_ _ q=>q.keep k
def anu(xs:List V):oG xs (a_ 1) b_=xs.tail:=by
 rcases xs with _|⟨y,ps⟩;rfl;exact Qi y _
def HC(o:List Int)(w:bx):(lK o w).length<=o.length:=by
 unfold lK;rw[aG,yI];lia
section
variable{t:a9}{C CT:e_}
def PU:Sp:=λvs H Q _=>∃l o w,vs=[.ref l,.str w]/\H l=a_ (.lst<|o.map V.int)/\o.length<=3000/\∀H' a us,ak H H'->H a=b_->H' a=a_ (.lst us)->aA (c9 H') us (lK o w)->Q (.ref a) H'
def anb:bj hF hF (aU Em):=bG
def Yu:(["why","one",aq1]:List bx).Nodup:=dk
def ala(F:aW K aq0 aq0 Em f fd)(m:mg "zip"=b_):aM P w K mg fi aS 1 f fd hF PU:=by
 refine F.ok anb λaN A _ s H vs Q E U h=>?_
 obtain⟨l,o,w,J,u,h1,q⟩:=h;subst J
 refine⟨_,aB (a8 (jc (N:=["why","one",aq1]) (idx:=[1]) xz (dJ.of<|by kernel_rfl) (yT (aD _)<|jT _)
  (Ol (b1:=c_) (b2:=c_) xz m<|ae (pv 0)<|ae (y6 G9 (pv 0) (zd ax) ze) af)
  (λ_ _ _ _=>nz xz<|eT (bC (i:=1) Yu xz (aL xz)<|.inr xz)<|eT (bC (i:=2) Yu xz (aL xz)<|.inr xz) ni)
  (λ_ _ _ _=>jD) λ_ _ _ _=>fA<|ae (pv 1)<|ae (pv 2)<|ae (pv 0) af)),?_⟩
 refine au _ xz<|vr xz<|au _ xz ⟨l,⟨_,xz,ao.of u,λr L=>?_⟩⟩;rw[anu];have g:ak H (cB H r<|.lst (o.map V.int).tail):=aH (ak.f8 _) L;have c:=g _ _ u;have d:cB H r _ r=a_ (.lst (o.map V.int).tail):=av;generalize cB H r _=H0 at g c d ⊢;have hn:(o.zip o.tail).length=o.length-1:=by rw[yI,K'];lia
 refine⟨l,r,_,_,xz,(ao.of c),(ao.of d),(gC (n:=(o.zip o.tail).length) (λi ys H'=>i<=(o.zip o.tail).length/\ak H0 H'/\aA (c9 H') ys ((lK o w).take i)) (dH<|Xj li) (eM (aY _) (ak.f8 _) .nil) ?_ ?_ ?_ ?_ ?_)⟩
 .rintro i ys H' ⟨_,_,e⟩;rw[r_ e,dn];exact yH _ _
 .rintro i ys H' hi ⟨_,a,_⟩;have h2:i<o.length:=li;have h3:i<o.tail.length:=by rw[K'];lia
  exact⟨_,_,(V.int o[i]),(V.int o.tail[i]),(ao.of<|a _ _ c),(ao.of<|a _ _ d),(by rw[cH,aQ _];rfl),(by rw[<-Lv,cH,aQ _];rfl)⟩
 .rintro ys H' ⟨_,a,_⟩;exact di _ _ (ao.of<|a _ _ c) (ao.of<|a _ _ d)<|.inr (by rw[<-Lv,aG,K'];lia)
 .rintro i ys z hi ⟨_,a,e⟩ v W ⟨p,x,y,M,O,R,S⟩;subst O;subst R;refine oA (S _ _ (ao.of<|a _ _ c)<|ao.of<|a _ _ d) λB D=>?_;have h2:i<o.length:=li;have h3:i<o.tail.length:=by rw[K'];lia
  rw[cH,aQ h2]at B;rw[<-Lv,cH,aQ h3]at D;cases B;cases D;have j:=aH (o:=.tup [V.int o[i],V.int o.tail[i]]) (ak.f8 _) M;have G:cB z p _ p=a_ (.tup [V.int o[i],V.int o.tail[i]]):=av;generalize cB _ p _=H5 at j G ⊢;refine⟨p,⟨_,xz,aF.of G,xz,_,_,xz,_,[],xz,xz,_,xz,_,xz,_,xz,(sl (n:=3)),λX I=>⟨hi,(a.f4 j).f4<|aH (ak.f8 _) I,?_⟩⟩⟩
  have T:(lK o w)[i]?=a_ (o[i],o.tail[i],w):=by
   unfold lK;rw[cH,aQ hi,La];rfl
  rw[jP,T];exact qe (c9.all e λb xs e=>aH j I _ _ e)<|au _ xz av
 rintro ys z ⟨_,a,e⟩;rw[jA (by unfold lK;rw[aG];exact aD _)]at e;have m:=HC o w;refine⟨by rw[r_ e];exact dH<|Xj li,λrl k=>?_⟩;exact q _ _ _ (g.f4<|aH (o:=.lst ys) a k) ((g.f4 a).free k) av (c9.all e λb xs e=>aH (ak.f8 _) k _ _ e)
end
def ma(s:ak H H')(n:H l=b_):ak H (cB H' l o):=λb u e=>by
 rw[ag (λz=>by rw[z,n]at e;cases e)];exact s b u e
def aeS(S:Mc)(c i:Nat):nG S c (i+1)=nG S c i++(if fj S i=a_ c then [i] else []):=by
 unfold nG;rw[kF,qX]
 by_cases h:fj S i=a_ c <;> simp[h]
def MV(S:Mc)(c i:Nat):(nG S c i).length<=i:=by
 have:=qW (λj=>decide<|fj S j=a_ c)<|List.range i;rw[jB]at this;exact this
def gV(l:List Nat):List Int:=l.map λ(n:Nat)=>(n:Int)
def Vv(S:Mc)(m:Nat):oz S (m+1)=oz S m++zW S m:=by
 unfold oz;rw[kF,wR];simp
def Xw(S:Mc)(c:Nat):(zW S c).length<=S.ac.length:=cF (HC _ _) (by rw[aG];exact MV _ _ _)
theorem Gy(S:Mc):∀m,(oz S m).length<=m*S.ac.length
 | 0=>aY _
 | m+1=>by
  rw[Vv,ba,CU];exact Lo (Gy S m)<|Xw S m
section
variable{t:a9}{C CT:e_}
def xx(t:a9)(C CT:e_)(f:Mc->List T3):Sp:=λvs H Q _=>∃m A S,vs=[.ref m]/\bb t C CT H m A S/\i6 S/\S.ac.length<=3000/\ke S/\∀H' l us,ak H H'->H l=b_->H' l=a_ (.lst us)->aA (c9 H') us (f S)->Q (.ref l) H'
def Hd:bj ["machine","found",X_,"own"] fF (aU Oe):=bG
def Yy:([X_,R_,"deed"]:List bx).Nodup:=dk
def ajh{f fN:e_}(F:aW K "by_own" "by_own" Oe f fd)(O:fV K C)(cE:mg aq6 = b_)(da:mg aq3 = b_)(uM:mg "enumerate"=b_)(DD:Mt P w K mg fi C 1 "deeds" fC (Bi t C CT))(GN:aM P w K mg fi aS 1 fN Fn hF PU)(FN:aW K aq0 aq0 Em fN Fn)(bN:d5 K Fn hF [])(mN:mg aq0 = a_ (.ref fN)):aM P w K mg fi aS 2 f fd fF (xx t C CT λS=>oz S S.ps.length):=by
 refine F.ok Hd λaN A _ s H vs Q E hr h=>?_
 obtain⟨m,A,S,l,M,W,dD,Z,q⟩:=h;subst l
 refine let d:TS:=_;let g:TS:=_;let k:TS:=_;⟨_,ay (bP (i:=1) Hd.nd xz (aL xz)<|dP af) (pR k (ay (ik gJ xz (ju xz da<|ae (bw dE xz cE q_<|ae (bT (pv 0) xz) af) af) (bC (i:=2) Hd.nd xz<|pA xz) (pR g (ay (A4 (i:=3) (N:=[X_,R_,"deed"]) (idx:=[2]) Hd.nd xz xz xz (dJ.of<|by kernel_rfl) (yT (aD _)<|jT _) (zf (b:=c_) xz uM<|ae (ph (pv 0) O.cl DD hr) af)
    (λ_ _ _ _=>nz xz<|eT (bC (i:=1) Yy xz (aL xz)<|.inr xz)<|eT (bC (i:=2) Yy xz (aL xz)<|.inr xz) ni)
    (λ_ _ _ _=>xp<|bA dF (aO (zC K) (pv 2) ax) (pv 0)<|bo _) λ_ _ _ _=>pv 1)
   (pR d<|aB<|dC<|je m_ PySem.F.slot_list_extend PySem.F.type_list_extend Gi (pv 1)<|ae (jU GN hr xz mN FN.kp bN .nil dh<|ae (pv 3)<|ae cU af) af))))
  (aB<|a8<|pv 1))),?_⟩
 have R:=eA;refine⟨qc,λlw nw=>?_⟩;have D:ak H (cB H _<|.lst []):=aH (ak.f8 _) nw;have qK:cB H _ _ lw=a_ (.lst []):=av;generalize cB H _ _=H0 at D qK ⊢;have h4:=W.good.le;refine b9 (id M.obj) λdx fs hm G=>cZ (id M.pg) λT pv ep hp U=>?_;cases ep;refine vF xz (D _ _ hm) O.cl O.program G.program ⟨A.pg,⟨_,xz,.inr<|aF.of<|D _ _ hp,_,xz,by rw[r_ U];lia,by rw[r_ U];lia,?_⟩⟩;rw[show ((pv.length:Int)).toNat=S.ps.length by rw[r_ U];lia]
 let W1:IV:=λi σ H'=>i<=S.ps.length/\∃c y us,σ=[a_ (.ref m),a_<|.ref lw,c,y]/\ak H H'/\H' lw=a_ (.lst us)/\aA (c9 H') us (oz S i)
 refine nY W1 ⟨aY _,b_,b_,[],xz,D,qK,.nil⟩ ?_ ?_
 .refine λi σ H1 hi r=>oA r λ_ l=>fE l λc y us l s1 X=>?_;subst l;refine oA X λY I=>?_;rw[lW];refine vM xz (s1 _ _ hm) (G.ms _ dk) (rG m A S xz (M.same s1) λld ws nd k8=>?_);have B:cB H1 _ _ ld=a_ (.lst ws):=av;have s2:ak _ (cB _ _<|.lst ws):=aH (ak.f8 _) nd;have pL:=df k8 λ_ _ q=>aq q λp e h=>(⟨p,e,s2 _ _ h⟩:lF _ _ _);generalize cB _ _ _=H2 at B s2 pL ⊢;have kh:=r_ pL;refine⟨ld,⟨_,xz,ao.of B,gC (n:=S.ac.length) (λj ys H'=>j<=S.ac.length/\ak _ H'/\ys=(gV<|nG S i j).map V.int) (by rw[R];lia) (eM (aY _) (ak.f8 _) xz) ?_ ?_ ?_ ?_ ?_⟩⟩
  .refine λj ys H' r=>du r λ_ _ l=>?_;subst l;rw[aG];unfold gV;rw[aG];exact MV _ _ _
  .exact λj ys H' hj r=>du r λ_ u _=>fh _ (ws[j]' li) (ao.of<|u _ _ B)<|aQ _
  .exact λys H' r=>du r λ_ u _=>au _ (ao.of<|u _ _ B) li
  .refine λj ys H3 hj r v H4 iB=>du r λ_ u l=>?_;subst l;refine iG iB λp x np ev eH hx=>?_;subst ev;subst eH;refine aq (pe pL<|hx _<|ao.of<|u _ _ B) λa ha l=>aq l λT ex uK=>?_;subst ex;have J:=aH (o:=.tup [.int j,.ref T]) (ak.f8 _) np;have km:cB H3 p _ p=a_ (.tup [.int j,.ref T]):=av;generalize cB _ p _=H5 at J km ⊢;have hc:fj S j=a_ a.c:=by unfold fj;rw[ha];rfl
   refine⟨p,⟨_,xz,aF.of km,xz,_,_,xz,_,[],xz,xz,iI xz (J _ _<|u _ _ uK) xz ⟨_,xz,rq (H:=H5) xz ?_⟩⟩⟩;rw[xv,aeS,hc];refine bQ (λe=>?_) λe=>?_
   .refine vr xz (eM hj (u.f4 J) ?_);rw[dL (by rw[e])];unfold gV;rw[dN,dN];rfl
   refine eM hj (u.f4 J) ?_;rw[dt λz=>e<|cI z,gj]
  refine λys H3 r=>du r λ_ u l=>?_;subst l;have E5:(gV<|nG S i S.ac.length).length<=S.ac.length:=by unfold gV;rw[aG];exact MV S i S.ac.length
  refine⟨by rw[aG,R];lia,λlo Ah=>?_⟩;have L:=aH (o:=.lst<|(gV<|nG S i S.ac.length).map V.int) u Ah;have lN:cB H3 _ _ lo=a_ (.lst<|(gV<|nG S i S.ac.length).map V.int):=av;generalize cB _ _ _=H6 at L lN ⊢;have iL:=L _ _<|s2 _ _ Y;refine c8 _ xz (.inl ⟨xz,_,ao.of iL⟩)<|vr xz<|nN _ _ (lE _ xz lN li λH7 l7 zs s7 n7 Am E1=>?_);have ET:=r_ E1;have lg:=r_ I;have yp:=Gy S i;have aoy:i*S.ac.length<=4*3000:=CL li dD;have jj:=s7 _ _ iL;refine⟨lw,l7,us,zs,xz,xz,jj,Am,(by rw[R,lg,ET];have:(lK (gV<|nG S i S.ac.length) "own").length<=S.ac.length:=Xw S i;lia),hi,⟨_,_,_,xz,ma (((s1.f4 s2).f4 L).f4 s7) nw,av,?_⟩⟩;rw[Vv];have kt:=tT (o:=.lst<|us++zs) jj;exact wW (c9.all E1 kt) (c9.all I λb xs e=>kt _ _<|s7 _ _<|L _ _<|s2 _ _ e)
 refine λσ H1 r=>oA r λ_ l=>fE l λc y us l s1 X=>?_;subst l;exact oA X λY I=>vr xz<|q _ _ _ s1 nw Y I
end
def U0(S:Mc)(m:Nat):qw S (m+1)=qw S m++yg S m:=by
 unfold qw;rw[kF,wR];simp
theorem Gh(h:∀o∈S.ov,o.length<=b):∀m,(qw S m).length<=m*b
 | 0=>aY _
 | m+1=>by
  rw[U0,ba,CU];refine Lo (Gh h m)<|cF (HC _ _) ?_;rcases e:S.ov[m]? with _|o
  ·rw[mU,e];exact aY _
  rw[jE e];exact h o<|bz e
theorem Yw:∀{n:Nat}{l:List Int},l.Nodup->(∀d∈l,∃j:Nat,d=(j:Int)/\j<n)->l.length<=n
 | 0,[],_,_=>aD _
 | 0,x::l,_,h=>by
  exact aq (h x<|by simp) λj _ a=>dV a<|CK _
 | n+1,l,hn,h=>by
  have ih:=Yw (n:=n) (l:=l.erase (n:Int)) (hn.erase _) λd hd=>by
   refine aq (h d<|List.mem_of_mem_erase hd) λj e a=>?_;have b:=(yY.mem_erase_iff hn).mp hd |>.1
   exact au j e li
  rw[List.length_erase]at ih
  split at ih <;> lia
def ke.kY(Z:ke S):∀o∈S.ov,o.length<=S.ac.length:=λo b=>by
 exact oE (oW b) λn hn=>Yw (Z.nd n o hn) λd hd=>cZ (Z.im n o hn d hd) λj a e h _=>au j e<|(bu.mp h).1
section
variable{t:a9}{C CT:e_}
def MD:bj ["machine","found",H_] fF (aU Nx):=bG
def ahH{f fN:e_}(F:aW K "by_over" "by_over" Nx f fd)(O:fV K C)(R:mg aq3 = b_)(T:∃u,mg "NAMES"=a_ u/\d0 (.int 12) u)(U:Mt P w K mg fi C 1 "over" gi (Hu t C CT))(X:aM P w K mg fi aS 1 fN Fn hF PU)(Y:aW K aq0 aq0 Em fN Fn)(bN:d5 K Fn hF [])(mN:mg aq0 = a_ (.ref fN)):aM P w K mg fi aS 2 f fd fF (xx t C CT λS=>qw S 12):=by
 refine F.ok MD λaN A _ s H vs Q E r h=>?_
 refine Vy h λm A S d M W dD Z q=>aq T λu hu ru=>?_;subst d;refine let a:TS:=_;⟨_,ay (bP (i:=1) MD.nd xz (aL xz)<|dP af)<|pR a<|ay (ik gJ xz (ju xz R<|ae (gD xz hu ru) af) (bC (i:=2) MD.nd xz<|aL xz)<|aB<|dC<|je m_ PySem.F.slot_list_extend PySem.F.type_list_extend Gi (pv 1)<|ae (jU X r xz mN Y.kp bN .nil dh<|ae (jX (pv 0) O.cl U r<|ae (pv 2) af)<|ae cU af) af)<|aB<|a8<|pv 1,?_⟩;have v:=Z.kY;refine⟨qc,λlw nw=>?_⟩;have x:ak H (cB H _<|.lst []):=aH (ak.f8 _) nw;have y:cB H _ _ lw=a_ (.lst []):=av;generalize cB H _ _=H0 at x y ⊢;refine b9 (id M.obj) λdx fs hm G=>(lE 12 xz qc qc ?_)
 let W1:IV:=λi σ H'=>i<=12/\∃c us,σ=[a_ (.ref m),a_<|.ref lw,c]/\ak H H'/\H' lw=a_ (.lst us)/\aA (c9 H') us (qw S i)
 refine nY W1 ⟨aY _,b_,[],xz,x,y,.nil⟩ ?_ ?_
 .intro i σ z hi n;refine oA n λ_ d=>?_;refine iG d λc us d s1 g j=>?_;subst d;rw[lW];have k:S.ov[i]?=a_ (S.ov[i]'(W.ov▸hi)):=aQ _;have B:=v _<|bz k;refine vr xz ⟨.inl ⟨xz,_,ao.of g⟩,(vM xz (s1 _ _ hm) (G.ms _ dk)<|vr xz<|⟨m,A,S,i,_,xz,(M.same s1),k,(λlo Ah=>?_)⟩)⟩;generalize S.ov[i]'_=o at k B ⊢;have l:=aH (o:=.lst<|o.map V.int) (ak.f8 _) Ah;have D:cB z _ _ lo=a_ (.lst<|o.map V.int):=av;generalize cB _ _ _=H6 at l D ⊢;have iL:=l _ _ g;refine nN _ _ (lE _ xz D li λH7 l7 I p n7 Am J=>?_);have ET:=r_ J;have hzc:=HC o "over";have lg:=r_ j;have B:=Gh v i;have aoy:i*S.ac.length<=12*3000:=CL li dD;have L:=p _ _ iL;refine⟨lw,l7,us,I,xz,xz,L,Am,(by rw[eA,lg,ET];lia),hi,⟨_,_,xz,ma ((s1.f4 l).f4 p) nw,av,?_⟩⟩;rw[U0];have N:=tT (o:=.lst<|us++I) L;have e:yg S i=lK o "over":=by unfold yg;rw[jE k]
  rw[e];exact wW (c9.all J N) (c9.all j λb xs e=>N _ _<|p _ _<|l _ _ e)
 intro σ z n;refine oA n λ_ d=>iG d λc us d s1 g j=>?_;subst d;exact vr xz<|q _ _ _ s1 nw g j
end
noncomputable def ff(o:List Int):List (Option Int):=b_::o.map a_
def nextT(o:List Int)(j:Nat)(s:Option Int):Option Int:=(((ff o).zip o).take j).lookup s
def jC(h:j<o.length):j<(ff o).length:=by unfold ff;rw[gI,aG];lia
def Mr(o:List Int):((ff o).zip o).length=o.length:=by unfold ff;rw[yI,gI,aG];lia
def aeD(o:List Int)(s:Option Int):nextT o o.length s=nextM o s:=by
 unfold nextT;rw[jA (by rw[Mr];exact aD _)];rfl
def agr(h:o.Nodup):(ff o).Nodup:=by
 refine vd.mpr ⟨λz=>aq (dy.mp z) λx _ e=>?_,uY _ (λa b z e=>z<|cI e) h⟩;cases e
def ada{k s:Option Int}:(l++[(k,v)]).lookup s=(l.lookup s).or (if s=k then a_ v else b_):=by
 induction l with
 | nil=>
  show ([(k,v)]).lookup s=_;rw[mV]
  by_cases h:s=k
  .simp[h]
  rw[dt h,eX.mpr h];rfl
 | cons p l ih=>
  obtain⟨a,b⟩:=p;rw[TX,mV,mV,ih];cases (s==a) <;> rfl
def adL(hn:o.Nodup)(a:j<o.length)(s:Option Int):nextT o (j+1) s=if s=(ff o)[j]'(jC a) then a_ o[j] else nextT o j s:=by
 have b:((ff o).zip o)[j]?=a_ ((ff o)[j]'(jC a),o[j]):=by
  rw[aQ (by rw[Mr];exact a),La]
 unfold nextT;rw[jP,b];show (_++[_]).lookup s=_;rw[ada]
 by_cases e:s=(ff o)[j]'(jC a)
 .rw[dL e,dL e]
  have c:(((ff o).zip o).take j).lookup s=none:=by
   rw[List.lookup_eq_none_iff];refine λp d=>bne_iff_ne.mpr λz=>oE (oW d) λi hi=>?_;rw[sZ]at hi
   split at hi
   .rename_i f
    have g:i<o.length:=li;rw[aQ (by rw[Mr];exact g),La]at hi;cases hi;exact lj.mp (agr hn) i j _ _ f<|z.f5.f4 e
   cases hi
  rw[c];rfl
 rw[dt e,dt e];cases (((ff o).zip o).take j).lookup s <;> rfl
def anw(o:List Int):[V.aJ]++o.map V.int=(ff o).map oV:=by
 unfold ff;rw[eu,vg];rfl
def anB(S:Mc)(fv:List (List dc×V)):Prop:=∀(m:Nat)(s:Option Int),m<12->cx fv [.inl (a_ (m:Int)),.inl s]=(nextM (S.ov.getD m []) s).map V.int
def II(S:Mc)(i:Nat)(f:Option Int->Option Int)(fv:List (List dc×V)):Prop:=∀(m:Nat)(s:Option Int),cx fv [.inl (a_ (m:Int)),.inl s]=if m<i then (nextM (S.ov.getD m []) s).map V.int else if m=i then (f s).map V.int else b_
def kJ{k:Nat}(r:eE k A):A.units+1<cLine:=by have:=r.un;lia
def Ze(s:Option Int):oV s=kV s:=by cases s <;> rfl
def aiB(hn:o.Nodup)(a:j<o.length)(h:II S i (nextT o j) fv):II S i (nextT o<|j+1) (putK fv [.inl (a_ (i:Int)),.inl<|(ff o)[j]'(jC a)] (.int o[j])):=by
 intro m s;rw[tS,h m s,adL hn a]
 by_cases e:([.inl (a_ m),.inl s]:List dc)=[.inl (a_ i),.inl<|(ff o)[j]'(jC a)]
 .rw[dL e];injection e with c b
  injection b with b _
  have:m=i:=by have:=cI<|CW c;lia
  subst this;rw[dt<|jR _,dL xz,dL<|CW b];rfl
 rw[dt e]
 split
 .rfl
 split
 .rename_i hm
  subst hm;rw[dt λz=>e (by rw[z])]
 rfl
section
variable{t:a9}{C CT:e_}
def Wi(t:a9)(C CT:e_):Sp:=λvs H Q _=>∃m A S,vs=[.ref m]/\bb t C CT H m A S/\i6 S/\S.ac.length<=3000/\ke S/\∀H' l fv,ak H H'->H l=b_->H' l=a_ (.dT fv)->anB S fv->Q (.ref l) H'
def Be:bj ["machine","found",H_,"comers","one",aq1] fF (aU Hf):=bG
def aet(F:aW K "comers_behind" "comers_behind" Hf f fd)(cM:fV K C)(da:mg aq3 = b_)(hzp:mg "zip"=b_)(Rz:∃u,mg "NAMES"=a_ u/\d0 (.int 12) u)(DO:Mt P w K mg fi C 1 "over" gi (Hu t C CT)):aM P w K mg fi aS 2 f fd fF (Wi t C CT):=by
 refine F.ok Be λaN A _ s H vs Q E hr h=>?_
 refine Vy h λm A S k M W dD Z q=>aq Rz λu hu ru=>?_;subst k;refine let e:TS:=_;let g:TS:=_;⟨_,ay (bP (i:=1) Be.nd xz (aL xz) Wt)<|pR g<|ay (ik gJ xz (ju xz da<|ae (gD xz hu ru) af) (bC (i:=2) Be.nd xz<|aL xz)<|pR e<|ay (bP (i:=3) Be.nd xz (aL xz)<|jX (pv 0) cM.cl DO hr<|ae (pv 2) af)<|aB<|ik gJ xz (Ol (b1:=c_) (b2:=c_) xz hzp<|ae (bg Dz (dP<|ae og af)<|pv 3)<|ae (pv 3) af) (nz xz<|eT (bC (i:=4) Be.nd xz<|aL xz)<|eT (bC (i:=5) Be.nd xz<|aL xz) ni)<|aB<|xq (kJ hr) (pv 1) (fA<|ae (pv 2)<|ae (pv 4) af) (pv 5) xz)<|aB<|a8<|pv 1,?_⟩;have hsz:=eA;refine λlw nw=>?_;have s0:ak H (cB H _<|.dT []):=aH (ak.f8 _) nw;have qK:cB H _ _ lw=a_ (.dT []):=av;generalize cB H _ _=H0 at s0 qK ⊢;refine b9 (id M.obj) λdx fs hm G=>(lE 12 xz qc qc ?_)
 let W1:IV:=λi σ H'=>i<=12/\∃a b c d fv,σ=[a_ (.ref m),a_<|.ref lw,a,b,c,d]/\ak H H'/\H' lw=a_ (.dT fv)/\II S i (λ_=>b_) fv/\fv.length<=i*3000
 refine nY (n:=12) W1 ⟨aY _,b_,b_,b_,b_,[],xz,s0,qK,λm s=>(by rw[dt<|CK _];split <;> rfl),aY _⟩ ?_ ?_
 .intro i σ H1 hi r;refine oA r λ_ k=>f9 k λa b c d fv k=>oj k λk s1 L O pW=>?_;subst k;rw[lW];have D:S.ov[i]?=a_ (S.ov[i]'(W.ov▸hi)):=aQ _;have yp:=Z.kY _<|bz D;refine vM xz (s1 _ _ hm) (G.ms _ dk)<|vr xz<|⟨m,A,S,i,_,xz,(M.same s1),D,(λlo R=>?_)⟩;generalize S.ov[i]'_=o at D yp ⊢;have hnd:=Z.nd i o D;have T:=aH (o:=.lst<|o.map V.int) (ak.f8 _) R;have U:cB H1 _ _ lo=a_ (.lst<|o.map V.int):=av;generalize cB _ _ _=H6 at T U ⊢;refine⟨qc,λr1 nr1=>⟨_,xz,?_⟩⟩;have X:=aH (o:=.lst [.aJ]) (ak.f8 _) nr1;have iM:cB H6 _ _ r1=a_ (.lst [.aJ]):=av;generalize cB _ _ _=H7 at X iM ⊢;refine⟨r1,lo,_,(lC _ xz xz iM (X _ _ U) (by rw[hsz,aG];show 1+o.length<=_;lia) λr2 nr2=>⟨_,xz,?_⟩)⟩;rw[anw];have N:=aH (o:=.lst<|(ff o).map oV) (X) nr2;have I:cB H7 _ _ r2=a_ (.lst<|(ff o).map oV):=av;generalize cB _ _ _=H8 at N I ⊢;have aaF:=N _ _ U;have B5:=N _ _<|T _ _ L;have n1:lo≠lw:=λz=>by rw[z,L]at R;cases R
  have n2:r2≠lw:=λz=>by rw[z,B5]at I;cases I
  let W2:IV:=λj σ H'=>j<=o.length/\∃c d fv,σ=[a_ (.ref m),a_<|.ref lw,a_<|.int (i:Nat),a_<|.ref lo,c,d]/\ak H H'/\H' lo=a_ (.lst<|o.map V.int)/\H' r2=a_ (.lst<|(ff o).map oV)/\H' lw=a_ (.dT fv)/\II S i (nextT o j) fv/\fv.length<=i*3000+j
  refine⟨r2,lo,_,(lE _ xz (ao.of I) (ao.of aaF)<|DJ (n:=o.length) W2 ⟨aY _,c,d,fv,xz,(s1.f4 T).f4 N,aaF,I,B5,O,pW⟩ ?_ ?_ ?_ ?_)⟩
  .refine λj σ H' l r=>oA r λ_ k=>fE k λc d fv k _ B=>?_;subst k;exact du B λh1 h2 _=>⟨_,_,(oV<|(ff o)[j]'(jC l)),(V.int o[j]),(ao.of h2),(ao.of h1),(by rw[cH,aQ<|jC l];rfl),(by rw[cH,aQ _];rfl)⟩
  .refine λσ H' r=>oA r λ_ k=>fE k λc d fv k _ B=>?_;subst k;exact du B λh1 h2 _=>di _ _ (ao.of h2) (ao.of h1)<|.inr (by rw[aG];exact aD _)
  .refine λj σ H9 l r v wL iB=>oA r λ_ k=>fE k λc d fv k Y B=>?_;subst k;refine oj B λh1 h2 h3 Sw RS=>fE iB λp x y np ev k=>oA k λeH EV=>?_;subst ev;subst eH;refine oA (EV _ _ (ao.of h2)<|ao.of h1) λhx hy=>?_;rw[cH,aQ<|jC l]at hx;rw[cH,aQ l]at hy;cases hx;cases hy;have gH:=aH (o:=.tup [oV ((ff o)[j]'(jC l)),V.int o[j]]) (ak.f8 _) np;have km:cB H9 p _ p=a_ (.tup [oV ((ff o)[j]'(jC l)),V.int o[j]]):=av;generalize cB _ p _=wL at gH km ⊢;refine⟨p,⟨_,xz,aF.of km,xz,_,_,xz,_,[],xz,xz,_,xz,_,xz,_,xz,_,xz,(sl (n:=2)),λtp Rf=>?_⟩⟩;have J:=aH (o:=.tup [.int i,oV<|(ff o)[j]'(jC l)]) gH Rf;have kj:cB wL _ _ tp=a_ (.tup [.int (i:Nat),oV<|(ff o)[j]'(jC l)]):=av;generalize cB _ _ _=nV at J kj ⊢;have hpk:=tL fv [.inl (a_ i),.inl<|(ff o)[j]'(jC l)] (.int o[j]);have apz:i*3000<=12*3000:=Nat.mul_le_mul_right _ li;refine⟨lw,⟨_,xz,.inr ⟨fv,[.inl _,.inl<|(ff o)[j]'(jC l)],tp,J _ _ h3,xz,by rw[kj,Ze];rfl,by rw[hsz];lia,xz⟩,l,_,_,_,xz,ma (Y.f4 J) nw,?_,?_,av,aiB hnd _ Sw,li⟩⟩
   .rw[ag n1];exact J _ _ h1
   rw[ag n2];exact J _ _ h2
  refine λσ H9 r=>oA r λ_ k=>fE k λc d fv k Y B=>?_;subst k;refine oj B λh1 h2 h3 Sw RS=>⟨hi,⟨_,_,_,_,fv,xz,Y,h3,λm s=>?_,by rw[CU];lia⟩⟩;rw[Sw m s]
  by_cases e1:m<i
  .rw[dL e1,dL li]
  rw[dt e1]
  by_cases e2:m=i
  .subst e2;rw[dL xz,dL li,aeD,jE D]
  rw[dt e2,dt li]
  split <;> rfl
 refine λσ H1 r=>oA r λ_ k=>f9 k λa b c d fv k=>oj k λk s1 L O pW=>?_;subst k;refine vr xz (q _ _ _ s1 nw L λm s hm=>?_);rw[O m s,dL hm]
end
noncomputable def vO(R:List Int)(B:List T3)(k:Int):Option T3:=(B.filter λx=>decide<|x.1∉R/\x.2.1=k).getLast?
def Ma(R:List Int)(B:List T3)(x:T3)(k:Int):vO R (B++[x]) k=if x.1∉R/\x.2.1=k then a_ x else vO R B k:=by
 unfold vO;rw[qX,tF,List.filter_nil]
 by_cases e:x.1∉R/\x.2.1=k
 .rw[dL e,dL<|ee e,abH];rfl
 rw[dt e,dt λz=>e<|ec z,gj]
structure oM(R:List Int)(B:List T3)(H:Hp)(fv:List (dc×V)):Prop where
 got:∀k v,cx fv k=a_ v->∃(x:T3)(p:e_),x∈B/\x.1∉R/\k=a_ x.2.1/\v=.ref p/\vO R B x.2.1=a_ x/\H p=a_ (.tup [.int x.1,.str x.2.2])
 all:∀x∈B,x.1∉R->∃v,cx fv (a_ x.2.1)=a_ v
def oM.same(h:oM R B H fv)(s:∀b xs,H b=a_ (.tup xs)->H' b=a_ (.tup xs)):oM R B H' fv:=
 ⟨λk v e=>dO (h.got k v e) λx p h1 h2 h3 h4 h5 a=>⟨x,p,h1,h2,h3,h4,h5,s _ _ a⟩,h.all⟩
def oM.nil:oM R [] H []:=⟨λk v e=>(by cases e),λx h=>(by cases h)⟩
def oM.skip(h:oM R B H fv)(a:x.1∈R):oM R (B++[x]) H fv:=
 ⟨λk v e=>dO (h.got k v e) λy p h1 h2 h3 h4 h5 b=>⟨y,p,cp.mpr<|.inl h1,h2,h3,h4,by rw[Ma,dt λz=>z.1 a];exact h5,b⟩,λy c n=>by
  obtain z|z:=cp.mp c
  .exact h.all y z n
  rw[cR.mp z]at n;exact dV a n⟩
def oM.put(h:oM R B H fv)(b:x.1∉R)(c:H p=a_ (.tup [.int x.1,.str x.2.2])):oM R (B++[x]) H (putK fv (a_ x.2.1)<|.ref p):=by
 refine⟨λk v e=>?_,λy d n=>?_⟩
 .rw[tS]at e
  split at e
  .rename_i a
   cases e;exact⟨x,p,by simp,b,a,xz,by rw[Ma,dL ⟨b,xz⟩],c⟩
  rename_i a
  exact dO (h.got k v e) λy p h1 h2 h3 h4 h5 f=>⟨y,p,cp.mpr<|.inl h1,h2,h3,h4,by rw[Ma,dt λz=>a (by rw[h3,z.2])];exact h5,f⟩
 rw[tS]
 split
 .exact⟨_,xz⟩
 rename_i ne
 obtain z|z:=cp.mp d
 .exact h.all y z n
 rw[cR.mp z]at ne;exact dV xz ne
theorem WZ:∀(ps fv:List (dc×V))(k:dc),(cx (pC fv ps) k).isSome=((cx fv k).isSome||ps.any λp=>decide<|k=p.1)
 | [],fv,k=>by simp[pC]
 | p::ps,fv,k=>by
  show (cx (pC (putK fv p.1 p.2) ps) k).isSome=_;rw[WZ ps,tS,vf]
  by_cases e:k=p.1
  .simp[e]
  simp[e]
theorem Xu:∀{R:List Int}{ys:List V},aA (λy(i:Int)=>∃b,y=V.ref b/\H b=a_ (.tup [.int i,.bl c_])) ys R->IF H (R.map λi=>((a_ i:dc),V.bl c_)) ys
 | _,_,.nil=>trivial
 | _,_,.cons h r=>⟨h,Xu r⟩
def ag3(R:List Int)(i:Int):(!(cx (pC [] (R.map λi=>((a_ i:dc),V.bl c_)))<|a_ i).isSome)=decide (i∉R):=by
 rw[WZ,afl]
 by_cases h:i∈R
 .rw[eF λz=>z h];simp[h]
 rw[ee h];simp ;exact λx a e=>h<|e ▸ a
def BK(H:Hp)(y:V)(i:Int):Prop:=∃b,y=V.ref b/\H b=a_ (.tup [.int i,.bl c_])
def BK.all(h:aA (BK H) ys R)(k:∀b xs,H b=a_ (.tup xs)->H' b=a_ (.tup xs)):aA (BK H') ys R:=df h λ_ _ q=>aq q λp e h=>⟨p,e,k _ _ h⟩
def Wk:Sp:=λvs H Q _=>∃r b R us B,vs=[.ref r,.ref b]/\H r=a_ (.lst<|R.map V.int)/\R.length<=3000/\H b=a_ (.lst us)/\aA (c9 H) us B/\B.length<=100000/\
 ∀H' d fv,ak H H'->H d=b_->H' d=a_ (.dK fv)->oM R B H' fv->fv.length<=B.length->Q (.ref d) H'
def Bf:bj [V_,"befores","placed","found","one",aq1,"why"] hE (aU Nz):=bG
def Yv:([R_]:List bx).Nodup:=dk
def agU:tI "dict"=a_ (.type "dict"):=by kernel_rfl
def aev(F:aW K "pairs_ahead" "pairs_ahead" Nz f fd)(hdc:mg "dict"=b_):aM P w K mg fi aS 1 f fd hE Wk:=by
 refine F.ok Bf λaN A _ s H vs Q E X h=>?_
 refine f9 h λr b R us B S=>Xv S λe L hz T Y hB q=>?_;subst e
 refine let g:TS:=_;let j:TS:=_;let l:TS:=_;let m:TS:=_;⟨_,ay (bP (i:=2) Bf.nd xz (aL xz) (q8 (adg xz) xz hdc agU (ae (jc (N:=[R_]) (idx:=[]) xz (dJ.of<|by kernel_rfl) (jr<|aY _) (rB<|pv 0)
   (λ_ _ _ _=>bC (i:=0) Yv xz (aL xz)<|.inr xz) (λ_ _ _ _=>jD) λ_ _ _ _=>fA<|ae (pv 0)<|ae iV af) af)))
  (pR m<|ay (bP (i:=3) Bf.nd xz (aL xz) Gx)<|pR l<|ay (ik gJ xz (rB<|pv 1) (nz xz<|eT (bC (i:=4) Bf.nd xz<|aL xz)<|eT (bC (i:=5) Bf.nd xz<|aL xz)<|eT (bC (i:=6) Bf.nd xz<|aL xz) ni)<|pR j<|aB<|bX (Dw<|C7 (kJ X) (pv 4)<|pv 2) (pR g<|aB<|xq (kJ X) (pv 3) (pv 5) (fA<|ae (pv 4)<|ae (pv 6) af) xz) cj)<|aB<|a8<|pv 3),?_⟩
 have M:=eA;refine⟨_,xz,r,xz,⟨_,ao.of L⟩,gC (n:=R.length) (λi ys H'=>i<=R.length/\ak H H'/\aA (BK H') ys (R.take i)) (by rw[M];lia) (eM (aY _) (ak.f8 _) .nil) ?_ ?_ ?_ ?_ ?_⟩
 .rintro i ys H' ⟨_,_,e⟩;rw[r_ e,dn];exact yH _ _
 .rintro i ys H' hi ⟨_,t,_⟩;exact fh _ _ (ao.of<|t _ _ L) (by rw[cH,aQ hi];rfl)
 .rintro ys H' ⟨_,t,_⟩;exact au _ (ao.of<|t _ _ L) (by rw[aG];exact aD _)
 .rintro i ys H1 hi ⟨_,t,e⟩ v Z ⟨rfl,U⟩;have fu:=U _<|ao.of<|t _ _ L;rw[cH,aQ hi]at fu;cases fu;refine vr xz ⟨sl (n:=2),λG u=>⟨hi,aH t u,?_⟩⟩;rw[jP,aQ hi];exact qe (BK.all e λb xs e=>aH (ak.f8 _) u _ _ e) ⟨G,xz,av⟩
 rintro ys H1 ⟨_,s1,e⟩;rw[AQ]at e;have yl:=r_ e;refine⟨by rw[M];lia,λpl npl=>⟨pl,ys,_,xz,av,Xu (BK.all e λb xs e=>aH (ak.f8 _) npl _ _ e),by rw[M,aG];lia,λd nd=>?_⟩⟩;have s2:=aH (o:=.lst ys) s1 npl;generalize cB _ _ _=Z at s2 nd ⊢;have C:=aH (o:=.dK<|pC [] (R.map λi=>((a_ i:dc),V.bl c_))) s2 nd;have hd:cB Z d _ d=a_ (.dK<|pC [] (R.map λi=>((a_ i:dc),V.bl c_))):=av;generalize cB _ d _=H3 at C hd ⊢;refine λI O=>⟨_,xz,b,xz,⟨_,ao.of<|by rw[ag<|a7 (C _ _ T) O];exact C _ _ T⟩,?_⟩
 let W1:IV:=λi σ H'=>i<=B.length/\∃a c y fv,σ=[a_ (.ref r),a_<|.ref b,a_<|.ref d,a_<|.ref I,a,c,y]/\ak H3 H'/\H' I=a_ (.dK fv)/\oM R (B.take i) H' fv/\fv.length<=i
 refine Df (xs:=us) W1 ⟨aY _,b_,b_,b_,[],xz,aH (ak.f8 _) O,av,oM.nil,aY _⟩ ?_ ?_ ?_
 .rintro i σ H' _ ⟨_,a,c,y,fv,rfl,t,_⟩;exact ao.of<|t _ _<|C _ _ T
 .rintro i x σ H' U ⟨_,a,c,y,fv,rfl,t,D,J,W⟩;refine aq (pe Y U) λz wy S=>aq S λp ex sF=>?_;subst ex;have hi:=(bu.mp wy).1;refine⟨p,_,xz,aF.of<|t _ _<|C _ _ sF,xz,_,_,xz,_,_,xz,_,[],xz,xz,⟨_,xz,_,xz,d,_,xz,i5.k (k:=a_ z.1)<|t _ _ hd,_,xz,?_⟩⟩;rw[ag3];have tk:B.take (i+1)=B.take i++[z]:=by rw[jP,wy];rfl
  refine bQ (λe=>?_) λe=>?_
  .refine⟨_,xz,_,xz,sl (n:=2),λG u=>⟨_,xz,_,xz,I,_,xz,uo.k (k:=a_ z.2.1) ((ag<|a7 D u)▸D) (by rw[M];lia),hi,_,_,_,_,xz,ma (aH t u) O,av,?_,cF (tL _ _ _)<|tm W⟩⟩
   rw[tk];have nt:G≠I:=λz=>by rw[z,D]at u;cases u
   have up:∀b xs,H' b=a_ (.tup xs)->cB (cB H' G<|.tup [.int z.1,.str z.2.2]) I (.dK<|putK fv (a_ z.2.1)<|.ref G) b=a_ (.tup xs):=λb xs e=>by
    rw[ag (λz=>by rw[z,D]at e;cases e),ag (λz=>by rw[z,u]at e;cases e)];exact e
   exact(J.same up).put e ((ag nt)▸av)
  refine⟨hi,_,_,_,fv,xz,t,D,?_,tj W⟩;rw[tk];exact J.skip<|Classical.not_not.mp e
 rintro σ H' ⟨_,a,c,y,fv,rfl,t,D,J,W⟩;rw[(r_ Y),AQ]at J;exact vr xz<|q _ _ _ (C.f4 t) (C.free O) D J li
def WY{fv:List (dc×V)}{kv:dc×V}(h:kv∈fv):∃v,cx fv kv.1=a_ v:=by
 have:=y0 kv.1 fv;rw[Lc.mpr ⟨kv,h,by simp⟩]at this;exact Ky.mp this.f5
def Xy{k:dc}(h:cx fv k=a_ v):k∈fv.map (·.1):=by
 have:=y0 k fv;rw[h]at this;exact aq (Lc.mp this) λx a e=>dy.mpr ⟨x,a,ec e⟩
def kI:dc->Int
 | .inl (a_ i)=>i
 | _=>0
def agq{fv:List (dc×V)}(h:∀kv∈fv,∃b:Int,kv.1=a_ b):(fv.map λkv=>kV kv.1)=(fv.map λkv=>kI kv.1).map V.int:=by
 rw[vg];refine List.map_congr_left λkv a=>oE (h _ a) λb e=>?_;show kV kv.1=V.int (kI kv.1);rw[e];rfl
structure um(fv:List (dc×V))(Vs:List Int)(kc:List (dc×V)):Prop where
 nd:Vs.Nodup
 sub:∀m∈Vs,∃v,cx fv (a_ m)=a_ v
 is:∀m:Int,cx kc (a_ m)=b_↔m∉Vs
 ix:∀k v,cx kc k=a_ v->∃(i:Nat)(m:Int),k=a_ m/\v=.int (i:Nat)/\Vs[i]?=a_ m
 len:kc.length<=Vs.length
def um.le(h:um fv Vs kc):Vs.length<=fv.length:=by
 have:=AJ (l₁:=Vs.map λm=>(.inl (a_ m):dc)) (l₂:=fv.map (·.1)) (uY _ (λa b z e=>z<|cI<|CW e) h.nd) (λk c=>by
  refine aq (dy.mp c) λm hm e=>oE (h.sub m hm) λv d=>?_;rw[<-e];exact Xy d)
 rwa[aG,aG]at this
def um.nil:um fv [] []:=⟨CN,λm h=>(by cases h),λm=>⟨λ_ z=>(by cases z),λ_=>rfl⟩,λk v e=>(by cases e),aD _⟩
def um.put(h:um fv Vs kc)(hn:n∉Vs)(c:cx fv (a_ n)=a_ v):um fv (Vs++[n]) (putK kc (a_ n)<|.int (Vs.length:Nat)):=by
 refine⟨uW.mpr ⟨h.nd,by simp,λa ha b d=>by rw[cR.mp d];exact λz=>hn<|z ▸ ha⟩,λm hm=>?_,λm=>?_,λk v e=>?_,?_⟩
 .obtain z|z:=cp.mp hm
  .exact h.sub m z
  rw[cR.mp z];exact⟨v,c⟩
 .rw[tS]
  by_cases e:m=n
  .subst e;simp
  rw[dt λz=>e<|cI<|CW z,h.is];simp[e]
 .rw[tS]at e
  split at e
  .rename_i f
   cases e;exact⟨_,n,f,xz,by rw[lR<|aD _,qZ];rfl⟩
  exact cZ (h.ix k v e) λi m h1 h2 h3=>⟨i,m,h1,h2,by rw[iN (bu.mp h3).1];exact h3⟩
 rw[ba];exact cF (tL _ _ _)<|tm h.len
def nM(H:Hp)(v:V)(x:T3):Prop:=∃p,v=.ref p/\H p=a_ (.tup [.int x.1,.str x.2.2])
def nM.all(h:aA (nM H) vs L)(k:∀b xs,H b=a_ (.tup xs)->H' b=a_ (.tup xs)):aA (nM H') vs L:=df h λ_ _ q=>aq q λp e h=>⟨p,e,k _ _ h⟩
structure vS(B X:List T3)(Vs:List Int)(n:Int):Prop where
 len:X.length=Vs.length
 at':∀(k:Nat)x,X[k]?=a_ x->x∈B/\Vs[k]?=a_ x.2.1/\(Vs++[n])[k+1]?=a_ x.1
def vS.snoc(h:vS B X Vs n)(b:x∈B)(e:x.2.1=n):vS B (X++[x]) (Vs++[n]) x.1:=by
 refine⟨by rw[ba,ba,h.len];rfl,λk y a=>?_⟩
 by_cases z:k<X.length
 .rw[iN z]at a;have h1:=h.at' k y a;have h2:=(bu.mp h1.2.1).1;exact⟨h1.1,by rw[iN h2];exact h1.2.1,by rw[iN (by rw[ba];show _<_+1;lia)];exact h1.2.2⟩
 have c:k=X.length:=by
  have:=(bu.mp a).1;rw[ba]at this;have:k<X.length+1:=this;lia
 subst c;rw[lR<|aD _,qZ]at a;cases a;refine⟨b,?_,?_⟩
 .rw[h.len,lR<|aD _,qZ,e];rfl
 rw[lR (by rw[ba,h.len];exact aD _),ba,h.len];show [x.1][Vs.length+1-(Vs.length+1)]?=_;rw[qZ];rfl
structure RingM(B Y:List T3):Prop where
 two:2<=Y.length
 sub:∀x∈Y,x∈B
 nd:(Y.map (·.1)).Nodup
 we:∀(k:Nat)x y,Y[k]?=a_ y->Y[if k=0 then Y.length-1 else k-1]?=a_ x->x.2.1=y.1
def vS.ring(h:vS B X Vs n)(nd:Vs.Nodup)(hi:Vs[i]?=a_ n)(A:∀x∈B,x.1≠x.2.1):RingM B (X.drop i).reverse:=by
 have D:=(bu.mp hi).1;have p:=h.len;have f:(X.drop i).reverse.length=Vs.length-i:=by rw[Cz,oZ,p]
 have at':∀{k y},(X.drop i).reverse[k]?=a_ y->k<Vs.length-i/\X[Vs.length-1-k]?=a_ y:=λ{k y}e=>by
  have j:=(bu.mp e).1;rw[f]at j;rw[Tj (by rw[oZ];lia),tf,oZ,p,show i+(Vs.length-i-1-k)=Vs.length-1-k by lia]at e;exact⟨j,e⟩
 have q:(Vs++[n])[Vs.length]?=a_ n:=by rw[lR<|aD _,qZ];rfl
 have ne:∀{a b u v},Vs[a]?=a_ u->Vs[b]?=a_ v->a≠b->u≠v:=λ{a b u v}ha l r e=>by
  subst e;obtain⟨E,s⟩:=bu.mp ha;obtain⟨b1,b2⟩:=bu.mp l;obtain c|c:=abV r
  .exact lj.mp nd a b _ _ c (s.f4 b2.f5)
  exact lj.mp nd b a _ _ c (b2.f4 s.f5)
 have we:∀(k:Nat)x y,(X.drop i).reverse[k]?=a_ y->(X.drop i).reverse[if k=0 then (X.drop i).reverse.length-1 else k-1]?=a_ x->x.2.1=y.1:=λk x y o d=>by
  obtain⟨j,o⟩:=at' o;have h1:=(h.at' _ _ o).2.2
  by_cases z:k=0
  .subst z;rw[dL xz,f]at d;obtain⟨_,d⟩:=at' d;have h2:=(h.at' _ _ d).2.1;rw[show Vs.length-1-(Vs.length-i-1)=i by lia,hi]at h2;rw[show Vs.length-1-0+1=Vs.length by lia,q]at h1;exact(cI h2).f5.f4 (cI h1)
  rw[dt z]at d;obtain⟨_,d⟩:=at' d;rw[show Vs.length-1-k+1=Vs.length-1-(k-1) by lia,iN li,((h.at' _ _ d).2.1)]at h1;exact cI h1
 refine⟨?_,λx d=>?_,?_,we⟩
 .rw[f];refine Ct λz=>?_;obtain⟨x,d⟩:∃x,(X.drop i).reverse[0]?=a_ x:=⟨_,aQ<|by rw[f];lia⟩;have:=we 0 x x d (by rw[dL xz,f,show Vs.length-i-1=0 by lia];exact d);obtain⟨_,C⟩:=at' d;exact A x (h.at' _ _ C).1 this.f5
 .obtain⟨k,j⟩:=oW<|yC<|List.mem_reverse.mp d;exact(h.at' _ _ j).1
 rw[List.map_reverse,List.nodup_iff_pairwise_ne,abz,AO,lj];intro a b ha l r e;rw[oZ]at ha l;have g:∀c t,(Vs++[n])[i+c+1]?=a_ ((X.drop i)[c]'(oZ▸t)).1:=λc t=>(h.at' _ _<|by rw[<-tf];exact aQ _).2.2;have ga:=g a ha;have m:=g b l;rw[iN li]at ga
 by_cases z:i+b+1<Vs.length
 .rw[iN z]at m;exact ne m ga li e
 rw[show i+b+1=Vs.length by lia,q]at m;rw[<-(cI m)]at e;exact ne hi ga li e
def JB(R:List Int)(B:List T3)(m:Int):Prop:=(∃x∈B,x.1∉R/\x.2.1=m)/\∀x∈B,x.1∉R->m<=x.2.1
def D3(R:List Int)(B Y:List T3):Prop:=∃(X:List T3)(Vs:List Int)(n:Int)(i:Nat),vS B X Vs n/\Vs.Nodup/\Vs[i]?=a_ n/\(∀x∈X,vO R B x.2.1=a_ x)/\(∀m,(Vs++[n])[0]?=a_ m->JB R B m)/\Y=(X.drop i).reverse
def D3.same(h:D3 R B Y)(h':D3 R B Y'):Y=Y':=by
 obtain⟨X,Vs,n,i,g,nd,hi,q,I,rfl⟩:=h;obtain⟨J,f,j,L,g',M,A,C,N,rfl⟩:=h'
 have nx:∀{X:List T3}{Vs:List Int}{n:Int},vS B X Vs n->(∀x∈X,vO R B x.2.1=a_ x)->∀k v,Vs[k]?=a_ v->∃x,X[k]?=a_ x/\vO R B v=a_ x/\(Vs++[n])[k+1]?=a_ x.1:=λ{X Vs n}g q k v l=>by
  have O:=(bu.mp l).1;have e:X[k]?=a_ (X[k]'(g.len▸O)):=aQ _;have h1:=g.at' k _ e;rw[h1.2.1]at l;exact⟨_,e,(cI l) ▸ (q _<|bz e),h1.2.2⟩
 have pre:∀k,k<=Vs.length->k<=f.length->(Vs++[n])[k]?=(f++[j])[k]?:=λk=>by
  induction k with
  | zero=>
   intro _ _;obtain⟨m,hm⟩:∃m,(Vs++[n])[0]?=a_ m:=⟨_,aQ<|by simp⟩;obtain⟨Q,D⟩:∃m,(f++[j])[0]?=a_ m:=⟨_,aQ<|by simp⟩;have b1:=I m hm;have b2:=N _ D;obtain⟨x,s,p,E⟩:=b1.1;obtain⟨y,t,o,F⟩:=b2.1;have c1:=b1.2 y t o;have Z:=b2.2 x s p;rw[hm,D,show m=Q by lia]
  | succ k ih=>
   intro a b;have e:=ih li li;rw[iN li,iN li]at e;have l:Vs[k]?=a_ (Vs[k]' li):=aQ _;obtain⟨x,_,p,E⟩:=nx g q k _ l;obtain⟨y,_,o,F⟩:=nx g' C k _<|e ▸ l;rw[p]at o;cases o;rw[E,F]
 have no:∀{Vs f:List Int}{n j:Int}{i:Nat},f.Nodup->Vs[i]?=a_ n->(∀k,k<=Vs.length->k<=f.length->(Vs++[n])[k]?=(f++[j])[k]?)->¬Vs.length<f.length:=λ{Vs f n j i}nd hi pre h=>by
  have u:=(bu.mp hi).1;have G:=pre _ (aD _)<|dH h;have H:=pre i (dH u) li;rw[lR<|aD _,qZ,iN h]at G;rw[iN u,iN li,hi]at H;obtain⟨S,r⟩:=bu.mp G.f5;obtain⟨b1,b2⟩:=bu.mp H.f5;exact lj.mp nd i _ _ _ u<|b2.f4 r.f5
 have T:Vs.length=f.length:=by
  have a:=no M hi pre;have b:=no nd A λk c d=>(pre k d c).f5;lia
 have U:Vs++[n]=f++[j]:=uX λk=>by
  by_cases z:k<=Vs.length
  .exact pre k z li
  rw[pY (by simp;lia),pY (by simp;lia)]
 obtain⟨rfl,e⟩:=List.append_inj U T;cases e
 have V:X=J:=uX λk=>by
  rcases e:Vs[k]? with _|v
  ·have:=abg.mp e;rw[pY (g.len▸this),pY (g'.len▸this)]
  obtain⟨x,s,p,_⟩:=nx g q k v e;obtain⟨y,t,o,_⟩:=nx g' C k v e;rw[s,t,<-p,o]
 have W:i=L:=by
  obtain⟨S,r⟩:=bu.mp hi;obtain⟨b1,b2⟩:=bu.mp A;obtain c|c|c:=KW i _
  .exact dV (r.f4 b2.f5) (lj.mp nd i _ _ _ c)
  .exact c
  exact dV (b2.f4 r.f5) (lj.mp nd _ i _ _ c)
 rw[V,W]
def cutD(us:List V)(i:Nat):oG us (a_ (i:Int)) b_=us.drop i:=by
 unfold oG;rw[HT.Xo,HT.Wq]
 by_cases h:i<=us.length
 .rw[va h,jA<|oZ▸aD _]
 rw[Nat.min_eq_right li,qZ,List.take_zero,wN li]
theorem UY{a b:Type}{F:a->b->Prop}:∀{l:List a}{r:List b}(i:Nat),aA F l r->aA F (l.drop i) (r.drop i)
 | _,_,0,h=>h
 | _,_,_+1,.nil=>.nil
 | _,_,i+1,.cons _ t=>UY i t
theorem Vu{a b:Type}{F:a->b->Prop}:∀{l:List a}{r:List b},aA F l r->aA F l.reverse r.reverse
 | _,_,.nil=>.nil
 | _,_,.cons h t=>by rw[KY,KY];exact qe (Vu t) h
def X8:Sp:=λvs H Q _=>∃(r b:e_)(R:List Int)(us:List V)(B:List T3),vs=[.ref r,.ref b]/\H r=a_ (.lst<|R.map V.int)/\R.length<=3000/\H b=a_ (.lst us)/\aA (c9 H) us B/\B.length<=100000/\
 (∃x∈B,x.1∉R)/\(∀x∈B,x.1∉R->∃y∈B,y.1∉R/\y.2.1=x.1)/\(∀x∈B,x.1≠x.2.1)/\∀H' d ts Y,ak H H'->H d=b_->H' d=a_ (.tup ts)->aA (nM H') ts Y->RingM B Y->D3 R B Y->Q (.ref d) H'
def Bq:bj [V_,"befores",aq8,R_,"way","come_to"] hE (aU OY):=bG
def ahG(F:aW K "ring_of" "ring_of" OY f fd)(RO:mg "min"=b_)(Cb:mg "list"=b_)(cE:mg aq6 = b_)(htu:mg P_ = b_)(hrv:mg "reversed"=b_)(DA:Dp P w K mg fi 1 "pairs_ahead" hE Wk):aM P w K mg fi aS 2 f fd hE X8:=by
 refine F.ok Bq λaN A _ s H vs Q E I h=>?_
 refine f9 h λr b R us B aa=>Xv aa λe hR hz hb hp hB aX=>nF aX λhx0 amG RD q=>?_;subst e;refine let c:TS:=_;let g:TS:=_;let j:TS:=_;let t:TS:=_;let u:TS:=_;let C:TS:=_;⟨_,ay (bP (i:=2) Bq.nd xz (aL xz)<|gF DA I xz<|ae (pv 0)<|ae (pv 1) af)<|pR C<|ay (bP (i:=3) Bq.nd xz (aL xz)<|bw (VV xz) xz RO boot_min<|ae (q8 (adY xz) xz Cb Bc<|ae (pv 2) af) af)<|pR u<|ay (bP (i:=4) Bq.nd xz (aL xz)<|dP af)<|pR t<|ay (bP (i:=5) Bq.nd xz (aL xz) Gx)<|pR j<|ay (MO gJ (Dw<|C7 (kJ I) (pv 3)<|pv 5)<|pR g<|ay (xq (kJ I) (pv 5) (pv 3) (bw dE xz cE q_<|ae (pv 4) af) xz)<|pR c<|ay (dC<|je m_ n_ o_ m5 (pv 4)<|ae (NC (kJ I) (pv 2) (pv 3) λ_ _=>rfl) af)<|aB<|bP (i:=3) Bq.nd xz (aL xz)<|aO cw (NC (kJ I) (pv 2) (pv 3) λ_ _=>rfl) ax)<|aB<|a8<|ael xz xz htu xz hrv<|ae (y6 G9 (pv 4) (zd<|NC (kJ I) (pv 5) (pv 3) λ_ _=>rfl) ze) af,?_⟩;have hsz:=eA;refine⟨_,xz,_,xz,⟨r,b,R,us,B,xz,hR,hz,hb,hp,hB,λH1 d fv s1 nd hd J pW=>?_⟩⟩;have hk:∀kv∈fv,∃b:Int,kv.1=a_ b:=λkv h=>oE (WY h) λv e=>dO (J.got _ _ e) λx p _ _ h3 _ _ _=>⟨_,h3⟩;refine⟨_,xz,d,fv,xz,hd,λla JS=>⟨la,fv.map λkv=>kI kv.1,xz,ao.of (by rw[<-agq hk];exact av),?_,λM hM RM=>?_⟩⟩
 .refine aq hx0 λx hx nx=>oE (J.all x hx nx) λv e=>?_;rcases fv with _|⟨a,l⟩;cases e;exact λz=>nomatch z
 obtain⟨v0,hv0⟩:∃v,cx fv (a_ M)=a_ v:=by
  refine aq (dy.mp hM) λkv O e=>oE (hk kv O) λb eb=>?_;rw[eb]at e;rw[<-show b=M from e,<-eb];exact WY O
 have bM:JB R B M:=⟨dO (J.got _ _ hv0) λx p h1 h2 h3 _ _ _=>⟨x,h1,h2,(cI<|CW h3).f5⟩,λx hx nx=>oE (J.all x hx nx) λv e=>by
  refine aq (dy.mp<|Xy e) λkv O ek=>RM _<|dy.mpr ⟨kv,O,?_⟩;rw[ek];rfl⟩
 have s2:=aH (o:=.lst<|fv.map λkv=>kV kv.1) (ak.f8 H1) JS;generalize cB H1 la (.lst<|fv.map λkv=>kV kv.1)=H2 at s2 ⊢;have hd2:=s2 _ _ hd;refine⟨qc,λlw nw=>λG S=>?_⟩;have T:lw≠G:=λz=>by rw[<-z,av]at S;cases S
 have Rr:H2 G=none:=by rwa[ag (b8 T)]at S
 refine⟨λL σ H'=>∃(n:Int)(Vs:List Int)(ws:List V)(kc:List (dc×V))(X:List T3),σ=[a_ (.ref r),a_<|.ref b,a_<|.ref d,a_<|.int n,a_<|.ref lw,a_<|.ref G]/\L+Vs.length=fv.length/\ak H2 H'/\H' lw=a_ (.lst ws)/\ws.length=Vs.length/\H' G=a_ (.dK kc)/\um fv Vs kc/\vS B X Vs n/\(∀x∈X,vO R B x.2.1=a_ x)/\(∀m,(Vs++[n])[0]?=a_ m->JB R B m)/\aA (nM H') ws X/\∃v,cx fv (a_ n)=a_ v,⟨fv.length,M,[],[],[],[],xz,xz,aH (aH (ak.f8 _) nw) S,by rw[ag T];exact av,xz,av,um.nil,⟨xz,λk x e=>(by cases e)⟩,λx h=>(by cases h),λm e=>(by cases e;exact bM),.nil,v0,hv0⟩,?_⟩;rintro L σ H' ⟨n,Vs,ws,kc,X,rfl,hμ,s3,hw,kh,U,D,hG,hL,jO,hP,v,W⟩;refine dO (J.got _ _ W) λx p hxB RF ex ev hxl kr=>?_;subst ev;refine⟨_,xz,_,xz,G,_,xz,i5.k (k:=a_ n) U,_,xz,?_⟩;cases e:cx kc (a_ n)with
 | none=>
  have D2:=D.put ((D.is n).mp e) W;have aaG:=D2.le;rw[ba]at aaG;have apV:Vs.length+1<=fv.length:=aaG;refine lG ⟨λσ' H'=>∃μ',μ' < L/\∃(n:Int)(Vs:List Int)(ws:List V)(kc:List (dc×V))(X:List T3),σ'=[a_ (.ref r),a_<|.ref b,a_<|.ref d,a_<|.int n,a_<|.ref lw,a_<|.ref G]/\μ'+Vs.length=fv.length/\ak H2 H'/\H' lw=a_ (.lst ws)/\ws.length=Vs.length/\H' G=a_ (.dK kc)/\um fv Vs kc/\vS B X Vs n/\(∀x∈X,vO R B x.2.1=a_ x)/\(∀m,(Vs++[n])[0]?=a_ m->JB R B m)/\aA (nM H') ws X/\∃v,cx fv (a_ n)=a_ v,λσ' H' z=>z,⟨_,xz,lw,ws,xz,.inl<|ao.of hw,_,xz,_,xz,G,_,xz,uo.k (k:=a_ n) U (by rw[hsz];have:=D.len;lia),?_⟩⟩;have s4:=ma (o:=.dK<|putK kc (a_ n)<|.int (ws.length:Nat)) s3 Rr;have Y:cB H' G (.dK<|putK kc (a_ n)<|.int (ws.length:Nat)) lw=a_ (.lst ws):=by rw[ag T];exact hw
  have hc4:cB H' G (.dK<|putK kc (a_ n)<|.int (ws.length:Nat)) G=a_ (.dK<|putK kc (a_ n)<|.int (ws.length:Nat)):=av;have Sr:∀b xs,H' b=a_ (.tup xs)->cB H' G (.dK<|putK kc (a_ n)<|.int (ws.length:Nat)) b=a_ (.tup xs):=λb xs e=>by rw[ag (λz=>by rw[z,U]at e;cases e)];exact e
  generalize cB H' G (.dK<|putK kc (a_ n)<|.int (ws.length:Nat))=Z at s4 Y hc4 Sr ⊢;refine⟨_,xz,.inl ⟨xz,_,ao.of Y⟩,_,xz,_,xz,d,.ref p,xz,?_,lw,ws,.ref p,xz,xz,Y,by rw[hsz];lia,?_⟩
  .rw[<-W];exact i5.k (k:=a_ n)<|s4 _ _ hd2
  have N:=ma (o:=.lst<|ws++[.ref p]) s4 nw;have uI:cB Z lw (.lst<|ws++[.ref p]) lw=a_ (.lst<|ws++[.ref p]):=av;have Ki:cB Z lw (.lst<|ws++[.ref p]) G=a_ (.dK<|putK kc (a_ n)<|.int (ws.length:Nat)):=by rw[ag<|b8 T];exact hc4
  have hT5:∀b xs,H' b=a_ (.tup xs)->cB Z lw (.lst<|ws++[.ref p]) b=a_ (.tup xs):=λb xs e=>by rw[ag (λz=>by have:=Sr b xs e;rw[z,Y]at this;cases this)];exact Sr b xs e
  generalize cB Z lw (.lst<|ws++[.ref p])=H5 at N uI Ki hT5 ⊢;refine⟨_,xz,_,xz,d,.ref p,xz,?_,rT (v:=.int x.1) (aF.of<|N _ _<|s2 _ _ kr) xz ⟨L-1,li,x.1,Vs++[n],_,_,X++[x],xz,?_,N,uI,?_,Ki,?_,hG.snoc hxB (cI<|CW ex).f5,λy hy=>?_,λm e=>jO m ?_,qe (nM.all hP hT5) ⟨p,xz,N _ _<|s2 _ _ kr⟩,?_⟩⟩
  .rw[<-W];exact i5.k (k:=a_ n)<|N _ _ hd2
  .rw[ba];show L-1+(Vs.length+1)=_;lia
  .rw[ba,ba,kh];rfl
  .rw[kh];exact D2
  .obtain z|z:=cp.mp hy
   .exact hL y z
   rw[cR.mp z];exact hxl
  .rwa[iN (by simp)]at e
  exact aP (amG x hxB RF) λy hyB RE hy=>by rw[<-hy];exact J.all y hyB RE
 | some vi=>
  refine cZ (D.ix _ _ e) λi m em ei hi=>?_;cases em;subst ei;refine dG ⟨_,xz,_,xz,_,xz,G,.int (i:Nat),xz,?_,_,xz,lw,ws,xz,ao.of hw,λl1 n1=>⟨l1,_,xz,ao.of av,λp np=>?_⟩⟩
  .rw[<-e];exact i5.k (k:=a_ n) U
  refine q _ p _ _ (aH (aH ((s1.f4 s2).f4 s3) n1) np) ((aH ((s1.f4 s2).f4 s3) n1).free np) av ?_ (hG.ring D.nd hi RD) ⟨X,Vs,n,i,hG,D.nd,hi,hL,jO,xz⟩;have pr:=Vu<|UY i (nM.all hP λb xs e=>(λo=>aH (o:=o) (aH (ak.f8 H') n1) np) (.tup (oG ws (a_ (i:Int)) b_).reverse) _ _ e);rw[<-cutD]at pr;exact pr
noncomputable def cJ(B:List T3)(R:List Int)(b:Int):Nat:=B.countP λx=>decide<|x.2.1=b/\x.1∉R
noncomputable def dv(B:List T3)(a:Int):List Int:=(B.filter λx=>decide<|x.1=a).map (·.2.1)
def za:cJ B R b=0↔∀x∈B,x.2.1=b->x.1∈R:=by
 unfold cJ;rw[List.countP_eq_zero];constructor
 .intro h x a e;have:=h x a;simp[e]at this;exact this
 intro h x a z;have:=ec z;exact this.2<|h x a this.1
theorem Gk(hn:n∉R)(b:Int):∀B:List T3,cJ B R b=cJ B (R++[n]) b+(dv B n).count b
 | []=>rfl
 | x::B=>by
  have ih:=Gk hn b B;unfold cJ dv at ih ⊢;rw[Lb,Lb,tF,ih]
  by_cases c:x.1=n
  .have d1:decide (x.1=n)=true:=ee c;rw[d1];simp only[if_true,eu,List.count_cons]
   by_cases a:x.2.1=b
   .simp[c,a,hn];omega
   simp[a]
  have d1:decide (x.1=n)=false:=eF c;rw[d1];simp only[yF,if_false]
  by_cases a:x.2.1=b
  .by_cases d:x.1∈R
   .simp[a,d]
   simp[a,d,c];omega
  simp[a]
def WS(B:List T3)(x:T3)(b:Int):cJ (B++[x]) [] b=cJ B [] b+if x.2.1=b then 1 else 0:=by
 unfold cJ;rw[List.countP_append]
 by_cases e:x.2.1=b <;> simp[e]
def XT(B:List T3)(x:T3)(a:Int):dv (B++[x]) a=dv B a++if x.1=a then [x.2.1] else []:=by
 unfold dv;rw[qX,dN]
 by_cases e:x.1=a <;> simp[e]
def ajA(h:b∈dv B a):∃x∈B,x.1=a/\x.2.1=b:=by
 refine aq (dy.mp h) λx c e=>?_;have:=lu.mp c;exact⟨x,this.1,ec this.2,e⟩
structure KI(M:Nat)(B:List T3)(R rd:List Int):Prop where
 nd:R.Nodup
 lt:∀b∈R,0<=b/\b<M
 rs:∀(i:Nat)(b:Int),R[i]?=a_ b->∀x∈B,x.2.1=b->x.1∈R.take i
 rn:rd.Nodup
 rm:∀b,b∈rd↔0<=b/\b<M/\b∉R/\cJ B R b=0
 ls:∀(i:Nat)(b:Int),R[i]?=a_ b->∀b':Int,0<=b'->b'<M->b'∉R.take i->(∀x∈B,x.2.1=b'->x.1∈R.take i)->b<=b'
structure KJ(M:Nat)(B:List T3)(R:List Int)(n:Int)(j:Nat)(rd:List Int):Prop where
 rn:rd.Nodup
 rm:∀b,b∈rd↔0<=b/\b<M/\b∉R/\b≠n/\cJ B R b=((dv B n).take j).count b
def KI.le(h:KI M B R rd):R.length<=M:=by
 have:=AJ (l₁:=R) (l₂:=(List.range M).map λ(i:Nat)=>(i:Int)) h.nd (λb a=>by
  have:=h.lt b a;exact dy.mpr ⟨b.toNat,iC.mpr li,li⟩)
 rwa[aG,jB]at this
def KI.start{M:Nat}{B:List T3}{rd:List Int}(h:rd.Nodup)(m:∀b,b∈rd↔0<=b/\b<M/\cJ B [] b=0):KI M B [] rd:=
 ⟨CN,λb z=>(by cases z),λi b z=>(by cases z),h,λb=>by rw[m b];simp,λi b z=>(by cases z)⟩
def KI.go(h:KI M B R rd)(hn:n∈rd):KJ M B R n 0 (rd.erase n):=by
 refine⟨h.rn.erase n,λb=>?_⟩;rw[h.rn.mem_erase_iff,h.rm b];simp;constructor
 .rintro⟨h1,h2,h3,h4,h5⟩;exact⟨h2,h3,h4,h1,h5⟩
 rintro⟨h1,h2,h3,h4,h5⟩;exact⟨h4,h1,h2,h3,h5⟩
def KI.room(h:KI M B R rd)(hn:n∈rd):R.length+1<=M:=by
 have k:=(h.rm n).mp hn;have:KI M B (R++[n]) []->R.length+1<=M:=λz=>by have:=z.le;rwa[ba]at this
 have:=AJ (l₁:=n::R) (l₂:=(List.range M).map λ(i:Nat)=>(i:Int)) (vd.mpr ⟨k.2.2.1,h.nd⟩) (λb a=>by
  have c:0<=b/\b<M:=by
   obtain z|z:=bq.mp a
   .rw[z];exact⟨k.1,k.2.1⟩
   exact h.lt b z
  exact dy.mpr ⟨b.toNat,iC.mpr li,li⟩)
 rwa[aG,jB]at this
def KI.other(h:KI M B R rd)(hn:n∈rd)(k:KJ M B R n j wx)(e:(dv B n)[j]?=a_ o)(g:∀x∈B,0<=x.2.1/\x.2.1<M):0<=o/\o<M/\o∉R/\o≠n/\o∉wx/\((dv B n).take j).count o<cJ B R o:=by
 have a:=(h.rm n).mp hn;refine aP (ajA<|bz e) λx b f c=>?_
 have l:((dv B n).take j).count o<cJ B R o:=by
  have h1:=Gk a.2.2.1 o B;have h2:(dv B n).count o=((dv B n).take j).count o+((dv B n).drop j).count o:=by rw[<-ab',jn]
  have h3:=List.count_pos_iff.mpr<|bz (i:=0) (by rw[tf];exact e);omega
 have d:=g x b;rw[c]at d;refine⟨d.1,d.2,λz=>?_,λz=>?_,λz=>?_,l⟩
 .refine oE (oW z) λi hi=>?_;have:=h.rs i o hi x b c;rw[f]at this;exact a.2.2.1<|yB this
 .have:=za.mp a.2.2.2 x b (by rw[c,z]);rw[f]at this;exact a.2.2.1 this
 .have:=((k.rm o).mp z).2.2.2.2;omega
def Ms{l:List Int}{j:Nat}{o:Int}(a:l[j]?=a_ o)(b:Int):(l.take<|j+1).count b=(l.take j).count b+if o=b then 1 else 0:=by
 rw[jP,a,ab'];show _+[o].count b=_;rw[List.count_singleton]
 by_cases e:o=b <;> simp[e]
def KJ.yes{M:Nat}{B:List T3}{R rd:List Int}{n o:Int}{j:Nat}(k:KJ M B R n j rd)(c:(dv B n)[j]?=a_ o)(h:0<=o/\o<M/\o∉R/\o≠n/\o∉rd/\((dv B n).take j).count o<cJ B R o)(d:cJ B R o=((dv B n).take<|j+1).count o):KJ M B R n (j+1) (rd++[o]):=by
 refine⟨uW.mpr ⟨k.rn,by simp,λa ha b f=>by rw[cR.mp f];exact λz=>h.2.2.2.2.1<|z ▸ ha⟩,λb=>?_⟩;rw[cp,k.rm b]
 by_cases e:b=o
 .subst e;simp[d,h.1,h.2.1,h.2.2.1,h.2.2.2.1]
 rw[Ms c,dt<|b8 e];simp[e]
def KJ.no{M:Nat}{B:List T3}{R rd:List Int}{n o:Int}{j:Nat}(k:KJ M B R n j rd)(a:(dv B n)[j]?=a_ o)(h:0<=o/\o<M/\o∉R/\o≠n/\o∉rd/\((dv B n).take j).count o<cJ B R o)(c:cJ B R o≠((dv B n).take<|j+1).count o):KJ M B R n (j+1) rd:=by
 refine⟨k.rn,λb=>?_⟩
 by_cases e:b=o
 .subst e;exact⟨λz=>dV z h.2.2.2.2.1,λz=>dV z.2.2.2.2 c⟩
 rw[k.rm b,Ms a,dt<|b8 e];rfl
def KJ.done(h:KI M B R rd)(hn:n∈rd)(k:KJ M B R n (dv B n).length wx)(o:∀b∈rd,n<=b):KI M B (R++[n]) wx:=by
 have d:=(h.rm n).mp hn;refine⟨uW.mpr ⟨h.nd,by simp,λa ha b f=>by rw[cR.mp f];exact λz=>d.2.2.1<|z ▸ ha⟩,λb f=>?_,λi b hi x l e=>?_,k.rn,λb=>?_,λi b hi b' m h1 h2 h3=>?_⟩
 .obtain z|z:=cp.mp f
  .exact h.lt b z
  rw[cR.mp z];exact⟨d.1,d.2.1⟩
 .by_cases c:i<R.length
  .rw[iN c]at hi;rw[aa1<|dH c];exact h.rs i b hi x l e
  rw[lR<|TQ c]at hi;have z:=bu.mp hi;have p:i-R.length=0:=by have:=z.1;simp at this;exact this
  have g:i=R.length:=om;have j:n=b:=by have:=z.2;simp at this;exact this
  rw[g,List.take_left];exact za.mp d.2.2.2 x l (by rw[e,j])
 .rw[k.rm b,AQ];have s:=Gk d.2.2.1 b B;rw[show (b∉R++[n])↔(b∉R/\b≠n) by simp];constructor
  .rintro⟨h1,h2,h3,h4,h5⟩;exact⟨h1,h2,⟨h3,h4⟩,om⟩
  rintro⟨h1,h2,⟨h3,h4⟩,h5⟩;exact⟨h1,h2,h3,h4,om⟩
 by_cases c:i<R.length
 .rw[iN c]at hi;rw[aa1<|dH c]at h2 h3;exact h.ls i b hi _ m h1 h2 h3
 rw[lR<|TQ c]at hi;have z:=bu.mp hi;have p:i-R.length=0:=by have:=z.1;simp at this;exact this
 have g:i=R.length:=om;have j:n=b:=by have:=z.2;simp at this;exact this
 rw[g,List.take_left]at h2 h3;exact j ▸ o _ ((h.rm _).mpr ⟨m,h1,h2,za.mpr h3⟩)
def KI.same(h:KI M B R [])(h':KI M B a []):R=a:=by
 have step:∀{R a:List Int},KI M B R []->KI M B a []->∀i,R.take i=a.take i->∀b,R[i]?=a_ b->a[i]?=a_ b:=λ{R a}h h' i e b f=>by
  have g:=h.lt b<|bz f
  have hn:b∉a.take i:=λz=>by
   rw[<-e]at z;refine oE (oW z) λj c=>?_;have k:=(bu.mp c).1;rw[dn]at k;rw[sZ,dL li]at c;obtain⟨p,l⟩:=bu.mp c;obtain⟨b1,b2⟩:=bu.mp f;exact lj.mp h.nd j i _ _ li<|l.f4 b2.f5
  have m:∀x∈B,x.2.1=b->x.1∈a.take i:=λx n ex=>e ▸ h.rs i b f x n ex;rcases d:a[i]? with _|b'
  ·rw[jA<|abg.mp d]at hn m;cases (h'.rm b).mpr ⟨g.1,g.2,hn,za.mpr m⟩
  have h1:=h'.ls i _ d b g.1 g.2 hn m;have o:=h'.lt _<|bz d
  have h2:=h.ls i b f b' o.1 o.2 (λz=>by
   rw[e]at z;refine oE (oW z) λj c=>?_;have k:=(bu.mp c).1;rw[dn]at k;rw[sZ,dL li]at c;obtain⟨p,l⟩:=bu.mp c;obtain⟨b1,b2⟩:=bu.mp d;exact lj.mp h'.nd j i _ _ li<|l.f4 b2.f5) (λx n ex=>e ▸ h'.rs i b' d x n ex)
  rw[show b'=b by lia]
 have all:∀i,R.take i=a.take i:=λi=>by
  induction i with
  | zero=>rfl
  | succ i ih=>
   rw[jP,jP,ih]
   congr 1
   cases e:R[i]? with
   | some b=>rw[step h h' i ih b e]
   | none=>
    rcases q:a[i]? with _|b;rfl;have:=step h' h i ih.f5 b q;rw[e]at this;cases this
 have:=all<|R.length+a.length;rwa[jA li,jA li]at this
noncomputable def dZ(M:Nat)(f:Int->Nat):List V:=(List.range M).map λ(b:Nat)=>V.int ((f (b:Int):Nat):Int)
def y9(M:Nat)(f:Int->Nat):(dZ M f).length=M:=by unfold dZ;rw[aG,jB]
def xh(h:j<M):(dZ M f)[j]?=a_ (V.int (f (j:Int):Nat)):=by
 unfold dZ;rw[cH,List.getElem?_range h];rfl
def Wz{M:Nat}{f f':Int->Nat}{j v:Nat}(h1:f' (j:Int)=v)(h2:∀b:Int,b≠(j:Int)->f' b=f b):(dZ M f).set j (V.int (v:Nat))=dZ M f':=by
 refine uX λi=>?_;rw[ab9]
 by_cases e:j=i
 .subst e;rw[dL xz,y9]
  by_cases h:j<M
  .rw[dL h,xh h,h1]
  rw[dt h,pY (by rw[y9];lia)]
 rw[dt e]
 by_cases h:i<M
 .rw[xh h,xh h,h2 _ li]
 rw[pY (by rw[y9];lia),pY (by rw[y9];lia)]
def aeF(M:Nat):(eQ M [V.int 0]).flatten=dZ M λ_=>0:=by
 refine uX λi=>?_
 have e:(eQ M [V.int 0]).flatten=eQ M (V.int 0):=by
  induction M with
  | zero=>rfl
  | succ M ih=>rw[AM,FD,ih];rfl
 rw[e,Tc]
 by_cases h:i<M
 .rw[dL h,xh h];rfl
 rw[dt h,pY (by rw[y9];lia)]
def KJ.le(h:KJ M B R n j rd):rd.length<=M:=by
 have:=AJ (l₁:=rd) (l₂:=(List.range M).map λ(i:Nat)=>(i:Int)) h.rn (λb a=>by
  have:=(h.rm b).mp a;exact dy.mpr ⟨b.toNat,iC.mpr li,li⟩)
 rwa[aG,jB]at this
structure vV(H:Hp)(ps:List e_)(f:Int->List Int):Prop where
 nd:ps.Nodup
 at':∀(i:Nat)p,ps[i]?=a_ p->H p=a_ (.lst<|(f (i:Int)).map V.int)
def vV.keep(h:vV H ps f)(k:∀p∈ps,H' p=H p):vV H' ps f:=⟨h.nd,λi p e=>by rw[k p<|bz e];exact h.at' i p e⟩
def vV.put{f f':Int->List Int}{j:Nat}(h:vV H ps f)(a:ps[j]?=a_ p)(h2:∀b:Int,b≠(j:Int)->f' b=f b):vV (cB H p<|.lst<|(f' (j:Int)).map V.int) ps f':=by
 refine⟨h.nd,λi q e=>?_⟩
 by_cases z:i=j
 .subst z;rw[a]at e;cases e;exact av
 have ne:q≠p:=λc=>by
  subst c;have h3:=bu.mp a;exact z<|(ack h.nd).mp<|(bu.mp e).2.f4 h3.2.f5
 rw[ag ne,h2 _ li];exact h.at' i q e
def mG(B:List T3)(i:Nat):List Int:=((List.range i).filter λ(b:Nat)=>decide<|cJ B [] (b:Int)=0).map λ(b:Nat)=>(b:Int)
def Wr(B:List T3)(i:Nat):mG B (i+1)=mG B i++if cJ B [] (i:Int)=0 then [(i:Int)] else []:=by
 unfold mG;rw[kF,qX,dN]
 by_cases h:cJ B [] (i:Int)=0 <;> simp[h]
def Xq(B:List T3)(i:Nat):(mG B i).length<=i:=by
 unfold mG;rw[aG];have:=qW (λ(b:Nat)=>decide<|cJ B [] b=0)<|List.range i;rwa[jB]at this
def ai7(M:Nat)(B:List T3):KI M B [] (mG B M):=by
 refine KI.start (uY _ (λa b z e=>z li)<|(FG).filter _) λb=>?_
 unfold mG;rw[dy];constructor
 .rintro⟨a,ha,rfl⟩;have:=lu.mp ha;have h1:=iC.mp this.1;exact⟨li,li,ec this.2⟩
 rintro⟨h1,h2,h3⟩;refine⟨b.toNat,lu.mpr ⟨iC.mpr li,?_⟩,li⟩;rw[KU h1];exact ee h3
def Xh:Sp:=λvs H Q _=>∃(M:Nat)(b:e_)(us:List V)(B:List T3),vs=[.int (M:Nat),.ref b]/\M<=3000/\H b=a_ (.lst us)/\aA (c9 H) us B/\B.length<=100000/\(∀x∈B,(0<=x.1/\x.1<M)/\0<=x.2.1/\x.2.1<M)/\
 ∀H' l R,ak H H'->H l=b_->H' l=a_ (.lst<|R.map V.int)->KI M B R []->Q (.ref l) H'
def tW:bj ["many","befores","missing","behind","one",aq1,"why","ready",V_,R_] ["many","befores"] (aU Oc):=bG
def alj:(["missing",R_]:List bx).Nodup:=dk
def afS(F:aW K "counted_out" "counted_out" Oc f fd)(da:mg aq3 = b_)(RO:mg "min"=b_)(cE:mg aq6 = b_):aM P w K mg fi aS 1 f fd ["many","befores"] Xh:=by
 refine F.ok tW λaN A _ s H vs Q E hr h=>?_
 obtain⟨M,b,us,B,e,hM,Z,hp,hB,hx,q⟩:=h;subst e
 refine let d:TS:=_;let g:TS:=_;let l:TS:=_;let m:TS:=_;let r:TS:=_;let t:TS:=_;let u:TS:=_;let C:TS:=_;let D:TS:=_;let G:TS:=_;let I:TS:=_;let L:TS:=_;let O:TS:=_;let S:TS:=_;⟨_,ay (bP (i:=2) tW.nd xz (pA xz)<|bg Oq (dP<|ae ax af)<|pv 0) (pR S (ay (A4 (i:=3) (N:=[R_]) (idx:=[]) tW.nd xz xz xz (dJ.of<|by kernel_rfl) (jr<|aY _) (ju xz da<|ae (pv 0) af) (λ_ _ _ _=>bC (i:=0) Yv xz (aL xz)<|.inr xz) (λ_ _ _ _=>jD) λ_ _ _ _=>dP af)
  (pR O (ay (ik gJ xz (rB<|pv 1) (nz xz<|eT (bC (i:=4) tW.nd xz<|aL xz)<|eT (bC (i:=5) tW.nd xz<|aL xz)<|eT (bC (i:=6) tW.nd xz<|aL xz) ni)<|pR g<|ay (NB (pv 2) (pv 5) MW ax YJ set_list)<|pR d<|aB<|dC<|je m_ n_ o_ m5 (aO cG (pv 3)<|pv 4)<|ae (pv 5) af) (pR L (ay (A4 (i:=7) (N:=["missing",R_]) (idx:=[2]) tW.nd xz xz xz (dJ.of<|by kernel_rfl) (jr<|aD _) (ju xz da<|ae (pv 0) af) (λ_ _ _ _=>bC (i:=1) alj xz (aL xz)<|.inr xz) (λ_ _ _ _=>xp<|bA dF (aO (DZ K) (pv 0)<|pv 1) ax<|bo _) λ_ _ _ _=>pv 1)
  (pR I<|ay (bP (i:=8) tW.nd xz (aL xz)<|dP af)<|pR G<|ay (MO gJ (bA zz (bw dE xz cE q_<|ae (pv 7) af) ax<|bo _)<|pR D<|ay (bP (i:=9) tW.nd xz (aL xz)<|bw (VV xz) xz RO boot_min<|ae (pv 7) af)<|pR C<|ay (dC<|je m_ PySem.F.slot_list_remove PySem.F.type_list_remove aeE (pv 7)<|ae (pv 9) af)<|pR u<|ay (dC<|je m_ n_ o_ m5 (pv 8)<|ae (pv 9) af)<|pR t<|aB<|ik gJ xz (rB<|aO cG (pv 3)<|pv 9) (bC (i:=5) tW.nd xz<|aL xz)<|pR r<|ay (NB (pv 2) (pv 5) MW ax ajN set_list)<|pR m<|aB<|bX (bA dF (aO cG (pv 2)<|pv 5) ax<|bo _) (pR l<|aB<|dC<|je m_ n_ o_ m5 (pv 7)<|ae (pv 5) af) cj)<|aB<|a8<|pv 8))))))),?_⟩
 have hsz:=eA;refine⟨qc,λl0 n0=>⟨_,xz,l0,M,[V.int 0],xz,xz,av,li,li,by rw[hsz];simp;lia,λT nm=>?_⟩⟩;rw[jQ,aeF];have s0:=aH (o:=.lst [V.int 0]) (ak.f8 H) n0;generalize cB H _ _=H0 at s0 nm ⊢;have s1:=aH (o:=.lst<|dZ M λ_=>0) s0 nm;have nmH:=s0.free nm;have mM:cB H0 _ _ T=a_ (.lst<|dZ M λ_=>0):=av;generalize cB _ _ _=H1 at s1 mM ⊢;refine⟨_,xz,M,xz,li,li,gC (n:=M) (λi ys H'=>i<=M/\ak _ H'/\∃ps:List _,ys=ps.map V.ref/\ps.length=i/\ps.Nodup/\∀p∈ps,H1 p=b_/\H' p=a_ (.lst [])) (by rw[hsz];lia) ⟨aY _,ak.f8 _,[],xz,xz,CN,λp h=>(by cases h)⟩ ?_ ?_ ?_ ?_ ?_⟩
 .rintro i ys H' ⟨_,_,ps,rfl,e,_⟩;rw[aG];exact mY e
 .rintro i ys H' hi _;show i<(M:Int).toNat;lia
 .rintro ys H' _;show (M:Int).toNat<=M;lia
 .rintro i ys H' hi ⟨_,s2,ps,rfl,e,nd,gA⟩ v H2 ⟨rfl,rfl⟩;refine⟨qc,λp np=>⟨hi,aH s2 np,ps++[p],by rw[dN];rfl,by rw[ba,e];rfl,uW.mpr ⟨nd,by simp,λa ha b Z=>?_⟩,λa ha=>?_⟩⟩
  .rw[cR.mp Z];exact a7 (gA a ha).2 np
  obtain z|z:=cp.mp ha
  .exact⟨(gA a z).1,by rw[ag<|a7 (gA a z).2 np];exact(gA a z).2⟩
  rw[cR.mp z];exact⟨s2.free np,av⟩
 rintro ys H2 ⟨_,s2,ps,rfl,pl,nd,gA⟩;refine⟨by rw[hsz,aG];lia,λlb EL=>?_⟩;have Rh:=a7 (s2 _ _ mM) EL;have pm:=λp h=>b8<|a7 mM (gA p h).1;have pb:=λp h=>a7 (gA p h).2 EL;have pH:=λp h=>s1.free (gA p h).1;have s3:=aH (o:=.lst<|ps.map V.ref) (s1.f4 s2) EL;have kx:cB H2 lb (.lst<|ps.map V.ref) T=a_ (.lst<|dZ M λ_=>0):=by rw[ag Rh];exact s2 _ _ mM
 have Ay:cB H2 _ _ lb=a_ (.lst<|ps.map V.ref):=av;have bh3:vV (cB _ _<|.lst<|ps.map V.ref) _ (dv []):=⟨nd,λi p e=>by rw[ag<|pb p<|bz e];exact(gA p<|bz e).2⟩;generalize cB _ _ _=H3 at s3 kx Ay bh3 ⊢;refine⟨_,xz,b,xz,⟨_,ao.of<|s3 _ _ Z⟩,?_⟩
 let W1:IV:=λi σ H'=>i<=B.length/\∃a c y,σ=[a_ (.int (M:Nat)),a_<|.ref b,a_<|.ref T,a_<|.ref lb,a,c,y,b_,b_,b_]/\ak H H'/\H' T=a_ (.lst<|dZ M<|cJ (B.take i) [])/\H' lb=a_ (.lst<|ps.map V.ref)/\vV H' ps (dv<|B.take i)
 refine Df (xs:=us) W1 ⟨aY _,b_,b_,b_,xz,s3,kx,Ay,bh3⟩ ?_ ?_ ?_
 .rintro i σ H' _ ⟨_,a,c,y,rfl,s4,_⟩;exact ao.of<|s4 _ _ Z
 .rintro i x σ H' sD ⟨_,a,c,y,rfl,s4,lh,Kj,Cr⟩;refine aq (pe hp sD) λz wy aa=>aq aa λp ex sF=>?_;subst ex;obtain⟨z1,z2,z3⟩:=z;have J3:=hx _<|bz wy;obtain⟨a1,rfl⟩:∃n:Nat,z1=n:=⟨z1.toNat,by have:=J3.1.1;lia⟩;obtain⟨W,rfl⟩:∃n:Nat,z2=n:=⟨z2.toNat,by have:=J3.2.1;lia⟩;have h1:a1<M:=by have:=J3.1.2;lia
  have h2:W<M:=by have:=J3.2.2;lia
  have hi:=(bu.mp wy).1;have tk:B.take (i+1)=B.take i++[((a1:Int),(W:Int),z3)]:=by rw[jP,wy];rfl
  refine⟨p,_,xz,aF.of<|s4 _ _ sF,xz,_,_,xz,_,_,xz,_,[],xz,xz,⟨_,xz,_,xz,T,_,W,_,xz,xz,lh,xh h2,_,_,xz,xz,T,_,_,W,xz,xz,lh,vG (by rw[y9];exact h2),?_⟩⟩
  have Eg:(dZ M<|cJ (B.take i) []).set W (V.int<|((cJ (B.take i) [] (W:Int):Nat):Int)+1)=dZ M (cJ (B.take<|i+1) []):=by
   rw[show ((cJ _ [] W:Nat):Int)+1=((cJ (B.take i) [] W+1:Nat):Int) by lia];exact Wz (by rw[tk,WS,dL rfl]) (λb Z=>by rw[tk,WS,dt λz=>Z z.f5];rfl)
  rw[Eg];have s5:=ma (o:=.lst<|dZ M<|cJ (B.take<|i+1) []) s4 nmH;have Au:cB H' _ _ T=a_ (.lst<|dZ M<|cJ (B.take<|i+1) []):=av;have Sk:cB H' T (.lst<|dZ M<|cJ (B.take<|i+1) []) lb=a_ (.lst<|ps.map V.ref):=by rw[ag<|b8 Rh];exact Kj
  have SJ:=Cr.keep (H':=cB _ _<|.lst<|dZ M<|cJ (B.take<|i+1) []) λp h=>ag<|pm p h;generalize cB _ _ _=X at s5 Au Sk SJ ⊢;have uK:ps[a1]?=a_ (ps[a1]' li):=aQ _;have Rx:=bz uK;have E9:=SJ.at' _ _ uK
  have bl:(dv (B.take i) (a1:Int)).length<=100000:=by
   unfold dv;rw[aG];have:=qW (λx:T3=>decide<|x.1=(a1:Int))<|B.take i;rw[dn]at this;lia
  refine⟨_,xz,_,xz,rL (v:=.ref _) (ao.of Sk) (bZ<|by rw[cH,uK];rfl) ⟨.inl ⟨xz,_,ao.of E9⟩,_,xz,_,_,_,xz,xz,E9,by rw[hsz,aG];lia,hi,_,_,_,xz,ma s5<|pH _ Rx,?_,?_,?_⟩⟩
  .rw[ag<|b8<|pm _ Rx];exact Au
  .rw[ag<|b8<|pb _ Rx];exact Sk
  .have:=SJ.put (f':=dv<|B.take<|i+1) uK λb Z=>by rw[tk,XT,dt λz=>Z z.f5,gj]
   rw[tk,XT,dL xz,dN]at this;rw[tk];exact this
 rintro σ H4 ⟨_,a,c,y,rfl,s4,lh,Kj,Cr⟩;rw[r_ hp,AQ]at lh Cr;refine⟨_,xz,(M:Int),xz,li,li,gC (n:=M) (λi ys H'=>i<=M/\H'=H4/\ys=(mG B i).map V.int) (by rw[hsz];lia) ⟨aY _,xz,xz⟩ ?_ ?_ ?_ ?_ ?_⟩
 .rintro i ys H' ⟨_,_,rfl⟩;rw[aG];exact Xq _ _
 .rintro i ys H' hi _;show i<(M:Int).toNat;lia
 .rintro ys H' _;show (M:Int).toNat<=M;lia
 .rintro i ys H' hi ⟨_,rfl,rfl⟩ v X ⟨rfl,rfl⟩;rw[lW];refine⟨_,xz,_,xz,rL (ao.of lh) (bZ<|xh hi)<|rq (H:=X) xz ?_⟩;rw[WQ];refine bQ (λe=>?_) λe=>?_
  .refine vr xz ⟨hi,xz,?_⟩;rw[Wr,dL li,dN];rfl
  refine⟨hi,xz,?_⟩;rw[Wr,dt λz=>e li,gj]
 rintro ys X ⟨_,rfl,rfl⟩;refine⟨by rw[hsz,aG];have:=Xq B M;lia,λU nr=>⟨qc,λlw nw=>?_⟩⟩
 obtain⟨Y,sHz,zm,zr,zw,zb,zbh,sz⟩:∃Y:Hp,ak H Y/\Y T=b_/\Y U=b_/\Y lw=b_/\Y lb=a_ (.lst<|ps.map V.ref)/\vV Y ps (dv B)/\ak Y (cB (cB X U<|.lst<|(mG B M).map V.int) lw<|.lst []):=by
  have nwH:=(aH (o:=.lst<|(mG B M).map V.int) s4 nr).free nw
  have nw5:X lw=none:=by
   rw[ag (λz=>by rw[z,av]at nw;cases nw)]at nw;exact nw
  have keep:∀x o,x≠T->X x=a_ o->(λx=>if x=T\/x=U\/x=lw then b_ else X x:Hp) x=a_ o:=λx o hx e=>by
   show (if x=T\/x=U\/x=lw then b_ else X x)=a_ o;rw[dt λz=>z.elim hx λz=>z.elim (a7 e nr)<|a7 e nw5];exact e
  refine⟨λx=>if x=T\/x=U\/x=lw then b_ else X x,λx o e=>keep x o (a7 e nmH)<|s4 _ _ e,dL<|.inl xz,dL<|.inr<|.inl xz,dL<|.inr<|.inr xz,keep _ _ (b8 Rh) Kj,⟨Cr.nd,λi p e=>keep _ _ (pm p<|bz e)<|Cr.at' i p e⟩,λx o e=>?_⟩;have e:(if x=T\/x=U\/x=lw then b_ else X x)=a_ o:=e
  split at e
  .cases e
  rename_i hn
  rw[ag λz=>hn<|.inr<|.inr z,ag λz=>hn<|.inr<|.inl z];exact e
 have JR:=a7 av nw;have EK:=b8<|a7 lh nr;have Rc:lw≠T:=λz=>by rw[z,ag<|b8 EK,lh]at nw;cases nw
 have J9:cB (cB X U<|.lst<|(mG B M).map V.int) lw (.lst []) U=a_ (.lst<|(mG B M).map V.int):=by rw[ag JR];exact av
 have Kd:cB (cB X U<|.lst<|(mG B M).map V.int) lw (.lst []) T=a_ (.lst<|dZ M<|cJ B []):=by rw[ag<|b8 Rc,ag<|b8 EK];exact lh
 have iL:cB (cB X U<|.lst<|(mG B M).map V.int) lw (.lst []) lw=a_ (.lst []):=av;generalize cB (cB X U<|.lst<|(mG B M).map V.int) lw (.lst [])=H6 at sz J9 Kd iL ⊢;refine⟨λμ σ H'=>∃(R rd:List Int)(c z:Option V),σ=[a_ (.int (M:Nat)),a_<|.ref b,a_<|.ref T,a_<|.ref lb,a,c,y,a_<|.ref U,a_<|.ref lw,z]/\μ+R.length=M/\ak Y H'/\H' T=a_ (.lst<|dZ M<|cJ B R)/\H' U=a_ (.lst<|rd.map V.int)/\H' lw=a_ (.lst<|R.map V.int)/\KI M B R rd,⟨M,[],mG B M,c,b_,xz,xz,sz,Kd,J9,iL,ai7 M B⟩,?_⟩;rintro μ σ H' ⟨R,rd,c,z,rfl,hμ,s7,E8,B7,jj,I7⟩;refine⟨_,xz,U,_,xz,.inl<|ao.of B7,_,_,xz,xz,_,xz,bQ (λcu=>?_) λsJ=>?_⟩
 .rw[aG]at cu;refine⟨λσ' H'=>∃μ',μ' < μ/\∃(R rd:List Int)(c z:Option V),σ'=[a_ (.int (M:Nat)),a_<|.ref b,a_<|.ref T,a_<|.ref lb,a,c,y,a_<|.ref U,a_<|.ref lw,z]/\μ'+R.length=M/\ak Y H'/\H' T=a_ (.lst<|dZ M<|cJ B R)/\H' U=a_ (.lst<|rd.map V.int)/\H' lw=a_ (.lst<|R.map V.int)/\KI M B R rd,λσ' H' z=>z,⟨_,xz,U,rd,xz,ao.of B7,λz=>by rw[z]at cu;exact dV cu qc,λn hn RM=>?_⟩⟩;have kn:=(I7.rm n).mp hn;have ZI:=I7.room hn;obtain⟨n1,rfl⟩:∃k:Nat,n=(k:Int):=⟨n.toNat,by have:=kn.1;lia⟩;refine⟨_,xz,.inl ⟨xz,_,ao.of B7⟩,_,xz,U,rd,(n1:Int),xz,xz,B7,hn,?_⟩;have s8:=ma (o:=.lst<|(rd.erase (n1:Int)).map V.int) s7 zr;have yr:cB H' U (.lst<|(rd.erase (n1:Int)).map V.int) T=a_ (.lst<|dZ M<|cJ B R):=by rw[ag<|b8 EK];exact E8
  have J8:cB H' U (.lst<|(rd.erase (n1:Int)).map V.int) U=a_ (.lst<|(rd.erase (n1:Int)).map V.int):=av;have B5:cB H' U (.lst<|(rd.erase (n1:Int)).map V.int) lw=a_ (.lst<|R.map V.int):=by rw[ag<|b8 JR];exact jj
  generalize cB H' U (.lst<|(rd.erase (n1:Int)).map V.int)=H8 at s8 yr J8 B5 ⊢;refine⟨_,xz,.inl ⟨xz,_,ao.of B5⟩,_,xz,lw,_,.int (n1:Int),xz,xz,B5,by rw[hsz,aG];lia,?_⟩;rw[show R.map V.int++[V.int (n1:Int)]=(R++[(n1:Int)]).map V.int by rw[dN];rfl];have s9:=ma (o:=.lst<|(R++[(n1:Int)]).map V.int) s8 zw;have Kc:cB H8 lw (.lst<|(R++[(n1:Int)]).map V.int) T=a_ (.lst<|dZ M<|cJ B R):=by rw[ag<|b8 Rc];exact yr
  have hr9:cB H8 lw (.lst<|(R++[(n1:Int)]).map V.int) U=a_ (.lst<|(rd.erase (n1:Int)).map V.int):=by rw[ag JR];exact J8
  have hw9:cB H8 lw (.lst<|(R++[(n1:Int)]).map V.int) lw=a_ (.lst<|(R++[(n1:Int)]).map V.int):=av;generalize cB H8 lw (.lst<|(R++[(n1:Int)]).map V.int)=H9 at s9 Kc hr9 hw9 ⊢;have E7:n1<M:=by have:=kn.2.1;lia
  have hpn:ps[n1]?=a_ (ps[n1]' li):=aQ _;have zp:=zbh.at' n1 _ hpn;refine⟨_,xz,_,xz,rL (v:=.ref _) (ao.of<|s9 _ _ zb) (bZ<|by rw[cH,hpn];rfl) ⟨_,xz,⟨_,ao.of<|s9 _ _ zp⟩,?_⟩⟩
  let W2:IV:=λj σ H'=>j<=(dv B (n1:Int)).length/\∃(c:Option V)(rd:List Int),σ=[a_ (.int (M:Nat)),a_<|.ref b,a_<|.ref T,a_<|.ref lb,a,c,y,a_<|.ref U,a_<|.ref lw,a_<|.int (n1:Int)]/\ak Y H'/\H' T=a_ (.lst<|dZ M λb=>cJ B R b-((dv B (n1:Int)).take j).count b)/\H' U=a_ (.lst<|rd.map V.int)/\H' lw=a_ (.lst<|(R++[(n1:Int)]).map V.int)/\KJ M B R (n1:Int) j rd
  refine Df (xs:=(dv B (n1:Int)).map V.int) W2 ⟨aY _,c,_,xz,s9,Kc,hr9,hw9,I7.go hn⟩ ?_ ?_ ?_
  .rintro j σ H' _ ⟨_,c,rd,rfl,gH,_⟩;exact ao.of<|gH _ _ zp
  .rintro j x σ H' hxj ⟨_,c,wx,rfl,gH,Ei,Qu,Ef,J⟩;rw[cH]at hxj;refine aq (sU.mp hxj) λo ho eo=>?_;subst eo;have ko:=I7.other hn J ho (λx h=>(hx x h).2);have hj:j<(dv B (n1:Int)).length:=(bu.mp ho).1;have jl:=J.le;obtain⟨W,rfl⟩:∃k:Nat,o=(k:Int):=⟨o.toNat,by have:=ko.1;lia⟩;have E4:W<M:=by have:=ko.2.1;lia
   have tc:=Ms ho;have tc0:=tc (W:Int);rw[dL rfl]at tc0;refine⟨_,xz,_,xz,T,_,W,_,xz,xz,Ei,xh E4,_,_,xz,xz,T,_,_,W,xz,xz,Ei,vG (by rw[y9];exact E4),?_⟩
   have Eg:(dZ M λb=>cJ B R b-((dv B (n1:Int)).take j).count b).set W (V.int<|((cJ B R (W:Int)-((dv B (n1:Int)).take j).count (W:Int):Nat):Int)-1)=dZ M λb=>cJ B R b-((dv B (n1:Int)).take<|j+1).count b:=by
    rw[show ((cJ B R (W:Int)-((dv B (n1:Int)).take j).count (W:Int):Nat):Int)-1=((cJ B R (W:Int)-((dv B (n1:Int)).take<|j+1).count (W:Int):Nat):Int) by rw[tc0];lia];exact Wz xz λb Z=>by rw[tc b,dt λz=>Z z.f5];rfl
   rw[Eg];have fJ:=ma (o:=.lst<|dZ M λb=>cJ B R b-((dv B (n1:Int)).take<|j+1).count b) gH zm;have zQ:cB H' T (.lst<|dZ M λb=>cJ B R b-((dv B (n1:Int)).take<|j+1).count b) T=a_ (.lst<|dZ M λb=>cJ B R b-((dv B (n1:Int)).take<|j+1).count b):=av;have IP:cB H' T (.lst<|dZ M λb=>cJ B R b-((dv B (n1:Int)).take<|j+1).count b) U=a_ (.lst<|wx.map V.int):=by rw[ag EK];exact Qu
   have Qs:cB H' T (.lst<|dZ M λb=>cJ B R b-((dv B (n1:Int)).take<|j+1).count b) lw=a_ (.lst<|(R++[(n1:Int)]).map V.int):=by rw[ag Rc];exact Ef
   generalize cB H' T (.lst<|dZ M λb=>cJ B R b-((dv B (n1:Int)).take<|j+1).count b)=nV at fJ zQ IP Qs ⊢;refine⟨_,xz,_,xz,rL (ao.of zQ) (bZ<|xh E4)<|rq (H:=nV) xz ?_⟩;rw[WQ];refine bQ (λe=>?_) λe=>?_
   .refine⟨_,xz,.inl ⟨xz,_,ao.of IP⟩,_,xz,U,_,.int (W:Int),xz,xz,IP,by rw[hsz,aG];lia,hj,_,wx++[(W:Int)],xz,ma fJ zr,?_,?_,?_,J.yes ho ko li⟩
    .rw[ag<|b8 EK];exact zQ
    .rw[dN];exact av
    rw[ag<|b8 JR];exact Qs
   exact⟨hj,_,wx,xz,fJ,zQ,IP,Qs,J.no ho ko λz=>e li⟩
  rintro σ H' ⟨_,c,wx,rfl,gH,Ei,Qu,Ef,J⟩;rw[aG]at J Ei;refine⟨μ-1,li,R++[(n1:Int)],wx,c,_,xz,by rw[ba];show μ-1+(R.length+1)=M;lia,gH,?_,Qu,Ef,KJ.done I7 hn J RM⟩;rw[Ei,AQ];refine f0 (λf=>a_<|HO.lst<|dZ M f) (funext λb=>?_);have:=Gk kn.2.2.1 b B;omega
 rw[aG]at sJ;have e:rd=[]:=aa2 li;subst e;exact vr xz<|q H' lw R (sHz.f4 s7) (sHz.free zw) jj I7
def YS(d:Nat)(m:Nat)(hm:0<m):((d:Int)%(m:Nat))=((d%m:Nat):Int)/\d%m<m:=⟨(TY d m).f5,yX _ hm⟩
def Xd:Sp:=λvs H Q _=>∃(d:Nat)(l:e_)(nm:List Nat)(len:Nat),vs=[.int (d:Nat),.ref l,.int (len:Nat)]/\H l=a_ (.lst<|(gV nm).map V.int)/\0<nm.length/\(∀n∈nm,n<12)/\len<=120/\∀v H' s,ak H H'->xD H' v s->fU len s->Q v H'
def Hc:bj ["_law_draw_here","_law_names","_law_size","_law_word","_law_box","_law_name"] ii (aU N9):=bG
def af2(F:aW K "_law_step" "_law_step" N9 f fd)(G:mg aq6 = b_):aM P w K mg fi aS 1 f fd ii Xd:=by
 refine F.ok Hc λaN A _ s H vs Q E hr h=>?_
 obtain⟨d,l,nm,len,I,v,J,L,hlen,q⟩:=h;subst I;refine let M:TS:=_;let R2:TS:=_;let N:TS:=_;let O:TS:=_;let R:TS:=_;let S:TS:=_;let T:TS:=_;let U:TS:=_;let W:TS:=_;let X:TS:=_;let x:TS:=_;let Y:TS:=_;let Z:TS:=_;⟨_,ay (bP (i:=3) Hc.nd xz (aL xz)<|bg gE (pv 0) ax)<|pR Z<|ay (bP (i:=4) Hc.nd xz (aL xz)<|bg gE (bg oa (pv 0) ax) ax)<|pR Y<|ay (bP (i:=5) Hc.nd xz (aL xz)<|aO cG (pv 1)<|bg gE (bg oa (pv 0) ax)<|bw dE xz G q_<|ae (pv 1) af)<|pR x<|ay (bX (bA dF (pv 3) ax<|bo _) (pR M<|aB<|a8<|fA<|ae cU<|ae (pv 4)<|ae (bg gE (bg oa (pv 0) ax) ax) af) cj)<|pR X<|ay (bX (bA dF (pv 3) ax<|bo _) (pR R2<|aB<|a8<|fA<|ae cU<|ae (pv 4)<|ae (bg gE (bg oa (pv 0) ax) ax) af) cj)<|pR W<|ay (bX (bA BA (pv 3) ax<|bo _) (pR N<|aB<|a8<|fA<|ae cU<|ae (pv 5)<|ae (pv 4) af) cj)<|pR U<|ay (bX (bA BA (pv 3) ax<|bo _) (pR O<|aB<|a8<|fA<|ae cU<|ae (pv 4)<|ae (pv 5) af) cj)<|pR T<|ay (bX (bA dF (pv 3) ax<|bo _) (pR R<|aB<|a8<|aO cG (dP<|ae (fA<|ae cU<|ae (pv 4)<|ae (pv 5) af)<|ae (fA<|ae cU af) af)<|bg gE (bg oa (pv 0) ax) ax) cj)<|pR S<|aB<|a8<|fA<|ae cU<|ae (pv 4)<|ae (bg gE (bg oa (pv 0) ax)<|bg jv (pv 2) ax) af,?_⟩
 refine oA (YS (d/16) 4 qc) λebx c=>oA (YS (d/64) _ J) λena RJ=>?_;have y:((gV nm).map V.int).length=nm.length:=by unfold gV;rw[aG,aG]
 have hat:((gV nm).map V.int)[d/64%nm.length]?=a_ (.int (nm[d/64%nm.length]:Nat)):=by
  unfold gV;rw[cH,cH,aQ _];rfl
 have j:=L _<|FH RJ;refine vr xz ⟨_,⟨_,xz,xz,(show 0<16 by decide),_,xz,_,_,xz,xz,⟨qc,qc⟩,_,_,xz,xz,(show 0<4 by decide),_,xz,_,xz,_,_,xz,xz,⟨qc,qc⟩,_,xz,l,_,xz,.inl<|ao.of v,_,_,xz,xz,?_,l,_,_,.int (nm[d/64%nm.length]:Nat),xz,xz,ao.of v,?_,?_⟩⟩
 .show (0:Int)<(((gV _).map _).length:Nat);rw[y];lia
 .rw[y];show gd _ (((d:Nat):Int)/(64:Nat)%(nm.length:Nat))=_;rw[<-Int.natCast_ediv,ena];exact bZ hat
 show x {nx:=λ_ H'=>Q _ _,rt:=Q} [a_ _,a_<|.ref l,a_<|.int _,a_<|.int<|d%16,a_<|.int<|d/16%4,a_<|.int _] H;rw[show (d:Int)/16%4=((d/16%4:Nat):Int) by lia];generalize d/16%4=g at c ⊢;generalize nm[d/64%nm.length]=r at j ⊢;have lh:d/512%4<10^60:=yP (yX _ qc) (by decide:4<10^60);refine vr xz ⟨xz,⟨_,xz,bQ (λh0=>?_) λh0=>?_⟩⟩
 .refine au _ xz (vr xz ⟨_,⟨_,xz,xz,⟨qc,qc⟩,_,_,xz,xz,(show 0<4 by decide),(sl (n:=3)),λa b=>q _ _ _ (aH (ak.f8 _) b) ⟨a,xz,?_⟩<|.put _ _ c lh⟩⟩);rw[av];rfl
 refine au _ xz ⟨xz,⟨_,xz,bQ (λh1=>?_) λh1=>?_⟩⟩
 .refine au _ xz (vr xz ⟨_,⟨_,xz,xz,⟨qc,qc⟩,_,_,xz,xz,(show 0<4 by decide),(sl (n:=3)),λa b=>q _ _ (T_,[g,d/512%4]) (aH (ak.f8 _) b) ⟨a,xz,?_⟩<|.add _ _ c li⟩⟩);rw[av];rfl
 refine au _ xz ⟨_,⟨_,xz,xz,_,xz,bQ (λh2=>au _ xz<|vr xz ⟨(sl (n:=3)),(λa b=>q _ _ _ (aH (ak.f8 _) b) ⟨a,xz,av⟩<|.set _ _ j c)⟩) λh2=>au _ xz ⟨_,⟨_,xz,xz,_,xz,bQ (λh3=>au _ xz<|vr xz ⟨(sl (n:=3)),(λa b=>q _ _ _ (aH (ak.f8 _) b) ⟨a,xz,av⟩<|.look _ _ c j)⟩) λh3=>au _ xz ⟨xz,⟨_,xz,bQ (λh4=>?_) λh4=>?_⟩⟩⟩⟩⟩⟩
 .refine au _ xz (vr xz ⟨sl (n:=3),λk n1=>⟨sl,λm z=>⟨sl (n:=2),λtl t=>?_⟩⟩⟩);have s1:=aH (o:=.tup [.str l_,.int g,.int r]) (ak.f8 H) n1;have B:cB H _ _ k=a_ (.tup [.str l_,.int (g:Nat),.int (r:Nat)]):=av;generalize cB H _ _=H1 at s1 B z t ⊢;have s2:=aH (o:=.tup [.str N_]) (ak.f8 _) z;have C:cB H1 _ _ m=a_ (.tup [.str N_]):=av;generalize cB _ _ _=H2 at s2 C t ⊢;have p:=aH (o:=.lst [.ref k,.ref m]) (ak.f8 _) t;have u:cB H2 _ _ tl=a_ (.lst [.ref k,.ref m]):=av;generalize cB _ _ _=H3 at p u ⊢;have D:=s1.f4<|s2.f4 p;have hix:d/512%2=0\/d/512%2=1:=li;obtain e|e:=hix
  .have ex:d/512%2=(0:Int):=li;exact vr xz ⟨_,_,xz,xz,⟨qc,qc⟩,_,_,xz,xz,(show 0<2 by decide),tl,_,_,.ref _,xz,xz,ao.of u,(by show gd _ _=_;rw[ex];exact bZ xz),q _ _ (l_,[g,r]) D ⟨k,xz,p _ _<|s2 _ _ B⟩<|.swap _ _ c j⟩
  have ex:d/512%2=(1:Int):=li;exact vr xz ⟨_,_,xz,xz,⟨qc,qc⟩,_,_,xz,xz,(show 0<2 by decide),tl,_,_,.ref _,xz,xz,ao.of u,(by show gd _ _=_;rw[ex];exact bZ xz),q _ _ (N_,[]) D ⟨m,xz,p _ _ C⟩ .clear⟩
 refine au _ xz (vr xz ⟨_,⟨_,xz,xz,⟨qc,qc⟩,_,xz,_,_,xz,xz,_,_,xz,xz,(by show 0<(len:Int)+1;lia),(sl (n:=3)),λa b=>q _ _ (Y_,[g,d/512%(len+1)]) (aH (ak.f8 _) b) ⟨a,xz,?_⟩<|.skip _ _ c (Nat.le_of_lt_succ<|yX _<|F5 _)<|by have:=yX (d/512)<|F5 len;lia⟩⟩);rw[av];rfl
def agu{k:Nat}(e:x=y)(h:kM k y σ H Q):kM k x σ H Q:=by rw[e];exact h
def Xe:Sp:=λvs H Q _=>∃(a:e_)(ns:List Int),vs=[.ref a]/\H a=a_ (.lst<|ns.map V.int)/\ns.length<=63/\∀H' v ps,ak H H'->xE H' v ps->BD ps->Q v H'
def Bj:bj ["_law_script","_law_first","_law_names","_law_parts","_law_clerk","_law_size"] gW (aU N'):=bG
def aln:(["_law_first",aq9]:List bx).Nodup:=dk
def ah2:(["_law_script","_law_clerk","_law_names","_law_size",aq9]:List bx).Nodup:=dk
def af3(F:aW K "_law_program" "_law_program" N' f fd)(X:mg aq3 = b_)(J:mg P_ = b_)(Y:aM P w K mg fi aS 1 fD fdD i7 NZ)(Z:x_ K (.ref fD)=c_)(bD:d5 K fdD i7 [])(mD:mg "_law_draw"=a_ (.ref fD))(GS:aM P w K mg fi aS 1 fS BX ii Xd)(kS:x_ K (.ref fS)=c_)(bS:d5 K BX ii [])(mS:mg "_law_step"=a_ (.ref fS)):aM P w K mg fi aS 2 f fd gW Xe:=by
 refine F.ok Bj λaN A _ s H vs Q E L h=>?_
 refine iG h λa ns aa ha hn q=>?_;clear h;subst aa
 refine let c:TS:=_;let d:TS:=_;let g:TS:=_;let k:TS:=_;let l:TS:=_;let m:TS:=_;⟨_,ay (bP (i:=1) Bj.nd xz (pA xz)<|jU Y L xz mD Z bD .nil dh<|ae (pv 0)<|ae ax af) (pR m (ay (bP (i:=2) Bj.nd xz (pA xz) (jc (N:=["_law_first",aq9]) (idx:=[1]) xz (dJ.of<|by kernel_rfl) (jr<|aD _) (ju xz X<|ae (bg jv ax<|bg gE (bg oa (pv 1) ax) ax) af)
   (λ_ _ _ _=>bC (i:=1) aln xz (aL xz)<|.inr xz) (λ_ _ _ _=>jD) λ_ _ _ _=>bg gE (bg jv (bg oa (pv 0) ax)<|bg zt ax<|pv 1) ax))
  (pR l (ay (bP (i:=3) Bj.nd xz (aL xz)<|dP af) (pR k (ay (ik gJ xz (ju xz X<|ae (bg jv ax<|bg gE (pv 1) ax) af) (bC (i:=4) Bj.nd xz<|pA xz) (pR d (ay (bP (i:=5) Bj.nd xz (pA xz)<|bg gE (jU Y L xz mD Z bD .nil dh<|ae (pv 0)<|ae (bg jv ax<|pv 4) af) ax) (pR c (aB (dC (je m_ n_ o_ m5 (pv 3) (ae (q8 CO xz J tQ (ae (jc (N:=["_law_script","_law_clerk","_law_names","_law_size",aq9]) (idx:=[0,4,2,5]) xz (dJ.of<|by kernel_rfl) (jr<|aD _) (ju xz X<|ae (pv 5) af)
    (λ_ _ _ _=>bC (i:=4) ah2 xz (aL xz)<|.inr xz) (λ_ _ _ _=>jD) λ_ _ _ _=>jU GS L xz mS kS bS .nil dh<|ae (jU Y L xz mD Z bD .nil dh<|ae (pv 0)<|ae (bg jv (bg jv ax<|bg zt ax<|pv 1)<|pv 4) af)<|ae (pv 2)<|ae (pv 3) af) af)) af))))))))
  (pR g<|aB<|a8<|q8 CO xz J tQ<|ae (pv 3) af))))))),?_⟩
 have B:=eA;refine vr xz (m8 a _ 0 xz ha hn qc λH1 M s1=>au _ xz ⟨_,⟨_,xz,xz,⟨qc,qc⟩,_,_,xz,xz,(show 0<3 by decide),_,_,xz,xz,_,xz,li,li,?_⟩⟩);obtain⟨C,RL,E7,B9⟩:∃C:Nat,(1+(M:Int)/4%3).toNat=C/\1<=C/\C<=3:=⟨_,xz,li,li⟩;rw[RL];refine gC (n:=C) (λj ys H'=>H'=H1/\∃nm:List _,ys=(gV nm).map V.int/\nm.length=j/\∀n∈nm,n<12) (by rw[B];lia) ⟨xz,[],xz,xz,λn z=>by cases z⟩ ?_ ?_ ?_ ?_ ?_
 .rintro j ys H' ⟨_,nm,rfl,e,_⟩;rw[aG];unfold gV;rw[aG,e];exact aD _
 .rintro j ys H' D _;exact D
 .rintro ys H' _;exact aD _
 .rintro j ys H2 D ⟨rfl,nm,rfl,e,Sy⟩ x H3 ⟨eH,ex⟩;subst eH;subst ex;refine au _ xz ⟨_,⟨_,xz,xz,⟨qc,qc⟩,_,xz,_,_,xz,xz,.inl ⟨qc,qc⟩,_,_,xz,xz,_,_,xz,xz,(show 0<12 by decide),xz,nm++[(M/16+5*(0+(j:Int))).toNat%12],?_,by rw[ba,e];rfl,λn hn=>?_⟩⟩
  .unfold gV;rw[dN,dN];show _++[V.int _]=_++[V.int _]
   congr 3
  obtain z|z:=cp.mp hn
  .exact Sy n z
  rw[cR.mp z];exact yX _ qc
 rintro ys H2 ⟨rfl,nm,rfl,enm,Sy⟩;refine⟨by rw[aG];unfold gV;rw[aG,B];lia,λln nln=>aP (nw (o:=.lst<|(gV nm).map V.int) nln) λH3 e3 s3 cE=>?_⟩;rw[e3];clear e3;refine⟨qc,λlp nlp=>aP (nw (o:=.lst []) nlp) λH4 e4 s4 hlp=>?_⟩;rw[e4];clear e4;have EI:=s1.f4 s3;refine au _ xz ⟨_,⟨_,xz,xz,(show 0<4 by decide),_,_,xz,xz,_,xz,li,li,?_⟩⟩;obtain⟨O,hn4,hn5,Kb⟩:∃O:Nat,(1+(M:Int)%4).toNat=O/\1<=O/\O<=4:=⟨_,xz,li,li⟩;rw[hn4]
 let W1:IV:=λi σ H'=>∃ys ps w4 w5,σ=[a_ (.ref a),a_<|.int (M:Nat),a_<|.ref ln,a_<|.ref lp,w4,w5]/\ak H3 H'/\H' lp=a_ (.lst ys)/\aA (IsPart H') ys ps/\ps.length=i/\∀p∈ps,p.length<=8/\∀t∈p,fU p.length t
 refine nY W1 ⟨[],[],b_,b_,xz,s4,hlp,.nil,xz,λp z=>by cases z⟩ ?_ ?_
 .rintro i σ H5 hi ⟨ys,ps,w4,w5,rfl,G,R,S,fK,T⟩;rw[lW];have nS:=G _ _<|EI _ _ ha;have hyl:=r_ S;refine vr xz<|vr xz ⟨_,⟨_,xz,xz,a,ns,10+i,xz,nS,hn,li,λH8 d6 U=>⟨_,_,xz,xz,(show (0:Int)<9 by decide),agu (y:=.int ((d6%9:Nat):Int)) xz ?_⟩⟩⟩;have RQ:d6%9<9:=yX _ qc;generalize d6%9=len at RQ ⊢;have Cm:=U _ _ nS;have aog:=U _ _ R;refine c8 _ xz (.inl ⟨xz,_,ao.of aog⟩)<|au _ xz<|lE _ xz li li ?_;rw[show ((len:Int)).toNat=len by lia];refine gC (n:=len) (λj ys H'=>ak H8 H'/\∃ts:List Tl,aA (xD H') ys ts/\ts.length=j/\∀t∈ts,fU len t) (by rw[B];lia) ⟨ak.f8 _,[],.nil,xz,λt z=>by cases z⟩ ?_ ?_ ?_ ?_ ?_
  .rintro j ys H' ⟨_,ts,h1,h2,_⟩;rw[r_ h1,h2];exact aD _
  .rintro j ys H' D _;exact D
  .rintro ys H' _;exact aD _
  .rintro j ys H9 D ⟨I,ts,h1,h2,h3⟩ x wL ⟨eH,ex⟩;subst eH;subst ex;have ha9:=I _ _ Cm;have aoh:=I _ _<|U _ _<|G _ _ cE;refine au _ xz<|vr xz ⟨_,⟨_,xz,xz,.inl ⟨qc,qc⟩,_,_,xz,xz,_,xz,_,_,xz,xz,a,ns,100+20*i+j,?_,ha9,hn,li,λnV d9 r=>⟨_,xz,_,xz,d9,ln,nm,len,xz,r _ _ aoh,li,Sy,li,λv SR t jJ u hg=>⟨I.f4<|r.f4 jJ,ts++[t],qe (df h1 λ_ _ q=>q.keep λb xs e=>jJ _ _<|r _ _ e) u,by rw[ba,h2];rfl,λx hx=>?_⟩⟩⟩⟩
   .show [V.ref a,V.int<|100+20*i+(0+j)]=_;rw[show (100+20*i+(0+j))=((100+20*i+j:Nat):Int) by lia]
   obtain z|z:=cp.mp hx
   .exact h3 x z
   rw[cR.mp z];exact hg
  rintro zs H9 ⟨I,ts,h1,h2,h3⟩;have ET:=r_ h1;refine⟨by rw[ET,h2,B];lia,λls Rj=>aP (nw (o:=.lst zs) Rj) λwL e10 gH mP=>?_⟩;rw[e10];clear e10;have Qp:=(U.f4 I).f4 gH;have amJ:=Qp _ _ R;refine fh _ _ xz<|.inl ⟨ao.of mP,λW u=>aP (nw (o:=.tup zs) u) λnV AE r J=>?_⟩;rw[AE];clear AE;have ZJ:=r _ _ amJ;have kt:=tT (o:=.lst<|ys++[.ref W]) ZJ;refine nN _ _<|fG _ xz xz ZJ (by rw[B];lia) ⟨ys++[.ref _],ps++[ts],_,_,xz,ma (G.f4<|Qp.f4 r) nlp,av,qe (df S λ_ _ q=>q.keep λb xs e=>kt _ _<|r _ _<|Qp _ _ e) ⟨W,zs,xz,kt _ _ J,df h1 λ_ _ q=>q.keep λb xs e=>kt _ _<|r _ _<|gH _ _ e⟩,by rw[ba,fK];rfl,λx hx=>?_⟩
  obtain z|z:=cp.mp hx
  .exact T x z
  rw[cR.mp z];refine⟨li,λt u=>?_⟩;rw[h2];exact h3 t u
 rintro σ H5 ⟨ys,ps,w4,w5,rfl,G,R,S,fK,T⟩;refine vr xz<|fh _ _ xz<|.inl ⟨ao.of R,λW u=>?_⟩;have s6:=aH (o:=.tup ys) (ak.f8 _) u;exact q _ _ _ (EI.f4<|G.f4 s6) ⟨W,ys,xz,av,df S λ_ _ q=>q.keep λb xs e=>s6 _ _ e⟩ ⟨li,li,λp hp=>⟨by have:=(T p hp).1;lia,(T p hp).2⟩⟩
noncomputable def iU(S:Mc):Nat:=(S.ck.map λk=>k.es.length).sum
theorem sum_set{a:Type}(f:a->Nat){x y:a}:∀{l:List a}{c:Nat},l[c]?=a_ x->((l.set c y).map f).sum+f x=(l.map f).sum+f y
 | [],_,h=>by simp at h
 | z::l,0,h=>by
  simp at h;subst h;simp only[List.set_cons_zero,eu,List.sum_cons];lia
 | z::l,c+1,h=>by
  have ih:=sum_set f (y:=y) (l:=l) (c:=c) (by simpa using h);simp only[List.set_cons_succ,eu,List.sum_cons];lia
def adm{c n:Nat}{k:Ck}(a:S.ck[c]?=a_ k)(b:cq k.es n=e::r):iU (jG S c n)<iU S:=by
 have hm:e∈cq k.es n:=by rw[b];simp
 unfold cq at hm;refine oA (lu.mp hm) λh1 h2=>?_;unfold jG;rw[a];dsimp only;rw[b];show ((S.ck.set c {k with es:=jH _ n}).map λk=>k.es.length).sum<_;have h3:=sum_set (λk:Ck=>k.es.length) (y:={k with es:=jH k.es n}) a
 have h4:(jH k.es n).length=k.es.length-1:=by
  unfold jH;exact List.length_eraseP_of_mem h1 h2
 have h5:=List.length_pos_of_mem h1;unfold iU;have d:({k with es:=jH k.es n}:Ck).es.length=(jH k.es n).length:=rfl;rw[d,h4]at h3;lia
def Ve(h:mv∈ly S):∃(c:Nat)(k:Ck)(n:Int),mv=((ac2 : bx),[(c:Int),n])/\S.ck[c]?=a_ k/\n∈iT S.kd k.es:=by
 unfold ly xY at h;refine aq (oY.mp h) λa b hm=>?_;obtain⟨k,c⟩:=a;unfold D0 at hm;refine aq (dy.mp hm) λn hn a=>?_;subst a;exact rG c k n xz (S0.mp b) hn
def acL(h:mv∈ly S):mv∈pj S:=f6 _ h
def ad6(d:∀k∈S.ck,lL k.tn k.es)(h:mv∈ly S):iU (jf S mv)<iU S:=by
 refine fE (Ve h) λc k n a b f=>?_;subst a;refine aP (Gj (d k<|bz b) f) λi _ a g=>?_;subst a;refine Eo g λe r j=>?_;unfold jf;rw[dt (show ¬(ac2 : bx)="do" from dk)];show iU (jG S ((c:Int)).toNat ((i:Int)).toNat)<iU S;rw[jQ,jQ];exact adm b j
def bb.HZ{t:a9}(M:bb t C CT H m A S)(a:cX m A b):∃o,H b=a_ o/\((∃C dx fs,o=.ins C dx fs)\/∃xs,o=.lst xs):=by
 cases a with
 | m=>obtain⟨dx,fs,h,_⟩:=M.obj;exact⟨_,h,.inl ⟨_,_,_,xz⟩⟩
 | lt=>exact⟨_,M.lt,.inr ⟨_,xz⟩⟩
 | pl=>exact⟨_,M.pl,.inr ⟨_,xz⟩⟩
 | ct=>exact⟨_,M.ct,.inr ⟨_,xz⟩⟩
 | rg=>exact⟨_,M.rg,.inr ⟨_,xz⟩⟩
 | ce=>exact⟨_,M.ce,.inr ⟨_,xz⟩⟩
 | ac=>obtain⟨vs,h,_⟩:=M.ac;exact⟨_,h,.inr ⟨_,xz⟩⟩
 | cm=>exact⟨_,M.cm,.inr ⟨_,xz⟩⟩
 | rs h=>obtain⟨c,_,q⟩:=qf M.rs h;exact⟨_,q,.inr ⟨_,xz⟩⟩
 | cs h=>obtain⟨c,_,q⟩:=qf M.cs h;exact⟨_,q,.inr ⟨_,xz⟩⟩
 | ts h h2=>
  exact aq (qf M.ts h) λc _ q=>oE (q.there _ h2) λo e=>⟨o,e,q.kinds _ h2 _ e⟩
def bb.D8{t:a9}(M:bb t C CT H m A S):∀k∈S.ck,lL k.tn k.es:=λk a=>by
 refine oE (oW a) λi hi=>?_;exact aq (M.xR hi) λx _ T=>T.wf
section
variable{t:a9}{C CT:e_}
def Wa(t:a9)(C CT PT:e_):Sp:=λvs H Q _=>∃m A S fx n,∃J:Mc->Prop,vs=[.ref m]/\bb t C CT H m A S/\kQ fx m A/\iJ n S/\n+iU S<=10000/\dm PT LP LQ H/\J S/\(∀T n a,J T->iJ n T->(∀k∈T.ck,lL k.tn k.es)->a∈ly T->J (jf T a))/\
 ∀H' l S' b,J S'->ly S'=[]->iJ b S'->b<=n+iU S->bb t C CT H' m A S'->aZ (cX m A) H H'->dm PT LP LQ H'->Q (.ref l) H'
def Gs:bj [Q_,"made","carries"] fC (aU Nq):=bG
def aey{f PT:e_}(F:aW K "settle" "Machine.settle" Nq f fd)(V:fV K C)(cE:mg aq6 = b_)
  (DC:Mt P w K mg fi C 3 "carries" fC (L7 t C CT PT))
  (DD:Mt P w K mg fi C 7 "do" [Q_,"move"] (PV t C CT PT)):aM P w K mg fi aS 8 f fd fC (Wa t C CT PT):=by
 refine F.ok Gs λaN A _ s H vs Q E hr h=>?_
 refine f9 h λm A S fx n y=>ahY y λJ y M L W hn aX=>?_;subst y;refine nF aX λlam hJ hJs q=>?_;have uJ:=hr.mono (show 3<=7 by decide);refine let a:TS:=_;let c:TS:=_;let d:TS:=_;let g:TS:=_;⟨_,ay (bP (i:=1) Gs.nd xz (aL xz)<|dP af)<|pR g<|ay (bP (i:=2) Gs.nd xz (aL xz)<|ph (pv 0) V.cl DC uJ)<|pR d<|ay (MO gJ (bA zz (bw dE xz cE q_<|ae (pv 2) af) ax<|bo _)<|pR c<|ay (dC<|jX (pv 0) V.cl DD hr<|ae (aO cG (pv 2) ax) af)<|pR a<|ay (dC<|je m_ n_ o_ m5 (pv 1)<|ae (aO cG (pv 2) ax) af)<|aB<|bP (i:=2) Gs.nd xz (aL xz)<|ph (pv 0) V.cl DC uJ)<|aB<|a8<|pv 1,?_⟩;have hsz:=eA;refine⟨qc,λlw nw=>?_⟩;have r:ak H (cB H lw<|.lst []):=aH (ak.f8 _) nw;have X:cB H lw (.lst []) lw=a_ (.lst []):=av
 have nIn:¬cX m A lw:=λz=>by
  refine aq (M.HZ z) λo e _=>?_;rw[nw]at e;cases e
 generalize cB H lw (.lst [])=H0 at r X ⊢;refine b9 (id (M.same r).obj) λdx fs hm G=>vM xz hm (G.ms _ dk) (m8 m A S xz (M.same r) W.wf.four (lX lam r) λH1 j cs Y yc Z hc Ci=>⟨λμ σ l=>∃S' ws j cs x,σ=[a_ (.ref m),a_<|.ref lw,a_<|.ref j]/\μ=iU S'/\J S'/\bb t C CT l m A S'/\iJ x S'/\ws.length+iU S'<=iU S/\x+iU S'<=n+iU S/\dm PT LP LQ l/\aZ (cX m A) H l/\l lw=a_ (.lst ws)/\l j=a_ (.lst cs)/\¬cX m A j/\j≠lw/\aA (pK l) cs (ly S'),⟨_,S,[],j,cs,n,xz,xz,hJ,(M.same r).vE Y,W,by simp,aD _,yc,(aZ.of r).f4 (Y.mono λb z=>z.elim),Y.xU X,hc,λz=>?_,λz=>?_,Ci⟩,?_⟩)
 .refine aq ((M.same r).HZ z) λo e _=>?_;rw[Z]at e;cases e
 .rw[z,X]at Z;cases Z
 rintro μ σ l ⟨S',ws,j,cs,x,rfl,rfl,hC,M2,B,jN,yw,yb,k2,yo,Fe,Rr,ncw,aaL⟩;have wG:=r_ aaL;refine vr xz<|di j cs xz (.inl<|ao.of Fe) ⟨_,⟨_,xz,xz,_,xz,bQ (λcu=>?_) λsJ=>?_⟩⟩
 .have qC:0<cs.length:=li;have h0:cs[0]?=a_ cs[0]:=aQ qC;refine aq (pe aaL h0) λN hmv y=>aq y λp ep hp=>?_;have jM:=bz hmv;have IZ:=acL jM;have hwt:=ad6 M2.D8 jM;refine⟨λσ' H'=>∃μ',μ'<iU S'/\∃u ED O cs' n'',σ'=[a_ (.ref m),a_<|.ref lw,a_<|.ref O]/\μ'=iU u/\J u/\bb t C CT H' m A u/\iJ n'' u/\ED.length+iU u<=iU S/\n''+iU u<=n+iU S/\dm PT LP LQ H'/\aZ (cX m A) H H'/\H' lw=a_ (.lst ED)/\H' O=a_ (.lst cs')/\¬cX m A O/\O≠lw/\aA (pK H') cs' (ly u),λσ' H' z=>z,b9 (id M2.obj) λwK sQ Ke G2=>?_⟩;have hat:gd cs (0:Nat)=a_ (.ref p):=by rw[<-ep];exact bZ h0
  refine vM xz Ke (G2.ms _ dk)<|vr xz<|rL (v:=.ref p) (ao.of Fe) (hat)<|⟨m,A,S',p,N,fx,xz,M2,L,B.wf,(B.ovf li),yb,hp,IZ,(λD M3 R Qq=>?_)⟩;have T:=R.k _ _ nIn (λps z=>by cases z) yo;have hc3:=R.k _ _ Rr (λps z=>by cases z) Fe;refine c8 _ xz (.inl ⟨xz,_,ao.of T⟩)<|vr xz<|rL (v:=.ref p) (ao.of hc3) (hat)<|m8 lw ws (.ref p) xz xz T (by rw[hsz];lia) ?_;have U:aZ (λb=>b=lw) D (cB D lw<|.lst<|ws++[.ref p]):=aZ.cB rfl;have I:=M3.Pd U λb z=>⟨by rw[z];exact nIn,λo e=>by rw[z,T]at e;cases e;exact⟨_,xz⟩⟩;have aat:=NJ (o:=.lst<|ws++[.ref p]) T Qq;have pS:cB D lw (.lst<|ws++[.ref p]) lw=a_ (.lst<|ws++[.ref p]):=av;have K4:aZ (cX m A) H (cB D lw<|.lst<|ws++[.ref p]):=⟨λb o h1 h2 e=>U.k b o (λz=>by rw[z,nw]at e;cases e) h2<|R.k b o h1 h2<|k2.k b o h1 h2 e,λb e=>k2.t b<|R.t b<|U.t b e⟩;generalize cB D lw (.lst<|ws++[.ref p])=H4 at U I aat pS K4 ⊢;have W4:=XA B li IZ;refine b9 (id I.obj) λdx4 fs4 lh G4=>vM xz lh (G4.ms _ dk) (m8 m A (jf S' N) xz I W4.wf.four aat λH5 lc5 cs5 k5 anG Rq Ki aos=>⟨_,⟨hwt,jf S' N,ws++[.ref p],lc5,cs5,x+1,xz,xz,hJs S' x N hC B M2.D8 jM,I.vE k5,W4,by rw[ba];simp;lia,li,anG,K4.f4 (k5.mono λb z=>z.elim),k5.xU pS,Ki,λz=>?_,λz=>?_,aos⟩⟩)
  .refine aq (I.HZ z) λo e _=>?_;rw[Rq]at e;cases e
  rw[z,pS]at Rq;cases Rq
 have e0:ly S'=[]:=qU.mp li;exact vr xz<|q l lw S' x hC e0 B li M2 k2 yb
end
def IG(S:Mc):Prop:=∀k∈S.ck,∀e∈k.es,(0:Int)<=e.n/\e.n<12
def aeW(h:∀e∈es,(0:Int)<=e.n/\e.n<12)(hn:n∈iT kd es):0<=n/\n<12:=by
 unfold iT at hn
 split at hn
 .cases es with
  | nil=>cases hn
  | cons e r=>
   have a:n=e.n:=by simpa using hn
   rw[a];exact h e (by simp)
 refine aP (A'.mp hn) λi hi e _=>?_;lia
def WU:(jG S c n).ac=S.ac/\(jG S c n).ps=S.ps/\(jG S c n).ov.length=S.ov.length/\(IG S->IG (jG S c n)):=by
 unfold jG;cases e:S.ck[c]? with
 | none=>exact⟨xz,xz,xz,λh=>h⟩
 | some k=>
  dsimp only;cases (cq k.es n).head? with
  | none=>exact⟨xz,xz,xz,λh=>h⟩
  | some x=>
   refine⟨xz,xz,qa,(λh k' b y a=>?_)⟩;obtain z|z:=Kw b
   .exact h _ z y a
   rw[z]at a;exact h k (bz e) y<|abt a
structure EB(S S':Mc):Prop where
 cV:dS S'
 nm:IG S'
 ac:S'.ac=S.ac
 ps:S'.ps=S.ps
 ov:S'.ov.length=12
def EB.car(a:EB S S1)(h:mv∈ly S1):EB S (jf S1 mv):=by
 obtain⟨c,k,n,rfl,b,d⟩:=Ve h;refine oA (aeW (a.nm k<|bz b) d) λn1 e=>?_;unfold jf;rw[dt (show ¬(ac2 : bx)="do" from dk)];have z:=WU (S:=S1) (c:=((([c,n]:List Int)).getD 0 0).toNat) (n:=((([c,n]:List Int)).getD 1 0).toNat);exact⟨a.cV.carry (by rw[a.ov];show n.toNat<12;lia),z.2.2.2 a.nm,z.1.f4 a.ac,z.2.1.f4 a.ps,z.2.2.1.f4 a.ov⟩
theorem XE:∀(l:List g8)(i:Nat),(mw i l).length<=l.length
 | [],_=>aD _
 | a::l,i=>by
  show (pI a i++mw (i+1) l).length<=l.length+1;have:=XE l<|i+1;rw[ba];unfold pI
  split
  .show 0+_<=_;lia
  show 1+_<=_;lia
def dS.akJ(h:dS S):iU S<=S.ac.length:=by
 have h1:=h.pm.length_eq;have h2:=XE S.ac 0;unfold vQ at h1;rw[ba,List.length_flatMap]at h1
 have h3:iU S=(S.ck.map λk=>(dQ k).length).sum:=by
  unfold iU dQ;simp only[aG]
 lia
def aeH(W:iJ n S)(h:mv∈pj S):(jf S mv).ac.length<=S.ac.length+1/\(jf S mv).ps=S.ps:=by
 obtain⟨c,rfl,b,d⟩|⟨c,k,i,rfl,a,q⟩:=Ba h
 .refine kL (GA W.wf b d) λk p s _ a j=>du j λl m g=>aP (XM W g a) λk' f r t=>?_;have o:(cO S c s).ck[c]?=a_ k':=by rw[f.ck];exact lU b
  have e:jf S ("do",[(c:Int)])=ui (cO S c s) c s:=by
   unfold jf;rw[dL rfl];show si S ((c:Int)).toNat=_;rw[jQ];unfold si;rw[a,l];dsimp only;rw[m]
  rw[e];unfold ui;rw[o];exact⟨f.Er,f.ps⟩
 unfold jf;rw[dt (show ¬(ac2 : bx)="do" from dk)];have z:=WU (S:=S) (c:=((([c,i]:List Int)).getD 0 0).toNat) (n:=((([c,i]:List Int)).getD 1 0).toNat);exact⟨by rw[z.1];exact jT _,z.2.1⟩
def By(S:Mc)(c:Nat):Prop:=∃k,S.ck[c]?=a_ k/\k.es≠[]/\∀(i:Nat)k',i<c->S.ck[i]?=a_ k'->k'.es=[]
def xQ(S:Mc):Prop:=∀(i:Nat)k,S.ck[i]?=a_ k->k.es=[]
section
variable{t:a9}{C CT:e_}
def Y4(C:e_):Sp:=λvs H Q _=>∃a b c,vs=[.ref a,c]/\H a=a_ (pP a (.ref C) b_ b)/\∀d,H d=b_->Q .aJ (cB (cB H a<|pP a (.ref C) (a_ d) b) d<|uq d [(X_,c)])
def ak0:bj g5 g5 (aU PZ):=bG
def ajj(F:aW K K_ "Waiting.__init__" PZ f fd)(xf:XF K C)(n1:bU K C X_):aM P w K mg fi aS 1 f fd g5 (Y4 C):=by
 refine F.ok ak0 λaN A _ s H vs Q E d h=>?_;refine fE h λa e c b ha k=>?_;clear h;subst b;exact rZ (aB<|afJ (pv 0) (pv 1) xz)<|vr xz<|vr xz<|m8 a C _ xz ha xf n1 k
def Yb(t:a9)(C CT a:e_):Sp:=λvs H Q E=>∃m A S,vs=[.ref m]/\bb t C CT H m A S/\i6 S/\S.ac.length<=60/\(xQ S->∀H',ak H H'->Q .aJ H')/\
 ∀c,By S c->∀d H',ak H H'->H' d=a_ (uq d [(X_,.int (c:Nat))])->E (.ref a) (a_ d) H'
def Yk:bj ["machine",X_] fF (aU O0):=bG
def ahN(F:aW K "refuse_waiting" "refuse_waiting" O0 f fd)(r:fV K C)(D:mg aq6 = b_)(O:mg aq3 = b_)(R:Mt P w K mg fi C 2 "waiting" g5 (LZ t C CT))(T:QT K cW fI)(U:aM P w K mg fi aS 1 fI hV g5 (Y4 cW))(V:d5 K hV g5 [])(X:mg "Waiting"=a_ (.ref cW)):aM P w K mg fi (kZ P w) 3 f fd fF (Yb t C CT cW):=by
 refine F.QM Yk λaN A outer s H vs Q E I Y u h=>?_
 obtain⟨m,A,S,a,M,W,dD,q,Z⟩:=h;subst a;refine⟨_,aB<|ik u xz (ju xz O<|ae (bw dE xz D q_<|ae (bT (pv 0) xz) af) af) (bC (i:=1) Yk.nd xz<|aL xz)<|aB<|bX (bA zz (bw dE xz D q_<|ae (jX (pv 0) r.cl R I<|ae (pv 1) af) af) ax<|bo _) (aB<|aeh xz Y T U (I.mono qc) V xz X<|ae (pv 1) af) cj,?_⟩;have h4:=W.good.le;refine b9 (id M.obj) λdx fs hm G=>cZ (id M.pg) λpa pv ep u v=>?_;cases ep;refine vF xz hm r.cl r.program G.program ⟨A.pg,⟨_,xz,.inr<|aF.of u,_,xz,by rw[r_ v];lia,by rw[r_ v];lia,?_⟩⟩;rw[show ((pv.length:Int)).toNat=S.ck.length by rw[r_ v,W.len];lia];refine nY (n:=S.ck.length) (λi σ H'=>i<=S.ck.length/\∃c,σ=[a_ (.ref m),c]/\ak H H'/\∀(j:Nat)k',j<i->S.ck[j]?=a_ k'->k'.es=[]) ⟨aY _,b_,xz,ak.f8 _,λj k' J=>dV J<|CK _⟩ ?_ ?_
 .intro i σ H1 hi x;refine oA x λ_ a=>?_;refine aP a λc a s1 p=>?_;subst a;rw[lW];have b:=aQ hi;have pW:=W.es _<|bz b;refine vM xz (s1 _ _ hm) (G.ms _ dk)<|vr xz<|⟨m,A,S,i,_,xz,(M.same s1),b,li,(λH2 l us s2 nl hl dM=>?_)⟩;have L:=dM;refine di l _ xz (.inl<|ao.of hl) ⟨_,⟨_,xz,xz,_,xz,bQ (λz=>?_) λz=>?_⟩⟩
  .have fZ:S.ck[i].es≠[]:=λe=>by rw[e]at L;rw[L]at z;exact dV z qc
   refine vr xz ⟨by show 1<=bp;decide,(λea ta Sd=>⟨ea,_,.int i,xz,av,λd hd=>⟨xz,a_ d,?_,?_⟩⟩)⟩
   .rw[ag<|a7 av hd];exact av
   have y:=s1.f4 s2;have N:d≠ea:=λz=>by rw[z,av]at hd;cases hd
   refine Z i ⟨_,b,fZ,p⟩ d _ (λg o e=>?_) ?_
   .have n1:=a7 (y _ _ e) Sd
    have n2:g≠d:=λz=>by
     rw[z]at e;rw[ag N,y _ _ e]at hd;cases hd
    rw[zu n1,ag n2,ag n1,ag n1];exact y _ _ e
   rw[zu N];exact av
  refine⟨hi,⟨_,xz,s1.f4 s2,λj k' J B=>?_⟩⟩
  by_cases e:j=i
  .subst e;rw[b]at B;cases B;exact qU.mp li
  exact p j _ li B
 intro σ H1 x;refine oA x λ_ a=>?_;refine aP a λc a s1 p=>?_;subst a;exact q (λi k b=>p i k (bu.mp b).1 b) _ s1
end
def adx(S:Mc)(i:Nat):pB S (i+1)=pB S i++(qt S i).toList:=by
 unfold pB;rw[kF,Tn];cases h:qt S i <;> simp[h]
def Ge(S:Mc)(i:Nat):(pB S i).length<=i:=by
 have:=S8 (qt S)<|List.range i;rw[jB]at this;exact this
section
variable{t:a9}{C CT:e_}
def afy:bj fF fF (aU Nw):=bG
def Zj:([R_,"deed"]:List bx).Nodup:=dk
def ahF(F:aW K "by_seen" "by_seen" Nw f fd)(T:fV K C)(U:mg "enumerate"=b_)(V:Mt P w K mg fi C 1 "deeds" fC (Bi t C CT)):aM P w K mg fi aS 2 f fd fF (xx t C CT λS=>pB S S.ac.length):=by
 refine F.ok afy λaN A _ s H vs Q E X h=>?_
 obtain⟨m,A,S,z,M,W,dD,Z,q⟩:=h;subst z
 refine⟨_,aB (a8 (jc (N:=[R_,"deed"]) (idx:=[]) xz (dJ.of<|by kernel_rfl) (yT (aY _)<|aY _) (zf (b:=c_) xz U<|ae (ph (pv 0) T.cl V X) af)
    (λ_ _ _ _=>nz xz<|eT (bC (i:=0) Zj xz (aL xz)<|.inr xz)<|eT (bC (i:=1) Zj xz (aL xz)<|.inr xz) ni)
    (λ_ _ _ _=>xp<|bA NF (aO (zC K) (pv 1) ax) og<|bo _) λ_ _ _ _=>fA<|ae (aO (zC K) (pv 1) ax)<|ae (pv 0)<|ae cU af)),?_⟩
 have J:=eA;refine b9 (id M.obj) λdx fs hm G=>vM xz hm (G.ms _ dk) (rG m A S xz M λk ws nd Y=>?_);have r:cB H k (.lst ws) k=a_ (.lst ws):=av;have s2:ak H (cB H k<|.lst ws):=aH (ak.f8 _) nd;have B:=df Y λ_ _(q:lF H _ _)=>aq q λp e h=>(⟨p,e,s2 _ _ h⟩:lF (cB H k<|.lst ws) _ _);generalize cB H k (.lst ws)=H2 at r s2 B ⊢;have kh:=r_ B;refine⟨k,⟨_,xz,ao.of r,gC (n:=S.ac.length) (λj ys H'=>j<=S.ac.length/\ak H2 H'/\aA (c9 H') ys (pB S j)) (by rw[J];lia) (eM (aY _) (ak.f8 _) .nil) ?_ ?_ ?_ ?_ ?_⟩⟩
 .intro j ys H' g;refine du g λ_ _ e=>?_;rw[r_ e];exact Ge _ _
 .intro j ys H' D g;refine du g λ_ c _=>?_;exact fh _ (ws[j]' li) (ao.of<|c _ _ r)<|aQ _
 .intro ys H' g;refine du g λ_ c _=>?_;exact au _ (ao.of<|c _ _ r) li
 .intro j ys u D g v H4 iB;refine du g λ_ c e=>?_;refine iG iB λp x np ev eH hx=>?_;subst ev;subst eH;have fu:=hx _<|ao.of<|c _ _ r;refine aq (pe B fu) λa ha z=>aq z λy ex uK=>?_;subst ex;have l:=aH (o:=.tup [.int j,.ref y]) (ak.f8 u) np;have L:cB u p (.tup [.int j,.ref y]) p=a_ (.tup [.int j,.ref y]):=av;generalize cB u p (.tup [.int j,.ref y])=H5 at l L ⊢;have O:=l _ _<|c _ _ uK;refine⟨p,⟨_,xz,aF.of L,xz,_,_,xz,_,[],xz,xz,iI (v:=oV a.seen) (j:=5) xz O xz ⟨xz,_,xz,?_⟩⟩⟩;have hO:qt S j=a.seen.map λd=>(d,(j:Int),("seen":bx)):=by unfold qt;rw[ha];rfl
  rw[adx,hO];cases hs:a.seen with
  | none=>
   refine eM D (c.f4 l) ?_;show aA _ ys (pB S j++[]);rw[gj];exact c9.all e λb xs e=>l _ _ e
  | some d=>
   exact iI (v:=.int d) (j:=5) xz O (by unfold IE;rw[hs];rfl) ⟨_,xz,(sl (n:=3)),λtp R=>⟨D,aH (c.f4 l) R,qe (c9.all e λb xs e=>aH l R _ _ e)<|au tp xz av⟩⟩
 intro ys u g;refine du g λ_ c e=>?_;have qQ:=Ge S S.ac.length;exact⟨by rw[r_ e,J];lia,λrl I=>q _ rl ys (s2.f4<|aH c I) ((s2.f4 c).free I) av<|c9.all e λb xs e=>aH (ak.f8 _) I _ _ e⟩
end
def UJ(S:Mc)(i:Nat):qp S (i+1)=qp S i++(mf S i).toList:=by
 unfold qp;rw[kF,Tn];cases h:mf S i <;> simp[h]
def LS(S:Mc)(i:Nat):(qp S i).length<=i:=by
 have:=S8 (mf S)<|List.range i;rw[jB]at this;exact this
section
variable{t:a9}{C CT:e_}
def A9:bj ["machine","behind","found",R_,"deed",aq1] fF (aU MN):=bG
def afT(F:aW K "by_ahead" "by_ahead" MN f fd)(cM:fV K C)(uM:mg "enumerate"=b_)(GB:aM P w K mg fi aS 2 fB nO fF (Wi t C CT))(FB:aW K "comers_behind" "comers_behind" Hf fB nO)(bB:d5 K nO fF [])(mB:mg "comers_behind"=a_ (.ref fB))(DD:Mt P w K mg fi C 1 "deeds" fC (Bi t C CT)):aM P w K mg fi aS 3 f fd fF (xx t C CT λS=>qp S S.ac.length):=by
 refine F.ok A9 λaN A _ s H vs Q E hr h=>?_
 obtain⟨m,A,S,u,M,W,dD,Z,q⟩:=h;subst u;have iM:=hr.mono (show 1<=2 by decide);refine let d:TS:=_;let l:TS:=_;let r:TS:=_;⟨_,ay (bP (i:=1) A9.nd xz (aL xz)<|jU GB hr xz mB FB.kp bB .nil dh<|ae (pv 0) af)<|pR r<|ay (bP (i:=2) A9.nd xz (aL xz)<|dP af)<|pR l<|ay (ik gJ xz (zf (b:=c_) xz uM<|ae (ph (pv 0) cM.cl DD iM) af) (nz xz<|eT (bC (i:=3) A9.nd xz<|aL xz)<|eT (bC (i:=4) A9.nd xz<|aL xz) ni)<|pR d<|ay (bP (i:=5) A9.nd xz (aL xz)<|MP (bA Ou (aO cw (pv 4) ax) og<|bo _) og<|afO (kJ hr) (pv 1) (fA<|ae (aO cw (pv 4) ax)<|ae (aO cw (pv 4) ax) af) ⟨xz,xz,xz,xz⟩)<|aB<|bX (PW.pt<|pw_and (bA NF (pv 5) og<|bo _)<|pw_and1<|bA xG (pv 5) (pv 3)<|bo _) (aB<|dC<|je m_ n_ o_ m5 (pv 2)<|ae (fA<|ae (pv 3)<|ae (pv 5)<|ae cU af) af) cj)<|aB<|a8<|pv 2,?_⟩;have hsz:=eA;refine vr xz<|⟨m,A,S,xz,M,W,dD,Z,(λH0 U fv s0 nb hb hB=>⟨qc,λlw nw=>?_⟩)⟩;have s1:=aH (o:=.lst []) s0 nw;have jN:=aH (o:=.lst []) (ak.f8 H0) nw _ _ hb;have nw':=s0.free nw;have R:cB H0 lw (.lst []) lw=a_ (.lst []):=av;generalize cB H0 lw (.lst [])=D at s1 jN R ⊢;refine b9 (id M.obj) λdx fs hm G=>vM xz (s1 _ _ hm) (G.ms _ dk) (rG m A S xz (M.same s1) λI ws nd k8=>?_);have hd2:cB D I (.lst ws) I=a_ (.lst ws):=av;have s2:ak D (cB D I<|.lst ws):=aH (ak.f8 _) nd;have pL:=df k8 λ_ _(q:lF D _ _)=>aq q λp e h=>(⟨p,e,s2 _ _ h⟩:lF (cB D I<|.lst ws) _ _);have n1:I≠lw:=λz=>by rw[z,R]at nd;cases nd
 have n2:U≠lw:=λz=>by rw[z,R]at jN;cases jN
 generalize cB D I (.lst ws)=H2 at hd2 s2 pL ⊢;have kh:=r_ pL
 let W1:IV:=λj σ H'=>j<=S.ac.length/\∃a b c us,σ=[a_ (.ref m),a_<|.ref U,a_<|.ref lw,a,b,c]/\ak H H'/\H' U=a_ (.dT fv)/\H' I=a_ (.lst ws)/\aA (lF H') ws S.ac/\H' lw=a_ (.lst us)/\aA (c9 H') us (qp S j)
 refine⟨I,⟨_,xz,ao.of hd2,DJ (n:=S.ac.length) W1 ⟨aY _,b_,b_,b_,[],xz,s1.f4 s2,s2 _ _ jN,hd2,pL,s2 _ _ R,.nil⟩ ?_ ?_ ?_ ?_⟩⟩
 .intro j σ H' hj J;refine oA J λ_ u=>kL u λ_ _ _ _ u L=>?_;subst u;exact nF L λ_ _ hd _=>fh _ (ws[j]' li) (ao.of hd)<|aQ _
 .intro σ H' J;refine oA J λ_ u=>kL u λ_ _ _ _ u L=>?_;subst u;exact nF L λ_ _ hd _=>au _ (ao.of hd) li
 .intro j σ H3 hj J v H4 iB;refine oA J λ_ u=>kL u λx1 x2 x3 us u L=>?_;subst u;refine qk L λs3 Ay Fd aav qJ dM=>iG iB λp x np ev eH hx=>?_;subst ev;subst eH;have fu:=hx _<|ao.of Fd;refine aq (pe aav fu) λa ha u=>aq u λX ex uK=>?_;subst ex;have y:=aH (o:=.tup [.int j,.ref X]) (ak.f8 H3) np;have km:cB H3 p (.tup [.int j,.ref X]) p=a_ (.tup [.int j,.ref X]):=av;generalize cB H3 p (.tup [.int j,.ref X])=N at y km ⊢;have BQ:=y _ _ uK;have aE:=Z.ok j a ha;have hO:mf S j=rH S j a:=by unfold mf;rw[ha];rfl
  have aau:=df aav λ_ _(q:lF H3 _ _)=>aq q λp e h=>(⟨p,e,y _ _ h⟩:lF N _ _);have IM:=c9.all dM λb xs e=>y _ _ e;have lg:=r_ dM;have hal:=LS S j;refine⟨p,⟨_,xz,aF.of km,xz,_,_,xz,_,[],xz,xz,iI (v:=oV a.got) (j:=3) xz BQ xz ⟨xz,_,xz,?_⟩⟩⟩
  have stop:∀{O:Hp}{o:Option V},ak N O->mf S j=b_->W1 (j+1) [a_ (.ref m),a_<|.ref U,a_<|.ref lw,a_<|.int j,a_<|.ref X,o] O:=λ{O o}B e=>⟨hj,_,_,_,us,xz,(s3.f4 y).f4 B,B _ _<|y _ _ Ay,B _ _<|y _ _ Fd,df aau λ_ _(q:lF N _ _)=>aq q λp e h=>⟨p,e,B _ _ h⟩,B _ _<|y _ _ qJ,by
   rw[UJ,e];show aA _ us (qp S j++[]);rw[gj];exact c9.all IM λb xs e=>B _ _ e⟩
  cases hg:a.got with
  | none=>
   refine bQ (λ_=>?_) λz=>dV xz z;refine c8 _ xz xz<|au _ xz<|Ia xz<|dG<|stop (ak.f8 _) ?_;rw[hO];unfold rH;rw[dL];obtain h|h|h:=aE.k
   .exact h.1
   .rw[hg]at h;cases h.2
   rw[hg]at h;cases h.2
  | some g=>
   refine bQ (λz=>nomatch z) λ_=>?_
   have mJ:a.k ≠ L_:=λz=>by
    obtain h|h|h:=aE.k
    .rw[hg]at h;cases h.2
    .rw[z]at h;exact dV h.1 dk
    rw[z]at h;exact dV h.1 dk
   refine vr xz<|c8 U xz (.inr ⟨fv,.inl<|y _ _ Ay⟩)<|iI (v:=.int (a.n:Nat)) (j:=2) xz BQ xz<|iI (v:=oV a.seen) (j:=5) xz BQ xz ⟨(sl (n:=2)),λtp Rf=>?_⟩;have B:=aH (o:=.tup [.int (a.n:Nat),oV a.seen]) (ak.f8 N) Rf;have kj:cB N tp (.tup [.int (a.n:Nat),oV a.seen]) tp=a_ (.tup [.int (a.n:Nat),oV a.seen]):=av;generalize cB N tp (.tup [.int (a.n:Nat),oV a.seen])=O at B kj ⊢
   have hA:mf S j=(nextM (S.ov.getD a.n []) a.seen).bind λb=>if b=(j:Int) then b_ else a_ ((j:Int),b,(aq8 : bx)):=by
    rw[hO];unfold rH;rw[dt mJ]
   refine au _ (i5.t (k:=[.inl (a_ (a.n:Int)),.inl a.seen]) (B _ _<|y _ _ Ay)<|by rw[kj,Ze];rfl) ?_;rw[hB a.n a.seen aE.n];cases hn:nextM (S.ov.getD a.n []) a.seen with
   | none=>
    refine c8 _ xz xz<|au _ xz<|Ia xz<|dG<|stop B ?_;rw[hA,hn];rfl
   | some b=>
    rw[hn]at hA;rw[show (Option.map V.int<|a_ b).getD V.aJ=V.int b from rfl];refine c8 _ xz xz<|au _ xz (jY (λ_=>?_) λz=>nomatch z);refine vr xz<|vr xz ⟨xz,⟨_,xz,jY (λz=>?_) λz=>?_⟩⟩
    .have iL:=B _ _<|y _ _ qJ;refine vr xz ⟨.inl ⟨xz,_,ao.of iL⟩,⟨_,xz,_,xz,(sl (n:=3)),λT ntq=>?_⟩⟩;have s7:=aH (o:=.tup [.int j,.int b,.str aq8]) (ak.f8 O) ntq;have htq:cB O T (.tup [.int j,.int b,.str aq8]) T=a_ (.tup [.int j,.int b,.str aq8]):=av;generalize cB O T (.tup [.int j,.int b,.str aq8])=H7 at s7 htq ⊢;have Y:=B.f4 s7;have jj:=s7 _ _ iL;have kt:=tT (o:=.lst<|us++[.ref T]) jj;refine nN lw us<|lC _ xz xz jj (by rw[hsz];lia) hj ⟨_,_,_,us++[.ref T],xz,ma ((s3.f4 y).f4 Y) nw',?_,?_,df aau λ_ _(q:lF N _ _)=>aq q λp e h=>⟨p,e,kt _ _<|Y _ _ h⟩,av,?_⟩
     .rw[ag n2];exact Y _ _<|y _ _ Ay
     .rw[ag n1];exact Y _ _<|y _ _ Fd
     rw[UJ,hA];show aA _ _ (qp S j++(if b=(j:Int) then b_ else a_ ((j:Int),b,(aq8 : bx)):Option T3).toList);rw[dt λe=>z (by rw[e])];exact qe (c9.all IM λb xs e=>kt _ _<|Y _ _ e)<|au T xz<|kt _ _ htq
    refine stop B ?_;rw[hA];show (if b=(j:Int) then b_ else _)=b_;rw[dL<|V.int.inj z]
 intro σ D J;refine oA J λ_ u=>kL u λ_ _ _ us u L=>?_;subst u;exact qk L λs1 _ _ _ R dM=>vr xz<|q D lw us s1 nw' R dM
end
theorem NX:∀{us:List V}{L:List T3},aA (c9 H) us L->∀q∈L.zip us,c9 H q.2 q.1
 | _,_,.nil,_,h=>nomatch h
 | _,_,.cons h r,q,hq=>by
  obtain z|z:=bq.mp hq
  .rw[z];exact h
  exact NX r q z
theorem W9:∀{qs:List (T3×V)},(∀q∈qs,c9 H q.2 q.1)->aA (c9 H) (qs.map (·.2)) (qs.map (·.1))
 | [],_=>.nil
 | q::qs,h=>.cons (h q<|.head _) (W9 λq a=>h q<|.tail _ a)
structure NR(B L:List T3):Prop where
 mem:∀x,x∈B↔x∈L
 asc:B.Pairwise (λx y=>jh x y=c_)
 len:B.length=L.length
def afo{K:u_}(g:H l=a_ (.lst us))(c:aA (c9 H) us L)(i:L.length<=100000)(nd:L.Nodup)(q:∀r ws B,H r=b_->NR B L->aA (c9<|cB H r<|.lst ws) ws B->Q (.ref r) (cB H r<|.lst ws)):Yp K [.ref l] H Q:=by
 have j:=r_ c;have e:(L.zip us).map (·.1)=L:=acj li;refine⟨l,(L.zip _),xz,(ao.of<|by rw[g,TU li]),(by rw[eA,yI];lia),(λq d=>aq (NX c q d) λa ea h=>⟨a,ea,aF.of h⟩),(by rw[e];exact nd),(λr qs f pm asc=>q r _ _ f ⟨λx=>?_,uY _ (λa b z=>z) asc,by rw[aG,pm.length_eq,yI];lia⟩<|W9 λq d=>aq (NX c q<|pm.mem_iff.mp d) λa ea h=>⟨a,ea,aH (ak.f8 _) f _ _ h⟩)⟩;have:=(pm.map (·.1)).mem_iff (a:=x);rwa[e]at this
section
variable{t:a9}{C CT:e_}
def Wj(t:a9)(C CT a:e_):Sp:=λvs H Q E=>∃m A S,vs=[.ref m]/\bb t C CT H m A S/\i6 S/\S.ac.length<=60/\
 (xQ S->ke S/\∀H' l us B,ak H H'->H l=b_->H' l=a_ (.lst us)->aA (c9 H') us B->NR B (iF S)->Q (.ref l) H')/\
 ∀c,By S c->∀d H',ak H H'->H' d=a_ (uq d [(X_,.int (c:Nat))])->E (.ref a) (a_ d) H'
def afA:bj fF fF (aU Ny):=bG
def aeu(F:aW K "before" "before" Ny f fd)(RG:mg "sorted"=b_)(GR:aM P w K mg fi (kZ P w) 3 fR fdR fF (Yb t C CT cW))(kR:x_ K (.ref fR)=c_)(bR:d5 K fdR fF [])(mR:mg "refuse_waiting"=a_ (.ref fR))(DO:Dp P w K mg fi 2 "by_own" fF (xx t C CT λS=>oz S S.ps.length))(DS:Dp P w K mg fi 2 "by_seen" fF (xx t C CT λS=>pB S S.ac.length))(DV:Dp P w K mg fi 2 "by_over" fF (xx t C CT λS=>qw S 12))(DA:Dp P w K mg fi 3 "by_ahead" fF (xx t C CT λS=>qp S S.ac.length)):aM P w K mg fi (kZ P w) 4 f fd fF (Wj t C CT cW):=by
 refine F.QM afA λaN A outer s H vs Q E l hL hp h=>?_
 obtain⟨m,A,S,aa,M,W,y,q,qx⟩:=h;subst aa;have n:=l.mono (show 2<=3 by decide);refine⟨_,ay (dC<|MQ GR l hL xz mR kR bR .nil<|ae (pv 0) af)<|aB<|a8<|bw acZ xz RG boot_sorted<|ae (bg Dz (bg Dz (bg Dz (gF DO n xz<|ae (pv 0) af)<|gF DS n xz<|ae (pv 0) af)<|gF DV n xz<|ae (pv 0) af)<|gF DA l xz<|ae (pv 0) af) af,?_⟩;have p:=eA;refine vr xz<|⟨m,A,S,xz,M,W,y,(λhn H1 s1=>?_),qx⟩;refine oA (q hn) λZ q=>?_;have d:S.ac.length<=3000:=li;have gA:=W.good.le;refine vr xz<|⟨m,A,S,xz,(M.same s1),W,d,Z,(λH2 l2 a s2 n2 h2 z=>?_)⟩;have D:=s1.f4 s2;refine vr xz<|⟨m,A,S,xz,(M.same D),W,d,Z,(λH3 l3 c u n3 h3 G=>?_)⟩;have z1:=r_ z;have y1:=Gy S S.ps.length;have y1':=CL gA y;have z2:=r_ G;have y2:=Ge S S.ac.length;refine mZ _ _ _ _ xz xz (u _ _ h2) h3 (by rw[p,z1,z2];dsimp only;lia) λl4 n4=>?_;have g:=aH (o:=.lst<|a++c) (ak.f8 _) n4;have h4:cB H3 _ _ l4=a_ (.lst<|a++c):=av;generalize cB _ _ _=H4 at g h4 ⊢;have I:=wW (c9.all G λb xs e=>g _ _ e) (c9.all z λb xs e=>g _ _<|u _ _ e);have J:=(D.f4 u).f4 g;refine vr xz<|⟨m,A,S,xz,(M.same J),W,d,Z,(λH5 l5 i v n5 h5 L=>?_)⟩;have N:=r_ I;have z5:=r_ L;have y5:=Gh Z.kY 12;rw[ba (as:=oz _ _)]at N;refine mZ _ _ _ _ xz xz (v _ _ h4) h5 (by rw[p,N,z5];dsimp only;lia) λl6 n6=>?_;have j:=aH (o:=.lst<|a++c++i) (ak.f8 _) n6;have O:cB H5 _ _ l6=a_ (.lst<|a++c++i):=av;generalize cB _ _ _=H6 at j O ⊢;have R:=wW (c9.all L λb xs e=>j _ _ e) (c9.all I λb xs e=>j _ _<|v _ _ e);have T:=(J.f4 v).f4 j;refine vr xz<|⟨m,A,S,xz,(M.same T),W,d,Z,(λH7 l7 U x n7 h7 V=>?_)⟩;have X:=r_ R;have z7:=r_ V;have y7:=LS S S.ac.length;rw[ba (bs:=qw _ _),ba (as:=oz _ _)]at X;refine mZ _ _ _ _ xz xz (x _ _ O) h7 (by rw[p,X,z7];dsimp only;lia) λl8 n8=>?_;have k:=aH (o:=.lst<|a++c++i++U) (ak.f8 _) n8;have Y:cB H7 _ _ l8=a_ (.lst<|a++c++i++U):=av;generalize cB _ _ _=H8 at k Y ⊢;have p8:=wW (c9.all V λb xs e=>k _ _ e) (c9.all R λb xs e=>k _ _<|x _ _ e);have s18:=(T.f4 x).f4 k;have lb:(iF S).length<=100000:=by unfold iF;rw[ba,ba,ba];lia
 exact afo Y p8 lb (afe Z) λr ws B nr hB hP=>q _ r _ B (aH s18 nr) (s18.free nr) av hP hB
end
def af9(h:nextM o s=a_ b):b∈o:=by
 unfold nextM at h;refine b9 (List.lookup_eq_some_iff.mp h) λl1 l2 e _=>?_;have:(s,b)∈(b_::o.map a_).zip o:=by rw[e];simp
 exact(vc this).2
def Pa(Z:ke S)(h:d∈S.ov.getD n []):0<=d/\d<S.ac.length:=by
 cases e:S.ov[n]? with
 | none=>rw[mU,e]at h;cases h
 | some o=>
  rw[jE e]at h;refine cZ (Z.im n o e d h) λj a h1 h2 _=>?_;have:=(bu.mp h2).1;lia
def V1(Z:ke S)(h:x∈iF S):(0<=x.1/\x.1<S.ac.length)/\0<=x.2.1/\x.2.1<S.ac.length:=by
 unfold iF at h;obtain h|h:=cp.mp h
 .obtain h|h:=cp.mp h
  .obtain h|h:=cp.mp h
   .refine aq (oY.mp h) λc _ h2=>iG (Yz h2) λi j e h3 h4 _=>?_;subst e;exact⟨⟨li,by show (i:Int)<_;lia⟩,by show 0<=(j:Int);lia,by show (j:Int)<_;lia⟩
   refine aq (oX.mp h) λj _ h2=>c7 (y4 h2) λa h3 h4 h5 _=>?_;have f:=(bu.mp h3).1;refine cZ (Z.sn j a h3 _ h4) λi o d g _=>?_;lia
  refine aq (oY.mp h) λn _ h2=>oA (Bv.mp h2) λh3 _=>?_;have h4:=vc h3;exact⟨Pa Z h4.1,Pa Z<|abF h4.2⟩
 refine aq (oX.mp h) λj _ h2=>?_;unfold mf at h2;refine aq (AK.mp h2) λa h3 h4=>?_;have f:=(bu.mp h3).1;unfold rH at h4
 split at h4
 .cases h4
 refine aq (AK.mp h4) λb h5 d=>?_
 split at d
 .cases d
 cases d;exact⟨⟨li,by show (j:Int)<_;lia⟩,Pa Z<|af9 h5⟩
def KI.iff(h:KI M B R rd)(e:∀x,x∈B↔x∈B'):KI M B' R rd:=
 ⟨h.nd,h.lt,λi b hi x a=>h.rs i b hi x<|(e x).mpr a,h.rn,λb=>by
  rw[h.rm b,za,za];exact⟨λz=>⟨z.1,z.2.1,z.2.2.1,λx a=>z.2.2.2 x<|(e x).mpr a⟩,λz=>⟨z.1,z.2.1,z.2.2.1,λx a=>z.2.2.2 x<|(e x).mp a⟩⟩,λi b hi b' c h1 h2 h3=>h.ls i b hi b' c h1 h2 λx a=>h3 x<|(e x).mp a⟩
def ad0(Z:ke S)(h:x∈iF S):x.1≠x.2.1:=by
 unfold iF at h;obtain h|h:=cp.mp h
 .obtain h|h:=cp.mp h
  .obtain h|h:=cp.mp h
   .refine aq (oY.mp h) λc _ h2=>iG (Yz h2) λi j e h3 h4 _=>?_;subst e;show i≠(j:Int);lia
   refine aq (oX.mp h) λj _ h2=>c7 (y4 h2) λa h3 h4 h5 _=>?_;have:=Z.el j a h3 _ h4;lia
  refine aq (oY.mp h) λn _ h2=>oA (Bv.mp h2) λh3 _=>?_;cases e:S.ov[n]? with
  | none=>rw[mU,e]at h3;cases h3
  | some o=>
   rw[jE e]at h3;exact OR (Z.nd n o e) h3
 refine aq (oX.mp h) λj _ h2=>?_;unfold mf at h2;refine aq (AK.mp h2) λa h3 h4=>?_;unfold rH at h4
 split at h4
 .cases h4
 refine aq (AK.mp h4) λb h5 d=>?_
 split at d
 .cases d
 rename_i ne
 cases d;exact λz=>ne z.f5
def KI.left{M:Nat}{B:List T3}(h:KI M B R []){b:Int}(c:0<=b)(h1:b<M)(hn:b∉R):∃y∈B,y.1∉R/\y.2.1=b:=by
 have z:¬cJ B R b=0:=λz=>by cases (h.rm b).mpr ⟨c,h1,hn,z⟩
 rw[za]at z;refine oE (Tq.mp z) λy a=>oE (Tq.mp a) λh2 a=>oE (Tq.mp a) λh3 h4=>⟨y,h2,h4,h3⟩
def KI.ak'(h:KI M B R [])(c:R.length≠M):∃b:Int,0<=b/\b<M/\b∉R:=by
 refine Ct λz=>c<|Nat.le_antisymm h.le ?_
 have:=AJ (l₁:=(List.range M).map λ(i:Nat)=>(i:Int)) (l₂:=R) (uY _ (λa b z e=>z li)<|FG (n:=M)) (λb d=>by
  refine aq (dy.mp d) λi hi e=>?_;have hi:=iC.mp hi;exact Ct λq=>z ⟨b,li,li,q⟩)
 rwa[aG,jB]at this
section
variable{t:a9}{C CT:e_}
def Yh(t:a9)(C CT:e_):Sp:=λvs H Q _=>∃m A S,vs=[.ref m]/\bb t C CT H m A S/\Q (.int (S.ac.length:Nat)) H
def ai2:bj fC fC (aU O7):=bG
def ahU(F:aW K "deeds_done" "Machine.deeds_done" O7 f fd)(b:mg aq6 = b_)(a:fV K C):aM P w K mg fi aS 1 f fd fC (Yh t C CT):=by
 refine F.ok ai2 λaN A _ s H vs Q E d h=>?_;refine fE h λm A S c M q=>?_;clear h;subst c;refine rZ (aB<|a8<|bw dE xz b q_<|ae (bT (pv 0) xz) af) (b9 (id M.obj) λdx fs hm G=>aq M.ac λws h1 h2=>vF xz hm a.cl a.iX G.iX ⟨A.ac,⟨_,xz,.inl<|ao.of h1,?_⟩⟩);rw[r_ h2];exact q
def BL(S:Mc)(H H':Hp)(x:bx)(v:V):Prop:=∃R:List Int,KI S.ac.length (iF S) R []/\(x = V_/\R.length=S.ac.length/\(∃l,v=.ref l/\H l=b_/\H' l=a_ (.lst<|R.map V.int))\/
 x="ring"/\R.length≠S.ac.length/\∃d ts Y B,v=.ref d/\H' d=a_ (.tup ts)/\aA (nM H') ts Y/\RingM (iF S) Y/\NR B (iF S)/\D3 R B Y)
def G8(t:a9)(C CT a:e_):Sp:=λvs H Q E=>∃m A S,vs=[.ref m]/\bb t C CT H m A S/\i6 S/\S.ac.length<=60/\
 (xQ S->ke S/\∀H' p x v,ak H H'->H p=b_->H' p=a_ (.tup [.str x,v])->BL S H H' x v->Q (.ref p) H')/\
 ∀c,By S c->∀d H',ak H H'->H' d=a_ (uq d [(X_,.int (c:Nat))])->E (.ref a) (a_ d) H'
def Ha:bj ["machine","befores","many",V_] fF (aU N7):=bG
def afR(F:aW K "order" "order" N7 f fd)(X:fV K C)(cE:mg aq6 = b_)(GB:aM P w K mg fi (kZ P w) 4 fB nO fF (Wj t C CT cW))(kB:x_ K (.ref fB)=c_)(bB:d5 K nO fF [])(mB:mg "before"=a_ (.ref fB))(DD:Mt P w K mg fi C 1 "deeds_done" fC (Yh t C CT))(DC:Dp P w K mg fi 1 "counted_out" ["many","befores"] Xh)(DR:Dp P w K mg fi 2 "ring_of" hE X8):aM P w K mg fi (kZ P w) 5 f fd fF (G8 t C CT cW):=by
 refine F.QM Ha λaN A outer s H vs Q E z hL D h=>?_
 obtain⟨m,A,S,aa,M,W,J,q0,qx⟩:=h;subst aa;have L:=z.mono (show 1<=4 by decide);have jk:=z.mono (show 2<=4 by decide);refine let a:TS:=_;let c:TS:=_;let g:TS:=_;⟨_,ay (bP (i:=1) Ha.nd xz (aL xz)<|MQ GB z hL xz mB kB bB .nil<|ae (pv 0) af)<|pR g<|ay (bP (i:=2) Ha.nd xz (aL xz)<|ph (pv 0) X.cl DD L)<|pR c<|ay (bP (i:=3) Ha.nd xz (aL xz)<|gF DC L xz<|ae (pv 2)<|ae (pv 1) af)<|pR a<|ay (bX (bA dF (bw dE xz cE q_<|ae (pv 3) af) (pv 2)<|bo _) (aB<|a8<|fA<|ae cU<|ae (pv 3) af) cj)<|aB<|a8<|fA<|ae cU<|ae (gF DR jk xz<|ae (pv 3)<|ae (pv 1) af) af,?_⟩;have hsz:=eA;refine vr xz<|⟨m,A,S,xz,M,W,J,(λhn=>?_),qx⟩;refine oA (q0 hn) λZ q=>⟨Z,λH1 N us B s1 nb r D o=>?_⟩
 have O:B.length<=100000:=by
  rw[o.len];unfold iF;rw[ba,ba,ba];have y1:=Gy S S.ps.length;have y1':=CL W.good.le J;have y2:=Ge S S.ac.length;have y5:=Gh Z.kY 12;have y7:=LS S S.ac.length;lia
 have T:=λx k=>V1 Z<|(o.mem x).mp k;refine b9 (id (M.same s1).obj) λdx fs hm G=>vM xz hm (G.ms _ dk) ⟨m,A,S,xz,M.same s1,⟨_,xz,_,xz,S.ac.length,N,us,B,xz,li,r,D,O,T,λH2 l R s2 nl u I=>⟨_,xz,l,_,xz,.inl<|ao.of u,_,xz,rq (H:=H2) xz ?_⟩⟩⟩;rw[aG,xv];have U:=I.iff o.mem;have v:=s1.f4 s2;refine bQ (λe=>?_) λe=>?_
 .refine⟨_,xz,sl (n:=2),λp j=>q _ p _ _ (aH v j) (v.free j) av ⟨R,U,.inl ⟨xz,e,l,xz,s1.free nl,?_⟩⟩⟩;rw[ag<|a7 u j];exact u
 have hle:=I.le;refine⟨_,xz,_,xz,l,N,R,us,B,xz,u,li,s2 _ _ r,c9.all D λb xs e=>s2 _ _ e,O,?_,λx k RF=>?_,λx k=>ad0 Z<|(o.mem x).mp k,λH3 d ts Y V nd hd hY rM pM=>⟨sl (n:=2),λp j=>q _ p _ _ (aH (v.f4 V) j) ((v.f4 V).free j) av ⟨R,U,.inr ⟨xz,e,d,ts,Y,B,xz,aH (ak.f8 _) j _ _ hd,nM.all hY λb xs e=>aH (ak.f8 _) j _ _ e,⟨rM.two,λx k=>(o.mem x).mp<|rM.sub x k,rM.nd,rM.we⟩,o,pM⟩⟩⟩⟩
 .refine aP (I.ak' e) λb h0 h1 r=>aP (I.left h0 h1 r) λy hy RE _=>⟨y,hy,RE⟩
 .have:=T x k;exact I.left this.1.1 this.1.2 RF
end
noncomputable def zl(S:Mc):Int:=match S.ck.findIdx? (λk=>!k.es.isEmpty)with
 | some c=>(c:Int)
 | none=>-1
def WM(S:Mc):(xQ S/\zl S=-1)\/∃c,By S c/\zl S=(c:Int):=by
 unfold zl;cases h:S.ck.findIdx? (λk=>!k.es.isEmpty)with
 | none=>
  refine .inl ⟨λi k a=>?_,xz⟩;have:=List.findIdx?_eq_none_iff.mp h k<|bz a;simpa using this
 | some c=>
  refine aq (List.findIdx?_eq_some_iff_getElem.mp h) λb h1 h2=>?_;refine .inr<|au c ⟨_,aQ b,by simpa using h1,λi k' hi a=>?_⟩ xz;refine oE (bu.mp a) λd e=>?_;have:=h2 i hi;rw[e]at this;simpa using this
def U2(h:xQ S):zl S=-1:=by
 obtain z|⟨c,⟨k,h1,h2,_⟩,_⟩:=WM S
 .exact z.2
 exact dV (h c k h1) h2
def UG(h:By S c):zl S=(c:Int):=by
 refine aP h λk h1 h2 h3=>?_;obtain z|⟨a,⟨k',b,d,f⟩,e⟩:=WM S
 .exact dV (z.1 c k h1) h2
 .have:c=a:=by
   obtain y|y|y:=KW c a
   .exact dV (f c k y h1) h2
   .exact y
   exact dV (h3 a k' y b) d
  rw[e,this]
def ajZ(K:u_)(a:PE X e ta)(b:yM e f X.env (eval e X.env)=eval e X.env)(h:autoParam (X.K=K) a3):PE X (.Attribute e f pos) (Y3 K ta f):=by subst h;exact ahB a b
def xcd{o:Option ClassData}(h:o.any (λcd=>vo cd.mro&&cd.hasDict)=c_):∃cd,o=a_ cd/\vo cd.mro=c_/\cd.hasDict=true:=by
 cases o with
 | none=>cases h
 | some cd=>
  have z:(vo cd.mro&&cd.hasDict)=true:=h;rw[kE]at z;exact c8 _ xz z.1 z.2
section
variable{t:a9}{C CT:e_}
def X9(t:a9)(C CT:e_):Sp:=λvs H Q _=>∃m A S,vs=[.ref m]/\bb t C CT H m A S/\i6 S/\S.ac.length<=60/\(xQ S->ke S)/\∀H',ak H H'->Q (.int<|zl S) H'
def Yj:bj ["_law_machine","e"] h6 (aU OZ):=bG
def ahM(F:aW K "_law_refused" "_law_refused" OZ f fd)(g:aM P w K mg fi (kZ P w) 5 fB nO fF (G8 t C CT cW))(j:x_ K (.ref fB)=c_)(bB:d5 K nO fF [])(mB:mg "order"=a_ (.ref fB))(mW:mg "Waiting"=a_ (.ref cW))(k:y_ K (.ref cW) (.type "BaseException")=a_ c_)(ce:y_ K (.ref cW) (.ref cW)=a_ c_)(xf:XF K cW)(n1:bU K cW X_):aM P w K mg fi aS 6 f fd h6 (X9 t C CT):=by
 refine F.ok Yj λaN A _ s H vs Q E l h=>?_
 obtain⟨m,A,S,n,M,W,o,Z,q⟩:=h;subst n;refine let r:TS:=_;let R2:TS:=_;⟨_,ay (afI (i:=1) xz xz xz Yj.nd xz xz xz mW k (λW pn E u B=>aB<|dC<|MQ g l u xz mB j bB .nil<|ae (pv 0) af) λea pn=>pR r<|aB<|a8<|ajZ K (pv 1) xz)<|pR R2<|aB<|a8<|HW Hs ax,?_⟩
 refine vr xz<|⟨m,A,S,xz,M,W,o,(λhn=>⟨Z hn,λa p x v s1 D h1 G=>?_⟩),(λc y d a s1 hd=>⟨ce,λea z=>?_⟩)⟩
 .have:=q _ s1;rw[U2 hn]at this;exact au _ xz this
 have b:cB a _ _ ea=a_ (uw ea (.ref cW)<|a_ d):=av;have s2:ak _ (cB _ _<|uw ea (.ref cW)<|a_ d):=aH (ak.f8 _) z;have e:=s2 _ _ hd;generalize cB _ _ _=H2 at b s2 e ⊢;have:=q _<|s1.f4 s2;rw[UG y]at this;exact vr xz<|⟨ea,cW,d,_,(.int c),xz,b,e,xf,n1,xz,this⟩
def Xa(t:a9)(C CT:e_):Sp:=λvs H Q _=>∃m A S,∃n:Nat,vs=[.ref m,.int (n:Nat)]/\bb t C CT H m A S/\i6 S/\S.ac.length<=60/\n=S.ps.length/\∀H',ak H H'->Q (.int<|zl S) H'
def Xl:bj ["_law_machine","_law_many","_law_clerk"] hU (aU N4):=bG
def afU(F:aW K "_law_first_waits" "_law_first_waits" N4 f fd)(x:fV K C)(y:mg aq3 = b_)(B:Mt P w K mg fi C 2 "waiting" g5 (LZ t C CT)):aM P w K mg fi aS 3 f fd hU (Xa t C CT):=by
 refine F.ok Xl λaN A _ s H vs Q E u h=>?_
 refine kL h λm A S n D I=>oj I λM W T en q=>?_;clear h;subst D;subst en;have J:=zc u;refine⟨_,ay (ik gJ xz (ju xz y<|ae (pv 1) af) (bC (i:=2) Xl.nd xz<|aL xz)<|aB<|bX (bA (y8 J) (jX (pv 0) x.cl B u<|ae (pv 2) af) (dP af)<|bo _) (aB<|a8<|pv 2) cj)<|aB<|a8<|HW Hs ax,?_⟩;have h4:=W.good.le;refine b9 (id M.obj) λdx fs hm G=>(vr xz<|lE _ xz li li ?_);rw[show ((S.ps.length:Int)).toNat=S.ck.length by rw[W.len];lia];refine nY (n:=S.ck.length) (λi σ H'=>i<=S.ck.length/\∃c,σ=[a_ (.ref m),a_<|.int (S.ps.length:Nat),c]/\ak H H'/\∀(j:Nat)k',j<i->S.ck[j]?=a_ k'->k'.es=[]) ⟨aY _,b_,xz,ak.f8 _,λj k' v=>dV v<|CK _⟩ ?_ ?_
 .rintro i σ L hi ⟨_,c,rfl,b⟩;have s1:=b.1;have d:=b.2;rw[lW];have a:=aQ hi;have U:=W.es _<|bz a;refine vM xz (s1 _ _ hm) (G.ms _ dk)<|vr xz<|⟨m,A,S,i,_,xz,(M.same s1),a,li,(λV l us s2 X N O=>?_)⟩;have g:=O;refine⟨qc,λl3 p=>⟨l,l3,us,xz,xz,aH (ak.f8 _) p _ _ N,av,_,xz,jY (λz=>?_) λz=>?_⟩⟩
  .have R:S.ck[i].es≠[]:=λe=>by rw[e]at g;exact z (qU.mp g)
   have:=q _<|aH (o:=.lst []) (s1.f4 s2) p;rw[UG ⟨_,a,R,d⟩]at this;exact vr xz this
  refine⟨hi,⟨_,xz,aH (s1.f4 s2) p,λj k' v r=>?_⟩⟩
  by_cases e:j=i
  .subst e;rw[a]at r;cases r;rw[z]at g;exact qU.mp g.f5
  exact d j _ li r
 rintro σ L ⟨_,c,rfl,b⟩;have s1:=b.1;have d:=b.2;have:=q _ s1;rw[U2 λi k a=>d i k (bu.mp a).1 a]at this;exact au _ xz this
def Yc:Sp:=λvs H Q _=>∃(l:e_)(ws:List V)(d:Nat)(b:Bool),vs=[.ref l,.int (d:Nat),.bl b]/\H l=a_ (.lst ws)/\ws≠[]/\ws.length<=3000/\(∀v∈ws,∃p x r,v=.ref p/\H p=a_ (.tup (.str x::r)))/\∀v∈ws,∀H',ak H H'->Q v H'
def Yl:bj ["_law_moves","_law_draw_here","_law_late","_law_deeds"] io (aU O2):=bG
def ali:(["_law_move"]:List bx).Nodup:=dk
def ahP(F:aW K "_law_pick" "_law_pick" O2 f fd)(J:mg aq6 = b_):aM P w K mg fi aS 1 f fd io Yc:=by
 refine F.ok Yl λaN A _ s H vs Q E U h=>?_
 obtain⟨l,ws,d,b,W,c,X,kh,Y,q⟩:=h;subst W;have Z:=zc U;have L:=eA
 refine let R1:TS:=_;let R2:TS:=_;let R3:TS:=_;⟨_,ay (A4 (i:=3) (N:=["_law_move"]) (idx:=[]) Yl.nd xz xz xz (dJ.of<|by kernel_rfl) (jr<|aY _) (rB<|pv 0) (λ_ _ _ _=>bC (i:=0) ali xz (aL xz)<|.inr xz) (λ_ _ _ _=>xp<|bA dF (aO (zC K) (pv 0) ax) cU<|bo _) λ_ _ _ _=>pv 0)
  (pR R3<|ay (bX (PW.pt<|pw_and (gu<|pv 2)<|pw_and (bA (y8 Z) (pv 3) (dP af)<|bo _)<|pw_and1<|bA zz (bg gE (pv 1) ax) ax<|bo _) (pR R1<|aB<|a8<|aO cG (pv 3)<|bg gE (bg oa (pv 1) ax)<|bw dE xz J q_<|ae (pv 3) af) cj)<|pR R2<|aB<|a8<|aO cG (pv 0)<|bg gE (bg oa (pv 1) ax)<|bw dE xz J q_<|ae (pv 0) af),?_⟩
 have M:∀{us:List V},us≠[]->gd us ((d:Int)/8%(us.length:Nat))=a_ (us.getD (d/8%us.length) .aJ)/\us.getD (d/8%us.length) .aJ∈us/\(0:Int)<(us.length:Nat):=λ{us}h2=>by
  have qC:=KR.mpr h2;have k:d/8%us.length<us.length:=yX _ qC;have e:us.getD (d/8%us.length) .aJ=us[d/8%us.length]:=by simp[k]
  refine⟨?_,by rw[e];exact FH _,li⟩;rw[show d/8%us.length=((d/8%us.length:Nat):Int) by rw[TY];rfl,e];exact bZ<|aQ _
 refine⟨_,xz,l,xz,⟨_,ao.of c⟩,gC (n:=ws.length) (λj ys H'=>H'=H/\ys.length<=j/\∀v∈ys,v∈ws) (by rw[L];lia) ⟨xz,aY _,λv z=>by cases z⟩ (λj ys H' z=>z.2.1) ?_ ?_ ?_ ?_⟩
 .rintro j ys H' k ⟨rfl,_⟩;exact fh _ _ (ao.of c)<|aQ k
 .rintro ys H' ⟨rfl,_⟩;exact au _ (ao.of c)<|aD _
 .rintro j ys H' k ⟨rfl,hyl,m⟩ x kC ⟨eH,hx⟩;subst eH;have O:=bz<|hx _<|ao.of c;obtain⟨p,y,r,ep,hp⟩:=Y x O;subst ep;refine⟨_,xz,rT (aF.of hp) (bZ xz) ⟨xz,_,xz,Iy (λ_=>?_) λ_=>⟨xz,li,m⟩⟩⟩;exact⟨_,xz,xz,by rw[ba];show _+1<=_;lia,λv hv=>(cp.mp hv).elim (m v) λz=>by rw[cR.mp z];exact O⟩
 rintro ys H' ⟨rfl,hyl,m⟩;refine⟨by rw[L];lia,λu nlc=>aP (nw (o:=.lst ys) nlc) λH7 R G S=>?_⟩;rw[R];clear R
 have I:∀{D:Ends}{B:Hp},ak H7 B->D.rt=Q->R2 D [a_ (.ref l),a_<|.int (d:Nat),a_<|.bl b,a_<|.ref u] B:=λ{D B}a eD=>by
  obtain⟨h1,h2,h3⟩:=M X;have g:=a _ _<|G _ _ c;refine vr xz<|vr xz ⟨_,_,xz,xz,⟨qc,qc⟩,vr xz ⟨l,ws,xz,.inl<|ao.of g,_,_,xz,xz,h3,l,ws,_,_,xz,xz,ao.of g,h1,?_⟩⟩;rw[eD];exact q _ h2 _<|G.f4 a
 cases b with
 | false=>exact⟨_,xz,_,xz,dG<|dG<|I (ak.f8 _) xz⟩
 | true=>
  refine⟨_,xz,_,xz,lG ⟨_,xz,qc,λle Rm=>aP (nw (o:=.lst []) Rm) λB T a hle=>?_⟩⟩;rw[T];clear T;refine⟨u,le,ys,xz,xz,a _ _ S,hle,_,xz,jY (λhy=>?_) λ_=>dG<|I a xz⟩;refine vr xz ⟨_,_,xz,xz,(show 0<8 by decide),_,_,xz,xz,_,xz,bQ (λ_=>?_) λ_=>I a xz⟩;obtain⟨h1,h2,h3⟩:=M hy;have g:=a _ _ S;exact vr xz<|vr xz ⟨_,_,xz,xz,⟨qc,qc⟩,vr xz ⟨u,ys,xz,.inl<|ao.of g,_,_,xz,xz,h3,u,ys,_,_,xz,xz,ao.of g,h1,q _ (m _ h2) _<|G.f4 a⟩⟩
end
def iy(l:e_)(H H':Hp):Prop:=∀b o,b≠l->H b=a_ o->H' b=a_ o
def iy.of(s:ak H H'):iy l H H':=λb o _ e=>s b o e
def iy.f4(a:iy l H H1)(b:iy l H1 H2):iy l H H2:=λc o n h=>b c o n<|a c o n h
def iy.tup(k:iy l H H')(h:H l=a_ (.dT us)):∀b xs,H b=a_ (.tup xs)->H' b=a_ (.tup xs):=λb xs e=>k b _ (λz=>by rw[z,h]at e;cases e) e
noncomputable def oK(x:T3):List dc:=[.inl (a_ x.1),.inl<|a_ x.2.1,.inr x.2.2]
def aij(h:oK x=oK y):x=y:=by
 obtain⟨a,b,c⟩:=x;obtain⟨d,e,f⟩:=y;unfold oK at h;injection h with h1 h2
 injection h2 with h2 h3
 injection h3 with h3 _
 cases h1;cases h2;cases h3;rfl
structure iz(fv:List (List dc×V))(L:List T3):Prop where
 key:∀kv∈fv,∃x∈L,kv.1=oK x
 all:∀x∈L,(cx fv<|oK x).isSome=c_
 len:fv.length<=L.length
def iz.nil:iz [] []:=⟨λkv h=>(by cases h),λx h=>(by cases h),aD _⟩
def iz.put(h:iz fv L)(x:T3):iz (putK fv (oK x) v) (L++[x]):=by
 refine⟨λkv b=>?_,λy a=>?_,?_⟩
 .unfold putK at b
  split at b
  .refine aq (dy.mp b) λq c e=>?_
   split at e
   .rename_i d
    exact⟨x,by simp,by rw[<-e,d]⟩
   rw[<-e];exact aq (h.key q c) λy a e=>⟨y,jo _ a,e⟩
  obtain z|z:=cp.mp b
  .exact aq (h.key _ z) λy a e=>⟨y,jo _ a,e⟩
  rw[cR.mp z];exact⟨x,by simp,xz⟩
 .rw[tS]
  split
  .rfl
  rename_i ne
  obtain z|z:=cp.mp a
  .exact h.all y z
  exact dV (by rw[cR.mp z]) ne
 rw[ba];exact cF (tL _ _ _)<|tm h.len
def HL{w:bx}{lw:e_}(h2:σ[2]?=a_ (a_<|.ref lw))(hw:H lw=a_ (.dT us))(a:iz us L)(j:L.length<=100000)(f:∀Q:VK,Q (.int x) H->tx σ H Q)(g:∀Q:VK,Q (.int y) H->ty σ H Q)(q:∀H' c,iy lw H H'->H' lw=a_ (.dT c)->iz c (L++[(x,y,w)])->D.nx σ H'):Za (rS 2) (ZO<|HQ tx<|HQ ty<|HQ (tC<|.str w) Ip) (tC<|.bl c_) D σ H:=by
 refine⟨_,h2,f _<|g _ ⟨(sl (n:=3)),λh i=>?_⟩⟩;have s1:=aH (o:=.tup [.int x,.int y,.str w]) (ak.f8 H) i;have d:cB H h (.tup [.int x,.int y,.str w]) _=a_ _:=av;generalize cB H _ _=H1 at s1 d ⊢;have l:=a.len;exact⟨lw,_,xz,uo.t (k:=oK (x,y,w)) (s1 _ _ hw) d (by rw[eA];lia),q _ _ (λb o n e=>by rw[ag n];exact s1 _ _ e) av<|a.put _⟩
theorem DN{f:Nat->List T3}{b:Nat}(h:∀i,(f i).length<=b):∀m,((List.range m).flatMap f).length<=m*b
 | 0=>aY _
 | m+1=>by
  rw[kF,wR,ba,CU];refine Lo (DN h m) ?_;show (f m++[]).length<=b;rw[gj];exact h m
def XH(m:Nat):(List.range<|m+1).flatMap f=(List.range m).flatMap f++f m:=by
 rw[kF,wR];simp
def VT(S:Mc)(i:Nat):(rQ S i).length<=1:=by
 unfold rQ;cases (tY S i<|S.ac.length-(i+1)).head? <;> simp
def VS(S:Mc)(i m:Nat):(vI S i m).length<=m:=by
 have:=qW (λj=>decide<|S.ac[j]?.bind g8.seen=a_ i)<|List.range m;rw[jB]at this;unfold vI;rw[aG];exact this
def adX(S:Mc)(i m:Nat):vI S i (m+1)=vI S i m++(if S.ac[m]?.bind g8.seen=a_ (i:Int) then [((i:Int),(m:Int),("seen":bx))] else []):=by
 unfold vI;rw[kF,qX,dN]
 by_cases h:S.ac[m]?.bind g8.seen=a_ (i:Int) <;> simp[h]
def WO(S:Mc)(i:Nat):(rX S i).length<=1+S.ac.length:=by
 unfold rX;rw[ba];exact Lo (VT S i)<|VS S i _
def VR(S:Mc)(n m:Nat):(ud S n m).length<=m:=by
 have:=S8 (t9 S n)<|List.range m;rw[jB]at this;exact this
def Vc(S:Mc)(n m:Nat):ud S n (m+1)=ud S n m++(t9 S n m).toList:=by
 unfold ud;rw[kF,Tn];cases h:t9 S n m <;> simp[h]
def adW(o:List Int)(m:Nat):oo o (m+1)=oo o m++[(o.getD m 0,o.getD (m+1) 0,("over":bx))]:=by
 unfold oo;rw[kF,dN];rfl
def Mh(o:List Int)(m:Nat):(oo o m).length=m:=by unfold oo;rw[aG,jB]
def adb(S:Mc)(i m:Nat):tY S i (m+1)=tY S i m++(if fj S (i+1+m)=fj S i then [i+1+m] else []):=by
 unfold tY;rw[List.range'_1_concat,qX]
 by_cases h:fj S (i+1+m)=fj S i <;> simp[h]
def U4(S:Mc)(i m:Nat):(tY S i m).length<=m:=by
 have:=qW (λj=>decide<|fj S j=fj S i)<|UM (i+1) m;rw[List.length_range']at this;exact this
def adN(o:List Int):nextM o b_=o.head?:=by
 cases o with
 | nil=>rfl
 | cons x r=>rfl
theorem Wx(d:Int):∀(o:List Int)(p:Option Int),p≠a_ d->((p::o.map a_).zip o).lookup (a_ d)=(o.drop<|o.idxOf d+1).head?
 | [],p,_=>rfl
 | x::r,p,hp=>by
  show ((p,x)::(a_ x::r.map a_).zip r).lookup (a_ d)=_;rw[mV,eX.mpr<|b8 hp];show ((a_ x::r.map a_).zip r).lookup (a_ d)=_
  by_cases e:x=d
  .subst e;rw[List.idxOf_cons_self];cases r with
   | nil=>rfl
   | cons y r'=>
    show ((a_ x,y)::_).lookup (a_ x)=_;rw[mV,beq_self_eq_true];rfl
  rw[Wx d r (a_ x) λz=>e<|cI z,Uc,eX.mpr e];rfl
def adM(o:List Int)(d:Int):nextM o (a_ d)=(o.drop<|o.idxOf d+1).head?:=Wx d o _ (by simp)
def qu:bj ["_law_machine","_law_deeds","_law_due","_law_one","_law_later","_law_other","_law_name","_law_row",aq9,"_law_rest"] h6 (aU P7):=bG
def ajq:(["_law_deeds","_law_one",aq9]:List bx).Nodup:=dk
def agH(h:S.ac[j]?=a_ a):t9 S n j=if a.n=n then rH S j a else none:=by
 unfold t9 mf;rw[h];show (if a_ _=a_ n then rH S j a else b_)=_
 by_cases e:a.n=n
 .rw[dL e,dL (by rw[e])]
 rw[dt e,dt λz=>e<|cI z]
section
variable{t:a9}{C CT:e_}
def Y8(t:a9)(C CT:e_):Sp:=λvs H Q _=>∃m A S,vs=[.ref m]/\bb t C CT H m A S/\i6 S/\S.ac.length<=60/\ke S/\∀H' l fv,ak H H'->H l=b_->H' l=a_ (.dT fv)->iz fv (xV S)->fv.length<=6000->Q (.ref l) H'
def ajn(F:aW K "_law_befores" "_law_befores" P7 f fd)(cM:fV K C)(cE:mg aq6 = b_)(da:mg aq3 = b_)(DD:Mt P w K mg fi C 1 "deeds" fC (Bi t C CT))(DO:Mt P w K mg fi C 1 "over" gi (Hu t C CT)):aM P w K mg fi aS 2 f fd h6 (Y8 t C CT):=by
 refine F.ok qu λaN A _ s H vs Q E hr h=>?_
 obtain⟨m,A,S,aa,M,W,dD,Z,q⟩:=h;subst aa;have hu:=zc hr
 refine let R1:TS:=_;let R2:TS:=_;let R3:TS:=_;let R4:TS:=_;let R5:TS:=_;let R6:TS:=_;let R7:TS:=_;let R8:TS:=_;let R9:TS:=_;let nU:TS:=_;let Kq:TS:=_;let SM:TS:=_;let SK:TS:=_;let R14:TS:=_;let R15:TS:=_;let R16:TS:=_;⟨_,ay (bP (i:=1) qu.nd xz (pA xz)<|ph (pv 0) cM.cl DD hr) (pR R16 (ay (bP (i:=2) qu.nd xz (aL xz) Wt) (pR R15 (ay (ik gJ xz (ju xz da<|ae (bw dE xz cE q_<|ae (pv 1) af) af) (bC (i:=3) qu.nd xz<|pA xz) (pR R4 (ay (A4 (i:=4) (N:=["_law_deeds","_law_one",aq9]) (idx:=[1,3]) qu.nd xz xz xz (dJ.of<|by kernel_rfl) (jr<|aD _) (aek xz da<|ae (bg jv (pv 3) ax)<|ae (bw dE xz cE q_<|ae (pv 1) af) af) (λ_ _ _ _=>bC (i:=2) ajq xz (aL xz)<|.inr xz) (λ_ _ _ _=>xp<|bA dF (aO (zC K) (aO (DZ K) (pv 0)<|pv 2) ax) (aO (zC K) (aO (DZ K) (pv 0)<|pv 1) ax)<|bo _) λ_ _ _ _=>pv 2)
  (pR R3<|ay (bX (bA (y8 hu) (pv 4) (dP af)<|bo _) (aB<|xq (kJ hr) (pv 2) (fA<|ae (pv 3)<|ae (aO cG (pv 4)<|ax)<|ae (cU) af) iV xz) cj)<|pR R2<|aB<|ik gJ xz (ju xz da<|ae (bw dE xz cE q_<|ae (pv 1) af) af) (bC (i:=5) qu.nd xz<|aL xz)<|pR R1<|aB<|bX (bA dF (aO cw (aO cG (pv 1)<|pv 5)<|ax) (pv 3)<|bo _) (aB<|xq (kJ hr) (pv 2) (fA<|ae (pv 3)<|ae (pv 5)<|ae (cU) af) iV xz) cj))))
  (pR R14<|ay (ik gJ xz (ju xz da<|ae (ax) af) (bC (i:=6) qu.nd xz<|aL xz)<|pR SM<|ay (bP (i:=7) qu.nd xz (aL xz)<|jX (pv 0) cM.cl DO hr<|ae (pv 6) af)<|pR Kq<|ay (ik gJ xz (ju xz da<|ae (bg Oo (bw dE xz cE q_<|ae (pv 7) af) ax) af) (bC (i:=8) qu.nd xz<|aL xz)<|pR R5<|aB<|xq (kJ hr) (pv 2) (fA<|ae (aO cG (pv 7)<|pv 8)<|ae (aO cG (pv 7)<|bg jv (pv 8) ax)<|ae (cU) af) iV xz)<|pR nU<|aB<|ik gJ xz (ju xz da<|ae (bw dE xz cE q_<|ae (pv 1) af) af) (bC (i:=3) qu.nd xz<|pA xz)<|pR R9<|aB<|bX (PW.pt<|pw_and (bA xG (aO cw (aO cG (pv 1)<|pv 3)<|ax) cU<|bo _)<|pw_and1<|bA dF (aO cw (aO cG (pv 1)<|pv 3)<|ax) (pv 6)<|bo _) (pR R8<|ay (bP (i:=9) qu.nd xz (aL xz)<|pv 7)<|pR R7<|ay (bX (bA NF (aO cw (aO cG (pv 1)<|pv 3)<|ax) og<|bo _) (aB<|bP (i:=9) qu.nd xz (aL xz)<|y6 G9 (pv 7) (zd<|bg jv (je m_ PySem.F.slot_list_index PySem.F.type_list_index agd (pv 7)<|ae (aO cw (aO cG (pv 1)<|pv 3)<|ax) af) ax) ze) cj)<|pR R6<|aB<|bX (PW.pt<|pw_and (bA (y8 hu) (pv 9) (dP af)<|bo _)<|pw_and1<|bA xG (aO cG (pv 9)<|ax) (pv 3)<|bo _) (aB<|xq (kJ hr) (pv 2) (fA<|ae (pv 3)<|ae (aO cG (pv 9)<|ax)<|ae (cU) af) iV xz) cj) cj)<|pR SK<|aB<|a8<|pv 2))))),?_⟩
 have hsz:=eA;have vY:=Z.kY;refine b9 (id M.obj) λdx fs hm G=>vM xz hm (G.ms _ dk) (rG m A S xz M λR ws nd k8=>aP (nw (o:=.lst ws) nd) λH1 e1 s1 pX=>?_);rw[e1];clear e1;have kh:=r_ k8;refine λlw Ri=>aP (nw (o:=.dT []) Ri) λH2 e2 s2 yo=>?_;rw[e2];clear e2;have jJ:=s1.f4 s2;have nlH:=s1.free Ri;have Rn:R≠lw:=λz=>by rw[z,Ri]at pX;cases pX
 have dl:∀{H':Hp},iy _ _ _->H' _=a_ _:=λk=>k _ _ Rn<|s2 _ _ pX
 have dd:∀{H':Hp},iy lw H2 H'->∀(j:Nat)a,S.ac[j]?=a_ a->∃p,gd ws (j:Int)=a_ (.ref p)/\H' p=a_ (.tup<|IE a):=λ{H'}k j a ha=>by
  exact aq (tK k8 ha) λv hv aa=>aq aa λp ep T=>au p (bZ<|by rw[hv,ep])<|k.tup yo _ _<|jJ _ _ T
 have sm:∀{H':Hp},iy _ _ _->ak H H':=λk b o e=>k b o (λz=>by rw[z,nlH]at e;cases e)<|jJ _ _ e;refine vr xz<|di _ _ xz (.inl<|ao.of<|s2 _ _ pX)<|lE _ xz li li ?_;rw[show ((ws.length:Int)).toNat=S.ac.length by lia]
 let W1:IV:=λi σ H'=>i<=S.ac.length/\∃w3 w4 w5 us,σ=[a_ (.ref m),a_<|.ref R,a_<|.ref lw,w3,w4,w5,b_,b_,b_,b_]/\iy lw H2 H'/\H' lw=a_ (.dT us)/\iz us ((List.range i).flatMap<|rX S)
 refine nY W1 ⟨aY _,b_,b_,b_,[],xz,iy.of<|ak.f8 _,yo,iz.nil⟩ ?_ ?_
 .rintro i σ H3 hi ⟨_,w3,w4,w5,us,rfl,g⟩;have k3:=g.1;have qJ:=g.2.1;have L:=g.2.2;rw[lW];have RZ:=DN (WO S) i;have jN:i*(1+S.ac.length)<=60*61:=CL li li;obtain⟨ai,hai⟩:∃a,S.ac[i]?=a_ a:=⟨_,aQ hi⟩;have hci:fj S i=a_ ai.c:=by unfold fj;rw[hai];rfl
  have tB:∀{D:Ends}{U:Hp}{JD:List (List dc×V)}{w4:Option V},(∀σ H,W1 (i+1) σ H->D.nx σ H)->iy lw H2 U->U lw=a_ (.dT JD)->iz JD ((List.range i).flatMap (rX S)++rQ S i)->R2 D [a_ (.ref m),a_<|.ref R,a_<|.ref lw,a_<|.int (i:Nat),w4,w5,b_,b_,b_,b_] U:=λ{D U JD w4}hD k5 uI IM=>by
   refine vr xz<|di _ _ xz (.inl<|ao.of<|dl k5)<|lE _ xz li li ?_;rw[show ((ws.length:Int)).toNat=S.ac.length by lia]
   let W2:IV:=λj σ H'=>j<=S.ac.length/\∃w5 us,σ=[a_ (.ref m),a_<|.ref R,a_<|.ref lw,a_<|.int (i:Nat),w4,w5,b_,b_,b_,b_]/\iy lw H2 H'/\H' lw=a_ (.dT us)/\iz us ((List.range i).flatMap (rX S)++rQ S i++vI S i j)
   refine nY W2 ⟨aY _,_,JD,xz,k5,uI,by show iz _ (_++[]);rw[gj];exact IM⟩ ?_ ?_
   .rintro j σ H6 B ⟨_,w5,Aa,rfl,g⟩;have u:=g.1;have J:=g.2.1;have I:=g.2.2;rw[lW];obtain⟨aj,Fh⟩:∃a,S.ac[j]?=a_ a:=⟨_,aQ B⟩;refine aq (dd u j _ Fh) λp T qM=>?_;have wF:=adX S i j;rw[Fh]at wF;refine vr xz<|vr xz<|rL (ao.of<|dl u) T<|rT (aF.of qM) (bZ xz) ⟨_,xz,?_⟩;cases hs:aj.seen with
    | none=>
     refine rq (H:=H6) xz (bQ (λz=>nomatch z) λ_=>⟨B,⟨_,Aa,xz,u,J,?_⟩⟩);rw[wF,dt (by show ¬aj.seen=_;rw[hs];exact λz=>nomatch z),gj];exact I
    | some d=>
     refine rq (H:=H6) xz (bQ (λz=>?_) λz=>⟨B,⟨_,Aa,xz,u,J,?_⟩⟩)
     .have ed:=V.int.inj z;have Az:=VT S i;have yw:=VS S i j;refine HL (x:=(i:Int)) (y:=(j:Int)) xz J I (by rw[ba,ba];lia) (λQ q=>⟨_,xz,q⟩) (λQ q=>⟨_,xz,q⟩) λH7 ym O X Y=>⟨B,_,ym,xz,u.f4 O,X,?_⟩;rw[wF,dL (by show aj.seen=_;rw[hs,ed]),<-dw];exact Y
     rw[wF,dt (by show ¬aj.seen=_;rw[hs];exact λy=>z<|by rw[cI y];rfl),gj];exact I
   rintro σ H6 ⟨_,w5,Aa,rfl,g⟩;have u:=g.1;have J:=g.2.1;have I:=g.2.2;refine hD _ _ ⟨hi,⟨_,_,_,Aa,xz,u,J,?_⟩⟩;rw[XH,rX,<-dw];exact I
  refine au _ xz ⟨_,⟨_,xz,xz,_,xz,R,ws,xz,.inl<|ao.of<|dl k3,_,_,xz,⟨li,li,li,li⟩,?_⟩⟩;rw[show ((ws.length:Int)-((i:Int)+1)).toNat=S.ac.length-(i+1) by lia];refine gC (n:=S.ac.length-(i+1)) (λj ys H'=>j<=S.ac.length-(i+1)/\H'=H3/\ys=(gV<|tY S i j).map V.int) (by rw[hsz];lia) ⟨aY _,xz,xz⟩ ?_ ?_ ?_ ?_ ?_
  .rintro j ys H' ⟨_,_,rfl⟩;rw[aG];unfold gV;rw[aG];exact U4 _ _ _
  .rintro j ys H' B _;exact B
  .rintro ys H' _;exact aD _
  .rintro j ys H4 B ⟨_,rfl,rfl⟩ x U ⟨eH,ex⟩;subst eH;subst ex;have hj2:i+1+j<S.ac.length:=li;obtain⟨aj,Fh⟩:∃a,S.ac[i+1+j]?=a_ a:=⟨_,aQ hj2⟩;have hcj:fj S (i+1+j)=a_ aj.c:=by unfold fj;rw[Fh];rfl
   refine aq (dd k3 (i+1+j) aj Fh) λp T qM=>aq (dd k3 i ai hai) λp2 sG an4=>?_;rw[show ((i:Int)+1+(j:Int))=((i+1+j:Nat):Int) by lia];refine vr xz<|vr xz<|rL (v:=.ref p) (ao.of<|dl k3) T<|rT (v:=.int (aj.c:Nat)) (aF.of qM) (bZ (j:=1) xz) ⟨_,xz,_,xz,rL (v:=.ref p2) (ao.of<|dl k3) sG<|rT (v:=.int (ai.c:Nat)) (aF.of an4) (bZ (j:=1) xz)<|rq (H:=U) xz ?_⟩;rw[xv,adb,hcj,hci];refine bQ (λe=>?_) λe=>?_
   .refine vr xz (eM B xz ?_);rw[dL (by rw[e])];unfold gV;rw[dN,dN];rfl
   refine eM B xz ?_;rw[dt λz=>e<|cI z,gj]
  rintro ys H4 ⟨_,rfl,rfl⟩;have hll:=U4 S i<|S.ac.length-(i+1);refine⟨by rw[aG];unfold gV;rw[aG,hsz];lia,λll nll=>aP (nw (o:=.lst<|(gV<|tY S i<|S.ac.length-(i+1)).map V.int) nll) λU e5 s5 E9=>?_⟩;rw[e5];clear e5;refine c8 _ xz qc λl6 nl6=>aP (nw (o:=.lst []) nl6) λH6 e6 s6 hl6=>?_;rw[e6];clear e6;have k36:=iy.of (l:=lw)<|s5.f4 s6;have u:=k3.f4 k36;have J:=s6 _ _<|s5 _ _ qJ;have I:=L;refine nN ll l6<|fG _ xz xz (s6 _ _ E9) hl6<|au _ xz (jY (λz=>?_) λz=>?_)
  .cases hL:tY S i (S.ac.length-(i+1))with
   | nil=>exact dV (by rw[hL];rfl) z
   | cons j r=>
    have QC:rQ S i=[((i:Int),(j:Int),("own":bx))]:=by unfold rQ;rw[hL];rfl
    exact HL (x:=(i:Int)) (y:=(j:Int)) xz J I li (λQ q=>⟨_,xz,q⟩) (λQ q=>⟨_,xz,rL (v:=.int (j:Nat)) (ao.of<|s6 _ _ E9) (bZ (j:=0)<|by rw[hL];rfl) q⟩) λH7 ym O X Y=>tB (λσ H h=>h) (u.f4 O) X (by rw[QC];exact Y)
  have hL:=KQ.mp<|KQ.mp z;refine tB (λσ H h=>h) u J ?_;have QC:rQ S i=[]:=by unfold rQ;rw[hL];rfl
  rw[QC,gj];exact I
 rintro σ H3 ⟨_,w3,w4,w5,us,rfl,g⟩;have k3:=g.1;have qJ:=g.2.1;have L:=g.2.2;have RZ:=DN (WO S) S.ac.length;have jN:S.ac.length*(1+S.ac.length)<=60*61:=CL li li;have hLA:((List.range S.ac.length).flatMap<|rX S).length<=3660:=li;have e0:xV S=(List.range S.ac.length).flatMap (rX S)++(List.range 12).flatMap (pJ S):=rfl;generalize (List.range S.ac.length).flatMap (rX S)=LA at L hLA e0
 have hd2:∀n,(pJ S n).length<=120:=λn=>by
  unfold pJ;have h1:=VR S n S.ac.length
  have h2:(S.ov.getD n []).length<=S.ac.length:=by
   cases e:S.ov[n]? with
   | none=>rw[mU,e];exact aY _
   | some o=>rw[jE e];exact vY o<|bz e
  rw[ba,Mh];lia
 refine lE 12 xz qc qc ?_
 let W3:IV:=λn σ H'=>n<=12/\∃w3 w4 w5 w6 w7 w8 w9 us,σ=[a_ (.ref m),a_<|.ref R,a_<|.ref lw,w3,w4,w5,w6,w7,w8,w9]/\iy lw H2 H'/\H' lw=a_ (.dT us)/\iz us (LA++(List.range n).flatMap (pJ S))
 refine nY (n:=12) W3 ⟨aY _,_,_,_,_,_,_,_,us,xz,k3,qJ,by show iz _ (_++[]);rw[gj];exact L⟩ ?_ ?_
 .clear L qJ k3;rintro n σ H4 hn ⟨_,w3,w4,w5,w6,w7,w8,w9,us,rfl,g⟩;have k4:=g.1;have pS:=g.2.1;have L:=g.2.2;rw[lW];have aoo:=DN hd2 n;have hLB:(LA++(List.range n).flatMap (pJ S)).length<=6000:=by rw[ba];lia
  have eN:LA++(List.range<|n+1).flatMap (pJ S)=LA++(List.range n).flatMap (pJ S)++pJ S n:=by rw[XH,<-dw]
  generalize LA++(List.range n).flatMap (pJ S)=LB at L hLB eN;have ho:S.ov[n]?=a_ (S.ov[n]'(by rw[W.ov];exact hn)):=aQ _;have yp:=vY _<|bz ho;refine vM xz (sm k4 _ _ hm) (G.ms _ dk)<|vr xz<|⟨m,A,S,n,_,xz,(M.same<|sm k4),ho,(λlr Rk=>?_)⟩;generalize S.ov[n]'_=o at ho yp ⊢;have Ce:S.ov.getD n []=o:=jE ho;refine aP (nw (o:=.lst<|o.map V.int) Rk) λU e5 s5 RP=>?_;rw[e5];clear e5;have aar:lr≠lw:=λz=>by rw[z,pS]at Rk;cases Rk
  have k5:=k4.f4<|iy.of (l:=lw) s5;have uI:=s5 _ _ pS;refine vr xz ⟨lr,⟨_,xz,.inl<|ao.of RP,_,_,xz,xz,_,xz,by rw[aG];lia,by rw[aG];lia,?_⟩⟩;rw[show (((o.map V.int).length:Int)-1).toNat=o.length-1 by rw[aG];lia]
  let W4:IV:=λj σ H'=>j<=o.length-1/\∃w8 us,σ=[a_ (.ref m),a_<|.ref R,a_<|.ref lw,w3,w4,w5,a_<|.int (n:Nat),a_<|.ref lr,w8,w9]/\iy lw U H'/\H' lw=a_ (.dT us)/\iz us (LB++oo o j)
  refine nY (n:=o.length-1) W4 ⟨aY _,w8,us,xz,iy.of<|ak.f8 _,uI,by show iz _ (_++[]);rw[gj];exact L⟩ ?_ ?_
  .rintro j σ H6 B ⟨_,w8,Aa,rfl,g⟩;have u:=g.1;have J:=g.2.1;have I:=g.2.2;rw[lW];have aaE:=u _ _ aar RP;have Az:=Mh o j;have g1:gd (o.map V.int) (j:Int)=a_ (.int<|o.getD j 0):=bZ (by rw[cH,mU,aQ (show j<o.length by lia)];rfl)
   have g2:gd (o.map V.int) ((j:Int)+1)=a_ (.int<|o.getD (j+1) 0):=by
    rw[show ((j:Int)+1)=((j+1:Nat):Int) by lia];exact bZ (by rw[cH,mU,aQ (show j+1<o.length by lia)];rfl)
   refine HL (x:=o.getD j 0) (y:=o.getD (j+1) 0) xz J I (by rw[ba];lia) (λQ q=>⟨_,xz,_,xz,rL (v:=.int<|o.getD j 0) (ao.of aaE) g1 q⟩) (λQ q=>⟨_,xz,_,xz,_,_,xz,xz,rL (v:=.int<|o.getD (j+1) 0) (ao.of aaE) g2 q⟩) λH7 ym O X Y=>⟨B,_,ym,xz,u.f4 O,X,?_⟩;rw[adW,<-dw];exact Y
  rintro σ H6 ⟨_,w8,Aa,rfl,g⟩;have u:=g.1;have J:=g.2.1;have I:=g.2.2;have k26:=k5.f4 u;have Az:=Mh o<|o.length-1;have hLC:(LB++oo o (o.length-1)).length<=6100:=by rw[ba];lia
  have eC:LB++pJ S n=(LB++oo o (o.length-1))++ud S n S.ac.length:=by unfold pJ;rw[Ce,dw]
  rw[eC]at eN;generalize LB++oo o (o.length-1)=LC at I hLC eN;refine vr xz<|di R ws xz (.inl<|ao.of<|dl k26)<|lE _ xz li li ?_;rw[show ((ws.length:Int)).toNat=S.ac.length by lia]
  let W5:IV:=λj σ H'=>j<=S.ac.length/\∃w3 w9 us,σ=[a_ (.ref m),a_<|.ref R,a_<|.ref lw,w3,w4,w5,a_<|.int (n:Nat),a_<|.ref lr,w8,w9]/\iy lw U H'/\H' lw=a_ (.dT us)/\iz us (LC++ud S n j)
  refine nY (n:=S.ac.length) W5 ⟨aY _,w3,w9,Aa,xz,u,J,by show iz _ (_++[]);rw[gj];exact I⟩ ?_ ?_
  .clear I J k26 u;rintro j σ H7 B ⟨_,w3,w9,ym,rfl,g⟩;have O:=g.1;have X:=g.2.1;have Y:=g.2.2;rw[lW];have IX:=O _ _ aar RP;have ES:=k5.f4 O;obtain⟨a,ha⟩:∃a,S.ac[j]?=a_ a:=⟨_,aQ B⟩;refine aq (dd ES j a ha) λp T qM=>?_;have hO:=agH (n:=n) ha;have hbl:=VR S n j
   have stop:∀{H8:Hp}{w:Option V},ak H7 H8->t9 S n j=b_->W5 (j+1) [a_ (.ref m),a_<|.ref R,a_<|.ref lw,a_<|.int (j:Nat),w4,w5,a_<|.int (n:Nat),a_<|.ref lr,w8,w] H8:=λ{H8 w}s8 e=>⟨B,_,_,ym,xz,O.f4<|iy.of s8,s8 _ _ X,by
    rw[Vc,e];show iz _ (LC++(ud S n j++[]));rw[gj];exact Y⟩
   refine⟨_,xz,_,xz,rL (v:=.ref p) (ao.of<|dl ES) T<|rT (v:=.str a.k) (aF.of qM) (bZ (j:=0) xz) ⟨xz,_,xz,jY (λz=>?_) λz=>dG<|stop (ak.f8 _)<|by rw[hO];unfold rH;rw[dL<|V.str.inj z];split <;> rfl⟩⟩;refine vr xz<|vr xz<|rL (v:=.ref p) (ao.of<|dl ES) T<|rT (v:=.int (a.n:Nat)) (aF.of qM) (bZ (j:=2) xz) ⟨_,xz,rq (H:=H7) xz ?_⟩;rw[xv];refine bQ (λe=>?_) λe=>stop (ak.f8 _) (by rw[hO,dt e]);subst e
   have hA:t9 S a.n j=(nextM o a.seen).bind λb=>if b=(j:Int) then b_ else a_ ((j:Int),b,(aq8 : bx)):=by
    rw[hO,dL rfl];unfold rH;rw[dt λy=>z (by rw[y]),Ce]
   have tR:∀{D:Ends}{H8:Hp}{l8:e_}{o8:List Int},(∀σ H,W5 (j+1) σ H->D.nx σ H)->ak H7 H8->H8 l8=a_ (.lst<|o8.map V.int)->nextM o a.seen=o8.head?->R6 D [a_ (.ref m),a_<|.ref R,a_<|.ref lw,a_<|.int (j:Nat),w4,w5,a_<|.int (a.n:Nat),a_<|.ref lr,w8,a_<|.ref l8] H8:=λ{D H8 l8 o8}hD s8 wD Ka=>by
    refine c8 _ xz qc λl9 nl9=>aP (nw (o:=.lst []) nl9) λH9 e9 s9 RQ=>?_;rw[e9];clear e9;have JH:=s8.f4 s9;refine nN l8 l9<|fG _ xz xz (s9 _ _ wD) RQ<|au _ xz (jY (λz=>?_) λz=>dG<|hD _ _<|stop JH ?_)
    .cases o8 with
     | nil=>exact dV xz z
     | cons b r=>
      have jO:gd ((b::r).map V.int) (0:Int)=a_ (.int b):=bZ (j:=0) rfl;refine vr xz<|rL (v:=.int b) (ao.of<|s9 _ _ wD) jO ⟨_,xz,xz,_,xz,jY (λz=>?_) λz=>hD _ _<|stop JH ?_⟩
      .refine HL (x:=(j:Int)) (y:=b) xz (JH _ _ X) (Y) (by rw[ba];lia) (λQ q=>⟨_,xz,q⟩) (λQ q=>⟨_,xz,rL (v:=.int b) (ao.of<|s9 _ _ wD) jO q⟩) λwL anC Ak Ef amF=>hD _ _ ⟨B,_,_,anC,xz,(O.f4<|iy.of JH).f4 Ak,Ef,?_⟩;rw[Vc,hA,Ka,<-dw];show iz _ (LC++ud S a.n j++(if b=(j:Int) then b_ else a_ ((j:Int),b,(aq8 : bx)):Option T3).toList);rw[dt λy=>z (by rw[y])];exact amF
      rw[hA,Ka];show (if b=(j:Int) then b_ else _)=b_;rw[dL<|V.int.inj z]
    .have:o8=[]:=KQ.mp z;rw[hA,Ka,this];rfl
   refine vr xz<|au _ xz<|vr xz<|rL (v:=.ref p) (ao.of<|dl ES) T<|rT (v:=oV a.seen) (aF.of qM) (bZ (j:=5) xz) ⟨xz,_,xz,?_⟩;cases hs:a.seen with
   | none=>
    exact jY (λz=>dV xz z) λ_=>tR (λσ H h=>h) (ak.f8 _) IX (by rw[hs];exact adN o)
   | some d=>
    refine jY (λ_=>?_) λz=>nomatch z;refine iG (Z.sn j a ha d hs) λj' o' _ _ oQ Kh=>?_;rw[ho]at oQ;cases oQ;have hix:=abk.mpr Kh;refine vr xz<|c8 _ xz (.inl ⟨xz,_,ao.of IX⟩)<|vr xz<|vr xz<|rL (v:=.ref p) (ao.of<|dl ES) T<|rT (v:=.int d) (aF.of qM) (bZ (j:=5)<|by unfold IE;rw[hs];rfl) ⟨lr,o,d,xz,xz,IX,Kh,_,_,xz,xz,_,xz,lr,_,xz,ao.of IX,λp9 np9=>?_⟩;rw[show ((List.idxOf d o:Nat):Int)+1=((List.idxOf d o+1:Nat):Int) by lia,cutD,<-List.map_drop];exact tR (λσ H h=>h) (aH (ak.f8 _) np9) av (by rw[hs];exact adM o d)
  rintro σ H7 ⟨_,w3,w9,ym,rfl,g⟩;have O:=g.1;have X:=g.2.1;have Y:=g.2.2;exact⟨hn,⟨_,_,_,_,_,_,_,ym,xz,k5.f4 O,X,by rw[eN];exact Y⟩⟩
 rintro σ H4 ⟨_,w3,w4,w5,w6,w7,w8,w9,us,rfl,g⟩;have k4:=g.1;have pS:=g.2.1;have L:=g.2.2;have aoo:=DN hd2 12;have lg:=L.len;rw[ba]at lg;rw[<-e0]at L;exact vr xz<|q _ lw us (sm k4) nlH pS L li
end
def Zk:(["_law_deed","_law_why"]:List bx).Nodup:=dk
def afD(Z:ke S)(h:RingM (iF S) Y):Y.length<=S.ac.length:=by
 have:=AJ (l₁:=Y.map (·.1)) (l₂:=(List.range S.ac.length).map λ(i:Nat)=>(i:Int)) h.nd λd hd=>by
  refine aq (dy.mp hd) λx a e=>?_;have:=(V1 Z<|h.sub x a).1;rw[<-e];exact dy.mpr ⟨x.1.toNat,iC.mpr li,li⟩
 rwa[aG,aG,jB]at this
def ZQ:Sp:=λvs H Q _=>∃(r d:e_)(ts:List V)(Y:List T3)(fv:List (List dc×V))(S:Mc),vs=[.ref r,.ref d]/\H r=a_ (.tup ts)/\aA (nM H) ts Y/\RingM (iF S) Y/\ke S/\S.ac.length<=60/\H d=a_ (.dT fv)/\iz fv (xV S)/\∀H',ak H H'->Q (.bl c_) H'
def ZS:bj ["_law_ring","_law_due",aq9] ["_law_ring","_law_due"] (aU QK):=bG
def alc(F:aW K "_law_ring_is_right" "_law_ring_is_right" QK f fd)(aon:mg "isinstance"=b_)(anV:mg P_ = b_)(D:mg aq6 = b_)(Eg:mg L_ = b_)(da:mg aq3 = b_):aM P w K mg fi aS 1 f fd ["_law_ring","_law_due"] ZQ:=by
 refine F.ok ZS λaN A _ s H vs Q E hr h=>?_
 .obtain⟨r,d,ts,Y,fv,S,e,l,I,rM,Z,dD,hd,hD,q⟩:=h;subst e
  refine let g:TS:=_;let j:TS:=_;⟨_,ay (bX (PW.pt<|pw_or (kK<|gu<|bw jb xz aon jq<|ae (pv 0)<|ae (nj (v:=.ty P_) xz anV tQ xz) af)<|pw_or (bA BA (bw dE xz D q_<|ae (pv 0) af) ax<|bo _)<|pw_or1<|bA xG (bw afc xz D q_<|ae (q8 (afa xz) xz Eg boot_set<|ae (jc (N:=["_law_deed","_law_why"]) (idx:=[]) xz (dJ.of<|by kernel_rfl) (yT (aY _)<|aY _) (vt<|pv 0) (λ_ _ _ _=>nz xz<|eT (bC (i:=0) Zk xz (aL xz)<|.inr xz)<|eT (bC (i:=1) Zk xz (aL xz)<|.inr xz) ni) (λ_ _ _ _=>jD) λ_ _ _ _=>pv 0) af) af) (bw dE xz D q_<|ae (pv 0) af)<|bo _) (aB<|a8 iV) cj)
   (pR j<|ay (ik gJ xz (ju xz da<|ae (bw dE xz D q_<|ae (pv 0) af) af) (bC (i:=2) ZS.nd xz<|aL xz)<|pR g<|aB<|bX (Dw<|C7 (kJ hr) (fA<|ae (aO cw (aO cw (pv 0)<|bg Oo (pv 2) ax) ax)<|ae (aO cw (aO cw (pv 0)<|pv 2) ax)<|ae (aO cw (aO cw (pv 0)<|bg Oo (pv 2) ax) ax) af)<|pv 1) (aB<|a8 iV) cj)<|aB<|a8 iV),?_⟩
  have M:=eA;have O:=r_ I;have gz:=afD Z rM;have h2:=rM.two;have R:=A2 l;refine vr xz<|eh _ _ _ _<|fG _ xz (mE R) xz (mq R qc)<|au _ xz ?_;rw[show pG _ _ = c_ by decide];refine dG<|vr xz<|di r _ xz (.inr<|aF.of l) ⟨_,_,xz,xz,_,xz,bQ (λz=>dV z li) λ_=>⟨_,xz,r,xz,⟨ts,aF.of l⟩,gC (n:=ts.length) (λi ys H'=>H=H'/\ys=((Y.take i).map (·.1)).map V.int) (by rw[M];lia) ⟨xz,xz⟩ (λi ys H' z=>by rw[z.2,aG,aG,dn];exact yH _ _) ?_ ?_ ?_ ?_⟩⟩
  .rintro i ys H' hi ⟨rfl,_⟩;exact fh _ _ (aF.of l)<|aQ hi
  .rintro ys H' ⟨rfl,_⟩;exact au _ (aF.of l)<|aD _
  .rintro i ys H' hi ⟨rfl,rfl⟩ v kC ⟨eH,hv⟩;subst eH;refine aq (pe I<|hv _<|aF.of l) λx m u=>aq u λp B hp=>?_;subst B;refine⟨p,_,xz,aF.of hp,xz,_,_,xz,_,_,xz,xz,⟨_,xz,xz,?_⟩⟩;rw[jP,m,dN,dN];rfl
  rintro ys H' ⟨rfl,rfl⟩;rw[jA li];refine⟨by rw[aG,aG,M];lia,λl1 n1=>aP (nw (o:=.lst<|(Y.map (·.1)).map V.int) n1) λH1 e1 s1 qP=>?_⟩;rw[e1];refine⟨l1,_,xz,ao.of qP,by rw[aG];lia,rM.nd,λl2 n2=>⟨l2,_,xz,av,by rw[aG];lia,?_⟩⟩;rw[aG,<-O];have s2:=aH (o:=Iq P w l2 ts.length) s1 n2;refine⟨_,xz,r,ts,xz,.inr<|aF.of<|s2 _ _ l,xz,_,xz,jY (dV xz) λ_=>⟨_,xz,r,ts,xz,.inr<|aF.of<|s2 _ _ l,_,xz,li,li,?_⟩⟩;rw[show ((ts.length:Int)).toNat=ts.length by lia]
  let W1:IV:=λn σ H'=>∃z,σ=[a_ (.ref r),a_<|.ref d,z]/\ak H H'
  refine nY W1 ⟨b_,xz,s2⟩ ?_ ?_
  .rintro k σ T hk ⟨z,rfl,C⟩;rw[lW];have U:=nM.all I λb xs h=>C _ _ h;have J:=C _ _ l;have L:Y[k]?=a_ _:=aQ li;have m:Y[if k=0 then Y.length-1 else k-1]?=a_ _:=aQ (by split <;> lia);have we:=rM.we k _ _ L m;generalize Y[k]'_=y at L we;generalize Y[if k=0 then Y.length-1 else k-1]'_=x at m we;refine aq (tK U L) λvy hvy u=>aq u λpy B hpy=>?_;subst B;refine aq (tK U m) λvx G u=>aq u λpx B W=>?_;subst B
   have X:gd ts ((k:Int)-1)=a_ (.ref px):=by
    by_cases z:k=0
    .subst z;rw[dL xz,<-O]at G
     have e:pO ts.length (((0:Nat):Int)-1)=a_ (ts.length-1):=by
      unfold pO;rw[dt li,dL li];exact f0 _ li
     unfold gd;rw[e];exact G
    .rw[dt z]at G;rw[show k-1=((k-1:Nat):Int) by lia];exact bZ G
   refine⟨_,xz,_,xz,_,_,xz,xz,rT (aF.of J) X<|rT (aF.of W) xz ⟨_,xz,_,xz,rT (aF.of J) (bZ hvy)<|rT (aF.of hpy) xz ⟨_,xz,_,xz,_,_,xz,xz,rT (aF.of J) X<|rT (aF.of W) xz ⟨sl (n:=3),λtp nt=>?_⟩⟩⟩⟩;have s4:=aH (o:=.tup [.int x.1,.int y.1,.str x.2.2]) C nt;have hg:=i5.t (s4 _ _ hd) (by rw[av,<-we];rfl:cB T tp (.tup [.int x.1,.int y.1,.str x.2.2]) tp=a_ (.tup<|(oK x).map kV));rw[Ky.mp (hD.all x<|(Wo Z (λi a h=>(Z.ok i a h).c) x).mp<|rM.sub _<|bz m) |>.choose_spec]at hg;exact⟨_,xz,d,_,xz,hg,_,xz,dG ⟨_,xz,s4⟩⟩
  .rintro σ T ⟨z,rfl,C⟩;exact q _ C
noncomputable def BV(x:T3):bn:=.tuple [.int x.1,.str x.2.2]
def adh(h:x∈iF S):x.2.2="own"\/x.2.2="seen"\/x.2.2="over"\/x.2.2 = aq8:=by
 obtain h|h:=cp.mp h
 .obtain h|h:=cp.mp h
  .obtain h|h:=cp.mp h
   .refine aq (oY.mp h) λc _ h2=>b9 (Bk.mp h2) λi j a _=>?_;subst a;exact .inl xz
   .exact aq (oX.mp h) λj _ h2=>.inr<|.inl (y4 h2).choose_spec.2.2.2
  .exact aq (oY.mp h) λn _ h2=>.inr<|.inr<|.inl (Bv.mp h2).2
 .exact aq (oX.mp h) λj _ h2=>.inr<|.inr<|.inr (Gm h2).2.2
def ag1(h:x∈iF S):AZ x.2.2=true:=by
 rcases adh h with e | e | e | e <;> (rw[e];decide +kernel)
def Yo{K:u_}(hd:H d=a_ (.tup ts))(a:aA (nM H) ts Y):i3 K H (.ref d) (.tuple<|Y.map BV):=.tup (aF.of hd) (Mi (λv x h=>aq h λp e b=>by
 subst e;exact .tup (aF.of b)<|.cons (.int _)<|.cons (.str _) .nil) a)
def UT(R:List Int):shaped (.tuple [.str V_,.list<|R.map vh])=true:=by
 have d:=C8 (f:=vh) (k:=1) (l:=R) (λa _=>by simp[yO]);have e:AZ V_ = true:=dk;unfold shaped;rw[kE];refine⟨by simp only[yJ,uV];rw[(C2 (f:=vh) (l:=R)<|λa _=>rfl),e];rfl,ee ?_⟩;simp only[yO,yG];lia
def ac7{Y:List T3}(h:∀x∈Y,x∈iF S):shaped (.tuple [.str "ring",.tuple<|Y.map BV])=true:=by
 have c:uV (Y.map BV)=true:=C2 λx a=>by
  unfold BV;simp only[yJ,uV];rw[ag1<|h x a];rfl
 have d:yG (Y.map BV)<=3:=C8 λx _=>by
  unfold BV;simp only[yO,yG];decide
 have e:AZ "ring"=true:=dk;unfold shaped;rw[kE];refine⟨by simp only[yJ,uV];rw[c,e];rfl,ee ?_⟩;simp only[yO,yG];lia
def BL.dat{K:u_}(h:BL S H H1 x v)(h':BL S H2 H3 y u)(s:ak H1 H3)(f:H1 p=a_ (.tup [.str x,v]))(i:H3 p'=a_ (.tup [.str y,u])):∃D,i3 K H3 (.ref p) D/\i3 K H3 (.ref p') D/\shaped D=true:=by
 obtain⟨R,I,h⟩:=h;obtain⟨A,m,h'⟩:=h';have e:=I.same m;subst e;obtain⟨rfl,a,l,rfl,_,g⟩|⟨rfl,a,d,ts,Y,B,rfl,g,n,rM,j,o⟩:=h
 .obtain⟨rfl,_,C,rfl,_,g'⟩|⟨_,c,_⟩:=h'
  .exact⟨_,.tup (aF.of<|s _ _ f)<|.cons (.str _)<|.cons (Bg<|ao.of<|s _ _ g) .nil,.tup (aF.of i)<|.cons (.str _)<|.cons (Bg<|ao.of g') .nil,UT R⟩
  .exact dV a c
 .obtain⟨_,c,_⟩|⟨rfl,_,d',E,F,G,rfl,g',q,_,k,r⟩:=h'
  .exact dV c a
  .have t:=UC j.asc k.asc λx=>(j.mem x).f4 (k.mem x).f5;subst t;have z:=o.same r;subst z;exact⟨_,.tup (aF.of<|s _ _ f)<|.cons (.str _)<|.cons (Yo (s _ _ g)<|nM.all n λb xs e=>s _ _ e) .nil,.tup (aF.of i)<|.cons (.str _)<|.cons (Yo g' q) .nil,ac7 rM.sub⟩
def Y5:Sp:=λvs H Q _=>∃(l d:e_)(R:List Int)(fv:List (List dc×V))(S:Mc),vs=[.ref l,.int (S.ac.length:Nat),.ref d]/\H l=a_ (.lst<|R.map V.int)/\KI S.ac.length (iF S) R []/\R.length=S.ac.length/\ke S/\S.ac.length<=60/\H d=a_ (.dT fv)/\iz fv (xV S)/\fv.length<=6000/\∀H',ak H H'->Q (.bl c_) H'
structure uD(H0:Hp)(B:List T3)(H:Hp)(fv:List (dc×V)):Prop where
 aJ:∀n:Int,cx fv (a_ n:Option Int)=b_->∀x∈B,x.2.1≠n
 got:∀(n:Int)v,cx fv (a_ n:Option Int)=a_ v->∃(p:e_)(xs:List Int),v=.ref p/\H0 p=b_/\H p=a_ (.lst<|xs.map V.int)/\xs.length<=B.length/\∀b,b∈xs↔∃x∈B,x.2.1=n/\x.1=b
 inj:∀(n m:Int)v,cx fv (a_ n:Option Int)=a_ v->cx fv (a_ m:Option Int)=a_ v->n=m
def uD.nil:uD H0 [] H []:=⟨λn _ x h=>(by cases h),λn v e=>(by cases e),λn m v e=>(by cases e)⟩
def uD.keep(h:uD H0 B H fv)(k:∀b us,H b=a_ (.lst us)->H' b=a_ (.lst us)):uD H0 B H' fv:=
 ⟨h.aJ,λn v e=>Dk (h.got n v e) λp xs h1 h2 h3 h4 h5=>⟨p,xs,h1,h2,k _ _ h3,h4,h5⟩,h.inj⟩
def uD.put{H0 H H':Hp}{B:List T3}{fv i:List (dc×V)}{x:T3}{p:e_}{ys:List Int}(h:uD H0 B H fv)(e:cx i (a_ x.2.1:Option Int)=a_ (.ref p))(ne:∀m:Int,m≠x.2.1->cx i (a_ m:Option Int)=cx fv (a_ m:Option Int)/\cx fv (a_ m:Option Int)≠a_ (.ref p))(o:H0 p=b_)(h':H' p=a_ (.lst<|ys.map V.int))(r:ys.length<=B.length+1)(c:∀b,b∈ys↔∃z∈B++[x],z.2.1=x.2.1/\z.1=b)(k:∀b us,b≠p->H b=a_ (.lst us)->H' b=a_ (.lst us)):uD H0 (B++[x]) H' i:=by
 refine⟨λn hn z s=>?_,λn v d=>?_,λn m v h1 h2=>?_⟩
 .by_cases en:n=x.2.1
  .subst en;rw[e]at hn;cases hn
  .rw[(ne n en).1]at hn;obtain j|j:=cp.mp s
   .exact h.aJ n hn z j
   .rw[cR.mp j];exact b8 en
 .by_cases en:n=x.2.1
  .subst en;rw[e]at d;cases d;exact⟨p,ys,xz,o,h',by rw[ba];exact r,c⟩
  .have g:=ne n en;rw[g.1]at d;refine Dk (h.got n v d) λq xs h1 h2 h3 h4 h5=>⟨q,xs,h1,h2,k _ _ (λz=>g.2<|by rw[d,h1,z]) h3,by rw[ba];exact tj h4,λb=>?_⟩;rw[h5 b]
   exact⟨λz=>aP z λy c f l=>⟨y,jo _ c,f,l⟩,λz=>aP z λy c f l=>by
    obtain w|w:=cp.mp c
    .exact⟨y,w,f,l⟩
    .rw[cR.mp w]at f;exact dV f.f5 en⟩
 .by_cases en:n=x.2.1
  .by_cases a:m=x.2.1
   .rw[en,a]
   .subst en;rw[e]at h1;rw[(ne m a).1]at h2;exact dV (h2.f4 h1.f5) (ne m a).2
  .by_cases a:m=x.2.1
   .subst a;rw[e]at h2;rw[(ne n en).1]at h1;exact dV (h1.f4 h2.f5) (ne n en).2
   .rw[(ne n en).1]at h1;rw[(ne m a).1]at h2;exact h.inj n m v h1 h2
def iz.keys(h:iz fv L):∃B:List T3,fv.map xo=B.map oK/\∀x,x∈B↔x∈L:=by
 have g:∀l:List (List dc×V),(∀kv∈l,∃x∈L,kv.1=oK x)->∃B:List T3,l.map xo=B.map oK/\∀x∈B,x∈L:=λl=>by
  induction l with
  | nil=>exact λ_=>⟨[],xz,λx h=>(by cases h)⟩
  | cons kv l ih=>
   refine λa=>aq (ih λq f=>a q<|.tail _ f) λB e b=>aq (a _<|.head _) λx c ex=>⟨x::B,by rw[eu,eu,e,ex],λy d=>?_⟩;obtain z|z:=bq.mp d
   .rw[z];exact c
   .exact b y z
 refine aq (g _ h.key) λB e b=>⟨B,e,λx=>⟨b x,λc=>?_⟩⟩;have:=h.all x c;rw[<-y0,Lc]at this;refine aq this λkv a i=>?_;have:oK x∈B.map oK:=by rw[<-e,<-ec i];exact Tt a
 exact aq (dy.mp this) λy d j=>aij j ▸ d
def wq(B:List T3)(T:List Int)(k:Nat):Prop:=(k:Int)∉T/\∀x∈B,x.2.1=(k:Int)->x.1∈T
instance apN(B:List T3)(T:List Int)(k:Nat):Decidable (wq B T k):=by unfold wq;infer_instance
noncomputable def rP(B:List T3)(T:List Int)(m:Nat):List Int:=((List.range m).filter λk=>decide<|wq B T k).map λ(k:Nat)=>(k:Int)
def adV(B:List T3)(T:List Int)(m:Nat):rP B T (m+1)=rP B T m++if wq B T m then [(m:Int)] else []:=by
 unfold rP;rw[kF,qX,dN]
 by_cases h:wq B T m <;> simp[h]
def aeY(B:List T3)(T:List Int)(m:Nat):(rP B T m).length<=m:=by
 have:=qW (λk=>decide<|wq B T k)<|List.range m;rw[jB]at this;unfold rP;rw[aG];exact this
def ag7{R:List Int}{i:Nat}{b:Int}(h:R.Nodup)(e:R[i]?=a_ b):b∉R.take i:=λz=>by
 refine oE (oW z) λj a=>?_;have c:=(bu.mp a).1;rw[dn]at c;rw[sZ,dL li]at a;obtain⟨f,d⟩:=bu.mp a;obtain⟨b1,b2⟩:=bu.mp e;exact lj.mp h j i _ _ li<|d.f4 b2.f5
def aeX{M:Nat}{B f:List T3}{R:List Int}{i:Nat}{b:Int}(I:KI M f R [])(g:∀x,x∈B↔x∈f)(e:R[i]?=a_ b):∃r,rP B (R.take i) M=b::r:=by
 have n:=I.lt b<|bz e
 have hm:b∈rP B (R.take i) M:=dy.mpr ⟨b.toNat,lu.mpr ⟨iC.mpr li,ee (by
  unfold wq;rw[KU n.1];exact⟨ag7 I.nd e,λx d ex=>I.rs i b e x ((g x).mp d) ex⟩)⟩,li⟩
 have j:(rP B (R.take i) M).Pairwise (· < ·):=uY _ (λa b h=>li)<|abJ _<|Tf
 have m:∀c∈rP B (R.take i) M,b<=c:=λc o=>aq (dy.mp o) λk p q=>by
  have z:=lu.mp p;have ok:=ec z.2;rw[<-q];exact I.ls i b e k li (by have:=iC.mp z.1;lia) ok.1 λx d ex=>ok.2 x ((g x).mpr d) ex
 generalize rP B _ M=l at hm j m;rcases l with _|⟨c,r⟩;cases hm
 obtain z|z:=bq.mp hm
 .exact⟨r,by rw[z]⟩
 .have:=(sY.mp j).1 b z;have:=m c<|.head _;lia
def xS(n:Nat):List Int:=(List.range n).map λ(i:Nat)=>(i:Int)
def afC(I:KI M B R [])(h:R.length=M)(f:zs.Perm R)(g:zs.Pairwise (·<=·)):zs=xS M:=by
 have i:(xS M).Nodup:=uY _ (λa b z e=>z li)<|FG
 have sub:∀b∈R,b∈xS M:=λb d=>by
  have:=I.lt b d;exact dy.mpr ⟨b.toNat,iC.mpr li,li⟩
 refine eW.eq_of_pairwise (λa b _ _ h1 h2=>Int.le_antisymm h1 h2) g (uY _ (λa b h=>li)<|Tf)<|f.f4 ((List.perm_ext_iff_of_nodup I.nd i).mpr λb=>⟨sub b,λd=>Ct λj=>?_⟩)
 have:=AJ (l₁:=b::R) (l₂:=xS M) (vd.mpr ⟨j,I.nd⟩) (λc k=>by
  obtain z|z:=bq.mp k
  .rw[z];exact d
  .exact sub c z)
 unfold xS at this;rw[gI,aG,jB]at this;lia
def ahu(n:Nat):((List.range n).map λ(i:Nat)=>V.int (i:Nat))=(xS n).map V.int:=by
 unfold xS;rw[vg];rfl
def ail{G:Bool->Hp->Prop}(h:∀c:Bool->Hp->Prop,(∀b a,G b a->c b a)->T σ H c)(k:∀b a,G b a->if b=c_ then A D σ a else B D σ a):PM T A B D σ H:=h _ k
def alm:(["_law_known","_law_one"]:List bx).Nodup:=dk
def vD:bj ["_law_row","_law_many","_law_due","_law_ahead","_law_one","_law_other","_law_why","_law_known","_law_number","_law_free",aq9] il (aU P0):=bG
def ajk{f:e_}{fd:lz}(F:aW K "_law_row_is_right" "_law_row_is_right" P0 f fd)(hI:mg "isinstance"=b_)(mP:mg "list"=b_)(RG:mg "sorted"=b_)(da:mg aq3 = b_):aM P w K mg fi aS 1 f fd il Y5:=by
 refine F.ok vD λaN A _ s H vs Q E hr h=>?_
 .obtain⟨l,d,R,fv,S,e,hl,I,hR,Z,dD,hd,hD,hdl,q⟩:=h;subst e;have hu:=zc hr
  refine let R1:TS:=_;let R2:TS:=_;let R3:TS:=_;let R4:TS:=_;let R5:TS:=_;let R6:TS:=_;let R7:TS:=_;let R8:TS:=_;⟨_,ay (bX (PW.pt<|pw_or (kK<|gu<|bw jb xz hI jq<|ae (pv 0)<|ae (nj (v:=.ty "list") xz mP Bc xz) af)<|pw_or1<|bA (Ot hu) (bw acY xz RG boot_sorted<|ae (pv 0) af) (afM xz xz mP xz da<|ae (pv 1) af)<|bo _) (aB<|a8 iV) cj) (pR R8 (ay (bP (i:=3) vD.nd xz (aL xz) Gx) (pR R7 (ay (ik gJ xz (ak6<|pv 2) (nz xz<|eT (bC (i:=4) vD.nd xz<|aL xz)<|eT (bC (i:=5) vD.nd xz<|aL xz)<|eT (bC (i:=6) vD.nd xz<|aL xz) ni)<|aB<|dC<|je m_ n_ o_ m5 (adC (pv 3) (pv 5) (dP af) ⟨xz,xz,xz,xz⟩)<|ae (pv 4) af) (pR R6 (afH (ay (bP (i:=7) vD.nd xz (pA xz) Gx) (pR R5 (ay (ik gJ xz (rB<|pv 0) (bC (i:=8) vD.nd xz<|aL xz) (ay (bP (i:=9) vD.nd xz (aL xz)<|dP af) (pR R3 (ay (ik gJ xz (ju xz da<|ae (pv 1) af) (bC (i:=10) vD.nd xz<|aL xz)<|pR R2<|aB<|bX (PW.pt<|pw_and (Dw<|C7 (kJ hr) (pv 10)<|pv 7)<|pw_and1<|bA (Wu hu) (jc (N:=["_law_known","_law_one"]) (idx:=[7]) xz (dJ.of<|by kernel_rfl) (jr<|aD _) (rB<|afN (kJ hr) (pv 3) (pv 10) (dP af) ⟨xz,xz,xz,xz⟩) (λ_ _ _ _=>bC (i:=1) alm xz (aL xz)<|.inr xz) (λ_ _ _ _=>xp<|Dw<|C7 (kJ hr) (pv 1)<|pv 0) λ_ _ _ _=>pv 1) (dP af)<|bo _) (aB<|dC<|je m_ n_ o_ m5 (pv 9)<|ae (pv 10) af) cj)
    (pR R1<|ay (bX (PW.pt<|pw_or (bA (Wu hu) (pv 9) (dP af)<|bo _)<|pw_or1<|bA xG (pv 8) (aO cG (pv 9) ax)<|bo _) (aB<|a8 iV) cj)<|aB<|xq (kJ hr) (pv 7) (pv 8) iV xz)))))
   (pR R4<|aB<|a8 iV)))))))))),?_⟩
  have hsz:=eA;have hT:db H (.ref l)=a_ "list":=by unfold db;simp only[hl]
  refine vr xz<|eh _ _ _ _<|fG _ xz (mE hT) xz (mq hT qc)<|au _ xz ?_;rw[show pG "list" "list"=c_ by decide];refine dG<|vr xz (qo l R xz (ao.of hl) li λl2 zs nl2 hp hs=>aP (nw (o:=.lst<|zs.map V.int) nl2) λH2 e s2 h2=>?_);rw[e];have ez:=afC I hR hp hs;subst ez;refine vr xz (c8 S.ac.length xz li λl3 EM=>?_);rw[ahu];refine aP (nw (o:=.lst<|(xS S.ac.length).map V.int) EM) λH3 e s3 h3=>?_;rw[e];refine Wy (Bg<|ao.of<|s3 _ _ h2) (Bg<|ao.of h3) (adw (λa _=>rfl) λa _=>by simp[yO])<|au _ xz<|dG ?_;have s03:=s2.f4 s3;refine λJ JS=>aP (nw (o:=.dK []) JS) λH4 e s4 ha4=>?_;rw[e];have aas:=s03.free JS;have s04:=s03.f4 s4;have Ro:J≠d:=b8<|a7 hd aas;obtain⟨B,eB,hB⟩:=hD.keys;have hBl:B.length=fv.length:=by have:=f0 UN eB;rw[aG,aG]at this;exact this.f5
  refine⟨_,xz,d,fv,xz,s04 _ _ hd,λo=>?_⟩
  let W1:IV:=λi σ H'=>i<=fv.length/\∃(L M O:Option V)(kv:List (dc×V)),σ=[a_ (.ref l),a_<|.int (S.ac.length:Nat),a_<|.ref d,a_<|.ref J,L,M,O,b_,b_,b_,b_]/\iy d H H'/\H' d=a_ (.gZ o<|.dT fv)/\H' J=a_ (.dK kv)/\uD H (B.take i) H' kv/\kv.length<=i
  refine ajP W1 ⟨aY _,b_,b_,b_,[],xz,λb u n e=>by rw[ag n];exact s04 _ _ e,av,by rw[ag Ro];exact ha4,uD.nil,aD _⟩ ?_ ?_ ?_
  .rintro i σ H' _ ⟨_,L,M,O,kv,rfl,k5,T,_⟩;exact T
  .rintro i σ H' p k hi hk hp ⟨_,L,M,O,kv,rfl,k5,T,D,U,pW⟩;rw[<-cH,eB,cH]at hk;refine aq (sU.mp hk) λx hx ex=>?_;subst ex;have tk:B.take (i+1)=B.take i++[x]:=by rw[jP,hx];rfl
   refine⟨p,_,xz,aF.of hp,xz,_,_,xz,_,_,xz,_,[],xz,xz,⟨_,xz,J,xz,.inl ⟨kv,.inl D⟩,_,xz,qc,λt nx=>⟨kv,.inl<|a_ x.2.1,by rw[ag<|a7 D nx];exact D,xz,by rw[hsz];lia,λv hv=>?_,λhv=>?_⟩⟩⟩
   .obtain⟨q',xs,h1,h2,h3,h4,h5⟩:=(U.got _ v hv);subst h1;rw[dn]at h4;have Kk:cB H' t (.lst []) q'=a_ (.lst<|xs.map V.int):=by rw[ag<|a7 h3 nx];exact h3
    refine⟨.inl ⟨xz,_,ao.of Kk⟩,_,xz,q',_,.int x.1,xz,xz,Kk,by rw[hsz,aG];lia,hi,_,_,_,kv,xz,λb u n e=>?_,?_,?_,?_,li⟩
    .rw[ag<|a7 e h2,ag<|a7 (k5 b u n e) nx];exact k5 b u n e
    .rw[ag<|a7 hd h2,ag<|a7 T nx];exact T
    .rw[ag (λz=>by rw[z,h3]at D;cases D),ag<|a7 D nx];exact D
    .rw[tk];refine U.put (p:=q') (ys:=xs++[x.1]) hv (λm hm=>⟨xz,λz=>hm<|U.inj m _ _ z hv⟩) h2 (by rw[av,dN];rfl) (by rw[ba,dn];exact tm h4) (λb=>?_) λb us X e=>by rw[ag X,ag<|a7 e nx];exact e
     rw[cp,h5 b,cR];exact⟨λz=>z.elim (λz=>aP z λy C W Y=>⟨y,jo _ C,W,Y⟩) λz=>⟨x,by simp,xz,z.f5⟩,λz=>aP z λy C W Y=>(cp.mp C).elim (λw=>.inl ⟨y,w,W,Y⟩) λw=>.inr<|by rw[<-Y,cR.mp w]⟩
   .have xa:t≠J:=b8<|a7 D nx;have xd:t≠d:=b8 (a7 T nx)
    have Rb:H t=none:=by
     rcases e:H t with _|u;rfl;rw[k5 t u xd e]at nx;cases nx
    have hx5:cB (cB H' t<|.lst []) J (.dK<|putK kv (.inl<|a_ x.2.1)<|.ref t) t=a_ (.lst []):=by rw[ag xa];exact av
    have hlen:=tL kv (.inl<|a_ x.2.1)<|V.ref t;refine⟨.inl ⟨xz,_,ao.of hx5⟩,_,xz,t,_,.int x.1,xz,xz,hx5,by rw[hsz];decide,hi,_,_,_,putK kv (.inl<|a_ x.2.1)<|.ref t,xz,λb u n e=>?_,?_,?_,?_,li⟩
    .rw[ag<|a7 e Rb,ag<|a7 e aas,ag<|a7 e Rb];exact k5 b u n e
    .rw[ag<|b8 xd,ag<|b8 Ro,ag<|b8 xd];exact T
    .rw[ag<|b8 xa];exact av
    .rw[tk]
     refine U.put (p:=t) (ys:=[x.1]) (by rw[tS,dL rfl]) (λm hm=>⟨by rw[tS,dt λz=>hm (by injection z with z;exact cI z)],λz=>cZ (U.got m _ z) λq' xs h1 h2 zq=>by
      cases h1;rw[nx]at zq;cases zq.1⟩) Rb av (by simp) (λb=>?_) λb us X e=>by rw[ag X,ag (λz=>by rw[z,D]at e;cases e),ag X];exact e
     rw[cR];exact⟨λz=>⟨x,by simp,xz,z.f5⟩,λz=>aP z λy C W Y=>(cp.mp C).elim (λw=>dV W<|(U.aJ _ hv) y w) λw=>by rw[<-Y,cR.mp w]⟩
  .rintro σ H5 ⟨_,L,M,O,kv,rfl,k5,T,D,U,pW⟩;rw[<-hBl,AQ]at U;refine⟨d,o,fv,T,hd,?_⟩
   have s6:ak H (cB H5 d<|.dT fv):=λb u e=>by
    by_cases z:b=d
    .subst z;rw[hd]at e;cases e;exact av
    .rw[ag z];exact k5 b u z e
   have Cm:cB H5 d (.dT fv) J=a_ (.dK kv):=by rw[ag Ro];exact D
   have Sx:=U.keep (H':=cB H5 d<|.dT fv) λb us e=>by rw[ag (λz=>by rw[z,T]at e;cases e)];exact e
   generalize cB H5 d (.dT fv)=H6 at s6 Cm Sx ⊢;refine λlk nk=>aP (nw (o:=.dK []) nk) λH7 e s7 hk7=>?_;rw[e];refine⟨_,xz,l,xz,⟨_,ao.of<|s7 _ _<|s6 _ _ hl⟩,?_⟩
   let W2:IV:=λi σ H'=>i<=R.length/\∃(L M O x8 x9 yk:Option V)(kn:List (dc×V)),σ=[a_ (.ref l),a_<|.int (S.ac.length:Nat),a_<|.ref d,a_<|.ref J,L,M,O,a_<|.ref lk,x8,x9,yk]/\ak H6 H'/\H' lk=a_ (.dK kn)/\(∀b:Int,(cx kn<|.inl<|a_ b).isSome=decide (b∈R.take i))/\kn.length<=i
   refine Df (xs:=R.map V.int) W2 ⟨aY _,_,_,_,_,_,_,[],xz,s7,hk7,λb=>rfl,aD _⟩ ?_ ?_ ?_
   .rintro i σ H' _ ⟨_,L,M,O,x8,x9,yk,kn,rfl,s8,_⟩;exact ao.of<|s8 _ _<|s6 _ _ hl
   .rintro i x σ H8 sD ⟨_,L,M,O,x8,x9,yk,kn,rfl,s8,hk8,hK,pW⟩;rw[cH]at sD;refine aq (sU.mp sD) λb X eb=>?_;subst eb;have hi:i<R.length:=(bu.mp X).1;refine⟨qc,λlf nf=>aP (nw (o:=.lst []) nf) λH9 e s9 Sa=>?_⟩;rw[e];have nfH:=s8.free nf;have nkf:lk≠lf:=a7 hk8 nf;refine⟨_,xz,_,xz,li,li,?_⟩;rw[show ((S.ac.length:Nat):Int).toNat=S.ac.length by lia]
    let W3:IV:=λj σ H'=>j<=S.ac.length/\∃yk:Option V,σ=[a_ (.ref l),a_<|.int (S.ac.length:Nat),a_<|.ref d,a_<|.ref J,L,M,O,a_<|.ref lk,a_<|.int b,a_<|.ref lf,yk]/\ak H6 H'/\H' lk=a_ (.dK kn)/\H' lf=a_ (.lst<|(rP B (R.take i) j).map V.int)
    refine nY (n:=S.ac.length) W3 ⟨aY _,_,xz,s8.f4 s9,s9 _ _ hk8,Sa⟩ ?_ ?_
    .rintro j σ H' hj ⟨_,yk,rfl,gH,yd,BR⟩;rw[lW];have hR2:R2=PM _ _ _:=rfl;rw[hR2];refine ail (G:=λc H3=>ak H' H3/\(c=c_↔wq B (R.take i) j)) (λQk hq=>?_) λc H3 hg=>?_
     .refine⟨_,xz,_,xz,lk,_,xz,i5.k (k:=.inl<|a_ (j:Int)) yd,_,xz,?_⟩;rw[hK];refine jY (λhn=>?_) λC=>hq _ _ ⟨ak.f8 _,λz=>(nomatch z),λz=>dV C z.1⟩;refine⟨_,xz,J,xz,.inl ⟨kv,.inl<|gH _ _ Cm⟩,_,xz,qc,λt nx=>⟨_,i5.k (k:=.inl<|a_ (j:Int)) (by rw[ag<|a7 (gH _ _ Cm) nx];exact gH _ _ Cm),aP (nw (o:=.lst []) nx) λnV AE fJ anR=>?_⟩⟩;rw[AE];clear AE
      obtain⟨px,xs,ex,sF,hxl,EW⟩:∃(px:e_)(xs:List Int),(cx kv<|.inl<|a_ (j:Int)).getD (.ref t)=.ref px/\nV px=a_ (.lst<|xs.map V.int)/\xs.length<=6000/\∀b,b∈xs↔∃x∈B,x.2.1=(j:Int)/\x.1=b:=by
       cases g:cx kv (.inl<|a_ (j:Int))with
       | none=>exact⟨t,[],xz,anR,aY _,λb=>⟨λz=>(by cases z),λz=>aP z λy C W _=>dV W<|Sx.aJ _ g y C⟩⟩
       | some v=>exact Dk (Sx.got _ v g) λp xs h1 h2 h3 h4 h5=>⟨p,xs,h1,fJ _ _<|gH _ _ h3,li,h5⟩
      rw[ex];refine⟨px,xz,⟨_,ao.of sF⟩,gC (n:=xs.length) (λm ys H2=>m<=xs.length/\H2=nV/\ys=((xs.take m).filter λc=>decide<|c∉R.take i).map V.int) (by rw[hsz];lia) ⟨aY _,xz,xz⟩ ?_ ?_ ?_ ?_ ?_⟩
      .rintro m ys H2 ⟨hm,_,rfl⟩;rw[aG];exact cF (qW _ _) (by rw[dn];exact yH _ _)
      .rintro m ys H2 hm ⟨_,rfl,_⟩;exact fh _ (V.int xs[m]) (ao.of sF) (by rw[cH,aQ hm];rfl)
      .rintro ys H2 ⟨_,rfl,_⟩;exact au _ (ao.of sF) (by rw[aG];exact aD _)
      .rintro m ys H2 hm ⟨_,rfl,rfl⟩ v H3 ⟨rfl,hx⟩;have fu:=hx _<|ao.of sF;rw[cH,aQ hm]at fu;cases fu;refine⟨_,xz,_,xz,lk,_,xz,i5.k (k:=.inl<|a_ xs[m])<|fJ _ _ yd,_,xz,?_⟩;have tk:xs.take (m+1)=xs.take m++[xs[m]]:=by rw[jP,aQ hm];rfl
       rw[hK,tk,qX,dN];refine jY (λz=>⟨_,xz,hm,xz,?_⟩) λz=>⟨hm,xz,?_⟩
       .rw[tF,dL<|ee z];rfl
       .rw[tF,dt λy=>dV z<|ec y];exact(gj _).f5
      .rintro ys H2 ⟨_,rfl,rfl⟩;rw[AQ];refine⟨by rw[hsz,aG];exact cF (qW _ _) li,λlc nc=>aP (nw (o:=.lst<|(xs.filter λc=>decide<|c∉R.take i).map V.int) nc) λSR Kn jJ aov=>?_⟩;rw[Kn];refine⟨qc,λle ne=>aP (nw (o:=.lst []) ne) λH13 e13 EI aor=>?_⟩;rw[e13];refine⟨lc,le,_,xz,xz,EI _ _ aov,aor,_,xz,hq _ _ ⟨(fJ.f4 jJ).f4 EI,?_⟩⟩;rw[decide_eq_true_eq,KQ,abu];exact⟨λz=>⟨hn,λy C e=>Ct λw=>z y.1 ((EW _).mpr ⟨y,C,e,xz⟩)<|ee w⟩,λz c hc w=>aP ((EW c).mp hc) λy C W Y=>ec w<|Y ▸ z.2 y C W⟩
     .obtain⟨su,hc⟩:=hg;have RZ:=aeY B (R.take i) j;have QA:=su _ _ BR;have aaH:=su _ _ yd;have fs:=adV B (R.take i) j;rcases c with _|_
      ·rw[dt λz=>dW<|hc.mpr z,gj]at fs;exact dG ⟨hj,_,xz,gH.f4 su,aaH,by rw[fs];exact QA⟩
      rw[dL<|hc.mp xz]at fs;refine lG ⟨_,xz,.inl ⟨xz,_,ao.of QA⟩,_,xz,lf,_,.int (j:Nat),xz,xz,QA,by rw[hsz,aG];lia,hj,_,xz,ma (gH.f4 su) nfH,?_,?_⟩
      .rw[ag nkf];exact aaH
      .rw[av,fs,dN];rfl
    .rintro σ H' ⟨_,yk,rfl,gH,yd,BR⟩;obtain⟨r,er⟩:=aeX I (λx=>(hB x).f4 (Wo Z (λi a h=>(Z.ok i a h).c) x).f5) X;rw[er]at BR;refine⟨_,xz,qc,λle ne=>aP (nw (o:=.lst []) ne) λnV e fJ he=>?_⟩;rw[e];refine⟨lf,le,_,xz,xz,fJ _ _ BR,he,_,xz,bQ (λz=>nomatch z) λ_=>⟨_,xz,_,xz,rL (v:=.int b) (ao.of<|fJ _ _ BR) (bZ (j:=0) xz) ⟨xz,_,xz,jY (λz=>dV xz z) λ_=>?_⟩⟩⟩;have tk:R.take (i+1)=R.take i++[b]:=by rw[jP,X];rfl
     refine⟨_,xz,_,xz,lk,_,xz,uo.k (k:=.inl<|a_ b) (fJ _ _ yd) (by rw[hsz];lia),hi,_,_,_,_,_,_,_,xz,ma (gH.f4 fJ) nk,av,λc=>?_,cF (tL _ _ _)<|tm pW⟩;rw[tS,tk]
     by_cases z:c=b
     .subst z;rw[dL rfl];simp
     .rw[dt λy=>z (by injection y with y;exact cI y),hK c];simp[z]
   .rintro σ H' ⟨_,L,M,O,x8,x9,yk,kn,rfl,s8,_⟩;exact q H'<|s6.f4 s8
def ajV{P:k_}{w:j_}{K:u_}{mg:bx->Option f_}{fi:i_}{k:Nat}(F:aM P w K mg fi (kZ P w) k f fd ps sp):aM P w K mg fi aS k f fd ps (λvs H Q _=>sp vs H Q λ_ _ _=>False):=
 ⟨λvs H Q E h=>F.len vs H Q _ h,λA outer s H args us vs Q E a b d g i=>AY (F.run A outer s H args us vs Q (λ_ _ _=>False) a b d g i) λr m h=>by
  rcases r with e|j;exact LJ h λea c dd T H' _ _ _ _ _ l=>qk l λ_ _ _ _ _ q=>q.elim;cases j <;> exact h⟩
section
variable{t:a9}{C CT:e_}
def Nh(t:a9)(C CT PT:e_):Sp:=λvs H Q _=>∃m A S fx n,vs=[.ref m,.int (S.ps.length:Nat)]/\bb t C CT H m A S/\kQ fx m A/\iJ n S/\n<=9000/\S.ac.length<=60/\dS S/\dm PT LP LQ H/\
 ∀H' S' a,bb t C CT H' m A S'->iJ a S'->a<=n+60->EB S S'->aZ (cX m A) H H'->dm PT LP LQ H'->Q (.bl c_) H'
def G':bj ["_law_machine","_law_many","_law_found","_law_due","_law_kept"] hU (aU N6):=bG
def afY{f fB cW PT:e_}(F:aW K "_law_right" "_law_right" N6 f fd)(cM:fV K C)(hI:mg "isinstance"=b_)(mP:mg "list"=b_)(kj:mg P_ = b_)(cE:mg aq6 = b_)(DR:Dp P w K mg fi 6 "_law_refused" h6 (X9 t C CT))(DW:Dp P w K mg fi 3 "_law_first_waits" hU (Xa t C CT))(DS:Mt P w K mg fi C 8 "settle" fC (Wa t C CT PT))(GB:aM P w K mg fi (kZ P w) 5 fB nO fF (G8 t C CT cW))(kB:x_ K (.ref fB)=c_)(bB:d5 K nO fF [])(mB:mg "order"=a_ (.ref fB))(DD:Dp P w K mg fi 2 "_law_befores" h6 (Y8 t C CT))(DDe:Mt P w K mg fi C 1 "deeds" fC (Bi t C CT))(DRw:Dp P w K mg fi 1 "_law_row_is_right" il Y5)(DRi:Dp P w K mg fi 1 "_law_ring_is_right" ["_law_ring","_law_due"] ZQ):aM P w K mg fi aS 9 f fd hU (Nh t C CT PT):=by
 have SU:=ajV GB;refine F.ok G' λaN A _ s H vs Q E hr h=>?_
 .obtain⟨m,A,S,fx,n,aa,M,L,W,hn,aX⟩:=h;subst aa;refine nF aX λdD hH lam q=>?_;have hu:=zc hr;have EZ:=hr.mono (show 5<=8 by decide);have uJ:=hr.mono (show 3<=8 by decide);have jk:=hr.mono (show 2<=8 by decide);have iM:=hr.mono (show 1<=8 by decide);refine let r:TS:=_;let u:TS:=_;let y:TS:=_;let J:TS:=_;let N:TS:=_;let O:TS:=_;let U:TS:=_;let X:TS:=_;⟨_,ay (bX (bA xG (gF DR (hr.mono (show 6<=8 by decide)) xz<|ae (pv 0) af) (gF DW uJ xz<|ae (pv 0)<|ae (pv 1) af)<|bo _) (aB<|a8 iV) cj)<|pR X<|ay (dC<|ph (pv 0) cM.cl DS hr)<|pR U<|ay (bP (i:=2) G'.nd xz (aL xz)<|jU SU EZ xz mB kB bB .nil dh<|ae (pv 0) af)<|pR O<|ay (bX (PW.pt<|pw_or (kK<|gu<|bw jb xz hI jq<|ae (pv 2)<|ae (nj (v:=.ty P_) xz kj tQ xz) af)<|pw_or (bA xG (bw dE xz cE q_<|ae (pv 2) af) ax<|bo _)<|pw_or1<|bA (Ot hu) (jU SU EZ xz mB kB bB .nil dh<|ae (pv 0) af) (pv 2)<|bo _) (aB<|a8 iV) cj)<|pR N<|ay (bP (i:=3) G'.nd xz (aL xz)<|gF DD jk xz<|ae (pv 0) af)<|pR J<|ay (bX (bA dF (aO cw (pv 2) ax) cU<|bo _) (pR y<|ay (bP (i:=4) G'.nd xz (aL xz)<|q8 LD xz mP Bc<|ae (aO cw (pv 2) ax) af)<|pR u<|ay (bX (PW.pt<|pw_or (kK<|gu<|gF DRw iM xz<|ae (pv 4)<|ae (bw dE xz cE q_<|ae (ph (pv 0) cM.cl DDe iM) af)<|ae (pv 3) af)<|pw_or1<|kK<|gu<|bw jb xz hI jq<|ae (aO cw (pv 2) ax)<|ae (nj (v:=.ty "list") xz mP Bc xz) af) (aB<|a8 iV) cj)<|pR r<|ay (dC<|je m_ n_ o_ m5 (aO cw (pv 2) ax)<|ae ax af)<|aB<|a8<|xt (Ys hu) (jU SU EZ xz mB kB bB .nil dh<|ae (pv 0) af) (fA<|ae cU<|ae (pv 4) af)<|bo _) cj)<|aB<|a8<|Dy (xt dF (aO cw (pv 2) ax) cU<|bo _)<|Bu<|gF DRi iM xz<|ae (aO cw (pv 2) ax)<|ae (pv 3) af,?_⟩;have hNm:IG S:=λk hk e he=>(M.D8 k hk).nm e he;have hz:=λ{T:Mc}(h:xQ T)(k:Ck)(hk:k∈T.ck)=>oE (oW hk) λi hi=>h i k hi;refine vr xz<|⟨m,A,S,xz,M,W.wf,dD,(λhn=>hH.ZR<|hz hn),(λH1 s1=>(vr xz<|vr xz<|⟨m,A,S,(lC _ xz (M.same s1) W.wf dD xz λH2 s2=>⟨xz,⟨_,xz,Ia xz ?_⟩⟩)⟩))⟩;have jJ:=s1.f4 s2;have M2:=M.same jJ;have hwt:=hH.akJ;refine b9 (id M2.obj) λdx fs hm G=>vM xz hm (G.ms _ dk) ⟨m,A,S,fx,n,EB S,xz,M2,L,W,li,lX lam jJ,⟨hH,hNm,xz,xz,W.wf.ov⟩,λT n mv hT _ _ h=>hT.car h,λH3 l3 S' n' a Ff W' yq M3 k3 Qq=>?_⟩;have hE0:=aj2 M3.D8 Ff;have Z:=a.cV.ZR hE0;have hnW:xQ S':=λi k hk=>hE0 k<|bz hk;have Je:S'.ac.length<=60:=by rw[a.ac];exact dD
  have noF:∀c,By S' c->False:=λc⟨k,hk,fZ,_⟩=>fZ<|hnW c k hk;have ask:∀{H4:Hp}{Q':VK},bb t C CT H4 m A S'->(∀H5 p x v,ak H4 H5->H4 p=b_->H5 p=a_ (.tup [.str x,v])->BL S' H4 H5 x v->Q' (.ref p) H5)->G8 t C CT cW [.ref m] H4 Q' (λ_ _ _=>False):=λ{H4 Q'}M4 k=>⟨m,A,S',xz,M4,W'.wf,Je,λ_=>⟨Z,k⟩,λc hc=>(noF c hc).elim⟩;refine vr xz (ask M3 λH4 p x v s4 np hp hO=>?_);have hT:=A2 hp;refine vr xz<|eh _ _ _ _<|fG _ xz (mE hT) xz (mq hT qc)<|au _ xz ?_;rw[show pG P_ P_ = c_ by decide];refine dG<|vr xz<|di p _ xz (.inr<|aF.of hp) ⟨xz,⟨_,xz,Ia xz ?_⟩⟩;refine vr xz (ask (M3.same s4) λH5 p5 x5 v5 s5 np5 km hO5=>?_);obtain⟨D,d1,d2,d3⟩:=BL.dat (K:=K) hO hO5 s5 hp km;refine vr xz<|Wy d2 d1 d3<|au _ xz<|dG ?_;have s45:=s4.f4 s5;refine⟨_,xz,m,A,S',xz,M3.same s45,W'.wf,Je,Z,λH6 d fv s6 nd hd hD hdl=>?_⟩;have QZ:=s45.f4 s6;have E2:=s6 _ _<|s5 _ _ hp;have M6:=M3.same QZ;have BO:=lX Qq QZ;have k6:aZ (cX m A) H H6:=((aZ.of jJ).f4 k3).f4<|aZ.of QZ;refine⟨_,xz,rT (v:=.str x) (aF.of E2) (bZ (j:=0) xz) ⟨xz,_,xz,bQ (λex=>?_) λex=>?_⟩⟩
  .have ex:=V.str.inj ex;obtain⟨R,I,hO⟩:=hO;obtain⟨_,hl,l,rfl,nl,g⟩|⟨er,_⟩:=hO
   .have g6:=s6 _ _<|s5 _ _ g;refine⟨_,xz,rT (v:=.ref l) (aF.of E2) (bZ (j:=1) xz) ⟨l,_,xz,.inl<|ao.of g6,λlk nk=>aP (nw (o:=.lst<|R.map V.int) nk) λH7 e7 s7 hk=>?_⟩⟩;rw[e7];clear e7;refine b9 (id (M6.same s7).obj) λdx7 SA E8 G7=>⟨_,xz,vM xz E8 (G7.ms _ dk) ⟨m,A,S',xz,M6.same s7,λld wd Rn hpd=>aP (nw (o:=.lst wd) Rn) λH8 e8 s8 hd8=>?_⟩⟩;rw[e8];clear e8;refine⟨ld,wd,xz,.inl<|ao.of hd8,_,xz,lk,d,R,fv,S',by rw[r_ hpd];rfl,s8 _ _ hk,I,hl,Z,Je,s8 _ _<|s7 _ _ hd,hD,hdl,λH9 s9=>⟨_,xz,dG ?_⟩⟩;have EG:=(s7.f4 s8).f4 s9;have hp9:=EG _ _ E2;have g9:=EG _ _ g6;have RS:=s9 _ _<|s8 _ _ hk;have Fi:db H9 (.ref l)=a_ "list":=by unfold db;simp only[g9]
    refine⟨_,xz,rT (v:=.ref l) (aF.of hp9) (bZ (j:=1) xz)<|eh _ _ _ _<|fG _ xz (mE Fi) xz (mq Fi qc)<|au _ xz ?_⟩;rw[show pG "list" "list"=c_ by decide];refine dG ⟨_,xz,rT (v:=.ref l) (aF.of hp9) (bZ (j:=1) xz) ⟨.inl ⟨xz,_,ao.of g9⟩,l,_,_,xz,xz,g9,by rw[eA,aG];lia,?_⟩⟩;have M9:=M6.same EG
    have nI:¬cX m A l:=λz=>by
     refine aq (M3.HZ z) λo e _=>?_;rw[nl]at e;cases e
    have kU:aZ (λb=>b=l) H9 (cB H9 l<|.lst<|R.map V.int++[.int 0]):=aZ.cB rfl;have SN:=M9.Pd kU λb z=>⟨by rw[z];exact nI,λo e=>by rw[z,g9]at e;cases e;exact⟨_,xz⟩⟩;have ZH:=NJ (o:=.lst<|R.map V.int++[.int 0]) g9<|lX BO EG;have Rl:lk≠l:=λz=>by rw[z,g6]at nk;cases nk
    have yd:cB H9 l (.lst<|R.map V.int++[.int 0]) lk=a_ (.lst<|R.map V.int):=by rw[ag Rl];exact RS
    have kA:=k6.f4<|aZ.of EG;have Ak:aZ (cX m A) H (cB H9 l<|.lst<|R.map V.int++[.int 0]):=⟨λb o h1 h2 e=>by rw[ag (λz=>by rw[z,(jJ.free<|k3.t _ nl)]at e;cases e)];exact kA.k b o h1 h2 e,λb e=>kA.t b<|kU.t b e⟩;generalize cB H9 l (.lst<|R.map V.int++[.int 0])=wL at kU SN ZH yd Ak ⊢;refine⟨_,xz,ask SN λnV p11 x11 v11 fJ apP an6 QF=>⟨_,xz,sl (n:=2),λtp nt=>?_⟩⟩;have IL:=aH (o:=.tup [.str V_,.ref lk]) (ak.f8 nV) nt;have kj:cB nV tp (.tup [.str V_,.ref lk]) tp=a_ (.tup [.str V_,.ref lk]):=av;generalize cB nV tp (.tup [.str V_,.ref lk])=SR at IL kj ⊢;obtain⟨R',I',QF⟩:=QF;have eR:=I.same I';subst eR;obtain⟨AE,_,l',Kn,_,g'⟩|⟨_,sH,_⟩:=QF
    .subst AE;subst Kn;have Il:=fJ.f4 IL;exact agF (.tup (aF.of<|IL _ _ an6)<|.cons (.str _)<|.cons (Bg<|ao.of<|IL _ _ g') .nil) (.tup (aF.of kj)<|.cons (.str _)<|.cons (Bg<|ao.of<|Il _ _ yd) .nil) (UT R)<|q SR S' n' (SN.same Il) W' li a (Ak.f4<|aZ.of Il)<|lX ZH Il
    .exact dV hl sH
   .rw[er]at ex;exact dV ex dk
  .obtain⟨R,I,hO⟩:=hO;obtain⟨er,_⟩|⟨er,_,dr,ts,Y,B,rfl,g,hY,rM,_,_⟩:=hO
   .exact dV (by rw[er]) ex
   .subst er;have s36:=s5.f4 s6;refine⟨_,xz,rT (v:=.str "ring") (aF.of E2) (bZ (j:=0) xz) ⟨xz,_,xz,lG ⟨_,xz,rT (v:=.ref dr) (aF.of E2) (bZ (j:=1) xz) ⟨_,xz,dr,d,ts,Y,fv,S',xz,s36 _ _ g,nM.all hY λb xs e=>s36 _ _ e,rM,Z,Je,hd,hD,λH7 s7=>q H7 S' n' (M6.same s7) W' li a (k6.f4<|aZ.of s7)<|lX BO s7⟩⟩⟩⟩
end
def adZ:tI "min"=a_ (.builtin "min"):=dk
def anv(us:List V)(i:Nat):oG us b_ (a_ (i:Int))=us.take i:=by
 unfold oG;rw[HT.Xo,HT.Wq,ve,Nat.sub_zero]
 by_cases h:i<=us.length
 .rw[va h]
 .rw[Nat.min_eq_right li,jA<|aD _,jA li]
def ajG{PT m C dx:e_}{fs:List (bx×V)}(k:fg m H H')(hm:H m=a_ (.ins C dx fs))(h:dm PT LP LQ H):dm PT LP LQ H':=
 CZ (F:=[m]) h (λb o n e=>k.k b o (λz=>n<|by rw[z];exact cR.mpr xz) e) λb a o e=>by rw[cR.mp a,hm]at e;cases e;exact .inl ⟨_,_,_,xz⟩
def aif(d:Nat):∃kd:bx,gd ([.str V_,.str H_,.str V_,.str "none"]:List V) ((d:Int)%4)=a_ (.str kd)/\(kd = V_\/kd = H_\/kd="none"):=by
 have h:d%4=0\/d%4=1\/d%4=2\/d%4=3:=li;rw[show d%4=((d%4:Nat):Int) by lia];rcases h with e | e | e | e <;> rw[e]
 .exact au _ (bZ xz) (.inl xz)
 .exact au _ (bZ xz) (.inr<|.inl xz)
 .exact au _ (bZ xz) (.inl xz)
 .exact au _ (bZ xz) (.inr<|.inr xz)
structure LI(t:a9)(C CT PT:e_)(H:Hp)(ls:e_)(ms:List Int)(m:e_)(A:MA)(S:Mc)(n i:Nat):Prop where
 M:bb t C CT H m A S
 W:iJ n S
 h:dS S
 ac:S.ac.length<=i
 lam:dm PT LP LQ H
 ls:H ls=a_ (.lst<|ms.map V.int)
def LI.same{t:a9}{C CT PT:e_}{H H':Hp}{ls:e_}{ms:List Int}{m:e_}{A:MA}{S:Mc}{n i:Nat}(I:LI t C CT PT H ls ms m A S n i)(s:ak H H'):LI t C CT PT H' ls ms m A S n i:=⟨I.M.same s,I.W,I.h,I.ac,lX I.lam s,s _ _ I.ls⟩
section
variable{t:a9}{C CT PT:e_}
def Y6(K:u_)(PT:e_):Sp:=λvs H Q _=>∃(a:e_)(ns:List Int),vs=[.ref a]/\ao K H a (ns.map V.int)/\ns.length<=63/\dm PT LP LQ H/\∀H',Q (.bl c_) H'
def zv:bj ["_law_script","_law_program_here","_law_machine",aq9,"_law_moves","_law_asked"] gW (aU zJ):=bG
def aji(F:aW K "law" "law" zJ f fd)(cM:fV K C)(cE:mg aq6 = b_)(da:mg aq3 = b_)(aob:mg "min"=b_)
  (DD:Dp P w K mg fi 1 "_law_draw" i7 NZ)
  (DP:Dp P w K mg fi 2 "_law_program" gW Xe)
  (mk:Mk K C fI) (GI:aM P w K mg fi aS 7 fI hV i8 (Xc t C CT)) (amD:mg "Machine"=a_ (.ref C)) (b3:d5 K hV i8 [])
  (DV:Mt P w K mg fi C 4 "moves" fC (Ni t C CT PT))
  (DDo:Mt P w K mg fi C 7 "do" [Q_,"move"] (PV t C CT PT))
  (DPk:Dp P w K mg fi 1 "_law_pick" io Yc)
  (DR:Dp P w K mg fi 9 "_law_right" hU (Nh t C CT PT)) :
  aM P w K mg fi aS 10 f fd gW (Y6 K PT):=by
 refine F.ok zv λaN A _ s H vs Q E B h=>?_
 .obtain⟨a,ns,aa,hS,hlen,lam,q⟩:=h;subst aa;have hu:=zc B;have U:=B.mono (show 1<=9 by decide);have jk:=B.mono (show 2<=9 by decide);have wz:=B.mono (show 4<=9 by decide);have B7:=B.mono (show 7<=9 by decide);have J8:=B.mono (show 8<=9 by decide);refine let R1:TS:=_;let R2:TS:=_;let R3:TS:=_;let R4:TS:=_;let R5:TS:=_;let R6:TS:=_;let R7:TS:=_;let R8:TS:=_;let R9:TS:=_;⟨_,ay (bP (i:=0) zv.nd xz (aL xz)<|y6 G9 (pv 0) ze<|zd ax)<|pR R8<|ay (bP (i:=1) zv.nd xz (aL xz)<|gF DP jk xz<|ae (pv 0) af)<|pR R7<|ay (bP (i:=2) zv.nd xz (aL xz)<|vn mk GI J8 xz amD b3 .nil dh<|ae (pv 1)<|ae (aO cG (dP<|ae cU<|ae cU<|ae cU<|ae cU af)<|bg gE (gF DD U xz<|ae (pv 0)<|ae ax af) ax) af)<|pR R6<|ay (ik gJ xz (ju xz da<|ae (bw (afb xz) xz aob adZ<|ae ax<|ae (bw dE xz cE q_<|ae (pv 0) af) af) af) (bC (i:=3) zv.nd xz<|aL xz)<|pR R4<|ay (bP (i:=4) zv.nd xz (aL xz)<|ph (pv 2) cM.cl DV wz)<|pR R3<|ay (bX (bA (y8 hu) (pv 4) (dP af)<|bo _) (pR R1<|aB<|dC<|jX (pv 2) cM.cl DDo B7<|ae (gF DPk U xz<|ae (pv 4)<|ae (gF DD U xz<|ae (pv 0)<|ae (bg jv ax<|pv 3) af)<|ae (xt dF (bg gE (gF DD U xz<|ae (pv 0)<|ae ax af) ax) ax<|bo _) af) af) cj)<|pR R2<|ay (bP (i:=5) zv.nd xz (aL xz)<|Dy (xt dF (bg gE (gF DD U xz<|ae (pv 0)<|ae ax af) ax) ax<|bo _)<|Bu<|xt dF (bg gE (pv 3) ax) (bg gE (gF DD U xz<|ae (pv 0)<|ae ax af) ax)<|bo _)<|pR R9<|aB<|bX (PW.pt<|pw_and (gu<|pv 5)<|pw_and1<|kK<|gu<|gF DR B xz<|ae (pv 2)<|ae (bw dE xz cE q_<|ae (pv 1) af) af) (aB<|a8 iV) cj)<|pR R5<|aB<|a8<|gF DR B xz<|ae (pv 2)<|ae (bw dE xz cE q_<|ae (pv 1) af) af,?_⟩
  have hsz:=eA;refine vr xz<|au _ xz ⟨a,⟨_,xz,hS,λls Rj=>?_⟩⟩;rw[show ((63:Int))=((63:Nat):Int) from xz,anv,<-List.map_take];have O:(ns.take 63).length<=63:=by rw[dn];exact yH _ _
  generalize ns.take 63=ms at O ⊢;refine aP (nw (o:=.lst<|ms.map V.int) Rj) λH1 e1 s1 Qy=>?_;rw[e1];clear e1;refine vr xz (qo ls ms xz Qy O λH2 v ps s2 hP hg=>vr xz ⟨qc,(λlk Rl=>aP (nw (o:=.lst [.str V_,.str H_,.str V_,.str "none"]) Rl) λH2' e2 s2' hlk=>?_)⟩);rw[e2];clear e2;refine vr xz (m8 ls ms 1 xz (s2' _ _<|s2 _ _ Qy) O qc λH3 d3 s3=>aq (aif d3) λkd hka sI=>⟨_,⟨_,xz,xz,(show (0:Int)<4 by decide),lk,_,_,.str kd,xz,xz,ao.of<|s3 _ _ hlk,hka,λm dx nm iK ne=>?_⟩⟩);have nm2:cB H3 dx (.own m) m=none:=by rw[ag ne.f5];exact nm
  have sa:=aH (o:=.ins C dx []) (aH (o:=.own m) (ak.f8 H3) iK) nm2;have hm:cB (cB H3 dx<|.own m) m (.ins C dx []) m=a_ (.ins C dx []):=av;generalize cB (cB H3 dx<|.own m) m (.ins C dx [])=Hb at sa hm ⊢;have Q0:=s2'.f4 s3;have IW:=Q0 _ _<|s2 _ _ Qy;refine⟨m,dx,v,ps,kd,xz,hm,(hP.keep λb xs e=>sa _ _<|Q0 _ _ e),hg,sI,(λH4 A fx M L ev k4 fr=>⟨xz,?_⟩)⟩;subst ev
  have nI:¬cX m A ls:=λz=>by
   obtain e|e:=fr ls z
   .rw[e,nm]at IW;cases IW
   .rw[sa _ _ IW]at e;cases e
  have I0:LI t C CT PT H4 ls ms m A (BF kd ps) 0 0:=⟨M,ajp hg,dS.new,aD _,ajG k4 hm<|lX lam<|((s1.f4 s2).f4 Q0).f4 sa,k4.lst hm<|sa _ _ IW⟩
  have rt:∀{X:Hp}{S:Mc}{n i:Nat}{Q':VK},LI t C CT PT X ls ms m A S n i->n<=9000->i<=60->(∀c S' R,LI t C CT PT c ls ms m A S' R i->R<=n+60->Q' (.bl c_) c)->∃G,X A.pg=a_ (.tup G)/\Nh t C CT PT [.ref m,.int (G.length:Nat)] X Q' E0:=λ{X S n i Q'}I hn hi k=>by
   refine cZ I.M.pg λpa G e y qN=>?_;cases e;refine⟨G,⟨y,m,A,S,fx,n,by rw[r_ qN],I.M,L,I.W,hn,cF I.ac hi,I.h,I.lam,λc S' R M6 W6 Kb aft k6 BO=>k c S' R ⟨M6,W6,aft.cV,by rw[aft.ac];exact I.ac,BO,k6.k _ _ nI (λps z=>by cases z) I.ls⟩ Kb⟩⟩
  refine vr xz ⟨ls,⟨_,xz,.inl<|ao.of I0.ls,_,_,xz,?_⟩⟩
  have hmx:(if ((ms.map V.int).length:Int)<50 then ((ms.map V.int).length:Int) else 50)<=50/\0<=(if ((ms.map V.int).length:Int)<50 then ((ms.map V.int).length:Int) else 50):=by
   split <;> lia
  generalize (if ((ms.map V.int).length:Int)<50 then ((ms.map V.int).length:Int) else 50)=mx at hmx ⊢;refine lE _ xz li li ?_
  let W1:IV:=λi σ H'=>i<=mx.toNat/\∃S n z3 r Y,σ=[a_ (.ref ls),a_<|.ref A.pg,a_<|.ref m,z3,r,Y]/\LI t C CT PT H' ls ms m A S n i/\n<=100*i
  refine nY (n:=mx.toNat) W1 ⟨aY _,BF kd ps,0,b_,b_,b_,xz,I0,aD _⟩ ?_ ?_
  .rintro i σ X hi ⟨_,S,n,z3,r,Y,rfl,g,hn⟩;rw[lW];have apY:i<50:=li
   have tD:∀{D:Ends}{J:Hp}{Z:Mc}{N:Nat}{r:Option V}(b:Bool),(∀σ H,W1 (i+1) σ H->D.nx σ H)->LI t C CT PT J ls ms m A Z N (i+1)->N<=100*i+1->R9 D [a_ (.ref ls),a_<|.ref A.pg,a_<|.ref m,a_<|.int (i:Nat),r,a_<|.bl b] J:=λ{D J Z N r}b hD T RK=>by
    cases b with
    | false=>exact⟨_,xz,_,xz,dG<|dG<|hD _ _ ⟨hi,Z,N,_,_,_,xz,T,li⟩⟩
    | true=>exact⟨_,xz,_,xz,lG<|aq (rt (Q':=λx c=>∃k,x=.bl k/\if (!k)=c_ then D.rt (.bl d_) c else D.nx [a_ (.ref ls),a_<|.ref A.pg,a_<|.ref m,a_<|.int (i:Nat),r,a_<|.bl c_] c) T li li λc S' R I6 Kb=>⟨c_,xz,dG<|hD _ _ ⟨hi,S',R,_,_,_,xz,I6,li⟩⟩) λG y sp=>au _ xz<|vr xz<|di A.pg G xz (.inr<|aF.of y) sp⟩
   have tC:∀{D:Ends}{J:Hp}{Z:Mc}{N:Nat}{r Y:Option V},(∀σ H,W1 (i+1) σ H->D.nx σ H)->LI t C CT PT J ls ms m A Z N (i+1)->N<=100*i+1->R2 D [a_ (.ref ls),a_<|.ref A.pg,a_<|.ref m,a_<|.int (i:Nat),r,Y] J:=λ{D J Z N r Y}hD T RK=>by
    refine⟨_,xz,ls,ms,4,xz,T.ls,O,qc,λwL d gH=>⟨_,_,xz,xz,(show (0:Int)<2 by decide),xz,_,xz,bQ (λ_=>?_) λ_=>tD d_ hD (T.same gH) RK⟩⟩;exact⟨_,xz,_,_,xz,xz,(show (0:Int)<16 by decide),_,xz,ls,ms,3,xz,gH _ _ T.ls,O,qc,λnV d' fJ=>⟨_,_,xz,xz,(show (0:Int)<16 by decide),xz,tD _ hD ((T.same gH).same fJ) RK⟩⟩
   refine b9 (id g.M.obj) λdx5 fs5 Au G5=>vM xz Au (G5.ms _ dk) (m8 m A S xz g.M g.W.wf g.lam λc l ws k6 BO nl hl k8=>?_);have I6:LI t C CT PT c ls ms m A S n i:=⟨g.M.vE k6,g.W,g.h,g.ac,BO,k6.xU g.ls⟩;refine c8 _ xz qc λle Rm=>aP (nw (o:=.lst []) Rm) λH7 e7 s7 hle=>?_;rw[e7];clear e7;have u:=I6.same s7
   have kh:ws.length<=3000:=by
    have h1:=M5 S S.ck.length;have h2:=GK S.kd S.ck.zipIdx;have h4:=I6.W.wf.four;rw[Tv]at h2;rw[r_ k8,pj,ba,ly];lia
   refine m8 l le ws xz xz (s7 _ _ hl) hle<|au _ xz (jY (λhe=>?_) λhe=>?_)
   .refine b9 (id u.M.obj) λdx7 SA E8 G7=>vM xz E8 (G7.ms _ dk)<|vr xz<|vr xz<|vr xz ⟨_,⟨_,xz,xz,ls,ms,300+i,xz,u.ls,O,li,λH8 d8 s8=>⟨_,xz,ls,ms,2,xz,s8 _ _ u.ls,O,qc,λJ d9 s9=>⟨_,_,xz,xz,(show (0:Int)<2 by decide),xz,l,ws,d8,_,xz,s9 _ _<|s8 _ _<|s7 _ _ hl,he,kh,λv hv=>?_,λv hv wL gH=>?_⟩⟩⟩⟩
    .refine aq (qf k8 hv) λmv _ aa=>aq aa λp ep y=>⟨p,mv.1,_,ep,s9 _ _<|s8 _ _<|s7 _ _ y⟩
    .have j:=((u.same s8).same s9).same gH;refine aq (qf k8 hv) λmv jM aa=>aq aa λp ep y=>?_;subst ep;refine⟨m,A,S,p,mv,fx,xz,j.M,L,j.W.wf,j.W.ovf li,j.lam,gH _ _<|s9 _ _<|s8 _ _<|s7 _ _ y,jM,λnV M11 k11 amE=>?_⟩;have apx:=(aeH j.W jM).1;have dD:=j.ac;exact tC (λσ H h=>h) ⟨M11,XA j.W li jM,j.h.made j.W j.M.D8 jM,li,amE,k11.k _ _ nI (λps z=>by cases z) j.ls⟩ li
   .exact tC (λσ H h=>h) ⟨u.M,u.W,u.h,tj u.ac,u.lam,u.ls⟩ li
  .rintro σ X ⟨_,S,n,z3,r,Y,rfl,g,hn⟩;exact aq (rt (Q':=Q) g li li λc S' R I6 Kb=>q c) λG y sp=>au _ xz<|vr xz<|di A.pg G xz (.inr<|aF.of y) sp
end
end TL
namespace TL
open PySem.SeqAt L2 L3
def Zx{us:List f_}(h:us.length=1):∃a,us=[a]:=Tg.mp h
def Iw{us:List f_}{n:Nat}(h:us.length=n+1):∃a l,us=a::l/\l.length=n:=by
 cases us with
 | nil=>cases h
 | cons a l=>exact⟨a,l,xz,LF h⟩
def Zw{us:List f_}(h:us.length=2):∃a b,us=[a,b]:=b9 (Iw h) λa _ e h=>oE (Zx h) λb z=>⟨a,b,by rw[e,z]⟩
def Zv{us:List f_}(h:us.length=3):∃a b c,us=[a,b,c]:=b9 (Iw h) λa _ e h=>Eo (Zw h) λb c z=>⟨a,b,c,by rw[e,z]⟩
def Zu{us:List f_}(h:us.length=4):∃a b c d,us=[a,b,c,d]:=b9 (Iw h) λa _ e h=>P' (Zv h) λb c d z=>⟨a,b,c,d,by rw[e,z]⟩
def apv{us:List f_}(h:us.length=5):∃a b c d e,us=[a,b,c,d,e]:=b9 (Iw h) λa _ e h=>alf (Zu h) λb c d f z=>⟨a,b,c,d,f,by rw[e,z]⟩
abbrev zZ(x q:bx)(st:aK)(ps:List bx):Prop:=∀(kV doc pm:f_)(an:Option e_)(aN ct:f_)(us:List f_),us.length=ps.length->xk (B_ x q (nv st) (jV st) (aU st) .none kV doc pm an aN ct) ⟨us,[]⟩=pure (ps.zip us)
section
variable{K:u_}{h:i_}{mg:bx->Option f_}{x q m:bx}{st:aK}{f c e:e_}
def eK(X:K.In h)(G:h.Ns fw mg)(p:fN K x)(l:HT.br K (gN K x)=fp x x st)(ps:List bx)(a:zZ x x st ps):∃fd,aW K x x st (gN K x) fd/\x_ K (.ref<|gN K x)=c_/\d5 K fd ps []/\mg x=a_ (.ref<|gN K x):=by
 obtain⟨oc,od,kV,b,pm,an,cd,ct,sl,l1,c1⟩:=HT.xK l p.2.1;have F:=YL (st:=st) l1 c1 p.2.2;exact⟨_,F,p.2.2,F.binds a,C_ X G<|HT.oh p.1⟩
def eL(p:fM K c m q)(l:HT.br K (gM K c m)=fp m q st)(ps:List bx)(a:zZ m q st ps):∃fd,aW K m q st (gM K c m) fd/\d5 K fd ps []/\Meth K c m (gM K c m):=by
 obtain⟨oc,od,kV,b,pm,an,cd,ct,sl,l1,c1⟩:=HT.xK l p.2.1;have F:=YL (st:=st) l1 c1 p.2.2.1;exact⟨_,F,F.binds a,HT.oh p.1,p.2.2.2,p.2.2.1⟩
def ano(p:fM K c m q)(l:HT.br K (gM K c m)=fp m q st)(a:HT.ID K (gM K c m)=c_)(ps:List bx)(b:zZ m q st ps):∃fd,x6 K m q st (gM K c m) fd (HT.BI K<|gM K c m)/\d5 K fd ps []/\Meth K c m (gM K c m):=by
 obtain⟨oc,od,kV,d,pm,an,ct,sl,l1,c1⟩:=HT.ajY l p.2.1 a;have F:=ait (st:=st) l1 c1 p.2.2.1;exact⟨_,F,F.fun.binds b,HT.oh p.1,p.2.2.2,p.2.2.1⟩
def mkD{d:bx}(p:fM K c m q)(l:HT.Iz K (gM K c m)=fp m q st)(a:HT.IC K (gM K c m) d=c_):∃fd,Ed K m q st (gM K c m) fd d:=by
 obtain⟨oc,od,T,kV,b,pm,an,cd,ct,sl,c1,d1,n1,wt,tk,g,i,j⟩:=HT.ajW l p.2.1 a;exact⟨_,⟨⟨oc,od,T,kV,b,pm,an,cd,ct,sl,c1,d1,n1,wt,tk,xz,g,i,j⟩,p.2.2.1⟩⟩
def uu(X:K.In h)(G:h.Ns fw mg)(p:cK K x):eO K (gN K x)/\mg x=a_ (.ref<|gN K x):=⟨⟨p.2.1,p.2.2.1,p.2.2.2.1,p.2.2.2.2⟩,C_ X G<|HT.oh p.1⟩
end
def YW(l:W.OpenLaw)(w:j_)(K:u_)(mg:bx->Option f_)(a:e_):Prop:=
  ∃fd:lz,(∀(s:g_)(v:f_),BindsTo s fd ⟨[v],[]⟩ [("_law_script",v)])/\(∃c,W.codeHdIn K c 499=c_)/\∀fi:i_,K.In fi->fi.Ns fw mg->vU mg fi->aM l.prog w K mg fi aS 10 a fd gW (Y6 K 499)
def sL9{K:u_}(E:seen K=c_)(i:Nat){b:Bool}(h:(BU K ())[i]?=a_ b):b=true:=Ld.mp E b<|bz h
section
variable{K:u_}(E:seen K=c_)
def ar{K:u_}(E:seen K=c_)(i:Nat){p:Prop}{d:Decidable p}(h:(BU K ())[i]?=a_ (@decide p d)):p:=@ec p d<|sL9 E i h
def VP:=ar E 3 xz
def VQ:=ar E 8 xz
def VO:=ar E 13 xz
def Va:=ar E 18 xz
def U9:=ar E 23 xz
def U':=ar E 28 xz
def UH:=ar E 33 xz
def U8:=ar E 36 xz
def Uj:=ar E 41 xz
def OJ:=ar E 56 xz
def MY:=ar E 57 xz
def M0:=ar E 58 xz
def MX:=ar E 59 xz
def Mg:=ar E 60 xz
def Me:=ar E 61 xz
def Mf:=ar E 62 xz
def rD:=ar E 63 xz
def NK:=ar E 69 xz
def XJ:=ar E 74 xz
def MZ:=ar E 79 xz
def XI:=ar E 219 xz
end
def bJ{K:u_}(E:rK K=qz)(i:Nat){a b:Option HT.sq}(h:(rK K)[i]?=a_ a)(g:qz[i]?=a_ b):a=b:=by rw[E,g]at h;exact(cI h).f5
def fk{x q:bx}{st:aK}{ps:List bx}(l:autoParam (ps.length=1) a3)(h:∀(kV doc pm:f_)(an:Option e_)(aN ct:f_)(a:f_),xk (B_ x q (nv st) (jV st) (aU st) .none kV doc pm an aN ct) ⟨[a],[]⟩=pure (ps.zip [a]):=by intros;rfl):zZ x q st ps:=by
 intro b c d f g i us j;obtain⟨a,e⟩:=Zx<|j.f4 l;subst e;exact h b c d f g i a
def gG{x q:bx}{st:aK}{ps:List bx}(l:autoParam (ps.length=2) a3)(h:∀(kV doc pm:f_)(an:Option e_)(aN ct:f_)(a b:f_),xk (B_ x q (nv st) (jV st) (aU st) .none kV doc pm an aN ct) ⟨[a,b],[]⟩=pure (ps.zip [a,b]):=by intros;rfl):zZ x q st ps:=by
 intro c d f g i j us k;obtain⟨a,b,e⟩:=Zw<|k.f4 l;subst e;exact h c d f g i j a b
def wm{x q:bx}{st:aK}{ps:List bx}(l:autoParam (ps.length=3) a3)(h:∀(kV doc pm:f_)(an:Option e_)(aN ct:f_)(a b c:f_),xk (B_ x q (nv st) (jV st) (aU st) .none kV doc pm an aN ct) ⟨[a,b,c],[]⟩=pure (ps.zip [a,b,c]):=by intros;rfl):zZ x q st ps:=by
 intro d f g i j k us m;obtain⟨a,b,c,e⟩:=Zv<|m.f4 l;subst e;exact h d f g i j k a b c
def bn4{x q:bx}{st:aK}{ps:List bx}(l:autoParam (ps.length=4) a3)(h:∀(kV doc pm:f_)(an:Option e_)(aN ct:f_)(a b c d:f_),xk (B_ x q (nv st) (jV st) (aU st) .none kV doc pm an aN ct) ⟨[a,b,c,d],[]⟩=pure (ps.zip [a,b,c,d]):=by intros;rfl):zZ x q st ps:=by
 intro f g i j k m us n;obtain⟨a,b,c,d,e⟩:=Zu<|n.f4 l;subst e;exact h f g i j k m a b c d
def facts{l:W.OpenLaw}{w:j_}{K:u_}{h:i_}{mg:bx->Option f_}{L:e_}(E:(seen K,rK K)=(c_,qz))(X:K.In h)(G:h.Ns fw mg)(hfa:mg "law"=a_ (.ref L)):YW l w K mg L:=by
 have g:=(yQ E).1;have hl:=(yQ E).2;have a:=@ar K g;have c:=@bJ K hl;refine c7 (eK X G (a 52 xz) (c 0 xz xz) [aq7] fk) λuv M kW bW N=>?_;refine c7 (eK X G (a 53 xz) (c 1 xz xz) ["word"] fk) λnO FB kB bB gB=>?_;refine c7 (eK X G (a 54 xz) (c 2 xz xz) [ac1] fk) λBX FS kS bS gS=>?_;refine c7 (eK X G (a 55 xz) (c 3 xz xz) [ac1] fk) λBY FO kO bO gO=>?_;refine aP (eL (OJ g) (c 4 xz xz) fY gG) λhV FI bI MI=>?_;refine aP (eL (MY g) (c 5 xz xz) fY gG) λIg ao4 QH Q=>?_;refine aP (eL (M0 g) (c 6 xz xz) fY gG) λIh ape QI R=>?_;refine aP (eL (MX g) (c 7 xz xz) fY gG) λIe ao3 QG S=>?_;refine aP (eL (Mg g) (c 8 xz xz) fY gG) λHK am1 PK U=>?_;refine aP (eL (Me g) (c 9 xz xz) fY gG) λHI amY PH V=>?_;refine aP (eL (Mf g) (c 10 xz xz) fY gG) λHJ am0 PJ Y=>?_;refine aP (eL (rD g) (c 11 xz xz) fC fk) λQe FEm z0 MEm=>?_;refine aP (eL (a 64 xz) (c 12 xz xz) fC fk) λOH amZ Pu amT=>?_;refine aP (eL (a 65 xz) (c 13 xz xz) fC fk) λOI am2 Pw amU=>?_;refine c7 (eK X G (a 66 xz) (c 14 xz xz) [W_] fk) λaql FHC kHC bHC gHC=>?_;refine c7 (eK X G (a 67 xz) (c 15 xz xz) [ac1,aq2,"length"] wm) λaqm FFI kFI bFI gFI=>?_;refine c7 (eK X G (a 68 xz) (c 16 xz xz) [W_] fk) λaqj FLO kLO bLO gLO=>?_;refine aP (eL (NK g) (c 17 xz xz) [Q_,S_] gG) λap3 FTI bTI MTI=>?_;refine aP (eL (a 70 xz) (c 18 xz xz) ib bn4) λap7 FTA bTA MTA=>?_;refine aP (eL (a 71 xz) (c 19 xz xz) gi gG) λap2 FTL bTL MTL=>?_;refine aP (ano (a 72 xz) (c 20 xz xz) (a 73 xz) fC fk) λap4 Z bTF MTF=>?_;refine aP (eL (a 75 xz) (c 21 xz xz) gi gG) λap0 FTT bTT MTT=>?_;refine aP (eL (a 76 xz) (c 22 xz xz) fC fk) λap5 FTE bTE MTE=>?_;refine aP (eL (a 77 xz) (c 23 xz xz) fC fk) λap6 FTD bTD MTD=>?_;refine c7 (eK X G (a 78 xz) (c 24 xz xz) [S_] fk) λap1 FTO kTO bTO gTO=>?_;refine oE (mkD (MZ g) (c 25 xz xz)<|a 80 xz) λapB aaU=>?_;refine aP (eL (a 81 xz) (c 26 xz xz) g5 gG) λaqE FAE bAE MAE=>?_;refine aP (eL (a 82 xz) (c 27 xz xz) g5 gG) λaqh FMY bMY MMY=>?_;refine aP (eL (a 83 xz) (c 28 xz xz) fC fk) λaqv FCR bCR MCR=>?_;refine aP (eL (a 84 xz) (c 29 xz xz) fC fk) λaqi FMV bMV MMV=>?_;refine aP (eL (a 85 xz) (c 30 xz xz) [Q_,"move"] gG) λaqq FDO bDO MDO=>?_;refine aP (eL (a 86 xz) (c 31 xz xz) g5 gG) λaqp FDS bDS MDS=>?_;refine aP (eL (a 87 xz) (c 32 xz xz) gl wm) λaqo FDT bDT MDT=>?_;refine aP (eL (a 88 xz) (c 33 xz xz) gl wm) λaqs FDL bDL MDL=>?_;refine aP (eL (a 89 xz) (c 34 xz xz) gl wm) λaqn FDW bDW MDW=>?_;refine aP (eL (a 90 xz) (c 35 xz xz) hZ wm) λaqu FCY bCY MCY=>?_;refine aP (eL (a 91 xz) (c 36 xz xz) [Q_,aq5] gG) λaqx FCM bCM MCM=>?_;refine aP (eL (a 92 xz) (c 37 xz xz) gi gG) λaqf FOB bOB MOB=>?_;refine aP (eL (a 93 xz) (c 38 xz xz) fC fk) λap9 FSE bSE MSE=>?_;refine aP (eL (a 94 xz) (c 39 xz xz) g5 gG) λapZ FWT bWT MWT=>?_;refine aP (eL (a 95 xz) (c 40 xz xz) fC fk) λaqt FDE bDE MDE=>?_;refine aP (eL (a 96 xz) (c 41 xz xz) gi gG) λaqd FOV bOV MOV=>?_;refine aP (eL (a 97 xz) (c 42 xz xz) fC fk) λaqr FDN bDN MDN=>?_;refine c7 (eK X G (a 98 xz) (c 43 xz xz) ia wm) λaqb FPB kPB bPB gPB=>?_;refine c7 (eK X G (a 99 xz) (c 44 xz xz) ["move"] fk) λaqk FHF kHF bHF gHF=>?_;refine c7 (eK X G (a 100 xz) (c 45 xz xz) [an3] fk) λap8 FSO kSO bSO gSO=>?_;refine c7 (eK X G (a 101 xz) (c 46 xz xz) hF gG) λaqg D kNB bNB gNB=>?_;refine c7 (eK X G (a 102 xz) (c 47 xz xz) fF fk) λaqy FBW kBW bBW gBW=>?_;refine c7 (eK X G (a 103 xz) (c 48 xz xz) fF fk) λaqA FBS kBS bBS gBS=>?_;refine c7 (eK X G (a 104 xz) (c 49 xz xz) fF fk) λaqz FBV kBV bBV gBV=>?_;refine c7 (eK X G (a 105 xz) (c 50 xz xz) fF fk) λaqC FBB kBB bBB gBB=>?_;refine c7 (eK X G (a 106 xz) (c 51 xz xz) fF fk) λaqD FBA kBA bBA gBA=>?_;refine c7 (eK X G (a 107 xz) (c 52 xz xz) fF fk) λaqa FRF kRF bRF gRF=>?_;refine c7 (eK X G (a 108 xz) (c 53 xz xz) fF fk) λaqB FBF kBF bBF gBF=>?_;refine c7 (eK X G (a 109 xz) (c 54 xz xz) hE gG) λaqc FPA kPA bPA gPA=>?_;refine c7 (eK X G (a 110 xz) (c 55 xz xz) hE gG) λap' FRO kRO bRO gRO=>?_;refine c7 (eK X G (a 111 xz) (c 56 xz xz) ["many","befores"] gG) λaqw FCO kCO bCO gCO=>?_;refine c7 (eK X G (a 112 xz) (c 57 xz xz) fF fk) λaqe FOD kOD bOD gOD=>?_;refine aP (eL (a 113 xz) (c 58 xz xz) g5 gG) λapA ao2 aoM aaQ=>?_;refine c7 (eK X G (a 114 xz) (c 59 xz xz) i7 gG) λapL apd anQ aoW aoJ=>?_;refine c7 (eK X G (a 115 xz) (c 60 xz xz) ii wm) λapD ao6 anI aoO aoB=>?_;refine c7 (eK X G (a 116 xz) (c 61 xz xz) gW fk) λapI apa anN aoT aoG=>?_;refine c7 (eK X G (a 117 xz) (c 62 xz xz) h6 fk) λapK apc anP aoV aoI=>?_;refine c7 (eK X G (a 118 xz) (c 63 xz xz) il wm) λapE ao7 anJ aoP aoC=>?_;refine c7 (eK X G (a 119 xz) (c 64 xz xz) ["_law_ring","_law_due"] gG) λapG ao9 anL aoR aoE=>?_;refine c7 (eK X G (a 120 xz) (c 65 xz xz) h6 fk) λapH ao' anM aoS aoF=>?_;refine c7 (eK X G (a 121 xz) (c 66 xz xz) io wm) λapJ apb anO aoU aoH=>?_;refine c7 (eK X G (a 122 xz) (c 67 xz xz) hU gG) λapC ao5 anH aoN aoA=>?_;refine c7 (eK X G (a 123 xz) (c 68 xz xz) hU gG) λapF ao8 anK aoQ aoD=>?_;refine c7 (eK X G (a 124 xz) (c 69 xz xz) gW fk) λamR aaV apS aqF aoz=>?_;have e:=hfa.f5.f4 aoz;cases e;refine oA (uu X G<|a 1 xz) λapu akE=>?_;refine oA (uu X G<|a 2 xz) λzG amP=>?_;refine oA (uu X G<|a 7 xz) λxM amQ=>?_;refine oA (uu X G<|a 12 xz) λvJ amO=>?_;refine oA (uu X G<|a 17 xz) λvw akG=>?_;refine oA (uu X G<|a 22 xz) λtZ akD=>?_;refine oA (uu X G<|a 27 xz) λxC akF=>?_;refine oA (uu X G<|a 32 xz) λDn aiG=>?_;refine oA (uu X G<|a 35 xz) λakH akC=>?_;refine oA (uu X G<|a 40 xz) λafh afg=>?_;have Q:Mk K (iq K) (ON K):=⟨(VP g).1,HT.oh (MY g).1,(MY g).2.2.2,(VP g).2⟩;have R:Mk K (iu K) (OP K):=⟨(VQ g).1,HT.oh (M0 g).1,(M0 g).2.2.2,(VQ g).2⟩;have S:Mk K (ip K) (OM K):=⟨(VO g).1,HT.oh (MX g).1,(MX g).2.2.2,(VO g).2⟩;have U:Mk K (ij K) (NU K):=⟨(Va g).1,HT.oh (Mg g).1,(Mg g).2.2.2,(Va g).2⟩;have V:Mk K (ie K) (NS K):=⟨(U9 g).1,HT.oh (Me g).1,(Me g).2.2.2,(U9 g).2⟩;have Y:Mk K (ig K) (NT K):=⟨(U' g).1,HT.oh (Mf g).1,(Mf g).2.2.2,(U' g).2⟩;have akI:Mk K (ng K) (BM K):=⟨(UH g).1,(a 130 xz),(OJ g).2.2.2,(UH g).2⟩;have amS:Mk K (gK K) (ZF K):=⟨(U8 g).1,HT.oh (NK g).1,(NK g).2.2.2,(U8 g).2⟩;have agX:Mk K (cN K) (OO K):=⟨(Uj g).1,HT.oh (MZ g).1,(MZ g).2.2.2,(Uj g).2⟩;have ad3:=MTA;have acN:=MTL;have Ul:=MTF;have adl:=MTT;have acq:=MTE;have acM:=MTD;have acg:=MAE;have ace:=MMY;have ab4:=MCR;have acr:=MMV;have ac4:=MDO;have ab2:=MDS;have acf:=MDT;have ab3:=MDL;have ab1:=MDW;have acu:=MCY;have acG:=MCM;have abS:=MOB;have acd:=MSE;have ab0:=MWT;have acs:=MDE;have acF:=MOV;have abE:=MDN;have acP:Meth K (iq K) O_ (qA K):=⟨(a 125 xz),(rD g).2.2.2,(rD g).2.2.1⟩;have acQ:Meth K (iu K) O_ (qA K):=⟨(a 126 xz),(rD g).2.2.2,(rD g).2.2.1⟩;have acO:Meth K (ip K) O_ (qA K):=⟨(a 127 xz),(rD g).2.2.2,(rD g).2.2.1⟩;have acH:Meth K (ij K) O_ (qA K):=⟨(a 128 xz),(rD g).2.2.2,(rD g).2.2.1⟩;have acD:=amT;have acv:=amU;have acE:Meth K (ig K) O_ (qA K):=⟨(a 129 xz),(rD g).2.2.2,(rD g).2.2.1⟩;have acw:Py K (vp K) K_ (BM K):=⟨(a 131 xz),(a 132 xz),HT.ajM<|a 133 xz,(OJ g).2.2.1⟩;have x:=z_ X G<|a 134 xz;have YZ:=z_ X G<|a 135 xz;have X1:=z_ X G<|a 136 xz;have YY:=z_ X G<|a 137 xz;have p:=z_ X G<|a 138 xz;have j:=z_ X G<|a 139 xz;have Y0:=z_ X G<|a 140 xz;have F:=z_ X G<|a 141 xz;have q:=z_ X G<|a 142 xz;have n:=z_ X G<|a 143 xz;have y:=z_ X G<|a 144 xz;have B:=z_ X G<|a 145 xz;have I:=z_ X G<|a 146 xz;have aiF:=z_ X G<|a 147 xz;have adk:=z_ X G<|a 148 xz;have akz:=z_ X G<|a 149 xz;have akA:∃u,mg "TOP"=a_ u/\d0 (.int nL) u:=by obtain⟨t,e⟩:=HT.DI<|a 150 xz;exact⟨_,C_ X G e,_,xz⟩
 have C:∃u,mg "NAMES"=a_ u/\d0 (.int 12) u:=by obtain⟨t,e⟩:=HT.DI<|a 151 xz;exact⟨_,C_ X G e,_,xz⟩
 have ac0:∃u,mg "REGISTERS"=a_ u/\d0 (.int 4) u:=by obtain⟨t,e⟩:=HT.DI<|a 152 xz;exact⟨_,C_ X G e,_,xz⟩
 have ad2:∃u,mg "LONGEST"=a_ u/\d0 (.int 120) u:=by obtain⟨t,e⟩:=HT.DI<|a 153 xz;exact⟨_,C_ X G e,_,xz⟩
 have aff:∃u,mg "CLERKS"=a_ u/\d0 (.int 4) u:=by obtain⟨t,e⟩:=HT.DI<|a 154 xz;exact⟨_,C_ X G e,_,xz⟩
 have ZG:=C_ X G<|HT.oh<|a 0 xz;have agV:=C_ X G<|HT.oh<|a 155 xz;have agW:∀H:Hp,aF K H (WW K) [.str V_,.str H_,.str "none"]:=λH=>HT.ag6 (a 156 xz) (by show 3<=bp;decide) H;have bl:Bl mg:=⟨x,YZ,X1,YY,p,j,Y0,F⟩;have r:BT mg:=⟨x,YZ,X1,YY,j,Y0,n,q,B,I⟩;have cn:Cn mg:=⟨akA,C,ac0,ad2⟩
 have T1:vA K mg ⟨(lQ K),(lM K),(lP K),(lO K),(BM K),(ON K),(OP K),(OM K),(NU K),(NS K),(NT K),(vp K),(iq K),(iu K),(ip K),(ij K),(ie K),(ng K),(ig K),_,_,_,_,_,_,_,_,_,_,_⟩:=
  ⟨bl,cn,M,bW,N,FB,bB,gB,FS,bS,gS,FO,bO,gO,⟨FI,bI,acw,akE,p⟩,Dn,(a 34 xz),akI,aiG,zG,(a 4 xz),(a 5 xz),(a 6 xz),Q,amP,ao4,QH,xM,(a 9 xz),(a 10 xz),(a 11 xz),R,amQ,ape,QI,vJ,(a 14 xz),(a 15 xz),(a 16 xz),S,amO,ao3,QG,vw,(a 19 xz),(a 20 xz),(a 21 xz),U,akG,am1,PK,tZ,(a 24 xz),(a 25 xz),(a 26 xz),V,akD,amY,PH,xC,(a 29 xz),(a 30 xz),(a 31 xz),Y,akF,am0,PJ⟩
 obtain⟨t,u,O⟩:∃t u,zM K mg t u:=⟨_,⟨(qA K),(XZ K),(X0 K),_,_,_⟩,⟨T1,FEm,z0,amZ,Pu,am2,Pw,(a 157 xz),(a 158 xz),acP,acQ,acO,acH,acD,acv,acE,⟨(a 159 xz),(a 160 xz),(a 161 xz),(a 162 xz),(a 163 xz),(a 164 xz),(a 165 xz),(a 166 xz)⟩,⟨(a 167 xz),(a 168 xz),(a 169 xz),(a 170 xz),(a 171 xz),(a 172 xz),(a 173 xz),(a 174 xz)⟩,⟨(a 175 xz),(a 176 xz),(a 177 xz),(a 178 xz),(a 179 xz),(a 180 xz),(a 181 xz),(a 182 xz)⟩,⟨(a 183 xz),(a 184 xz),(a 185 xz),(a 186 xz),(a 187 xz),(a 188 xz),(a 189 xz),(a 190 xz)⟩,⟨(a 191 xz),(a 192 xz),(a 193 xz),(a 194 xz),(a 195 xz),(a 196 xz),(a 197 xz),(a 198 xz)⟩,⟨(a 199 xz),(a 200 xz),(a 201 xz),(a 202 xz),(a 203 xz),(a 204 xz),(a 205 xz),(a 206 xz)⟩,⟨(a 207 xz),(a 208 xz),(a 209 xz),(a 210 xz),(a 211 xz),(a 212 xz),(a 213 xz),(a 214 xz)⟩⟩⟩;have T:=O.st;have i:fV K (cN K):=⟨afh,(a 42 xz),(a 43 xz),(a 44 xz),(a 45 xz),(a 46 xz),(a 47 xz),(a 48 xz),(a 49 xz),(a 50 xz),(a 51 xz)⟩;have o:nC K (gK K):=⟨akH,(a 37 xz),(a 38 xz),(a 39 xz)⟩;have b3:=ah9 aaU;have xf:XF K (nE K):=⟨(a 217 xz),xcd<|a 218 xz,(a 222 xz),(a 223 xz),(a 224 xz)⟩;have XC1:QT K (nE K) (YX K):=⟨(a 215 xz),aaQ.1,aaQ.2,(a 216 xz)⟩;unfold YW;refine⟨amR,λs v=>?_,⟨_,XJ g⟩,λfi h1 h2 h3=>?_⟩
 .obtain⟨_,_,_,_,_,_,_,_,_,e,_⟩:=aaV.ex;rw[e];exact .of_eq xz
 .exact(by
  have d:=@Mt.mk l.prog w K mg fi;have f:=@Dp.mk l.prog w K mg fi;have hC:=W.codeHd_of_K h1<|XJ g;have GTD:=adF (P:=l.prog) (w:=w) (mg:=mg) (fi:=fi) FTD r o;have DTE:=d (aex FTE r o) bTE acq;have DTF:=d (U1 Z r o hC h3) bTF Ul;have DTT:=d (afV FTT r o hC h3 M bW N Z bTF Ul) bTT adl;have DTA:=d (ahK FTA o) bTA ad3;have DTL:=d (adG FTL r o) bTL acN;have DTO:=f (aew FTO r o amS FTI bTI akC C agV agW) kTO bTO gTO;have DAE:=d (af7 (t:=t) (CT:=(gK K)) FAE j i) bAE acg;have z:=d (af5 (t:=t) (CT:=(gK K)) FDE y i) bDE acs;have J:=d (ahQ (t:=t) (CT:=(gK K)) FOV y i) bOV acF;have DWT:=Mt.mk (adE (t:=t) FWT i o GTD bTD acM) bWT ab0;have DMY:=Mt.mk (afZ FMY i o O DAE DTE) bMY ace;have DCR:=Mt.mk (adJ (t:=t) FCR i o q DTF) bCR ab4;have DMV:=Mt.mk (aez FMV i j n DMY DCR) bMV acr;have DCM:=d (ahV (t:=t) (CT:=(gK K)) FCM i) bCM acG;have DOB:=d (adI (t:=t) (CT:=(gK K)) FOB i j) bOB abS;have DCY:=Mt.mk (af6 FCY i o DTT DCM) bCY acu;have DDT:=Mt.mk (af4 FDT i o j T DTA DCY) bDT acf;have DDL:=Mt.mk (aeC FDL i o T DTL DOB) bDL ab3;have DDW:=Mt.mk (aeA FDW i T j DOB DCM) bDW ab1;have DPB:=f (acA FPB O) kPB bPB gPB;have DDS:=Mt.mk (aeB FDS i O DPB DDT DDL DDW) bDS ab2;have DHF:=f (ahS FHF T) kHF bHF gHF;have DDO:=Mt.mk (ajl FDO i DHF DMV DDS DCY) bDO ac4;have DSO:=f (adH FSO T p) kSO bSO gSO;have DLO:=f ((ahR FLO bl q ⟨ajm FHC bl aff,kHC,bHC,gHC⟩ ⟨ahT FFI O,kFI,bFI,gFI⟩)) kLO bLO gLO;have GMI:=af0 aaU i T p n DLO DTO DSO;have DSE:=Mt.mk (aey FSE i j DCR DDO) bSE acd;have GNB:=ala (P:=l.prog) (w:=w) (mg:=mg) (fi:=fi) D F;have DBW:=Dp.mk (ajh FBW i j n q z GNB D bNB gNB) kBW bBW gBW;have DBV:=Dp.mk (ahH FBV i n C J GNB D bNB gNB) kBV bBV gBV;have DBS:=Dp.mk (ahF FBS i q z) kBS bBS gBS;have GBB:=aet FBB i n F C J;have DBA:=Dp.mk (afT FBA i q GBB FBB bBB gBB z) kBA bBA gBA;have aoX:=ajj (P:=l.prog) (w:=w) (mg:=mg) (fi:=fi) ao2 xf<|XI g;have GRF:=ahN FRF i j n DWT XC1 aoX aoM ZG;have GBF:=aeu FBF I GRF kRF bRF gRF DBW DBS DBV DBA;have DPA:=f (aev FPA aiF) kPA bPA gPA;have DRO:=Dp.mk (ahG FRO B y j p adk DPA) kRO bRO gRO;have DCO:=f (afS FCO n B j) kCO bCO gCO;have DDN:=d (ahU (t:=t) (CT:=(gK K)) FDN j i) bDN abE;have GOD:=afR FOD i j GBF kBF bBF gBF DDN DCO DRO;have A:=f (ahI apd j) anQ aoW aoJ;have ao0:=af2 (P:=l.prog) (w:=w) (mg:=mg) (fi:=fi) ao6 j;have apk:=Dp.mk (af3 apa n p A.G A.k A.b A.m ao0 anI aoO aoB) anN aoT aoG;have apj:=Dp.mk (ahM ao' GOD kOD bOD gOD ZG (a 220 xz) (a 221 xz) xf<|XI g) anM aoS aoF;have apf:=Dp.mk (afU ao5 i n DWT) anH aoN aoA;have apl:=f (ahP apb j) anO aoU aoH;have apm:=Dp.mk (ajn apc i j n z J) anP aoV aoI;have api:=f (alc ao9 x p j akz n) anL aoR aoE;have apg:=f (ajk ao7 x y I n) anJ aoP aoC;have aph:=Dp.mk (afY ao8 i x y p j apj apf DSE GOD kOD bOD gOD apm z apg api) anK aoQ aoD;exact aji aaV i j n B A apk agX GMI afg b3 DMV DDO apl aph)
def walk{l:W.OpenLaw}{q:k_}{loose:List bx}{XP:(bx->Option f_)->i_->Prop}{d:DefRec}(hn:l.most=a_ 63)(s:d.params.defaults=[])(t:d.name="law"):W.WalkO q loose XP (HT.vv TL.sj 499 (λK=>(seen K,rK K)) (c_,qz)).says l.row.toRowW d [] (λf vs=>PySem.call f vs):=by
 refine Att.adi hn s λw s₀ u mg mb N o pm cd doc a vs ns G Y O hd P n v x p y=>?_;obtain⟨K,i,A,r,E⟩:=Y;rw[t]at n;obtain⟨fd,h,⟨c,B⟩,C⟩:=facts (l:=l) (w:=w) E i G.T.g n
 have j:vU mg u.heap:=by
  obtain⟨j,D,b1,b2,k,F,I,m⟩:=G.T.bmain;refine⟨j,D,b1,b2,λz=>?_,k,F,I,m⟩;obtain⟨o',es,Q,e,J,_⟩:=G.T.g;rw[z,e]at k;cases k;rw[J]at m;cases m
 exact aeK (ts:=[499]) i G.T.g G.T.b G.T.builtins G.T.nolimit y j (λb h=>by rw[cR.mp h];exact r) (λb h=>by rw[cR.mp h];exact((W.codeHd_of_K i B).tab r).isCodeTable) (λb h=>by rw[cR.mp h];exact A) v x (cF p qc) ⟨xz,qc,qc⟩ C h (λH L M=>⟨a,ns,xz,M,p,⟨#[],L.2 499 (by simp),.inl xz⟩,λ_=>rfl⟩) λH e R z=>z
end TL
open PySem.W
theorem TL.left:W.LeftO PySem.Challenge.rw_traylate_k41_a_row_or_a_ring.row.prog TL.qv [] (λs=>W.xlAt TL.qv [] s&&W.recOk PySem.Challenge.rw_traylate_k41_a_row_or_a_ring.row.records s) (HT.vv TL.sj 499 (λK=>(TL.seen K,TL.rK K)) (c_,TL.qz)).obs (HT.vv TL.sj 499 (λK=>(TL.seen K,TL.rK K)) (c_,TL.qz)).val 12926:=by
 refine HT.aib ?a ?b ?c ?d
 case a=>kernel_rfl
 case b=>kernel_rfl
 case c=>intro s;kernel_rfl
 case d=>intro w os;exact HT.both (HT.uj<|HT.pF<|TL.l2 w os)<|HT.both (TL.r2 w os)<|TL.r3 w os
theorem PySem.Challenge.cw_traylate_k41_a_row_or_a_ring_holds : PySem.Challenge.rw_traylate_k41_a_row_or_a_ring.Holds := by
 refine W.holds_law TL.lwS λapM=>?_;refine W.holds_open (q:=TL.qv) (loose:=[]) (XP:=W.XL TL.qv []) (YP:=(HT.vv TL.sj 499 (λK=>(TL.seen K,TL.rK K)) (c_,TL.qz)).says) (d:=TL.dl) (kwd:=[]) TL.left (HT.vv TL.sj 499 (λK=>(TL.seen K,TL.rK K)) (c_,TL.qz)).of (HT.vv TL.sj 499 (λK=>(TL.seen K,TL.rK K)) (c_,TL.qz)).keeps (λs e=>W.xl_of s (Tr.mp e).1) W.XL.keeps ?h1 ?h2 ?h3 (λs e=>W.recFacts_of (Tr.mp e).2) ?h4 (by assumption) ?h5 ⟨xz,xz,xz,xz,xz,dk⟩ ?hw (TL.walk (l:=PySem.Challenge.rw_traylate_k41_a_row_or_a_ring) ?w1 ?w2 ?w3)
 case h1=>kernel_rfl
 case h2=>kernel_rfl
 case h3=>kernel_rfl
 case h4=>kernel_rfl
 case h5=>kernel_rfl
 case hw=>w_witness2
 case w1=>kernel_rfl
 case w2=>kernel_rfl
 case w3=>kernel_rfl
#print axioms PySem.Challenge.cw_traylate_k41_a_row_or_a_ring_holds
