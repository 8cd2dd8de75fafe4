import PyProof.Rows.All
import KE.KLam
import KE.KNestM
import KE.KSortedM
import KE.KEqDict
import KE.KFromBytes
import KE.KMinKey
import KE.KIsAll
import KE.KSortTup
import PySem.Challenge.RW_traylate_k72_whole_worlds
set_option Elab.async false
set_option genInjectivity false
set_option linter.all false
set_option maxRecDepth 100000
set_option maxHeartbeats 0
set_option synthInstance.maxSize 100000
set_option synthInstance.maxHeartbeats 0
set_option genSizeOf false
set_option compiler.extract_closed false
open Option renaming some→a_,none→b_
open Bool renaming true→c_,false→d_
open PySem renaming Addr→e_,Value→f_,Shared→g_,Around→h_,Heap→i_,World→j_,Program→k_
open PySem renaming wpAny_bind→ak,wpAny_pure→aP,sizeLine→bc,SetTable→bM,starEach→cx,mainGlobals→fe,sizeLine_eq→gf,NameKind→gR,compareOp→g6,FuncData→ik,PassesOwn→i8,wpAny_mono→jU,wpAny_holding→lP,wpAny_field→lR,binaryOp→nQ,wpAny_truthy_bool→qh,wpAny_newObj_type→rF,wpAny_call_entry→rH,wpAny_seqItems→rO,builtinsNs→rZ,codeAny_builtin→tP,bindArgs→t4,plainId_quiet→ve,bootBuiltins→vh,wpAny_rule→vn,getMethod→vt,wpAny_callSpecial?_slot→xj,wpAny_setField→xw,behindInMarks→xA,keywordEach→xE,pickOrder→xM,backToKw→xP,wpAny_pyIter_list→zD,wpAny_updateSeq→zF,wpAny_passesOwn→zG,callWith→Ac,wpAny_setState_of→BG,wpAny_isInstance→BH,wpAny_forIn_list→BI,codeAny_mono→BK,sysModules→BU,assignEach→BV,treeTable→B9,scanBound→B',relayAll→Ci,ReadsAll→Cm,wpAny_setField_rec→E3,wpAny_Call_Name_kw→E4,checkBuiltinCall→E8,wpAny_execs_nil→E',importedModules→Fb,wpAny_newTuple→Fg,recursionLimit→Fh,wpAny_attempt→Fj,wpAny_letGo→Fo,call_meets→Fu,updateSeq→FH,swapsWith→FJ,letOwnedTupleGo→Kd,wpAny_tryCatch→Ki,firstArgMember→Kj,attributeBase→Kl,wpAny_typeOf→Ku,wpAny_of_eq→KH,richCompare→KI,wpAny_load→La,wpAny_call→Lb,intKind_is→Lc,seqItems?→LJ,seqIndex?→LK,wpAny_setEntries_of→To,wpAny_tupleItemsOf→Tr,foldedSetIterable→Tw,wpAny_pyHash_int→TB,wpAny_eqBool_int→TC,wpAny_askSetting→TF,wpAny_loadPart'→TM,isSubtype_stop→TU,fastBuiltinMro→TV,wpAny_standAt→T9,wpAny_newList→T',seqIndex_neg→Ui,wpAny_comprehension_free→abp,richCompare_meets_room→aby,wpAny_isTrue_Compare1→abC,isSubtype_tuple_tuple→abD,builtinLookup_eq_fast→abE
open Nat renaming le_refl→aw,zero_le→bg,le_of_lt→bL,le_trans→dq,ne_of_lt→dW,lt_of_lt_of_le→ic,le_succ→jC,lt_irrefl→lQ,lt_of_le_of_lt→nJ,le_of_eq→rV,lt_trichotomy→tN,le_succ_of_le→tO,lt_succ_self→vc,ne_of_gt→vi,not_lt_zero→zH,succ→Ad,succ_le_succ→BJ,beq→CF,add_le_add_left→EZ,lt_succ_of_lt→E6,le_add_right→E9,lt_or_eq_of_le→JQ,lt_of_lt_of_eq→JR,succ_ne_self→JZ,succ_pos→Kw,sub_self→Kx,lt_trans→Ky,lt_or_gt_of_ne→Tt,one_shiftLeft→Tz,min_le_left→TQ,testBit_or→TX,succ_mul→Ul,add_mul_mod_self_left→abl,eq_of_testBit_eq→abF,or_lt_two_pow→ab3,le_of_lt_succ→ab4
open List renaming length_map→aA,getElem?_eq_getElem→aI,mem_of_getElem?→a8,mem_cons→bK,mem_cons_self→bV,getElem?_eq_some_iff→b0,mem_map→b8,mem_cons_of_mem→cu,getElem?_map→cF,getD_eq_getElem?_getD→cH,length_append→cQ,mem_singleton→da,map_append→dC,size_toArray→dG,replicate→dU,length_cons→eI,map_cons→eV,length_take→fJ,getElem?_set_self→gq,mem_append_right→gu,length_set→gL,Perm→ij,mem_append→iC,take_add_one→iN,map_map→i7,take_of_length_le→jl,mem_filter→jB,pairwise_iff_getElem→jR,getElem_of_mem→kY,all_eq_true→kZ,mem_range→mU,getElem?_set_ne→nI,append_nil→nK,length_filter_le→o7,getElem_mem→pe,range_succ→pf,mem_append_left→qg,length_range→qi,lookup_cons→rJ,filter_cons→rK,cons→r6,length_eq_zero_iff→tL,getElem?_eq_none→uZ,any_cons→vg,set_set→vj,map_set→vk,getElem?_eq_none_iff→xg,length_replicate→xn,replicate_succ→xp,filter_append→xq,not_mem_nil→xv,getElem?_append_left→zA,getElem?_of_mem→zC,flatMap_cons→zE,nodup_cons→zI,all_cons→zL,all_map→zO,lookup→zR,getElem?_append_right→BC,lookup_cons_self→BD,flatMap_append→BE,mem_or_eq_of_mem_set→EW,filter_cons_of_pos→EX,filter_cons_of_neg→EY,flatten_cons→E7,of_mem_zip→Fc,mem_of_mem_eraseP→JJ,take_append_drop→JK,cons_lt_cons_iff→JL,map_eq_nil_iff→JN,filterMap_cons→JO,mem_filterMap→JS,pairwise_map→JU,nodup_append→JV,ext_getElem?→JW,append_assoc→JX,prefix_refl→J',mem_nil_iff→Ka,length_drop→Kb,ext_getElem→Kc,find?_cons→Ke,length→KO,eq_nil_of_length_eq_zero→Tb,getElem?_replicate→Tf,length_eq_one_iff→Th,length_singleton→Tj,toList_toArray→Tp,map_congr_left→Tq,zip_cons_cons→Tu,length_zipIdx→Tv,eraseP_cons→TH,any_eq_true→TJ,forIn_cons→TR,Pairwise→Ub,map_nil→Um,any_map→Uo,foldl→U5,getElem?_zip_eq_some→abm,drop_eq_getElem_cons→abn,set_eq_of_length_le→abq,eq_of_mem_replicate→abr,pairwise_singleton→abv,getElem?_cons_succ→abw,range_succ_eq_map→abz,drop_of_length_le→abA,replicate_succ'→abG,pairwise_append→abH,length_eraseIdx→abI,getElem?_zipIdx→abJ,length_pos_iff→abP,getD_cons_zero→abQ,pairwise_cons→abT,getLast?_cons→abU,take_sublist→ab5,head?_filter→ab6,foldl_append→ab7,zipIdx_cons→acg,take_length→ach,perm_middle→aci,nodup_range→acj,mem_flatMap→ack,getElem_map→acm,flatMap_nil→acn,countP_cons→aco,cons_append→acp
open Or renaming inl→aL,inr→pC
open PySem.Heap renaming get?_push_of_some→bU,lt_size→bY,get?_push_size→eU,SameBut→gz,size_push→lO,get?_update_self→xo,get?_update_ne→JP,ExtBut→KP,get?_update_other→abB,get?_none_of_le→abK
open Option renaming some→cw,map_eq_some_iff→uY,toList_some→Ts,map_some→acC
open Option.some renaming inj→c8,injEq→xu
open PySem.Value renaming ref→dA,type→gC,none→gD,int→ig,bool→lh,str→FL,float→KJ
open Bool renaming false_ne_true→dF,and_eq_true→iB,true_and→rQ,false_eq_true→tM,false_and→xy,eq_iff_iff→Kh,and_eq_true_iff→Tn
open Int renaming toNat_natCast→fH,natCast_nonneg→xt,zero_add→BO,toNat_of_nonneg→E1,emod_lt_of_pos→E5,emod_nonneg→Ff,lt_irrefl→Kn,fdiv_eq_ediv_of_nonneg→abh
open PySem.SetTable renaming below→gc,grown→zK,has→Uk,probe→acL,slot→acV
open PySem.Obj renaming mapSeq→gQ,mapFields→vf,putSet→BX,data_mapFields→abS
open PyProof.Rows renaming boot_tuple→iE,boot_isinstance→iO,boot_list→tY,boot_all→Cj,callWith_type1→JE,slot_tuple_getitem→Ta,get?_update_seq→TN,subscriptTail_builtinR→abx
open Ne renaming symm→iT
open PySem.PassesOwn renaming never→jA
open PySem.SeqAt renaming EqAt→jD,noMixAll→F9
open Array renaming length_toList→jS,getD→xH,getElem?_toList→zB,getD_eq_getD_getElem?→JF,getElem_toList→JM,perm_iff_toList_perm→Tc,getElem?_eq_none→Ti,eq_empty_of_size_eq_zero→abe,getElem?_eq_getElem→abo,forIn_toList→abV,toList_push→ab9
open PySem.Heap.SameBut renaming update→kA
open PySem.PyData renaming eqv→lj,int→nM,canLayAll0→rG,eqvAll→tQ,depthAll→vd,canLay0→xx,tuple→BL,depth→BM,strOk→Kv,none→Uy
open True renaming intro→mX
open False renaming elim→nN
open PySem.W renaming boot_heap→ph,boot_drawn→Ld,boot_toks→LL
open Prod renaming mk→qw
open PySem.NameKind renaming free→rP
open PySem.Str renaming ofString→rS
open Classical renaming byContradiction→tK,propDecidable→Tg
open List.cons renaming inj→tS
open PySem.Around renaming under_plainId→va,under→Up,frames_deeper→abL
open PySem.Builtin.SmallTypes renaming nextOf→xh,ownedTupleIsFree→JD,ownedTupleHandOut→abd,iterAll→abj
open Prod.mk renaming inj→xF,injEq→Km
open Nat.succ renaming inj→BN
open PySem.Walks renaming list→BW
open PySem.Builtin.Int renaming intBits→E2
open PySem.W.KasT renaming kasWp_bind→Fe
open PySem.Builtin renaming bitAnd→Fi,bitOr→Ko
open PySem.W.WData renaming int→FK,layableAll→ace,weightAll→acB
open PySem.Builtin.Slice renaming slicePlaces→JG,sliceAdjust→Te,sliceApplied→abk
open PySem.Builtin.Tuple renaming tupleExact→JH,tupleHashOf→Td
open PySem.Builtin.List renaming listTooLong→JI,listExtendWith→abf,listSameRef→abt
open PySem.SetTable.below renaming go→JT
open ForInStep renaming yield→Kg
open PyProof.Rows.IsTup renaming typeIs→Kz
open PyProof.Rows.IntsAre renaming int_at→TY
open PySem.Shared renaming TypeIs→Ua
open PySem.pickOrder renaming go→Uj
open PySem.Builtin.Builtins renaming bindParams→abg
open PySem.Calls renaming Name_function_global→abi
open PySem.Builtin.Frozenset renaming sizeOf→abu
open PySem.SeqAt.EqAt renaming none_int→abN,int_none→abO
open PySem.SetTable.probe renaming go→ab2
open List.IsPrefix renaming map→ab8
open PySem.PyData.tuple renaming inj→acf
open Array.Perm renaming refl→acD
open PySem.SetTable.Met.empty renaming injEq→arL
open PySem.F renaming plainAttrs_list→m_,slot_list_append→n_,type_list_append→o_
open PySem renaming boot_len→q_,mem_of_lookup→t_
open PySem.Paired renaming length→r_
open PySem.W renaming Frag→u_,kitOne→v_,findIn→w_,keepIn→x_,kitCls→y_,mg_none_of→z_,Looks→s_,mroIn→A_,fnOf→B_,mg_of→C_,InstAt→D_,kia_one→E_,hasDictIn→F_,callWith_K→G_
open PySem PySem.Spec PyProof.Rows
open PySem renaming wpAny→bt,model→bv,Paired→bw,Stmt→bx,Expr→c0,backTo→ca,PyData→ci,OsState→cr,rawInt→cP,Str→d0,Obj→d5,Scope→d6,Model→d7
open PyProof.Rows renaming seqObj→d8,envOfC→db
theorem b4(_:True:=by decide):True:=⟨⟩
def ap:=b4._auto_1
theorem ba(_:True:=by rfl):True:=⟨⟩
def am:=ba._auto_1
theorem be(_:True:=by with_reducible assumption):True:=⟨⟩
def ad:=be._auto_1
theorem bn(_:True:=by with_unfolding_all rfl):True:=⟨⟩
def aK:=bn._auto_1
theorem xz{b:Sort u}{a:b}:a=a:=Eq.refl a
noncomputable abbrev PySem.Heap.zH(h:PySem.Heap):=h.objs.size
noncomputable abbrev PySem.Shared.zS(s:PySem.Shared):=s.heap.objs.size
noncomputable abbrev l_:String:="name"
noncomputable abbrev H_:String:="none"
noncomputable abbrev I_:String:="swap"
noncomputable abbrev J_:String:="look"
noncomputable abbrev K_:String:="set"
noncomputable abbrev L_:String:="row"
noncomputable abbrev M_:String:="clear"
noncomputable abbrev N_:String:="parts"
noncomputable abbrev O_:String:="skip"
noncomputable abbrev P_:String:="program"
noncomputable abbrev Q_:String:="__init__"
noncomputable abbrev R_:String:="reg"
noncomputable abbrev S_:String:="empties"
noncomputable abbrev T_:String:="place"
noncomputable abbrev U_:String:="add"
noncomputable abbrev V_:String:="_law_cell"
noncomputable abbrev W_:String:="tuple"
noncomputable abbrev X_:String:="part"
noncomputable abbrev Y_:String:="self"
noncomputable abbrev Z_:String:="kind"
noncomputable abbrev ac1:String:="is_whole"
noncomputable abbrev ac2:String:="put"
noncomputable abbrev an3:String:="clerk"
noncomputable abbrev as1:String:="nexts"
noncomputable abbrev at0:String:="told"
noncomputable abbrev at1:String:="_law_k"
noncomputable abbrev at3:String:="turn"
noncomputable abbrev at4:String:="sets"
noncomputable abbrev at5:String:="enumerate"
noncomputable abbrev at6:String:="carry"
noncomputable abbrev at7:String:="machine"
noncomputable abbrev at8:String:="_law_names"
noncomputable abbrev at9:String:="_law_clerk"
noncomputable abbrev au0:String:="names"
noncomputable abbrev au1:String:="step"
noncomputable abbrev au2:String:="move"
noncomputable abbrev au3:String:="bounds_of"
noncomputable abbrev au4:String:="setting"
noncomputable section
def eN:=@if_neg
def eT:=@if_pos
def f':=@absurd
def fi:=@of_decide_eq_true
def fC:=@decide_eq_true
def fT:=@decide_eq_false
def gd:=@of_decide_eq_false
def gl:=@beq_eq_false_iff_ne
def gr:=@beq_iff_eq
def gv:=@congrArg
def Eq.gw:=@Eq.trans
def Iff.gw:=@Iff.trans
def List.Perm.gw:=@List.Perm.trans
def HEq.gw:=@HEq.trans
def Array.Perm.gw:=@Array.Perm.trans
def List.IsPrefix.gw:=@List.IsPrefix.trans
def PySem.Heap.SameBut.gw:=@PySem.Heap.SameBut.trans
def Eq.gx:=@Eq.symm
def Iff.gx:=@Iff.symm
def List.Perm.gx:=@List.Perm.symm
def Ne.gx:=@Ne.symm
theorem dk{p:Prop}(h:p:=by decide +kernel):p:=h
theorem qc{p:Prop}(h:autoParam p ap):p:=h
theorem om{p:Prop}(h:p:=by omega):p:=h
theorem li{p:Prop}(h:p:=by lia):p:=h
noncomputable abbrev hH:List PySem.Str:=["self","told"]
noncomputable abbrev hU:List PySem.Str:=["self","clerk"]
noncomputable abbrev hF:List PySem.Str:=["self"]
noncomputable abbrev i5:List PySem.Str:=["names","name"]
noncomputable abbrev io:List PySem.Str:=["self","clerk","step"]
noncomputable abbrev md:List PySem.Str:=["_law_draw","_law_k","_law_clerk","_law_clerks","_law_names"]
noncomputable abbrev jp:List PySem.Str:=["self","program","kind"]
noncomputable abbrev ji:List PySem.Str:=["_law_some","_law_more"]
noncomputable abbrev lT:List PySem.Str:=["_law_program_here","_law_kind","_law_cells","_law_told"]
noncomputable abbrev lI:List PySem.Str:=["_law_cell","_law_clerks","_law_length","_law_names"]
noncomputable abbrev hX:List PySem.Str:=["program"]
noncomputable abbrev lz:List PySem.Str:=["_law_draw","_law_cell","_law_length","_law_names"]
noncomputable abbrev im:List PySem.Str:=["self","name"]
noncomputable abbrev kX:List PySem.Str:=["_law_program_here","_law_kind"]
noncomputable abbrev js:List PySem.Str:=["program","paper","kind"]
noncomputable abbrev lp:List PySem.Str:=["step","place","row","foreign","kind"]
noncomputable abbrev kR:List PySem.Str:=["self","name","number","deed"]
noncomputable abbrev kb:List PySem.Str:=["step","names","foreign"]
noncomputable abbrev iM:List PySem.Str:=["self","place"]
noncomputable abbrev ia:List PySem.Str:=["thing"]
noncomputable abbrev jw:List PySem.Str:=["self","clerk","name"]
noncomputable abbrev ii:List PySem.Str:=["machine"]
noncomputable abbrev iL:List PySem.Str:=["part"]
noncomputable abbrev kQ:List PySem.Str:=["part","row","foreign"]
noncomputable abbrev kN:List PySem.Str:=["_law_script","_law_k"]
noncomputable abbrev kw:List PySem.Str:=["step","place","regs"]
noncomputable abbrev ld:List PySem.Str:=["step","names","kind"]
noncomputable abbrev kn:List PySem.Str:=["self","kind"]
noncomputable abbrev iv:List PySem.Str:=["told"]
noncomputable abbrev lb:List PySem.Str:=["step","place","row"]
noncomputable abbrev ki:List PySem.Str:=["names","others"]
namespace L2
end L2
namespace L3
end L3
namespace L4
end L4
namespace L5
end L5
namespace HT
open PySem.W
noncomputable def Gb(a:String->Option Builtin)(p:k_)(w:j_)(b:Nat)(c:Option f_):Nat->SharedT->Thread->Option SharedT
 | 0,_,_=>b_
 | n+1,s,t=>match through t with
  | true=>a_ s
  | false=>match stepOk b c t with
   | false=>b_
   | true=>match stepT (denote a) p w s t with
    | some (s',t')=>Gb a p w b c n s' t'
    | none=>b_
theorem UA{w:j_}{n:Nat}{s s':SharedT}{t:Thread}(h:Gb tb p w n₀ ann n s t=a_ s'):topRun tb p w n₀ ann n s.abs t=a_ s'.abs:=by
 induction n generalizing s t with
 |zero=>cases h
 |succ n i=>
  unfold Gb at h;unfold topRun;cases b:through t with
  | true=>rw[b]at h;cases h;rfl
  | false=>
   rw[b]at h;cases c:stepOk n₀ ann t with
   | false=>rw[c]at h;cases h
   | true=>
    rw[c]at h;cases a:stepT (denote tb) p w s t with
    | none=>rw[a]at h;cases h
    | some r=>rw[a]at h;rw[stepT_spec a];exact i h
noncomputable def WQ:List d5->Nat->BT->BT
 | [],_,t=>t
 | o::r,i,t=>WQ r (i+1)<|t.ins i o
def Pz(P:Params):BT:=WQ (ph P).objs.toList 0 .nil
def C9(P:Params):Nat:=(ph P).objs.size
def PB(P:Params):Life:=(ph P).life
def amT(P:Params):Option Value:=(ph P).nsMap fe "__annotations__"
theorem boot_abs(P:Params):absHeap (Pz P) (C9 P) (PB P)=ph P:=by kernel_rfl
theorem ai8(P:Params):((ph P).isNs fe,(ph P).objs.size)=(c_,C9 P):=by kernel_rfl
def X3(P:Params)(os:cr):SharedT:=⟨Pz P,C9 P,PB P,#[],Ld,LL,os⟩
def nC(p:k_)(w:j_)(N:Nat)(os:cr):Option SharedT:=Gb B9 p w (C9 w.params) (amT w.params) N (X3 w.params os)<|topStub p
def held(p:k_)(P:Params)(s:g_):Bool:=staticsOk (Fb p.main.body) (ph P) s.heap&&namesBound p s.heap&&gensDone s&&laidKept (ph P) s.heap
theorem both{a d e:Type}{o:Option a}{f:a->d}{g:a->e}{b:d}{c:e}(h1:o.map f=a_ b)(h2:o.map g=a_ c):o.map (λs=>(f s,g s))=a_ (b,c):=by
 cases o with
 | none=>cases h1
 | some s=>cases h1;cases h2;rfl
theorem adC{w:j_}(a:(s₀.heap.isNs fe&&s₀.gens.size==0)=c_)(r:topRun B9 p w s₀.heap.objs.size (s₀.heap.nsMap fe "__annotations__") N s₀ (topStub p)=a_ s₁)(b:(staticsOk (Fb p.main.body) s₀.heap s₁.heap&&namesBound p s₁.heap&&gensDone s₁&&laidKept s₀.heap s₁.heap)=c_):topFrom B9 p w N s₀=a_ s₁:=by
 unfold topFrom;rw[a];dsimp only;rw[r];dsimp only[Option.bind];rw[b]
theorem aiO(e:opening p=plainProg p.main.scope.names)(b:Nat.ble 600 N=c_)(f:∀s,fenceModules? p s=a_ s)(run:∀(w:j_)(os:cr),(nC p w N os).map (λs=>(held p w.params s.abs,(openSeen q loose (Fb p.main.body) Xt c_ s.abs,Yf s.abs)))=a_ (c_,(openGood q loose,Ya w))):LeftO p q loose Xt Yf Ya N:=λw=>by
 obtain⟨⟨h,c,d,k,os⟩,g,e'⟩:=uY.mp<|boot_open e b f w;obtain⟨rfl,rfl,rfl,rfl⟩:h=ph w.params/\c=Array.mk []/\d=Ld/\k=LL:=by simpa using e'
 obtain⟨i,r,l⟩:=uY.mp<|run w os;obtain⟨l1,l2⟩:=xF l;obtain⟨j,m⟩:=xF<|ai8 w.params;have a:=UA r
 have n:(X3 w.params os).abs=⟨ph w.params,Array.mk [],Ld,LL,os⟩:=by
  show (⟨absHeap (Pz w.params) (C9 w.params)<|PB w.params,_,_,_,_⟩:g_)=_;rw[boot_abs];rfl
 rw[n]at a;have t:topFrom B9 p w N ⟨ph w.params,Array.mk [],Ld,LL,os⟩=a_ i.abs:=adC (by rw[j];rfl) (by show topRun B9 p w (ph w.params).objs.size _ N _ _=_;rw[m];exact a) l1;unfold openEnds;rw[g];show (topFrom B9 p w N _).map _=_;rw[t];exact gv a_ l2
end HT
namespace TL
open PySem.SeqAt L2 L3
noncomputable def qv:Program:=W.view PySem.Challenge.rw_traylate_k72_whole_worlds.prog [0,2,3,4,5,6,7,9,10,11,12,13,14,15,16,17,18,19,20,21,22,23,24,26,27,28,29,30,31,33,34,35,37,38,39,40,42,43,44,45,46,48,49,50,51,52,53,54,55,56,57,58,59,60,61,63,64,66,67,68,69,71,72,73,74,75,76,77,78,79,80,81]
end TL
section
open PySem.W
abbrev TL.rn(w:j_)(os:cr):=HT.nC PySem.Challenge.rw_traylate_k72_whole_worlds.row.prog w 13380 os
noncomputable abbrev TL.lo:List d0:=["fault","Machine","KINDS"]
theorem TL.lw:looseW TL.qv [PySem.Str.ofString "fault"]=TL.lo:=by kernel_rfl
theorem TL.lwS:W.OpenLaw.wellSaid PySem.Challenge.rw_traylate_k72_whole_worlds=true:=by kernel_rfl
theorem TL.l0(w:j_)(os:cr):(TL.rn w os).map (λs=>((s.abs.heap.keysOk TL.lo ((recsOf TL.qv).map (·.name)) ((litsOf TL.qv).map (·.1))<|(clssOf TL.qv TL.lo).map (·.name)),((plainSeenE TL.qv TL.lo s.abs))))=a_ (c_,(plainGoodE TL.qv TL.lo)):=by kernel_rfl
theorem TL.l1(w:j_)(os:cr):(TL.rn w os).map (λs=>(wideSeen TL.qv s.abs,clsSeenW TL.qv [PySem.Str.ofString "fault"] s.abs))=a_ (wideGood TL.qv,clsGoodW TL.qv [PySem.Str.ofString "fault"]):=by kernel_rfl
theorem TL.l2(w:j_)(os:cr):(TL.rn w os).map (λs=>((plainSeenD TL.qv [PySem.Str.ofString "fault"] s.abs),((HT.held PySem.Challenge.rw_traylate_k72_whole_worlds.row.prog w.params s.abs),((s.abs.heap.bmainOk&&(valsOk TL.qv s.abs.heap&&(!importsNone TL.qv||s.abs.heap.noSeerOk)))))))=a_ (plainGoodD TL.qv [PySem.Str.ofString "fault"],(c_,(c_))):=by kernel_rfl
theorem TL.l3(w:j_)(os:cr):(TL.rn w os).map (λs=>((((recsOf TL.qv).map λd=>s.abs.heap.tab0Ok d.name).take 22 |>.all id),((s.abs.heap.bltView))))=a_ (c_,(bltViewBooted)):=by kernel_rfl
theorem TL.l4(w:j_)(os:cr):(TL.rn w os).map (λs=>((recsOf TL.qv).map λd=>s.abs.heap.tab0Ok d.name).drop 22 |>.all id)=a_ true:=by kernel_rfl
theorem TL.l5(w:j_)(os:cr):(TL.rn w os).map (λs=>(((((recsOf TL.qv).map (·.name)).map<|s.abs.heap.shapeAt fe).take 18),(((ownsOf TL.qv).all (λo=>s.abs.heap.ownExcOk o.name o.chain o.bm o.newId&&s.abs.heap.quietOk o.name)&&(s.abs.heap.noLimitOk&&s.abs.heap.noDigitsOk)),((pinSeenD TL.qv (drecsOf TL.qv) s.abs),((s.abs.heap.accountedOkI (Fb PySem.Challenge.rw_traylate_k72_whole_worlds.row.prog.main.body)&&(s.abs.heap.isNs fe&&(s.abs.heap.isNs rZ&&(tablesOk TL.qv s.abs.heap&&((W.xlAt TL.qv [] s.abs&&W.recOk PySem.Challenge.rw_traylate_k72_whole_worlds.row.records s.abs)&&(s.abs.gens.size==0)))))))))))=a_ ((((recsOf TL.qv).take 18).map λd=>a_ d.shape),(c_,(pinGoodD<|drecsOf TL.qv,(c_)))):=by kernel_rfl
theorem TL.l6(w:j_)(os:cr):(TL.rn w os).map (λs=>(((recsOf TL.qv).map (·.name)).map<|s.abs.heap.shapeAt fe).drop 18)=a_ ((((recsOf TL.qv).drop 18).map λd=>a_ d.shape)):=by kernel_rfl
end
namespace L2
noncomputable def ei(s:bx)(j:Nat):bx:=match s with
 | .ClassDef _ _ _ body _ _ _ _ _ _ _=>body.getD j<|.Pass ⟨0,0,0,0⟩
 | _=>.Pass ⟨0,0,0,0⟩
noncomputable def lC(s:bx):Arguments:=match s with
 | .FunctionDef _ a _ _ _ _ _ _ _ _=>a
 | _=>{posonlyargs:=[],args:=[],vararg:=b_,kwonlyargs:=[],kw_defaults:=[],kwarg:=b_,defaults:=[]}
noncomputable def jb(s:bx):List bx:=match s with
 | .FunctionDef _ _ b _ _ _ _ _ _ _=>b
 | _=>[]
noncomputable def aM(s:bx):d6:=match s with
 | .FunctionDef _ _ _ _ _ _ sc _ _ _=>sc
 | _=>{kind:=.function,names:=[],isGenerator:=d_,isCoroutine:=d_}
end L2
namespace TL
open L2 L3
noncomputable abbrev hV:Int:=1000000000000000000000000000000000000000000000000000000000000
noncomputable def top(i:Nat):bx:=PySem.Challenge.pw_traylate_k72_whole_worlds.main.body.getD i<|.Pass ⟨0,0,0,0⟩
abbrev Hd:bx:=ei (top 13) 0
abbrev CH:bx:=top 21
abbrev Cs:bx:=top 22
abbrev Gh:bx:=top 23
abbrev M7:bx:=top 24
abbrev Hc:bx:=ei (top 14) 0
abbrev He:bx:=ei (top 15) 0
abbrev Ha:bx:=ei (top 16) 0
abbrev Gz:bx:=ei (top 17) 0
abbrev Gw:bx:=ei (top 18) 0
abbrev Gx:bx:=ei (top 20) 0
abbrev M0:bx:=top 21
abbrev DJ:bx:=ei (top 34) 0
abbrev OQ:bx:=ei (top 34) 1
abbrev L6:bx:=ei (top 34) 2
abbrev FT:bx:=ei (top 34) 3
abbrev NO:bx:=ei (top 34) 4
abbrev M6:bx:=ei (top 34) 5
abbrev L0:bx:=ei (top 34) 6
abbrev M5:bx:=top 35
end TL
namespace TL
open PySem.SeqAt L2 L3
abbrev NM:bx:=ei (top 34) 7
end TL
namespace TL
open PySem.SeqAt L2 L3 L4
abbrev GA:bx:=ei (top 13) 5
abbrev Fx:bx:=ei (top 18) 3
abbrev Fs:bx:=ei (top 19) 0
abbrev Gy:bx:=ei (top 40) 0
abbrev Oa:bx:=ei (top 40) 1
abbrev NR:bx:=ei (top 40) 2
abbrev Mg:bx:=ei (top 40) 3
abbrev Nb:bx:=ei (top 40) 4
abbrev Qb:bx:=ei (top 40) 5
abbrev Nh:bx:=ei (top 40) 6
abbrev N6:bx:=ei (top 40) 7
abbrev Ni:bx:=ei (top 40) 8
abbrev Ng:bx:=ei (top 40) 9
abbrev N8:bx:=ei (top 40) 10
abbrev OX:bx:=ei (top 40) 11
abbrev Ma:bx:=ei (top 40) 12
abbrev N0:bx:=ei (top 40) 14
abbrev NL:bx:=ei (top 40) 15
abbrev KR:bx:=ei (top 40) 17
abbrev LZ:bx:=ei (top 40) 18
abbrev N9:bx:=ei (top 40) 19
abbrev Kp:bx:=top 39
abbrev OV:bx:=top 38
abbrev Qd:bx:=top 27
abbrev OW:bx:=top 28
abbrev Lm:bx:=top 29
abbrev L7:bx:=top 37
abbrev M8:bx:=top 42
abbrev N2:bx:=top 43
abbrev L8:bx:=top 44
abbrev NT:bx:=ei (top 40) 24
abbrev KA:bx:=top 45
abbrev ud:bx:=top 46
abbrev Gg:bx:=ei (top 13) 2
abbrev Fq:bx:=ei (top 20) 1
abbrev OP:bx:=top 49
abbrev LY:bx:=top 50
abbrev OS:bx:=top 59
abbrev Mb:bx:=top 60
abbrev G9:bx:=ei (top 13) 3
abbrev G':bx:=ei (top 16) 1
abbrev Gv:bx:=ei (top 18) 1
abbrev Na:bx:=top 63
abbrev NS:bx:=top 64
abbrev OU:bx:=top 48
abbrev Qa:bx:=top 51
abbrev NV:bx:=top 52
abbrev NU:bx:=top 57
abbrev OR:bx:=top 58
abbrev Mf:bx:=top 61
abbrev CJ:bx:=top 62
abbrev Nc:bx:=top 66
abbrev NP:bx:=top 67
abbrev Qg:bx:=top 68
abbrev Nj:bx:=top 71
abbrev NQ:bx:=top 72
abbrev NW:bx:=top 73
abbrev N7:bx:=top 74
abbrev N5:bx:=top 75
abbrev NX:bx:=top 76
abbrev Ll:bx:=top 30
abbrev L':bx:=top 31
abbrev M':bx:=top 53
abbrev Qf:bx:=top 69
abbrev Nf:bx:=top 54
abbrev NZ:bx:=top 55
abbrev Me:bx:=top 56
abbrev Md:bx:=top 77
abbrev Nd:bx:=top 78
abbrev NY:bx:=top 79
abbrev OT:bx:=top 80
abbrev ym:bx:=top 81
end TL
namespace HT
open PySem.W
theorem sM{a d e:Type}{o:Option a}{f:a->d}{g:a->e}{b:d}{c:e}(h:o.map (λs=>(f s,g s))=a_ (b,c)):o.map f=a_ b:=by
 cases o with
 | none=>cases h
 | some s=>
  have h':(f s,g s)=(b,c):=c8 h;exact gv a_ (xF h').1
theorem ou{a d e:Type}{o:Option a}{f:a->d}{g:a->e}{b:d}{c:e}(h:o.map (λs=>(f s,g s))=a_ (b,c)):o.map g=a_ c:=by
 cases o with
 | none=>cases h
 | some s=>
  have h':(f s,g s)=(b,c):=c8 h;exact gv a_ (xF h').2
theorem uq{a:Type}{o:Option a}{f g:a->Bool}(h1:o.map f=a_ c_)(h2:o.map g=a_ c_):o.map (λs=>f s&&g s)=a_ true:=by
 cases o with
 | none=>cases h1
 | some s=>
  have p:f s=true:=c8 h1;show a_ (f s&&g s)=a_ c_;rw[p];exact h2
theorem vV{a:Type}{o:Option a}{f g:a->Bool}(h:o.map (λs=>f s&&g s)=a_ c_):o.map f=a_ c_/\o.map g=a_ true:=by
 cases o with
 | none=>cases h
 | some s=>
  have p:=Tn.mp<|c8 h;exact⟨gv a_ p.1,gv a_ p.2⟩
theorem td{a b c:Type}{o:Option a}{F:a->List b}{l:List c}{g:c->b}(k:Nat)(h1:o.map (λs=>(F s).take k)=a_ ((l.take k).map g))(h2:o.map (λs=>(F s).drop k)=a_ ((l.drop k).map g)):o.map F=a_ (l.map g):=by
 cases o with
 | none=>cases h1
 | some s=>
  refine gv a_ ?_;rw[<-JK k<|F s,show (F s).take k=(l.take k).map g from c8 h1,show (F s).drop k=(l.drop k).map g from c8 h2,<-dC,JK]
theorem Nz{a:Type}{o:Option a}{F:a->List Bool}(k:Nat)(h1:o.map (λs=>((F s).take k).all id)=a_ c_)(h2:o.map (λs=>((F s).drop k).all id)=a_ c_):o.map (λs=>(F s).all id)=a_ true:=by
 cases o with
 | none=>cases h1
 | some s=>
  refine gv a_ ?_;show (F s).all id=c_;rw[<-JK k<|F s,List.all_append,show ((F s).take k).all id=c_ from c8 h1,show ((F s).drop k).all id=c_ from c8 h2];rfl
theorem mkS(h1:d=D)(h2:o=c_)(h3:g=c_)(h4:b=c_)(h5:n=c_):(⟨d,o,[],g,b,n,0⟩:Seen)=⟨D,c_,[],c_,c_,c_,0⟩:=by
 subst h1 h2 h3 h4 h5;rfl
theorem tb_{a b:Type}{o:Option a}{l:List b}{f:a->b->Bool}(h:o.map (λs=>(l.map λd=>f s d).all id)=a_ c_):o.map (λs=>l.all λd=>f s d)=a_ true:=by
 cases o with
 | none=>cases h
 | some s=>
  refine gv a_ ?_;have e:(l.map λd=>f s d).all id=true:=c8 h;rw[zO]at e;exact e
theorem ahF{w:j_}{N:Nat}{os:cr}{f:g_->Bool}(i:looseW q loose=L)(h3:(nC p w N os).map (λs=>s.abs.heap.keysOk L ((recsOf q).map (·.name)) ((litsOf q).map (·.1))<|(clssOf q L).map (·.name))=a_ c_)(h5:(nC p w N os).map (λs=>s.abs.heap.accountedOkI mods&&(s.abs.heap.isNs fe&&(s.abs.heap.isNs rZ&&(tablesOk q s.abs.heap&&(f s.abs&&(s.abs.gens.size==0))))))=a_ c_)(h1:(nC p w N os).map (λs=>((recsOf q).map (·.name)).map<|s.abs.heap.shapeAt fe)=a_ ((recsOf q).map λd=>a_ d.shape))(j:(nC p w N os).map (λs=>(ownsOf q).all (λo=>s.abs.heap.ownExcOk o.name o.chain o.bm o.newId&&s.abs.heap.quietOk o.name)&&(s.abs.heap.noLimitOk&&s.abs.heap.noDigitsOk))=a_ c_)(h2:(nC p w N os).map (λs=>s.abs.heap.bltView)=a_ bltViewBooted)(k:(nC p w N os).map (λs=>(recsOf q).all λd=>s.abs.heap.tab0Ok d.name)=a_ c_)(b:(nC p w N os).map (λs=>s.abs.heap.bmainOk&&(valsOk q s.abs.heap&&(!importsNone q||s.abs.heap.noSeerOk)))=a_ c_)(h4:(nC p w N os).map (λs=>(pinSeenD q (drecsOf q) s.abs,(plainSeenE q L s.abs,(plainSeenD q loose s.abs,(wideSeen q s.abs,clsSeenW q loose s.abs)))))=a_ ((pinGoodD<|drecsOf q,(plainGoodE q L,(plainGoodD q loose,(wideGood q,clsGoodW q loose)))))):(nC p w N os).map (λs=>openSeen q loose mods f c_ s.abs)=a_ (openGood q loose):=by
 subst i;obtain⟨l,h5⟩:=vV h5;obtain⟨c,h5⟩:=vV h5;obtain⟨e,h5⟩:=vV h5;obtain⟨m,h5⟩:=vV h5;obtain⟨n,a6⟩:=vV h5;obtain⟨g,h⟩:=vV j;obtain⟨c1,b⟩:=vV b;obtain⟨r,t⟩:=vV b
 have u:(nC p w N os).map (λs=>seen ((recsOf q).map (·.name)) (ownsOf q) [] {heap:=s.abs.heap,drawn:=s.abs.drawn,toks:=s.abs.toks,os:=s.abs.os})=a_ (expectedOf q):=by
  generalize nC p w N os=o at h1 c e g h ⊢;cases o with
  | none=>cases h1
  | some s=>
   refine gv a_ ?_;exact mkS (c8 h1) (c8 g) (c8 c) (c8 e)<|c8 h
 have v:(nC p w N os).map (λs=>tabsOk q s.abs)=a_ true:=uq (uq (uq k c1) r) t;have a:=both u<|both h2<|both (uq (uq (uq (uq (uq (uq h3 l) c) e) m) n) a6)<|both v h4;exact a
end HT
namespace HT
open PySem.W
theorem Nq{g:e_->Option d5}(l:List e_)(h:(l.filterMap λa=>(g a).map λo=>(a,o)).lookup a=a_ o):g a=a_ o:=by
 induction l with
 |nil=>cases h
 |cons b r i=>
  rw[JO]at h;cases e:g b with
  | none=>rw[e]at h;exact i h
  | some x=>
   rw[e]at h;dsimp only[Option.map]at h;rw[rJ]at h;cases q:a==b with
   | true=>rw[q]at h;cases h;rw[gr.mp q];exact e
   | false=>rw[q]at h;exact i h
noncomputable def rf:Option (Option f_)->e_
 | some (a_ (.ref a))=>a
 | _=>0
noncomputable def Ia:Option (Option f_)->Bool
 | some (a_ (.ref _))=>c_
 | _=>d_
theorem nh(h:Ia o=c_):o=a_ (a_<|.ref<|rf o):=by
 unfold Ia at h
 split at h
 .rfl
 .cases h
noncomputable def yF(o:Option (Option f_))(n:Int):Bool:=match o with
 | some (a_ (.int m _))=>decide<|m=n
 | _=>d_
theorem CO(h:yF o n=c_):∃t,o=a_ (a_<|.int n t):=by
 unfold yF at h
 split at h
 .rename_i m t;exact⟨t,by rw[fi h]⟩
 .cases h
noncomputable def QZ(o:Option CFound)(f:e_):Bool:=match o with
 | some (.val (.ref a))=>CF a f
 | _=>d_
theorem akp(h:QZ o f=c_):o=a_ (.val<|.ref f):=by
 unfold QZ at h
 split at h
 .rw[Nat.eq_of_beq_eq_true h]
 .cases h
abbrev qX:=d0×d0×Arguments×FuncBody×d6×e_×List (d0×e_)×f_×e_
noncomputable def aY(K:Frag)(f:e_):Option qX:=match K.lookup f with
 | some ⟨_,_,.func d,_⟩=>a_ (d.name,d.qualname,d.params,d.body,d.scope,d.globals,d.closure,d.defaults,d.builtins)
 | _=>b_
noncomputable def codeOk(K:Frag)(f:e_)(q:d0):Bool:=match K.lookup f with
 | some ⟨_,_,.func d,_⟩=>codeIn K d.code q
 | _=>d_
theorem yg{K:Frag}(h:aY K f=a_ (n,q,A,.stmts B,S,fe,[],.none,rZ))(a:codeOk K f q'=c_):∃(oc:f_)(od:Option e_)(kV b pm:f_)(an:Option e_)(cd ct:f_)(sl:Array (Option f_)),K.lookup f=a_ ⟨oc,od,.func<|fnOf n q A B S .none kV b pm an cd ct,sl⟩/\codeIn K cd q'=true:=by
 unfold aY at h;unfold codeOk at a
 split at h
 .rename_i oc od d sl e
  rw[e]at a;obtain⟨d1,c,g,i,j,k,l,m,d9,o,p,r,s,t,u⟩:=d;simp only[xu,Km]at h;obtain⟨rfl,rfl,rfl,rfl,rfl,rfl,rfl,rfl,rfl⟩:=h;exact⟨oc,od,_,_,_,_,_,_,sl,e,a⟩
 .cases h
noncomputable def AK(K:Frag)(f:e_):Option qX:=match K.lookup f with
 | some ⟨_,_,.func d,_⟩=>a_ (d.name,d.qualname,d.params,d.body,d.scope,d.globals,d.closure,.none,d.builtins)
 | _=>b_
noncomputable def AM(K:Frag)(f:e_)(x:d0):Bool:=match K.lookup f with
 | some ⟨_,_,.func d,_⟩=>(match d.defaults with
  | .ref T=>(match K.lookup T with
   | some ⟨_,_,.seq ah _,_⟩=>(match ah.toList with
    | [.str y _]=>decide<|y=x
    | _=>d_)
   | _=>d_)
  | _=>d_)
 | _=>d_
theorem YK{K:Frag}(h:AK K f=a_ (n,q,A,.stmts B,S,fe,[],.none,rZ))(a:codeOk K f q'=c_)(hd:AM K f x=c_):∃(oc:f_)(od:Option e_)(T:e_)(kV i pm:f_)(an:Option e_)(cd ct:f_)(sl:Array (Option f_))(c1:f_)(d1:Option e_)(n1:Nat)(oK:Array (Option f_))(tk:Nat),K.lookup f=a_ ⟨oc,od,.func<|fnOf n q A B S (.ref T) kV i pm an cd ct,sl⟩/\codeIn K cd q'=c_/\K.lookup T=a_ ⟨c1,d1,.seq #[.str x tk] n1,oK⟩:=by
 unfold AK at h;unfold codeOk at a;unfold AM at hd
 split at h
 .rename_i oc od d sl e
  rw[e]at a hd;obtain⟨d1,m,o,p,r,s,t,j,d9,u,v,w,z,C,D⟩:=d;simp only[xu,Km]at h;obtain⟨rfl,rfl,rfl,rfl,rfl,rfl,rfl,_,rfl⟩:=h;cases j with
  | ref T=>
   have hd:(match K.lookup T with
    | some ⟨_,_,.seq b _,_⟩=>(match b.toList with
     | [.str y _]=>decide<|y=x
     | _=>d_)
    | _=>d_)=true:=hd
   split at hd
   .rename_i c1 k b n1 oK c
    split at hd
    .rename_i y tk g
     rw[fi hd]at g
     have l:b=#[.str x tk]:=by
      have:=gv List.toArray g;simpa using this
     rw[l]at c;exact⟨oc,od,T,_,_,_,_,_,_,sl,c1,k,n1,oK,tk,e,a,c⟩
    .cases hd
   .cases hd
  | _=>cases hd
 .cases h
noncomputable def vU(h:i_)(b:List e_)(T:e_):Frag:=b.filterMap λa=>(if CF a T=c_ then b_ else h.get? a).map λo=>(a,o)
theorem UR(e:(vU h as T).lookup a=a_ o):a≠T/\h.get? a=a_ o:=by
 have z:=Nq (g:=λa=>if CF a T=c_ then b_ else h.get? a) _ e
 by_cases y:CF a T=c_
 .rw[eT y]at z;cases z
 .rw[eN y]at z;exact⟨λq=>y (by rw[q];exact Nat.beq_refl T),z⟩
theorem agU(h:i_)(a:List e_)(T:e_):(vU h a T).In h:=λ_ _ e=>(UR e).2
theorem agT(h:i_)(a:List e_)(T:e_):(vU h a T).lookup T=none:=by
 cases e:(vU h a T).lookup T with
 | none=>rfl
 | some o=>exact f' xz (UR e).1
noncomputable def gT(s:SharedT)(a:e_):Option d5:=match Nat.ble (a+1) s.n with
 | true=>alive<|(s.tree.get a).getD default
 | false=>b_
theorem ZD(s:SharedT)(a:e_):s.abs.heap.get? a=gT s a:=by
 show (absHeap s.tree s.n s.life).get? a=gT s a;unfold gT;cases h:Nat.ble (a+1) s.n with
 | true=>
  have h1:a<s.n:=Nat.le_of_ble_eq_true h;unfold Heap.get?;rw[absHeap_at,eT h1];generalize (s.tree.get a).getD default=o;show (match a_ o with | some ⟨_,_,.freed,_⟩=>b_ | o=>o)=alive o;obtain⟨c,d,b,sl⟩:=o;cases b <;> rfl
 | false=>exact abs_get_none λz=>by rw[Nat.ble_eq_true_of_le (show a+1<=s.n from z)]at h;cases h
def vS(s:SharedT)(b:List e_)(T:e_):Frag:=b.filterMap λa=>match CF a T with
 | true=>b_
 | false=>(gT s a).map λo=>(a,o)
theorem agS(s:SharedT)(b:List e_)(T:e_):vU s.abs.heap b T=vS s b T:=by
 unfold vU vS
 congr 1
 funext a
 rw[ZD];cases CF a T <;> rfl
noncomputable def yf:Option d5->Bool
 | some ⟨.none,b_,.fields vs,sl⟩=>vs.size==0&&sl.size==0
 | _=>d_
theorem agN(h:yf o=c_):o=a_ (tabObj #[]):=by
 unfold yf at h
 split at h
 .rename_i vs sl
  rw[iB]at h;have a:=abe<|gr.mp h.1;have b:=abe<|gr.mp h.2;subst a;subst b;rfl
 .cases h
def t7(c:List e_)(T:e_)(d:Frag->Bool×List (Option qX))(val:Bool×List (Option qX)):Hook:=
 ⟨Bool×(Bool×List (Option qX)),λs=>(yf<|s.heap.get? T,d<|vU s.heap c T),λ_=>(c_,val),λ_ h=>∃K:Frag,K.In h/\K.lookup T=b_/\h.get? T=a_ (tabObj #[])/\d K=val,λ_ s e=>⟨_,agU s.heap c T,agT _ _ _,agN (xF e).1,(xF e).2⟩,λ_ _ _⟨K,a,n,t,b⟩k=>⟨K,a.keeps k,n,k _ _ t,b⟩⟩
theorem akk{a:Frag->Bool×List (Option qX)}{val:Bool×List (Option qX)}{o:Option SharedT}(h1:o.map (λs=>yf<|gT s T)=a_ c_)(h2:o.map (λs=>a<|vS s as T)=a_ val):o.map (λs=>(t7 as T a val).obs s.abs)=a_ (c_,val):=by
 have e:(λs:SharedT=>(t7 as T a val).obs s.abs)=λs=>(yf<|gT s T,a<|vS s as T):=by
  funext s
  show (yf<|s.abs.heap.get? T,a<|vU s.abs.heap as T)=_;rw[ZD,agS]
 rw[e];exact both h1 h2
noncomputable def vR:f_->e_
 | .ref q=>q
 | _=>0
noncomputable def vB:f_->Bool
 | .ref _=>c_
 | _=>d_
theorem alu(h:vB v=c_):v=.ref (vR v):=by cases v <;> first | rfl | cases h
def AN(K:Frag)(f:e_):Addr:=match K.lookup f with
 | some ⟨_,_,.func d,_⟩=>vR d.code
 | _=>0
def HB(K:Frag)(f:e_):Bool:=match K.lookup f with
 | some ⟨_,_,.func d,_⟩=>vB d.code
 | _=>d_
theorem akz{K:Frag}(h:aY K f=a_ (n,q,A,.stmts B,S,fe,[],.none,rZ))(d:codeOk K f q'=c_)(a:HB K f=c_):∃(oc:f_)(od:Option e_)(kV b pm:f_)(an:Option e_)(ct:f_)(sl:Array (Option f_)),K.lookup f=a_ ⟨oc,od,.func<|fnOf n q A B S .none kV b pm an (.ref<|AN K f) ct,sl⟩/\codeIn K (.ref<|AN K f) q'=true:=by
 obtain⟨oc,od,kV,b,pm,an,cd,ct,sl,e,c⟩:=yg h d
 have g:cd=.ref (AN K f):=by
  unfold HB at a;unfold AN;rw[e]at a ⊢;exact alu a
 rw[g]at e c;exact⟨oc,od,kV,b,pm,an,ct,sl,e,c⟩
noncomputable def r9:List f_->List d0->Bool
 | [],[]=>c_
 | .str y _::us,x::xs=>decide (y=x)&&r9 us xs
 | _,_=>d_
def tupS(K:Frag)(a:e_)(xs:List d0):Bool:=match K.lookup a with
 | some ⟨.type "tuple",_,.seq ah _,_⟩=>r9 ah.toList xs
 | _=>d_
end HT
namespace TL
open PySem.SeqAt L2 L3
def gN(K:u_)(x:d0):Addr:=HT.rf<|W.nsIn K fe x
def gM(K:u_)(c:e_)(x:d0):Addr:=HT.rf<|w_ K (.ref c) x
abbrev rN(K:u_)(x:d0):Prop:=HT.Ia (W.nsIn K fe x)=c_
abbrev zN(K:u_)(x:d0):Prop:=W.nsIn K fe x=a_ b_
abbrev no(K:u_)(c:e_)(x:d0):Prop:=w_ K (.ref c) x=a_ b_
abbrev fN(K:u_)(x:d0):Prop:=rN K x/\HT.codeOk K (gN K x) x=c_/\x_ K (.ref<|gN K x)=c_
abbrev fM(K:u_)(c:e_)(m q:d0):Prop:=HT.Ia (w_ K (.ref c) m)=c_/\HT.codeOk K (gM K c m) q=c_/\x_ K (.ref<|gM K c m)=c_/\W.isFn K (.ref<|gM K c m)=c_
abbrev cK(K:u_)(x:d0):Prop:=rN K x/\W.plainGet K (gN K x) Str.empty=c_/\F_ K (gN K x)=c_/\W.plainOver K (gN K x)=c_/\w_ K (.ref<|gN K x) "__setattr__"=a_ (a_<|.builtin "object.__setattr__")
abbrev mK(K:u_)(c:e_):Prop:=W.makesIn K c=c_/\x_ K (.ref c)=c_
def fp(n q:d0)(st:bx):Option HT.qX:=a_ (n,q,lC st,.stmts<|jb st,aM st,fe,[],.none,rZ)
abbrev nY(K:u_):Addr:=gN K "Step"
abbrev fV(K:u_):Addr:=gN K "Put"
abbrev fX(K:u_):Addr:=gN K "Add"
abbrev fU(K:u_):Addr:=gN K "Set"
abbrev fR(K:u_):Addr:=gN K "Look"
abbrev fL(K:u_):Addr:=gN K "Swap"
abbrev fQ(K:u_):Addr:=gN K "Skip"
abbrev jE(K:u_):Addr:=gN K "Clear"
abbrev gg(K:u_):Addr:=gN K "Tray"
abbrev cC(K:u_):Addr:=gN K "Machine"
abbrev WN(K:u_):Addr:=gN K "KINDS"
abbrev re(K:u_):Addr:=gN K "is_whole"
abbrev qI(K:u_):Addr:=gN K "bounds_of"
abbrev rc(K:u_):Addr:=gN K "is_step"
abbrev qY(K:u_):Addr:=gN K "step_of"
abbrev AQ(K:u_):Addr:=gM K (nY K) "__init__"
abbrev OF(K:u_):Addr:=gM K (fV K) "__init__"
abbrev OH(K:u_):Addr:=gM K (fX K) "__init__"
abbrev OE(K:u_):Addr:=gM K (fU K) "__init__"
abbrev Ny(K:u_):Addr:=gM K (fR K) "__init__"
abbrev Nw(K:u_):Addr:=gM K (fL K) "__init__"
abbrev Nx(K:u_):Addr:=gM K (fQ K) "__init__"
abbrev pI(K:u_):Addr:=gM K (nY K) "empties"
abbrev XT(K:u_):Addr:=gM K (fL K) "empties"
abbrev XW(K:u_):Addr:=gM K (jE K) "empties"
abbrev anC(K:u_):Addr:=gN K "has_clerks"
abbrev anD(K:u_):Addr:=gN K "fits"
abbrev ans(K:u_):Addr:=gN K "look_over"
abbrev ZP(K:u_):Addr:=gM K (gg K) "__init__"
abbrev anb(K:u_):Addr:=gM K (gg K) "add"
abbrev am9(K:u_):Addr:=gM K (gg K) "latest"
abbrev PM(K:u_):Addr:=gM K (gg K) "fronts"
abbrev am7(K:u_):Addr:=gM K (gg K) "take"
abbrev am'(K:u_):Addr:=gM K (gg K) "is_empty"
abbrev ana(K:u_):Addr:=gM K (gg K) "listed"
abbrev am6(K:u_):Addr:=gM K (gg K) "twin"
abbrev am8(K:u_):Addr:=gN K "tray_of"
abbrev OG(K:u_):Addr:=gM K (cC K) "__init__"
abbrev anO(K:u_):Addr:=gM K (cC K) "at_end"
abbrev anm(K:u_):Addr:=gM K (cC K) "may_do"
abbrev anL(K:u_):Addr:=gM K (cC K) "carries"
abbrev anp(K:u_):Addr:=gM K (cC K) "moves"
abbrev anI(K:u_):Addr:=gM K (cC K) "do"
abbrev anH(K:u_):Addr:=gM K (cC K) "do_step"
abbrev anG(K:u_):Addr:=gM K (cC K) "do_set"
abbrev anJ(K:u_):Addr:=gM K (cC K) "do_look"
abbrev anF(K:u_):Addr:=gM K (cC K) "do_swap"
abbrev anK(K:u_):Addr:=gM K (cC K) "carry"
abbrev anM(K:u_):Addr:=gM K (cC K) "come"
abbrev anl(K:u_):Addr:=gM K (cC K) "on_board"
abbrev anE(K:u_):Addr:=gM K (cC K) "ended"
abbrev ano(K:u_):Addr:=gM K (cC K) "twin"
abbrev am1(K:u_):Addr:=gM K (cC K) "waiting"
abbrev am4(K:u_):Addr:=gM K (cC K) "where"
abbrev ang(K:u_):Addr:=gM K (cC K) "registers"
abbrev anN(K:u_):Addr:=gM K (cC K) "board"
abbrev anj(K:u_):Addr:=gN K "place_behind"
abbrev anB(K:u_):Addr:=gN K "has_form_of_move"
abbrev ane(K:u_):Addr:=gN K "steps_of"
abbrev anh(K:u_):Addr:=gN K "part_sets"
abbrev anc(K:u_):Addr:=gN K "setters"
abbrev anz(K:u_):Addr:=gN K "has_name"
abbrev am3(K:u_):Addr:=gN K "with_name"
abbrev am5(K:u_):Addr:=gN K "without_all"
abbrev am2(K:u_):Addr:=gN K "without_name"
abbrev anv(K:u_):Addr:=gN K "least_name"
abbrev ank(K:u_):Addr:=gN K "names_of_others"
abbrev anA(K:u_):Addr:=gN K "has_length"
abbrev anw(K:u_):Addr:=gN K "is_set_of_names"
abbrev anx(K:u_):Addr:=gN K "has_size"
abbrev anu(K:u_):Addr:=gN K "is_look_at_fault"
abbrev anf(K:u_):Addr:=gN K "is_set_at_fault"
abbrev akW(K:u_):Addr:=gN K "names_behind"
abbrev ani(K:u_):Addr:=gN K "places_lacking"
abbrev ak'(K:u_):Addr:=gN K "fault_at"
abbrev ZQ(K:u_):Addr:=gN K "fault"
abbrev anq(K:u_):Addr:=gN K "marks_of_part"
abbrev anr(K:u_):Addr:=gN K "marks"
abbrev nv(K:u_):Addr:=gM K (nY K) "nexts"
abbrev XU(K:u_):Addr:=gM K (fQ K) "nexts"
abbrev pH(K:u_):Addr:=gM K (nY K) "sets"
abbrev YX(K:u_):Addr:=gM K (fU K) "sets"
abbrev YW(K:u_):Addr:=gM K (fL K) "sets"
abbrev akV(K:u_):Addr:=gN K "registers_of"
abbrev alb(K:u_):Addr:=gN K "end_of"
abbrev akU(K:u_):Addr:=gN K "stand_of"
abbrev ale(K:u_):Addr:=gN K "behind_move"
abbrev ala(K:u_):Addr:=gN K "ends"
abbrev ak9(K:u_):Addr:=gN K "looks_at_fault"
abbrev akX(K:u_):Addr:=gN K "moved_step"
abbrev ald(K:u_):Addr:=gN K "cleared_part"
abbrev alc(K:u_):Addr:=gN K "cleared"
abbrev ak7(K:u_):Addr:=gN K "_law_cell_at"
abbrev ak3(K:u_):Addr:=gN K "_law_mixed"
abbrev ak0(K:u_):Addr:=gN K "_law_step"
abbrev ak6(K:u_):Addr:=gN K "_law_crossing"
abbrev ak5(K:u_):Addr:=gN K "_law_draws"
abbrev ak2(K:u_):Addr:=gN K "_law_program"
abbrev akZ(K:u_):Addr:=gN K "_law_within"
abbrev ak8(K:u_):Addr:=gN K "_law_alike"
abbrev ak4(K:u_):Addr:=gN K "_law_ends"
abbrev ak1(K:u_):Addr:=gN K "_law_run"
abbrev akY(K:u_):Addr:=gN K "law"
noncomputable abbrev d9(p:Prop)[Decidable p]:Bool:=decide p
noncomputable def AY(K:u_)(_:Unit):List Bool:=[d9 (cK K "Step"),d9<|cK K "Put",d9<|mK K<|fV K,d9<|no K (fV K) "parts",d9<|no K (fV K) "reg",d9<|no K (fV K) "number",d9<|cK K "Add",d9<|mK K<|fX K,d9<|no K (fX K) "parts",d9<|no K (fX K) "reg",d9<|no K (fX K) "other",d9<|cK K "Set",d9<|mK K<|fU K,d9<|no K (fU K) "parts",d9<|no K (fU K) "name",d9<|no K (fU K) "reg",d9<|cK K "Look",d9<|mK K<|fR K,d9<|no K (fR K) "parts",d9<|no K (fR K) "reg",d9<|no K (fR K) "name",d9<|cK K "Swap",d9<|mK K<|fL K,d9<|no K (fL K) "parts",d9<|no K (fL K) "reg",d9<|no K (fL K) "name",d9<|cK K "Skip",d9<|mK K<|fQ K,d9<|no K (fQ K) "parts",d9<|no K (fQ K) "reg",d9<|no K (fQ K) "place",d9<|cK K "Clear",d9<|mK K<|jE K,d9<|no K (jE K) "parts",d9<|cK K "Tray",d9<|mK K<|gg K,d9<|no K (gg K) "kind",d9<|no K (gg K) "turn",d9<|no K (gg K) "queues",d9<|cK K "Machine",d9<|mK K<|cC K,d9<|no K (cC K) "trays",d9<|no K (cC K) "program",d9<|no K (cC K) "kind",d9<|no K (cC K) "steps",d9<|no K (cC K) "places",d9<|no K (cC K) "counts",d9<|no K (cC K) "regs",d9<|no K (cC K) "cells",d9<|no K (cC K) "acts",d9<|no K (cC K) "comers",d9<|fN K "is_whole",d9<|fN K "bounds_of",d9<|fN K "is_step",d9<|fN K "step_of",d9<|fM K (nY K) "__init__" "Step.__init__",d9<|fM K (fV K) "__init__" "Put.__init__",d9<|fM K (fX K) "__init__" "Add.__init__",d9<|fM K (fU K) "__init__" "Set.__init__",d9<|fM K (fR K) "__init__" "Look.__init__",d9<|fM K (fL K) "__init__" "Swap.__init__",d9<|fM K (fQ K) "__init__" "Skip.__init__",d9<|fM K (nY K) "empties" "Step.empties",d9<|fM K (fL K) "empties" "Swap.empties",d9<|fM K (jE K) "empties" "Clear.empties",d9<|fN K "has_clerks",d9<|fN K "fits",d9<|fN K "look_over",d9<|fM K (gg K) "__init__" "Tray.__init__",d9<|fM K (gg K) "add" "Tray.add",d9<|fM K (gg K) "latest" "Tray.latest",d9<|fM K (gg K) "fronts" "Tray.fronts",d9<|HT.HB K (PM K)=c_,d9<|W.codeHdIn K (HT.AN K<|PM K) 416=c_,d9<|fM K (gg K) "take" "Tray.take",d9<|fM K (gg K) "is_empty" "Tray.is_empty",d9<|fM K (gg K) "listed" "Tray.listed",d9<|fM K (gg K) "twin" "Tray.twin",d9<|fN K "tray_of",d9<|fM K (cC K) "__init__" "Machine.__init__",d9<|HT.AM K (OG K) "row"=c_,d9<|fM K (cC K) "at_end" "Machine.at_end",d9<|fM K (cC K) "may_do" "Machine.may_do",d9<|fM K (cC K) "carries" "Machine.carries",d9<|fM K (cC K) "moves" "Machine.moves",d9<|fM K (cC K) "do" "Machine.do",d9<|fM K (cC K) "do_step" "Machine.do_step",d9<|fM K (cC K) "do_set" "Machine.do_set",d9<|fM K (cC K) "do_look" "Machine.do_look",d9<|fM K (cC K) "do_swap" "Machine.do_swap",d9<|fM K (cC K) "carry" "Machine.carry",d9<|fM K (cC K) "come" "Machine.come",d9<|fM K (cC K) "on_board" "Machine.on_board",d9<|fM K (cC K) "ended" "Machine.ended",d9<|fM K (cC K) "twin" "Machine.twin",d9<|fM K (cC K) "waiting" "Machine.waiting",d9<|fM K (cC K) "where" "Machine.where",d9<|fM K (cC K) "registers" "Machine.registers",d9<|fM K (cC K) "board" "Machine.board",d9<|fN K "place_behind",d9<|fN K "has_form_of_move",d9<|fN K "steps_of",d9<|fN K "part_sets",d9<|fN K "setters",d9<|fN K "has_name",d9<|fN K "with_name",d9<|fN K "without_all",d9<|fN K "without_name",d9<|fN K "least_name",d9<|fN K "names_of_others",d9<|fN K "has_length",d9<|fN K "is_set_of_names",d9<|fN K "has_size",d9<|fN K "is_look_at_fault",d9<|fN K "is_set_at_fault",d9<|fN K "names_behind",d9<|fN K "places_lacking",d9<|fN K "fault_at",d9<|fN K "fault",d9<|HT.AM K (ZQ K) "row"=c_,d9<|fN K "marks_of_part",d9<|fN K "marks",d9<|fM K (nY K) "nexts" "Step.nexts",d9<|fM K (fQ K) "nexts" "Skip.nexts",d9<|fM K (nY K) "sets" "Step.sets",d9<|fM K (fU K) "sets" "Set.sets",d9<|fM K (fL K) "sets" "Swap.sets",d9<|fN K "registers_of",d9<|fN K "end_of",d9<|fN K "stand_of",d9<|fN K "behind_move",d9<|fN K "ends",d9<|fN K "looks_at_fault",d9<|fN K "moved_step",d9<|fN K "cleared_part",d9<|fN K "cleared",d9<|fN K "_law_cell_at",d9<|fN K "_law_mixed",d9<|fN K "_law_step",d9<|fN K "_law_crossing",d9<|fN K "_law_draws",d9<|fN K "_law_program",d9<|fN K "_law_within",d9<|fN K "_law_alike",d9<|fN K "_law_ends",d9<|fN K "_law_run",d9<|fN K "law",d9<|w_ K (.ref<|fV K) "empties"=a_ (a_<|.ref<|pI K),d9<|w_ K (.ref<|fX K) "empties"=a_ (a_<|.ref<|pI K),d9<|w_ K (.ref<|fU K) "empties"=a_ (a_<|.ref<|pI K),d9<|w_ K (.ref<|fR K) "empties"=a_ (a_<|.ref<|pI K),d9<|w_ K (.ref<|fQ K) "empties"=a_ (a_<|.ref<|pI K),d9<|w_ K (.ref<|fV K) "nexts"=a_ (a_<|.ref<|nv K),d9<|w_ K (.ref<|fX K) "nexts"=a_ (a_<|.ref<|nv K),d9<|w_ K (.ref<|fU K) "nexts"=a_ (a_<|.ref<|nv K),d9<|w_ K (.ref<|fR K) "nexts"=a_ (a_<|.ref<|nv K),d9<|w_ K (.ref<|fL K) "nexts"=a_ (a_<|.ref<|nv K),d9<|w_ K (.ref<|jE K) "nexts"=a_ (a_<|.ref<|nv K),d9<|w_ K (.ref<|fV K) "sets"=a_ (a_<|.ref<|pH K),d9<|w_ K (.ref<|fX K) "sets"=a_ (a_<|.ref<|pH K),d9<|w_ K (.ref<|fR K) "sets"=a_ (a_<|.ref<|pH K),d9<|w_ K (.ref<|jE K) "sets"=a_ (a_<|.ref<|pH K),d9<|w_ K (.ref<|fQ K) "sets"=a_ (a_<|.ref<|pH K),d9<|w_ K (.ref<|jE K) "__init__"=a_ (a_<|.ref<|AQ K),d9<|W.specialIn K (.ref<|nY K) "__getattribute__"=a_ (a_<|.builtin "type.__getattribute__"),d9<|W.readsIn K (nY K) (.type "type")=c_,d9<|HT.QZ (W.findCls K (.ref<|nY K) (.type "type") "__init__") (AQ K)=c_,d9<|zN K "isinstance",d9<|zN K "int",d9<|zN K "bool",d9<|zN K "str",d9<|zN K "tuple",d9<|zN K "len",d9<|zN K "all",d9<|zN K "zip",d9<|zN K "enumerate",d9<|zN K "range",d9<|zN K "list",d9<|zN K "min",d9<|zN K "sorted",d9<|zN K "any",d9<|zN K "set",d9<|HT.yF (W.nsIn K fe "TOP") hV=c_,d9<|HT.yF (W.nsIn K fe "NAMES") 12=c_,d9<|HT.yF (W.nsIn K fe "REGISTERS") 4=c_,d9<|HT.yF (W.nsIn K fe "LONGEST") 120=c_,d9<|HT.yF (W.nsIn K fe "CLERKS") 4=c_,d9<|rN K "KINDS",d9<|HT.tupS K (WN K) ["row","name","none"]=c_,d9<|W.specialIn K (.builtin "object.__class__") "__get__"=a_ (a_<|.builtin "getset_descriptor.__get__"),d9<|W.takesIn K (.builtin "object.__class__")=a_ c_,d9<|w_ K (.ref<|fV K) "__class__"=a_ (a_<|.builtin "object.__class__"),d9<|A_ K (fV K) (.type "object")=a_ c_,d9<|v_ K (.ref<|fV K) (.ref<|fV K)=a_ c_,d9<|v_ K (.ref<|fV K) (.ref<|fX K)=a_ d_,d9<|v_ K (.ref<|fV K) (.ref<|fU K)=a_ d_,d9<|v_ K (.ref<|fV K) (.ref<|fR K)=a_ d_,d9<|v_ K (.ref<|fV K) (.ref<|fL K)=a_ d_,d9<|v_ K (.ref<|fV K) (.ref<|fQ K)=a_ d_,d9<|w_ K (.ref<|fX K) "__class__"=a_ (a_<|.builtin "object.__class__"),d9<|A_ K (fX K) (.type "object")=a_ c_,d9<|v_ K (.ref<|fX K) (.ref<|fV K)=a_ d_,d9<|v_ K (.ref<|fX K) (.ref<|fX K)=a_ c_,d9<|v_ K (.ref<|fX K) (.ref<|fU K)=a_ d_,d9<|v_ K (.ref<|fX K) (.ref<|fR K)=a_ d_,d9<|v_ K (.ref<|fX K) (.ref<|fL K)=a_ d_,d9<|v_ K (.ref<|fX K) (.ref<|fQ K)=a_ d_,d9<|w_ K (.ref<|fU K) "__class__"=a_ (a_<|.builtin "object.__class__"),d9<|A_ K (fU K) (.type "object")=a_ c_,d9<|v_ K (.ref<|fU K) (.ref<|fV K)=a_ d_,d9<|v_ K (.ref<|fU K) (.ref<|fX K)=a_ d_,d9<|v_ K (.ref<|fU K) (.ref<|fU K)=a_ c_,d9<|v_ K (.ref<|fU K) (.ref<|fR K)=a_ d_,d9<|v_ K (.ref<|fU K) (.ref<|fL K)=a_ d_,d9<|v_ K (.ref<|fU K) (.ref<|fQ K)=a_ d_,d9<|w_ K (.ref<|fR K) "__class__"=a_ (a_<|.builtin "object.__class__"),d9<|A_ K (fR K) (.type "object")=a_ c_,d9<|v_ K (.ref<|fR K) (.ref<|fV K)=a_ d_,d9<|v_ K (.ref<|fR K) (.ref<|fX K)=a_ d_,d9<|v_ K (.ref<|fR K) (.ref<|fU K)=a_ d_,d9<|v_ K (.ref<|fR K) (.ref<|fR K)=a_ c_,d9<|v_ K (.ref<|fR K) (.ref<|fL K)=a_ d_,d9<|v_ K (.ref<|fR K) (.ref<|fQ K)=a_ d_,d9<|w_ K (.ref<|fL K) "__class__"=a_ (a_<|.builtin "object.__class__"),d9<|A_ K (fL K) (.type "object")=a_ c_,d9<|v_ K (.ref<|fL K) (.ref<|fV K)=a_ d_,d9<|v_ K (.ref<|fL K) (.ref<|fX K)=a_ d_,d9<|v_ K (.ref<|fL K) (.ref<|fU K)=a_ d_,d9<|v_ K (.ref<|fL K) (.ref<|fR K)=a_ d_,d9<|v_ K (.ref<|fL K) (.ref<|fL K)=a_ c_,d9<|v_ K (.ref<|fL K) (.ref<|fQ K)=a_ d_,d9<|w_ K (.ref<|jE K) "__class__"=a_ (a_<|.builtin "object.__class__"),d9<|A_ K (jE K) (.type "object")=a_ c_,d9<|v_ K (.ref<|jE K) (.ref<|fV K)=a_ d_,d9<|v_ K (.ref<|jE K) (.ref<|fX K)=a_ d_,d9<|v_ K (.ref<|jE K) (.ref<|fU K)=a_ d_,d9<|v_ K (.ref<|jE K) (.ref<|fR K)=a_ d_,d9<|v_ K (.ref<|jE K) (.ref<|fL K)=a_ d_,d9<|v_ K (.ref<|jE K) (.ref<|fQ K)=a_ d_,d9<|w_ K (.ref<|fQ K) "__class__"=a_ (a_<|.builtin "object.__class__"),d9<|A_ K (fQ K) (.type "object")=a_ c_,d9<|v_ K (.ref<|fQ K) (.ref<|fV K)=a_ d_,d9<|v_ K (.ref<|fQ K) (.ref<|fX K)=a_ d_,d9<|v_ K (.ref<|fQ K) (.ref<|fU K)=a_ d_,d9<|v_ K (.ref<|fQ K) (.ref<|fR K)=a_ d_,d9<|v_ K (.ref<|fQ K) (.ref<|fL K)=a_ d_,d9<|v_ K (.ref<|fQ K) (.ref<|fQ K)=a_ c_]
def seen(K:u_):Bool:=(AY K ()).all id
noncomputable def oG:List Nat:=[3,2,0,1,6,31,44,56,75,87,99,153,174,193,219,245,285,304,330,444,648,24,30,37,43,49,55,61,74,80,86,92,98,104,152,160,173,179,192,198,218,224,244,250,284,290,303,309,329,391,443,475,647,19,21,70,72,113,115,120,122,127,129,134,136,141,143,148,150,169,171,188,190,207,209,214,216,233,235,240,242,259,261,266,268,273,275,280,282,299,301,318,320,325,327,337,339,344,346,349,351,356,358,361,363,368,370,375,377,380,382,385,387,398,400,405,407,412,414,417,419,424,426,429,431,434,436,439,441,453,455,458,460,463,465,470,472,483,485,490,492,497,499,502,504,507,509,514,516,521,523,528,530,535,537,542,544,549,551,556,558,563,565,570,572,575,577,582,584,589,591,596,598,603,605,610,612,617,619,624,626,631,633,638,640,643,645,655,657,662,664,667,669,674,676,681,683,688,690,695,697,702,704,709,711,714,716,719,721,726,728,733,735,738,740,745,747,752,754,759,761,764,766,771,773,779,781,784,786,789,791,794,796,799,801,806,808,813,815,820,822,827,829,834,836,841,843,848,850,853,855,858,860,865,867,872,874,877,879,882,884,4,5,7,8,9,10,11,12,13,14,15,16,17,18,20,22,23,25,26,27,28,29,32,33,34,35,36,38,39,40,41,42,45,46,47,48,50,51,52,53,54,57,58,59,60,62,63,64,65,66,67,68,69,71,73,76,77,78,79,81,82,83,84,85,88,89,90,91,93,94,95,96,97,100,101,102,103,105,106,107,108,109,110,111,112,114,116,117,118,119,121,123,124,125,126,128,130,131,132,133,135,137,138,139,140,142,144,145,146,147,149,151,154,155,156,157,158,159,161,162,163,164,165,166,167,168,170,172,175,176,177,178,180,181,182,183,184,185,186,187,189,191,194,195,196,197,199,200,201,202,203,204,205,206,208,210,211,212,213,215,217,220,221,222,223,225,226,227,228,229,230,231,232,234,236,237,238,239,241,243,246,247,248,249,251,252,253,254,255,256,257,258,260,262,263,264,265,267,269,270,271,272,274,276,277,278,279,281,283,286,287,288,289,291,292,293,294,295,296,297,298,300,302,305,306,307,308,310,311,312,313,314,315,316,317,319,321,322,323,324,326,328,331,332,333,334,335,336,338,340,341,342,343,345,347,348,350,352,353,354,355,357,359,360,362,364,365,366,367,369,371,372,373,374,376,378,379,381,383,384,386,388,389,390,392,393,394,395,396,397,399,401,402,403,404,406,408,409,410,411,413,415,416,418,420,421,422,423,425,427,428,430,432,433,435,437,438,440,442,445,446,447,448,449,450,451,452,454,456,457,459,461,462,464,466,467,468,469,471,473,474,476,477,478,479,480,481,482,484,486,487,488,489,491,493,494,495,496,498,500,501,503,505,506,508,510,511,512,513,515,517,518,519,520,522,524,525,526,527,529,531,532,533,534,536,538,539,540,541,543,545,546,547,548,550,552,553,554,555,557,559,560,561,562,564,566,567,568,569,571,573,574,576,578,579,580,581,583,585,586,587,588,590,592,593,594,595,597,599,600,601,602,604,606,607,608,609,611,613,614,615,616,618,620,621,622,623,625,627,628,629,630,632,634,635,636,637,639,641,642,644,646,649,650,651,652,653,654,656,658,659,660,661,663,665,666,668,670,671,672,673,675,677,678,679,680,682,684,685,686,687,689,691,692,693,694,696,698,699,700,701,703,705,706,707,708,710,712,713,715,717,718,720,722,723,724,725,727,729,730,731,732,734,736,737,739,741,742,743,744,746,748,749,750,751,753,755,756,757,758,760,762,763,765,767,768,769,770,772,774,775,776,777,778,780,782,783,785,787,788,790,792,793,795,797,798,800,802,803,804,805,807,809,810,811,812,814,816,817,818,819,821,823,824,825,826,828,830,831,832,833,835,837,838,839,840,842,844,845,846,847,849,851,852,854,856,857,859,861,862,863,864,866,868,869,870,871,873,875,876,878,880,881,883]
noncomputable def qD(K:u_):List (Option HT.qX):=[HT.aY K (re K),HT.aY K<|qI K,HT.aY K<|rc K,HT.aY K<|qY K,HT.aY K<|AQ K,HT.aY K<|OF K,HT.aY K<|OH K,HT.aY K<|OE K,HT.aY K<|Ny K,HT.aY K<|Nw K,HT.aY K<|Nx K,HT.aY K<|pI K,HT.aY K<|XT K,HT.aY K<|XW K,HT.aY K<|anC K,HT.aY K<|anD K,HT.aY K<|ans K,HT.aY K<|ZP K,HT.aY K<|anb K,HT.aY K<|am9 K,HT.aY K<|PM K,HT.aY K<|am7 K,HT.aY K<|am' K,HT.aY K<|ana K,HT.aY K<|am6 K,HT.aY K<|am8 K,HT.AK K<|OG K,HT.aY K<|anO K,HT.aY K<|anm K,HT.aY K<|anL K,HT.aY K<|anp K,HT.aY K<|anI K,HT.aY K<|anH K,HT.aY K<|anG K,HT.aY K<|anJ K,HT.aY K<|anF K,HT.aY K<|anK K,HT.aY K<|anM K,HT.aY K<|anl K,HT.aY K<|anE K,HT.aY K<|ano K,HT.aY K<|am1 K,HT.aY K<|am4 K,HT.aY K<|ang K,HT.aY K<|anN K,HT.aY K<|anj K,HT.aY K<|anB K,HT.aY K<|ane K,HT.aY K<|anh K,HT.aY K<|anc K,HT.aY K<|anz K,HT.aY K<|am3 K,HT.aY K<|am5 K,HT.aY K<|am2 K,HT.aY K<|anv K,HT.aY K<|ank K,HT.aY K<|anA K,HT.aY K<|anw K,HT.aY K<|anx K,HT.aY K<|anu K,HT.aY K<|anf K,HT.aY K<|akW K,HT.aY K<|ani K,HT.aY K<|ak' K,HT.AK K<|ZQ K,HT.aY K<|anq K,HT.aY K<|anr K,HT.aY K<|nv K,HT.aY K<|XU K,HT.aY K<|pH K,HT.aY K<|YX K,HT.aY K<|YW K,HT.aY K<|akV K,HT.aY K<|alb K,HT.aY K<|akU K,HT.aY K<|ale K,HT.aY K<|ala K,HT.aY K<|ak9 K,HT.aY K<|akX K,HT.aY K<|ald K,HT.aY K<|alc K,HT.aY K<|ak7 K,HT.aY K<|ak3 K,HT.aY K<|ak0 K,HT.aY K<|ak6 K,HT.aY K<|ak5 K,HT.aY K<|ak2 K,HT.aY K<|akZ K,HT.aY K<|ak8 K,HT.aY K<|ak4 K,HT.aY K<|ak1 K,HT.aY K<|akY K]
noncomputable def pG:List (Option HT.qX):=[fp "is_whole" "is_whole" CH,fp "bounds_of" "bounds_of" Cs,fp "is_step" "is_step" Gh,fp "step_of" "step_of" M7,fp "__init__" "Step.__init__" Hd,fp "__init__" "Put.__init__" Hc,fp "__init__" "Add.__init__" He,fp "__init__" "Set.__init__" Ha,fp "__init__" "Look.__init__" Gz,fp "__init__" "Swap.__init__" Gw,fp "__init__" "Skip.__init__" Gx,fp "empties" "Step.empties" GA,fp "empties" "Swap.empties" Fx,fp "empties" "Clear.empties" Fs,fp "has_clerks" "has_clerks" Qd,fp "fits" "fits" OW,fp "look_over" "look_over" Lm,fp "__init__" "Tray.__init__" DJ,fp "add" "Tray.add" OQ,fp "latest" "Tray.latest" L6,fp "fronts" "Tray.fronts" FT,fp "take" "Tray.take" NO,fp "is_empty" "Tray.is_empty" M6,fp "listed" "Tray.listed" L0,fp "twin" "Tray.twin" NM,fp "tray_of" "tray_of" M5,fp "__init__" "Machine.__init__" Gy,fp "at_end" "Machine.at_end" Oa,fp "may_do" "Machine.may_do" NR,fp "carries" "Machine.carries" Mg,fp "moves" "Machine.moves" Nb,fp "do" "Machine.do" Qb,fp "do_step" "Machine.do_step" Nh,fp "do_set" "Machine.do_set" N6,fp "do_look" "Machine.do_look" Ni,fp "do_swap" "Machine.do_swap" Ng,fp "carry" "Machine.carry" N8,fp "come" "Machine.come" OX,fp "on_board" "Machine.on_board" Ma,fp "ended" "Machine.ended" N0,fp "twin" "Machine.twin" NT,fp "waiting" "Machine.waiting" LZ,fp "where" "Machine.where" NL,fp "registers" "Machine.registers" KR,fp "board" "Machine.board" N9,fp "place_behind" "place_behind" Kp,fp "has_form_of_move" "has_form_of_move" OV,fp "steps_of" "steps_of" L7,fp "part_sets" "part_sets" Ll,fp "setters" "setters" L',fp "has_name" "has_name" OU,fp "with_name" "with_name" OP,fp "without_all" "without_all" LY,fp "without_name" "without_name" Qa,fp "least_name" "least_name" NV,fp "names_of_others" "names_of_others" M',fp "has_length" "has_length" Nf,fp "is_set_of_names" "is_set_of_names" NZ,fp "has_size" "has_size" Me,fp "is_look_at_fault" "is_look_at_fault" NU,fp "is_set_at_fault" "is_set_at_fault" OR,fp "names_behind" "names_behind" OS,fp "places_lacking" "places_lacking" Mb,fp "fault_at" "fault_at" Mf,fp "fault" "fault" CJ,fp "marks_of_part" "marks_of_part" Na,fp "marks" "marks" NS,fp "nexts" "Step.nexts" Gg,fp "nexts" "Skip.nexts" Fq,fp "sets" "Step.sets" G9,fp "sets" "Set.sets" G',fp "sets" "Swap.sets" Gv,fp "registers_of" "registers_of" M8,fp "end_of" "end_of" N2,fp "stand_of" "stand_of" L8,fp "behind_move" "behind_move" KA,fp "ends" "ends" ud,fp "looks_at_fault" "looks_at_fault" Nc,fp "moved_step" "moved_step" NP,fp "cleared_part" "cleared_part" Qg,fp "cleared" "cleared" Qf,fp "_law_cell_at" "_law_cell_at" Nj,fp "_law_mixed" "_law_mixed" NQ,fp "_law_step" "_law_step" NW,fp "_law_crossing" "_law_crossing" N7,fp "_law_draws" "_law_draws" N5,fp "_law_program" "_law_program" NX,fp "_law_within" "_law_within" Md,fp "_law_alike" "_law_alike" Nd,fp "_law_ends" "_law_ends" NY,fp "_law_run" "_law_run" OT,fp "law" "law" ym]
def akm:Pos:=match ym with
 | .FunctionDef _ _ _ _ _ _ _ _ _ p=>p
 | _=>default
def dl:DefRec:=⟨"law",lC ym,jb ym,aM ym,akm⟩
end TL
open PySem PySem.W PyProof.Rows in
theorem TL.mark_:True:=trivial
section
open PySem.W
theorem TL.l7(w:j_)(os:cr):(TL.rn w os).map (λs=>(((HT.yf<|HT.gT s 416,TL.qD<|HT.vS s TL.oG 416)),(((((TL.AY (HT.vS s TL.oG 416) ()).drop 90).drop 50).all id))))=a_ ((c_,TL.pG),(c_)):=by kernel_rfl
theorem TL.l8(w:j_)(os:cr):(TL.rn w os).map (λs=>((TL.AY (HT.vS s TL.oG 416) ()).take 90).all id)=a_ true:=by kernel_rfl
theorem TL.l9(w:j_)(os:cr):(TL.rn w os).map (λs=>(((TL.AY (HT.vS s TL.oG 416) ()).drop 90).take 50).all id)=a_ true:=by kernel_rfl
theorem TL.r2(w:j_)(os:cr):(TL.rn w os).map (λs=>W.openSeen TL.qv [PySem.Str.ofString "fault"] (Fb PySem.Challenge.rw_traylate_k72_whole_worlds.row.prog.main.body) (λs=>W.xlAt TL.qv [] s&&W.recOk PySem.Challenge.rw_traylate_k72_whole_worlds.row.records s) c_ s.abs)=a_ (W.openGood TL.qv [PySem.Str.ofString "fault"]):=HT.ahF TL.lw (HT.sM<|TL.l0 w os) (HT.ou<|HT.ou<|HT.ou<|TL.l5 w os) (HT.td 18 (HT.sM<|TL.l5 w os)<|TL.l6 w os) (HT.sM<|HT.ou<|TL.l5 w os) (HT.ou<|TL.l3 w os) (HT.tb_<|HT.Nz 22 (HT.sM<|TL.l3 w os)<|TL.l4 w os) (HT.ou<|HT.ou<|TL.l2 w os)<|HT.both (HT.sM<|HT.ou<|HT.ou<|TL.l5 w os)<|HT.both (HT.ou<|TL.l0 w os)<|HT.both (HT.sM<|TL.l2 w os)<|TL.l1 w os
theorem TL.r3(w:j_)(os:cr):(TL.rn w os).map (λs=>(HT.t7 TL.oG 416 (λK=>(TL.seen K,TL.qD K)) (c_,TL.pG)).obs s.abs)=a_ (c_,(c_,TL.pG)):=HT.akk (HT.sM<|HT.sM<|TL.l7 w os)<|HT.both (HT.Nz 90 (TL.l8 w os)<|HT.Nz 50 (TL.l9 w os)<|HT.ou<|TL.l7 w os)<|HT.ou<|HT.sM<|TL.l7 w os
end
namespace L2
universe u0 u1 u2 u3 u4 u5 u6 u7 u8 u9
section
variable{A:Sort u0}{B:Sort u1}{C:Sort u2}{D:Sort u3}{E:Sort u4}{F:Sort u5}{I:Sort u6}{J:Sort u7}{L:Sort u8}{M:Sort u9}{G:Prop}
def oA{p q:Prop}(H:p/\q)(K:p->q->G):G:=by
 obtain⟨k,m⟩:=H;exact K k m
def oE{p:A->Prop}(H:∃a,p a)(K:∀a,p a->G):G:=by
 obtain⟨a,k⟩:=H;exact K a k
def fY{p q r:Prop}(k:p)(m:q)(n:r):p/\q/\r:=⟨k,m,n⟩
def az{p q:A->Prop}(a:A)(k:p a)(m:q a):∃a,p a/\q a:=⟨a,k,m⟩
def wA{p:A->B->Prop}(a:A)(b:B)(k:p a b):∃a b,p a b:=⟨a,b,k⟩
def gY{p q r:Prop}(H:p/\q/\r)(K:p->q->r->G):G:=by
 obtain⟨k,m,n⟩:=H;exact K k m n
def aD{p q:A->Prop}(H:∃a,p a/\q a)(K:∀a,p a->q a->G):G:=by
 obtain⟨a,k,m⟩:=H;exact K a k m
def yD{p:A->B->Prop}(H:∃a b,p a b)(K:∀a b,p a b->G):G:=by
 obtain⟨a,b,k⟩:=H;exact K a b k
def eC{p q r:A->Prop}(a:A)(k:p a)(m:q a)(n:r a):∃a,p a/\q a/\r a:=⟨a,k,m,n⟩
def gU{p q:A->B->Prop}(a:A)(b:B)(k:p a b)(m:q a b):∃a b,p a b/\q a b:=⟨a,b,k,m⟩
def a9{p q r:A->Prop}(H:∃a,p a/\q a/\r a)(K:∀a,p a->q a->r a->G):G:=by
 obtain⟨a,k,m,n⟩:=H;exact K a k m n
def cy{p q:A->B->Prop}(H:∃a b,p a b/\q a b)(K:∀a b,p a b->q a b->G):G:=by
 obtain⟨a,b,k,m⟩:=H;exact K a b k m
def aoK{p:A->B->C->Prop}(H:∃a b c,p a b c)(K:∀a b c,p a b c->G):G:=by
 obtain⟨a,b,c,k⟩:=H;exact K a b c k
def eA{p q r:A->B->Prop}(a:A)(b:B)(k:p a b)(m:q a b)(n:r a b):∃a b,p a b/\q a b/\r a b:=⟨a,b,k,m,n⟩
def dN{p:A->B->C->D->Prop}(a:A)(b:B)(c:C)(d:D)(k:p a b c d):∃a b c d,p a b c d:=⟨a,b,c,d,k⟩
def Pc{p q r s t:Prop}(H:p/\q/\r/\s/\t)(K:p->q->r->s->t->G):G:=by
 obtain⟨k,m,n,o,h⟩:=H;exact K k m n o h
def cc{p q r s:A->Prop}(H:∃a,p a/\q a/\r a/\s a)(K:∀a,p a->q a->r a->s a->G):G:=by
 obtain⟨a,k,m,n,o⟩:=H;exact K a k m n o
def fh{p q r:A->B->Prop}(H:∃a b,p a b/\q a b/\r a b)(K:∀a b,p a b->q a b->r a b->G):G:=by
 obtain⟨a,b,k,m,n⟩:=H;exact K a b k m n
def C2{p q:A->B->C->Prop}(H:∃a b c,p a b c/\q a b c)(K:∀a b c,p a b c->q a b c->G):G:=by
 obtain⟨a,b,c,k,m⟩:=H;exact K a b c k m
def amc{p:A->B->C->D->Prop}(H:∃a b c d,p a b c d)(K:∀a b c d,p a b c d->G):G:=by
 obtain⟨a,b,c,d,k⟩:=H;exact K a b c d k
def ip{p q r s t:A->Prop}(a:A)(k:p a)(m:q a)(n:r a)(o:s a)(h:t a):∃a,p a/\q a/\r a/\s a/\t a:=⟨a,k,m,n,o,h⟩
def qz{p q r s t u:Prop}(H:p/\q/\r/\s/\t/\u)(K:p->q->r->s->t->u->G):G:=by
 obtain⟨k,m,n,o,h,h1⟩:=H;exact K k m n o h h1
def Oh{p q r s t:A->Prop}(H:∃a,p a/\q a/\r a/\s a/\t a)(K:∀a,p a->q a->r a->s a->t a->G):G:=by
 obtain⟨a,k,m,n,o,h⟩:=H;exact K a k m n o h
def og{p q r s:A->B->Prop}(H:∃a b,p a b/\q a b/\r a b/\s a b)(K:∀a b,p a b->q a b->r a b->s a b->G):G:=by
 obtain⟨a,b,k,m,n,o⟩:=H;exact K a b k m n o
def lE{p q r:A->B->C->Prop}(H:∃a b c,p a b c/\q a b c/\r a b c)(K:∀a b c,p a b c->q a b c->r a b c->G):G:=by
 obtain⟨a,b,c,k,m,n⟩:=H;exact K a b c k m n
def CL{p q:A->B->C->D->Prop}(H:∃a b c d,p a b c d/\q a b c d)(K:∀a b c d,p a b c d->q a b c d->G):G:=by
 obtain⟨a,b,c,d,k,m⟩:=H;exact K a b c d k m
def lD{p:A->B->C->D->E->Prop}(H:∃a b c d e,p a b c d e)(K:∀a b c d e,p a b c d e->G):G:=by
 obtain⟨a,b,c,d,e,k⟩:=H;exact K a b c d e k
def iQ{p q r s t u:A->Prop}(a:A)(k:p a)(m:q a)(n:r a)(o:s a)(h:t a)(h1:u a):∃a,p a/\q a/\r a/\s a/\t a/\u a:=⟨a,k,m,n,o,h,h1⟩
def Xi{p q:A->B->C->D->E->Prop}(H:∃a b c d e,p a b c d e/\q a b c d e)(K:∀a b c d e,p a b c d e->q a b c d e->G):G:=by
 obtain⟨a,b,c,d,e,k,m⟩:=H;exact K a b c d e k m
def eJ{p q r s t u:A->B->Prop}(H:∃a b,p a b/\q a b/\r a b/\s a b/\t a b/\u a b)(K:∀a b,p a b->q a b->r a b->s a b->t a b->u a b->G):G:=by
 obtain⟨a,b,k,m,n,o,h,h1⟩:=H;exact K a b k m n o h h1
def Fz{p q r s:A->B->C->D->E->Prop}(H:∃a b c d e,p a b c d e/\q a b c d e/\r a b c d e/\s a b c d e)(K:∀a b c d e,p a b c d e->q a b c d e->r a b c d e->s a b c d e->G):G:=by
 obtain⟨a,b,c,d,e,k,m,n,o⟩:=H;exact K a b c d e k m n o
def jT{p q r s t u:A->B->C->D->Prop}(a:A)(b:B)(c:C)(d:D)(k:p a b c d)(m:q a b c d)(n:r a b c d)(o:s a b c d)(h:t a b c d)(h1:u a b c d):∃a b c d,p a b c d/\q a b c d/\r a b c d/\s a b c d/\t a b c d/\u a b c d:=⟨a,b,c,d,k,m,n,o,h,h1⟩
def BP{p q r s t u:A->B->C->D->E->Prop}(H:∃a b c d e,p a b c d e/\q a b c d e/\r a b c d e/\s a b c d e/\t a b c d e/\u a b c d e)(K:∀a b c d e,p a b c d e->q a b c d e->r a b c d e->s a b c d e->t a b c d e->u a b c d e->G):G:=by
 obtain⟨a,b,c,d,e,k,m,n,o,h,h1⟩:=H;exact K a b c d e k m n o h h1
def mV{p q r s t:A->B->C->D->E->F->Prop}(H:∃a b c d e f,p a b c d e f/\q a b c d e f/\r a b c d e f/\s a b c d e f/\t a b c d e f)(K:∀a b c d e f,p a b c d e f->q a b c d e f->r a b c d e f->s a b c d e f->t a b c d e f->G):G:=by
 obtain⟨a,b,c,d,e,f,k,m,n,o,h⟩:=H;exact K a b c d e f k m n o h
def xD{p:A->B->C->D->E->F->I->J->L->M->Prop}(H:∃a b c d e f g i j l,p a b c d e f g i j l)(K:∀a b c d e f g i j l,p a b c d e f g i j l->G):G:=by
 obtain⟨a,b,c,d,e,f,g,i,j,l,k⟩:=H;exact K a b c d e f g i j l k
end
def w0{p:Prop}(h:autoParam p ad):p:=h
def w1{a:Nat}: a<=a:=aw a
def w2{a:Nat}: 0<=a:=bg a
def w3{a b:Nat}(h:autoParam (a<b) ad):a<=b:=bL h
def w4{a b c:Nat}(h:autoParam (a<=b) ad)(g:autoParam (b<=c) ap):a<=c:=dq h g
def w5{a b c:Nat}(h:autoParam (a<b) ad)(g:autoParam (b<=c) ap):a<=c:=dq (bL h) g
def w6{a b c:Nat}(h:autoParam (a=b) ad)(g:autoParam (b<=c) ap):a<=c:=dq (rV h) g
def w7{a b c:Nat}(h:autoParam (a=b) ad)(g:autoParam (b<=c) ad):a<=c:=dq (rV h) g
def w8{a b c d:Nat}(h:autoParam (a=b) ad)(g:autoParam (b<=c) ad)(k:autoParam (c<=d) ap):a<=d:=dq (rV h)<|dq g k
def wa{a b c:Nat}(h:autoParam (a<b) ad)(g:autoParam (b<=c) ap):a<c:=ic h g
def wb{a b c:Nat}(h:autoParam (a<=b) ad)(g:autoParam (b<c) ap):a<c:=nJ h g
def wd{a b c d:Nat}(h:autoParam (a=b) ad)(g:autoParam (b<=c) ad)(k:autoParam (c<d) ap):a<d:=nJ (rV h)<|nJ g k
def wf{a b c:Nat}(h:autoParam (a<b) ad)(g:autoParam (b=c) ad):a<c:=JR h g
def wg{a b c:Nat}(h:autoParam (a<b) ad)(g:autoParam (c=b) ad):a<c:=JR h g.gx
def wh{a b c:Nat}(h:autoParam (a<b) ad)(g:autoParam (b<=c) ad):a<c:=ic h g
def wi{a b c:Nat}(h:autoParam (a<=b) ad)(g:autoParam (b<c) ad):a<c:=nJ h g
def wj{a b c:Nat}(h:autoParam (a<=b) ad)(g:autoParam (b<=c) ad):a<=c:=dq h g
def wk{a b c m:Nat}(h:autoParam (a=b+m*c) ad)(g:autoParam (a<b) ap):False:=by omega
def wl{a b c m:Nat}(h:autoParam (b+m*c=a) ad)(g:autoParam (a<b) ap):False:=by omega
def wo{a b c:Nat}(h:autoParam (a=b) ad)(g:autoParam (b=c) ad):a=c:=h.gw g
def wr{a b c:Nat}(h:autoParam (a=b) ad)(g:autoParam (c<b) ad):c<a:=JR g h.gx
def ws{a b c:Nat}(h:autoParam (a=b) ad)(g:autoParam (b<=c) ad):a<=c:=dq (rV h) g
def wt{a b c d:Nat}(h:autoParam (a=b) ad)(g:autoParam (c=b) ad)(k:autoParam (a<=d) ad):c<=d:=dq (rV<|g.gw h.gx) k
def wu{a b c d e:Nat}(h:autoParam (a=b) ad)(g:autoParam (b=c) ad)(k:autoParam (c<=d) ad)(m:autoParam (d<=e) ap):a<=e:=dq (rV<|h.gw g)<|dq k m
def xd{a:Nat}: a<=a+1:=jC a
def xe{a b:Nat}(h:autoParam (a<b) ad):a<=b+1:=tO<|bL h
def xf{a b:Nat}(h:autoParam (a<b) ad):a+1<=b:=h
def xi{a b c e:Nat}(h:autoParam (a<=b+1) ad)(g:autoParam (b<=c) ad)(k:autoParam (c+1<e) ap):a<e:=nJ h<|nJ (BJ g) k
def xk{a n:Nat}(h:autoParam (a<=n) ad):min a n=a:=Nat.min_eq_left h
def xl{a n:Nat}: min a n<=a:=TQ a n
def xm{a:Int}(h:autoParam (0<=a) ad):a=(a.toNat:Int):=(E1 h).gx
end L2
namespace L2
abbrev eu:=Option Int
noncomputable def amF:f_->Bool
 | .none=>c_
 | _=>d_
def ZA:eu->f_->Bool
 | some k,v=>Value.isInt k v
 | none,v=>amF v
noncomputable def aoR:eu->Int
 | some k=>hashInt k
 | none=>4238894112
def tX:∀{k:eu}{v:f_},ZA k v=c_->(∃i t,k=a_ i/\v=ig i t)\/(k=b_/\v=gD)
 | some i,v,h=>by
  obtain⟨t,e⟩:=Value.isInt_shape (k:=i) (v:=v) h;exact .inl ⟨i,t,xz,e⟩
 | none,v,h=>by
  cases v <;> first | exact .inr ⟨xz,xz⟩ | cases h
def akn(a b:Int):decide ((a_ a:eu)=a_ b)=(a==b):=by
 by_cases e:a=b
 .subst e;simp
 simp[e]
def ae5{w:j_}{Q:Int->g_->Prop}(h:Q 4238894112 {s with toks:=s.toks+1}):bt (bv prog w) A (pyHash .none) Q E s:=by
 refine W.pyHash_slot xz F.slot_NoneType_hash F.entry_NoneType_hash (F.args_NoneType_hash_1 _) xz (.inl xz)<|ak<|aP ?_
 exact jU (wpAny_ret_mkInt (Q:=λv s'=>∃n t,v=ig n t/\Q (reduceHash n) s') ⟨_,_,xz,h⟩) (λfin s' z=>by
  obtain⟨v,e,n,t,a,q⟩:=z;exact⟨n,t,by rw[e,a],q⟩) λ_ _ x=>x
def aiH(prog:k_)(w:j_):PySem.KeyKind prog w eu where
 is:=ZA
 hash:=aoR
 inj:=λv a b ha d=>by
  obtain⟨i,t,rfl,rfl⟩|⟨rfl,rfl⟩:=tX ha
  .obtain⟨j,u,rfl,e⟩|⟨rfl,e⟩:=tX d
   .injection e with f _;rw[f]
   .exact nomatch e
  .obtain⟨j,u,rfl,e⟩|⟨rfl,e⟩:=tX d
   .exact nomatch e
   .rfl
 byValue:=λk v h=>by
  rcases tX h with ⟨i,t,rfl,rfl⟩ | ⟨rfl,rfl⟩ <;> rfl
 pyHash:=λc h=>by
  obtain⟨i,t,rfl,rfl⟩|⟨rfl,rfl⟩:=tX c
  .exact TB h
  .exact ae5 h
 eqBool:=λg c h=>by
  obtain⟨i,t,rfl,rfl⟩|⟨rfl,rfl⟩:=tX g
  .obtain⟨j,u,rfl,rfl⟩|⟨rfl,rfl⟩:=tX c
   .rw[akn]at h;exact TC h
   .exact abO i t _ _ _ _ h
  .obtain⟨j,u,rfl,rfl⟩|⟨rfl,rfl⟩:=tX c
   .exact abN j u _ _ _ _ h
   .exact lP (wpAny_ite_split (λ_=>ak<|vn<|aP h) λz=>f' xz z)
 «strs»:=λk x t v h=>by
  rcases tX h with ⟨i,u,rfl,e⟩ | ⟨rfl,e⟩ <;> exact nomatch e
set_option genInjectivity true in
inductive V where
 | aO | bl (b:Bool) | int (i:Int) | str (x:d0) | oF (b:Array UInt8) | qR (b:UInt64) | ref (a:e_) | ty (n:String)
 deriving DecidableEq
def dn:V->f_->Prop
 | .aO,u=>u=gD
 | .bl b,u=>u=lh b
 | .int i,u=>∃t,u=ig i t
 | .str x,u=>∃t,u=FL x t
 | .oF b,u=>∃t,u=Value.bytes b t
 | .qR b,u=>∃t,u=KJ b t
 | .ref a,u=>u=dA a
 | .ty n,u=>u=gC n
abbrev dt:List V->List f_->Prop:=bw dn
def dt.length(r:dt xs us):xs.length=us.length:=r_ r
theorem dt.get{xs:List V}{us:List f_}{i:Nat}{x:V}(h:dt xs us)(e:xs[i]?=a_ x):∃u,us[i]?=a_ u/\dn x u:=by
 induction h generalizing i with
 |nil=>simp at e
 |cons r _ t=>cases i with
  |zero=>simp at e;subst e;exact⟨_,xz,r⟩
  |succ i=>obtain⟨u,h1,h2⟩:=t (i:=i) (by simpa using e);exact⟨u,by simpa using h1,h2⟩
theorem dt.set(r:dn x u){xs:List V}{us:List f_}(i:Nat)(h:dt xs us):dt (xs.set i x) (us.set i u):=by
 induction h generalizing i with
 |nil=>exact .nil
 |cons q t j=>cases i with
  |zero=>exact .cons r t
  |succ i=>exact .cons q<|j i
theorem dt.append{xs ys:List V}{us ws:List f_}(r:dt xs us)(s:dt ys ws):dt (xs++ys) (us++ws):=by
 induction r with
 |nil=>exact s
 |cons r _ i=>exact .cons r i
theorem dt.take{xs:List V}{us:List f_}(n:Nat)(h:dt xs us):dt (xs.take n) (us.take n):=by
 induction h generalizing n with
 |nil=>cases n<;>exact .nil
 |cons q t j=>cases n with
  |zero=>exact .nil
  |succ i=>exact .cons q<|j i
theorem dt.drop{xs:List V}{us:List f_}(n:Nat)(h:dt xs us):dt (xs.drop n) (us.drop n):=by
 induction h generalizing n with
 |nil=>cases n<;>exact .nil
 |cons q t j=>cases n with
  |zero=>exact .cons q t
  |succ i=>exact j i
def dt.none_of:∀{xs:List V}{us:List f_}{i:Nat},dt xs us->xs[i]?=b_->us[i]?=none:=λ{xs us i}r e=>by
 have h1:=r.length;have h2:=xg.mp e;exact xg.mpr om
def sP:Option V->Option f_->Prop
 | some v,a_ u=>dn v u
 | none,b_=>True
 | _,_=>False
def KV{κ:Type}:List (κ×V)->List (κ×f_)->Prop:=bw λ(p:κ×V)(q:κ×f_)=>p.1=q.1/\dn p.2 q.2
noncomputable def C5:Nat->ci->Int
 | _,.int i=>hashInt i
 | n+1,.tuple xs=>reduceHash<|Td<|xs.map<|C5 n
 | _,_=>0
inductive HO where
  | lst (xs:List V)
  | tup (xs:List V)
  | dK (fG:List (eu×V)) | dT (fG:List (ci×e_))
  | set (S:Int->Bool) (n:Nat)
  | ins (C dx:e_) (fs:List (d0×V))
  | own (x:e_)
  | xd (fs:List (d0×V))
  | met (f x:e_)
  | QX (lo hi:Int)
  | jL (o:d5) (u:HO)
  | fA (ps:Array f_)
  | ext (φ:i_->Prop)
abbrev Hp:=e_->Option HO
noncomputable def dc(H:Hp)(a:e_)(o:HO):Hp:=λb=>if b=a then a_ o else H b
def ao{o:HO}:dc H a o a=a_ o:=by unfold dc;rw[eT rfl]
def aj{o:HO}(h:b≠a):dc H a o b=H b:=by unfold dc;rw[eN h]
def nR{o u:HO}:dc (dc H a o) a u=dc H a u:=by
 funext b;unfold dc;split <;> rfl
def iU{H:Hp}{a b:e_}{o u:HO}(h:H a=a_ o)(h':H b=a_ u)(d:o≠u):a≠b:=by
 intro e;subst e;rw[h]at h';exact d<|c8 h'
def bh{H:Hp}{a b:e_}{o:HO}(h:H a=a_ o)(h':H b=b_):a≠b:=by
 intro e;subst e;rw[h]at h';cases h'
section
variable(P:k_)(w:j_)
noncomputable def fj(H:Hp)(h:i_)(a:e_):HO->Prop
 | .lst xs=>xs.length<=bc/\∃(b:List f_)(n:Nat),dt xs b/\h.get? a=a_ {cls:=.type "list",data:=.seq b.toArray n}
 | .tup xs=>xs.length<=bc/\∃b:List f_,dt xs b/\IsTup h a b.toArray
 | .dK fG=>fG.length<=bc/\(a==BU)=d_/\∃vs,KV fG vs/\h.DictOf (aiH P w) a vs
 | .dT fG=>(a==BU)=d_/\fG.length<=bc/\
   ∃o es c,h.get? a=a_ o/\o.ExactDict/\o.data=.dict es c/\es.toList=fG.map (λx=>DictEntry.mk (C5 8 x.1) (.ref x.2)<|.bool c_)/\(fG.map (·.1)).Nodup
 | .set S n=>h.SetOf (intKind P w) a S n
 | .ins C dx fs=>H dx=a_ (.own a)/\fs.length<=1000/\dx≠a/\h.get? a=a_ (W.instObj C dx)/\
   ∃mA,h.Ns1 dx mA/\(∀f,sP (fs.lookup f)<|mA f)/\PySem.Within mA (fs.map (·.1))
 | .own _=>∃o,h.get? a=a_ o
 | .xd fs=>∃mA,h.Ns1 a mA/\∀f,sP (fs.lookup f)<|mA f
 | .QX lo hi=>∃t u v,h.get? a=a_ {cls:=.type "range",data:=.fields #[.int lo t,.int hi u,.int 1 v]}
 | .jL o u=>h.get? a=a_ o/\fj H h a u
 | .fA ps=>h.get? a=a_ {cls:=.none,data:=.fields ps}
 | .met f x=>h.get? a=a_ (W.methodObj (.ref f)<|.ref x)
 | .ext φ=>φ h/\(∃o,h.get? a=a_ o)/\∀h1 h2:i_,φ h1->(∀o,h1.get? a=a_ o->h2.get? a=a_ o)->φ h2
def iw(H:Hp)(h:i_):Prop:=∀a o,H a=a_ o->fj P w H h a o
end
section
variable{P:k_}{w:j_}{H H':Hp}{h h':i_}{a:e_}{o:HO}
def fj.lt(x:fj P w H h a o):a<h.zH:=by
 cases o with
 | lst xs=>obtain⟨_,_,_,_,e⟩:=x;exact bY e
 | tup xs=>obtain⟨_,_,_,p⟩:=x;exact p.lt
 | dK fG=>obtain⟨_,_,_,_,o,_,_,e,_⟩:=x;exact bY e
 | dT fG=>obtain⟨_,_,o,_,_,e,_⟩:=x;exact bY e
 | set S n=>obtain⟨o,_,_,_,e,_⟩:=x;exact bY e
 | ins C dx fs=>obtain⟨_,_,_,e,_⟩:=x;exact bY e
 | own y=>obtain⟨_,e⟩:=x;exact bY e
 | xd fs=>obtain⟨_,⟨_,_,_,e,_⟩,_⟩:=x;exact bY e
 | QX lo hi=>obtain⟨_,_,_,e⟩:=x;exact bY e
 | jL ob u=>obtain⟨e,_⟩:=x;exact bY e
 | fA ps=>exact bY x
 | met f y=>exact bY x
 | ext φ=>obtain⟨_,⟨_,e⟩,_⟩:=x;exact bY e
theorem Paired.bp{c d:Type}{F G:c->d->Prop}{e:List c}{g:List d}(h:bw F e g)(f:∀a b,F a b->G a b):bw G e g:=by
 induction h with
 |nil=>exact .nil
 |cons r _ i=>exact .cons (f _ _ r) i
def fj.uh(x:fj P w H h a o)(k:∀b u,(b=a\/H b=a_ (.own a))->h.get? b=a_ u->h'.get? b=a_ u)(j:∀b,H b=a_ (.own a)->H' b=a_ (.own a))(m:∀b xs,H b=a_ (.tup xs)->H' b=a_ (.tup xs)):fj P w H' h' a o:=by
 induction o with
 | lst xs=>obtain⟨z,i,n,r,e⟩:=x;exact⟨z,i,n,r,k _ _ (.inl xz) e⟩
 | tup xs=>obtain⟨z,i,r,ob,e,c⟩:=x;exact⟨z,i,r,ob,k _ _ (.inl xz) e,c⟩
 | dK fG=>obtain⟨z,y,vs,r,ob,es,g,e,c⟩:=x;exact⟨z,y,vs,r,ob,es,g,k _ _ (.inl xz) e,c⟩
 | dT fG=>
  obtain⟨z,y,ob,es,g,e,c⟩:=x;exact⟨z,y,ob,es,g,k _ _ (.inl xz) e,c⟩
 | set S n=>obtain⟨ob,es,g,t,e,c⟩:=x;exact⟨ob,es,g,t,k _ _ (.inl xz) e,c⟩
 | ins C dx fs=>
  obtain⟨d,z,ne,e,mA,⟨od,es,g,l,c⟩,r⟩:=x;exact⟨j _ d,z,ne,k _ _ (.inl xz) e,mA,⟨od,es,g,k _ _ (.inr d) l,c⟩,r⟩
 | own y=>obtain⟨ob,e⟩:=x;exact⟨ob,k _ _ (.inl xz) e⟩
 | xd fs=>obtain⟨mA,⟨od,es,g,e,c⟩,r⟩:=x;exact⟨mA,⟨od,es,g,k _ _ (.inl xz) e,c⟩,r⟩
 | QX lo hi=>obtain⟨t,u,v,e⟩:=x;exact⟨t,u,v,k _ _ (.inl xz) e⟩
 | jL ob u ih=>obtain⟨e,q⟩:=x;exact⟨k _ _ (.inl xz) e,ih q⟩
 | fA ps=>
  have e:=x;exact k a _ (.inl xz) e
 | met f y=>
  have e:=x;exact k a _ (.inl xz) e
 | ext φ=>obtain⟨p,⟨o,e⟩,st⟩:=x;exact⟨st _ _ p λo q=>k _ _ (.inl xz) q,⟨o,k _ _ (.inl xz) e⟩,st⟩
def iw.lt(x:iw P w H h)(e:H a=a_ o):a<h.zH:=(x a o e).lt
def iw.fresh(x:iw P w H h)(e:h.zH<=a):H a=none:=by
 rcases q:H a with _|u;rfl;exact f' (ic (x.lt q) e)<|lQ _
def iw.kept(x:iw P w H h)(k:∀b u,h.get? b=a_ u->h'.get? b=a_ u):iw P w H h':=λa o e=>
 (x a o e).uh (λb u _ q=>k b u q) (λ_ q=>q) λ_ _ q=>q
def iw.laid(x:iw P w H h)(k:∀b u,h.get? b=a_ u->h'.get? b=a_ u)(f:h.zH<=a)(new:fj P w (dc H a o) h' a o):iw P w (dc H a o) h':=λb u e=>by
 have hn:=x.fresh f
 by_cases d:b=a
 .subst d;rw[ao]at e;cases e;exact new
 rw[aj d]at e;exact(x b u e).uh (λc v _ q=>k c v q) (λc q=>by rw[aj<|bh q hn];exact q) λc xs q=>by rw[aj<|bh q hn];exact q
end
def Rd(H:Hp)(a:e_)(u:HO):Prop:=H a=a_ u\/∃o,H a=a_ (.jL o u)
def Rd.ok{P:k_}{w:j_}{u:HO}(r:Rd H a u)(x:iw P w H h):fj P w H h a u:=by
 obtain r|⟨o,r⟩:=r
 .exact x a u r
 obtain⟨_,q⟩:=x a _ r;exact q
def Io:Option HO->Prop
 | some (.lst _)=>True
 | some (.dK _)=>True
 | some (.dT _)=>True
 | some (.set _ _)=>True
 | some (.ins _ _ _)=>True
 | some (.ext _)=>True
 | _=>False
section
variable{P:k_}{w:j_}{H:Hp}{h h':i_}{x e:e_}{o':HO}
def iw.write(ok:iw P w H h)(a:Io (H x))(i:e=x\/H e=a_ (.own x))(k:∀b u,b≠e->h.get? b=a_ u->h'.get? b=a_ u)(m:∃u,h'.get? e=a_ u)(new:fj P w (dc H x o') h' x o'):iw P w (dc H x o') h':=λb u q=>by
 have j:∀c y,H c=a_ (.own y)->c≠x:=λc y r z=>by subst z;rw[r]at a;exact a
 have n:∀c xs,H c=a_ (.tup xs)->c≠x:=λc xs r z=>by subst z;rw[r]at a;exact a
 by_cases d:b=x
 .subst d;rw[ao]at q;cases q;exact new
 rw[aj d]at q
 by_cases f:b=e
 .have l:H b=a_ (.own x):=by
   obtain z|z:=i
   .exact f' (f.gw z) d
   rw[f];exact z
  rw[q]at l;cases l;obtain⟨v,o⟩:=m;exact⟨v,by rw[f];exact o⟩
 refine(ok b u q).uh (λc v g r=>k c v ?_ r) (λc r=>by rw[aj<|j c b r];exact r) λc xs r=>by rw[aj<|n c _ r];exact r
 obtain rfl|g:=g
 .exact f
 rintro rfl;obtain z|z:=i
 .exact j c b g z
 rw[g]at z;cases z;exact d xz
end
structure Un(fs ex:List e_)(H H':Hp)(h h':i_):Prop where
 keep:∀b o,h.get? b=a_ o->H b=b_->b∉fs->b∉ex->h'.get? b=a_ o
 slot:∀b o,h.get? b=a_ o->H b=b_->b∈fs->b∉ex->∃sl,h'.get? b=a_ {o with slots:=sl}
 free:∀b o,h.get? b=a_ o->H b=b_->b∉ex->H' b=b_
 there:∀b o,h.get? b=a_ o->b∉ex->∃o',h'.get? b=a_ o'
 uf:∀b xs,H b=a_ (.tup xs)->H' b=a_ (.tup xs)
 sN:∀b o u,H b=a_ (.jL o u)->H' b=a_ (.jL o u)
 sI:∀b ps,H b=a_ (.fA ps)->∃more,H' b=a_ (.fA<|ps++more)
section
variable{fs mQ ex ex':List e_}{H H1 H2:Hp}{h h1 h2 h':i_}{a x e:e_}{o:HO}
def Un.any(u:Un fs ex H H1 h h1)(q:h.get? b=a_ ob)(n:H b=b_)(c:b∉ex):∃sl,h1.get? b=a_ {ob with slots:=sl}:=by
 by_cases d:b∈fs
 .exact u.slot b _ q n d c
 exact⟨ob.slots,u.keep b _ q n d c⟩
def Un.kept(k:∀b u,h.get? b=a_ u->h'.get? b=a_ u):Un fs ex H H h h':=
 ⟨λb ob q _ _ _=>k b ob q,λb ob q _ _ _=>⟨ob.slots,k b ob q⟩,λ_ _ _ n _=>n,λb ob q _=>⟨ob,k b ob q⟩,λ_ _ q=>q,λ_ _ _ q=>q,λ_ ps q=>⟨#[],by rw[q];simp⟩⟩
def Un.refl:Un fs ex H H h h:=Un.kept λ_ _ q=>q
def Un.laid(k:∀b u,h.get? b=a_ u->h'.get? b=a_ u)(c:h.zH<=a)(hn:H a=b_):Un fs ex H (dc H a o) h h' where
 keep:=λb u q _ _ _=>k b u q
 slot:=λb u q _ _ _=>⟨u.slots,k b u q⟩
 free:=λb u q n _=>by rw[aj<|dW<|ic (bY q) c];exact n
 there:=λb u q _=>⟨u,k b u q⟩
 uf:=λb xs q=>by rw[aj<|bh q hn];exact q
 sN:=λb u xs q=>by rw[aj<|bh q hn];exact q
 sI:=λb ps q=>⟨#[],by rw[aj<|bh q hn,q];simp⟩
def Un.write(c:Io (H x))(i:e=x\/H e=a_ (.own x))(k:∀b u,b≠e->h.get? b=a_ u->h'.get? b=a_ u)(j:∃u,h'.get? e=a_ u):Un fs ex H (dc H x o) h h':=by
 have d:∀b,H b=b_->b≠x:=λb n z=>by subst z;rw[n]at c;exact c
 have f:∀b,H b=b_->b≠e:=λb n z=>by
  subst z;obtain r|r:=i
  .exact d b n r
  rw[n]at r;cases r
 have hm:∀b u,H b=a_ u->¬Io (a_ u)->b≠x:=λb u q nm z=>by subst z;rw[q]at c;exact nm c
 refine⟨λb u q n _ _=>k b u (f b n) q,λb u q n _ _=>⟨u.slots,k b u (f b n) q⟩,λb u q n _=>by rw[aj<|d b n];exact n,λb u q _=>?_,λb xs q=>by rw[aj (hm b _ q λz=>z)];exact q,λb u xs q=>by rw[aj (hm b _ q λz=>z)];exact q,λb ps q=>⟨#[],by rw[aj (hm b _ q λz=>z),q];simp⟩⟩
 by_cases g:b=e
 .subst g;exact j
 exact⟨u,k b u g q⟩
end
def HS(h:i_)(H:Hp):List Addr:=(List.range h.zH).filter λa=>(H a).isSome
def sL(h:i_)(H:Hp):Heap:=W.hideAll h<|HS h H
def ae4(h:i_)(H:Hp):(sL h H).zH=h.zH:=W.hideAll_size _ _
def agO(e:h.get? b=a_ o)(n:H b=b_):(sL h H).get? b=a_ o:=
 W.hideAll_get _ e λhm=>by
  have q:=(jB.mp hm).2;rw[n]at q;simp at q
def aiv(e:(sL h H).get? b=a_ o):h.get? b=a_ o/\H b=none:=by
 have e':=W.of_hideAll _ e;refine⟨e',?_⟩;rcases q:H b with _|x;rfl;have hm:b∈HS h H:=jB.mpr ⟨mU.mpr<|bY e',by simp[q]⟩;have z:(sL h H).get? b=none:=W.hideAll_none _ hm;rw[z]at e;cases e
def Gs(g h:i_)(L:e_):List (e_×d5):=(List.range h.zH).filterMap λa=>if a=L\/(g.get? a).isSome=c_ then b_ else (h.get? a).map λo=>(a,o)
def adm(h1:a≠L)(h2:g.get? a=b_)(h3:h.get? a=a_ o):(a,o)∈Gs g h L:=
 JS.mpr ⟨a,mU.mpr<|bY h3,by simp[h1,h2,h3]⟩
def acF{p:e_×d5}(a:p∈Gs g h L):p.1≠L/\g.get? p.1=b_/\h.get? p.1=a_ p.2:=by
 obtain⟨b,_,e⟩:=JS.mp a
 split at e
 .cases e
 rename_i hn
 cases q:h.get? b with
 | none=>rw[q]at e;simp at e
 | some u=>
  rw[q]at e;simp only[acC,xu]at e;subst e;refine⟨λz=>hn<|.inl z,?_,q⟩;rcases r:g.get? b with _|v;rfl;exact(hn<|.inr<|by simp[r]).elim
def rest(g h:i_)(L d:e_):List (e_×d5):=(Gs g h L).filter λp=>decide<|p.1≠d
def Xe:∀p∈rest g h L d,p.1≠d:=λp a=>fi (jB.mp a).2
def agC(h1:a≠L)(h2:g.get? a=b_)(h3:h.get? a=a_ o)(h4:a≠d):(a,o)∈rest g h L d:=
 jB.mpr ⟨adm h1 h2 h3,fC h4⟩
def agq:News g L h (Gs g h L):=λp d=>let ⟨a,b,c⟩:=acF d;⟨c,a,b⟩
def ac4{m:d0->Option f_}(k:∀b o,g.get? b=a_ o->h.get? b=a_ o)(F:Fr g L h' m)(N:News g L h' (rest g h L d)):∀b o,b≠L->b≠d->h.get? b=a_ o->h'.get? b=a_ o:=λb o h1 h2 e=>by
 rcases q:g.get? b with _|u;exact(N _<|agC h1 q e h2).1;have:=k b u q;rw[e]at this;cases this;exact F.keep b _ q
structure Mod(K:u_)(mg:d0->Option f_)(base:i_):Prop where
 yE:K.In base
 glob:base.Ns fe mg
 blt:∃mb,base.Ns rZ mb/\∀x:d0,x ≠ "__name__"->mb x=vh x
 nolimit:base.NoLimit
structure Cx where
 prog:k_
 w:j_
 K:u_
 mg:d0->Option f_
 base:i_
 A:h_
 N:List d0
 s₀:g_
 H₀:Hp
 env:Env
 outer:List Env
 stack:List Env
 ex:List e_
 fn:d0->Bool
 calm:Bool
 pn:List (e_×d5)
 xe:f_->g_->Prop
noncomputable def qQ(l:List Env):List Addr:=l.filterMap (·.frame)
abbrev Cx.fs(X:Cx):List Addr:=qQ X.outer
def Ij(sc:d6)(x:d0):Prop:=sc.names.lookup x=a_ .local\/sc.names.lookup x=a_ .cell\/sc.names.lookup x=a_ .free
def lg(sc:d6)(x:d0):Prop:=sc.names.lookup x=a_ .local\/sc.names.lookup x=a_ .cell
def Look(env:Env)(h:i_)(m:d0->Option f_)(x:d0)(u:f_):Prop:=
 (env.kindOf x=a_ .local/\m x=a_ u)\/((env.kindOf x=a_ .cell\/env.kindOf x=a_ .free)/\∃c,env.cells.lookup x=a_ c/\h.IsCell c (a_ u))
structure Cx.Ok(X:Cx):Prop where
 mod:Mod X.K X.mg X.base
 kind:X.env.scope.kind=.function
 glob:X.env.globals=fe
 blt:X.env.builtins=rZ
 above:X.s₀.zS<=X.env.locals
 inj:∀x y c,X.env.cells.lookup x=a_ c->X.env.cells.lookup y=a_ c->x=y
 has:∀x,(X.env.kindOf x=a_ .cell\/X.env.kindOf x=a_ .free)->∃c,X.env.cells.lookup x=a_ c
 yI:∀x c,X.fn x=c_->X.env.cells.lookup x=a_ c->X.s₀.zS<=c
 hd:X.calm=c_->X.A.handled=b_
 frames:X.A.frames=a_ X.stack
 AX:X.stack=X.outer\/(X.stack=X.env::X.outer/\X.env.frame=a_ X.env.locals)
 wD:∀b∈X.ex,b≠X.env.locals/\∀x c,X.env.cells.lookup x=a_ c->c≠b
 bs:∀b o,X.base.get? b=a_ o->X.s₀.heap.get? b=a_ o/\X.H₀ b=b_
 nE:X.base.zH<=X.s₀.zS
 yn:∀b o,X.base.get? b=a_ o->b∉X.ex
 vZ:∀b∈X.ex,b∉X.fs
 nA:X.s₀.heap.FunFrames X.base X.outer
 uB:∀b∈X.fs,X.H₀ b=b_
structure df(X:Cx)(p_:List (e_×d5))(σ:List (Option V))(H:Hp)(s:g_):Prop where
 ok:X.Ok
 os:s.os=X.s₀.os
 bare:AllBare s.gens
 base:Un X.fs X.ex X.H₀ H X.s₀.heap s.heap
 loc:∃m,s.heap.Ns X.env.locals m/\∀(i:Nat)(x:d0)(v:V),X.N[i]?=a_ x->σ[i]?=a_ (a_ v)->Ij X.env.scope x->∃u,dn v u/\Look X.env s.heap m x u
 cell:∀x c,X.env.cells.lookup x=a_ c->∃v,s.heap.IsCell c v
 free:H X.env.locals=b_
 mh:∀x c,X.env.cells.lookup x=a_ c->H c=b_
 pin:∀p∈X.pn++p_,s.heap.get? p.1=a_ p.2/\H p.1=b_/\p.1≠X.env.locals/\p.1∉X.fs/\∀v,p.2.data≠.cell v
 aW:iw X.prog X.w H s.heap
 len:σ.length=X.N.length
section
variable{X:Cx}{p_:List (e_×d5)}{σ:List (Option V)}{H H':Hp}{s:g_}{h':i_}
def Cx.Ok.aoM(ok:X.Ok)(e:X.base.get? b=a_ o):b∉X.fs:=λa=>by
 have:=(ok.nA.mem a).1;rw[e]at this;cases this
def df.bs(I:df X p_ σ H s):∀b o,X.base.get? b=a_ o->s.heap.get? b=a_ o/\H b=none:=λb o e=>
 ⟨I.base.keep b o (I.ok.bs b o e).1 (I.ok.bs b o e).2 (I.ok.aoM e)<|I.ok.yn b o e,I.base.free b o (I.ok.bs b o e).1 (I.ok.bs b o e).2<|I.ok.yn b o e⟩
def df.bk(I:df X p_ σ H s):∀b o,X.base.get? b=a_ o->s.heap.get? b=a_ o:=λb o e=>(I.bs b o e).1
def df.mod(I:df X p_ σ H s):Mod X.K X.mg X.base:=I.ok.mod
def df.dB(I:df X p_ σ H s):X.K.In s.heap:=I.ok.mod.yE.keeps I.bk
def df.nolimit(I:df X p_ σ H s):s.heap.NoLimit:=I.ok.mod.nolimit.keeps I.bk
def df.fr(I:df X p_ σ H s):∃m,Fr X.base X.env.locals s.heap m:=
 let ⟨m,hn,_⟩:=I.loc
 ⟨m,hn,I.bk,dq I.ok.nE I.ok.above⟩
def df.lt(I:df X p_ σ H s):X.env.locals<s.zS:=let ⟨_,hn,_⟩:=I.loc;hn.lt
def df.sz(I:df X p_ σ H s):X.s₀.zS<=s.zS:=dq I.ok.above<|bL I.lt
def df.aak(I:df X p_ σ H s)(h:s.zS<=a):a∉X.fs:=λb=>by
 obtain⟨_,o,c,_⟩:=I.ok.nA.mem b;exact f' (ic (bY c)<|dq I.sz h)<|lQ _
def df.yH(I:df X p_ σ H s):∀x c,X.env.cells.lookup x=a_ c->c≠X.env.locals:=λx c e z=>by
 obtain⟨v,o,a,hd⟩:=I.cell x c e;obtain⟨m,⟨o',es,f,b,d,_⟩,_⟩:=I.loc;rw[z,b]at a;cases a;rw[d]at hd;cases hd
def df.nA(I:df X p_ σ H s):s.heap.FunFrames X.base X.outer:=by
 have all:∀(l:List Env),(∀b∈qQ l,b∈X.fs)->X.s₀.heap.FunFrames X.base l->s.heap.FunFrames X.base l:=by
  intro l
  induction l with
  | nil=>intro _ _;trivial
  | cons env r ih=>
   intro f g;obtain⟨h,⟨L,o,a,hn,i,hd⟩,j⟩:=g;have c:=f L (by unfold qQ;rw[JO,a];exact bV);obtain⟨sl,e⟩:=I.base.slot L o i (I.ok.uB L c) c λz=>I.ok.vZ L z c;exact⟨h,⟨L,_,a,hn,e,hd⟩,ih (λb d=>f b<|by unfold qQ;rw[JO,a];exact cu _ d) j⟩
 exact all _ (λ_ d=>d) I.ok.nA
def df.stack(I:df X p_ σ H s):s.heap.FunFrames X.base X.stack:=by
 obtain e|⟨e,a⟩:=I.ok.AX
 .rw[e];exact I.nA
 rw[e];obtain⟨m,hn,_⟩:=I.loc;exact .cons (by rw[I.ok.kind];decide) a hn (abK<|dq I.ok.nE I.ok.above) I.nA
def df.NA(I:df X p_ σ H s):∀b∈qQ X.stack,b∈X.env.locals::X.fs:=λb a=>by
 obtain e|⟨e,c⟩:=I.ok.AX
 .rw[e]at a;exact cu _ a
 rw[e]at a;unfold qQ at a;rw[JO,c]at a;exact a
def df.MU(I:df X p_ σ H s):∀b∈qQ X.stack,H b=none:=λb a=>by
 rcases bK.mp (I.NA b a)with e | a
 .rw[e];exact I.free
 obtain⟨_,o,c,_⟩:=I.ok.nA.mem a;exact I.base.free b o c (I.ok.uB b a) λz=>I.ok.vZ b z a
def df.step{g':Array GenState}{t':Nat}{d':Drawn}{ch:List e_}(I:df X p_ σ H s)(j:∀b∈ch,(b∈X.ex\/X.s₀.zS<=b)/\b≠X.env.locals/\(∀x c,X.env.cells.lookup x=a_ c->c≠b)/\∀p∈X.pn++p_,p.1≠b)(keep:∀b o,b≠X.env.locals->b∉X.fs->b∉ch->s.heap.get? b=a_ o->H b=b_->h'.get? b=a_ o)(slot:∀b o,b≠X.env.locals->b∈X.fs->b∉ch->s.heap.get? b=a_ o->H b=b_->∃sl,h'.get? b=a_ {o with slots:=sl})(free:∀b o,b∉ch->s.heap.get? b=a_ o->H b=b_->H' b=b_)(there:∀b o,b∉ch->s.heap.get? b=a_ o->∃o',h'.get? b=a_ o')(uf:∀b xs,H b=a_ (.tup xs)->H' b=a_ (.tup xs))(sN:∀b o u,H b=a_ (.jL o u)->H' b=a_ (.jL o u))(sI:∀b ps,H b=a_ (.fA ps)->∃more,H' b=a_ (.fA<|ps++more))(ns:∀m,s.heap.Ns X.env.locals m->h'.Ns X.env.locals m)(aW:iw X.prog X.w H' h')(G:AllBare g'):df X p_ σ H' {s with heap:=h',gens:=g',drawn:=d',toks:=t'}:=by
 have B:∀b o,X.s₀.heap.get? b=a_ o->b≠X.env.locals:=λb o e=>dW<|ic (bY e) I.ok.above
 have A:∀b o,X.s₀.heap.get? b=a_ o->b∉X.ex->b∉ch:=λb o e a g=>by
  rcases(j b g).1 with z | z
  .exact a z
  exact f' (ic (bY e) z) (lQ _)
 have C:∀x c,X.env.cells.lookup x=a_ c->∀v,s.heap.IsCell c v->h'.IsCell c v:=λx c e v⟨o,h,hd⟩=>by
  have t:c∉ch:=λz=>(j c z).2.2.1 x c e xz
  by_cases D:c∈X.fs
  .obtain⟨sl,q⟩:=slot c o (I.yH x c e) D t h<|I.mh x c e;exact⟨_,q,hd⟩
  exact⟨o,keep c o (I.yH x c e) D t h<|I.mh x c e,hd⟩
 refine⟨I.ok,I.os,G,⟨λb o e n g a=>?_,λb o e n g a=>?_,λb o e n a=>?_,λb o e a=>?_,λb xs e=>uf b _<|I.base.uf b _ e,λb o xs e=>sN b o _<|I.base.sN b o _ e,λb ps e=>?_⟩,?_,λx c e=>?_,?_,λx c e=>?_,λp E=>?_,aW,I.len⟩
 .exact keep b o (B b o e) g (A b o e a) (I.base.keep b o e n g a) (I.base.free b o e n a)
 .obtain⟨sl,f⟩:=I.base.slot b o e n g a;obtain⟨J,y⟩:=slot b _ (B b o e) g (A b o e a) f<|I.base.free b o e n a;exact⟨J,y⟩
 .obtain⟨o',f⟩:=I.base.there b o e a;exact free b _ (A b o e a) f<|I.base.free b o e n a
 .obtain⟨o',f⟩:=I.base.there b o e a;exact there b _ (A b o e a) f
 .obtain⟨K,f⟩:=I.base.sI b _ e;obtain⟨L,y⟩:=sI b _ f;exact⟨K++L,by rw[y,Array.append_assoc]⟩
 .obtain⟨m,hn,M⟩:=I.loc;refine⟨m,ns m hn,λi x v f y N=>?_⟩;obtain⟨u,r,l⟩:=M i x v f y N;refine⟨u,r,?_⟩;obtain l|⟨k,c,e,z⟩:=l
  .exact .inl l
  exact .inr ⟨k,c,e,C x c e _ z⟩
 .obtain⟨v,z⟩:=I.cell x c e;exact⟨v,C x c e v z⟩
 .obtain⟨m,⟨o,_,_,h,_⟩,_⟩:=I.loc;exact free _ o (λz=>(j _ z).2.1 xz) h I.free
 .obtain⟨v,o,h,hd⟩:=I.cell x c e;exact free c o (λz=>(j c z).2.2.1 x c e xz) h<|I.mh x c e
 obtain⟨e,n,ne,F,d⟩:=I.pin p E;have t:p.1∉ch:=λz=>(j _ z).2.2.2 p E rfl;exact⟨keep _ _ ne F t e n,free _ _ t e n,ne,F,d⟩
def df.un{t':Nat}(I:df X p_ σ H s)(u:Un X.fs [] H H' s.heap h')(aW:iw X.prog X.w H' h'):df X p_ σ H' {s with heap:=h',toks:=t'}:=by
 obtain⟨m,⟨o,es,j,c,r⟩,_⟩:=id I.loc;obtain⟨sl,f⟩:=u.any c I.free (by simp)
 exact I.step (g':=s.gens) (d':=s.drawn) (ch:=[]) (λ_ z=>by cases z) (λb o _ a _ e n=>u.keep b o e n a<|by simp) (λb o _ a _ e n=>u.slot b o e n a<|by simp) (λb o _ e n=>u.free b o e n<|by simp) (λb o _ e=>u.there b o e<|by simp) u.uf u.sN u.sI (λk hm=>by
  obtain⟨o',g,h,d,i⟩:=hm;rw[c]at d;cases d;exact⟨_,g,h,f,i⟩) aW I.bare
def df.call{g':Array GenState}{t':Nat}{d':Drawn}{ch:List e_}(I:df X p_ σ H s)(u:Un (qQ X.stack) ch H H' s.heap h')(aW:iw X.prog X.w H' h')(i:AllBare g')(f:∀b∈ch,(b∈X.ex\/X.s₀.zS<=b)/\b≠X.env.locals/\(∀x c,X.env.cells.lookup x=a_ c->c≠b)/\∀p∈X.pn++p_,p.1≠b):df X p_ σ H' {s with heap:=h',gens:=g',drawn:=d',toks:=t'}:=by
 obtain⟨m,⟨o,es,t,g,r⟩,_⟩:=id I.loc;obtain⟨sl,d⟩:=u.any g I.free λz=>(f _ z).2.1 xz
 exact I.step (ch:=ch) f (λb o d j a e n=>u.keep b o e n (λz=>(bK.mp<|I.NA b z).elim d j) a) (λb o _ _ a e n=>u.any e n a) (λb o a e n=>u.free b o e n a) (λb o a e=>u.there b o e a) u.uf u.sN u.sI (λv hm=>by
  obtain⟨o',k,l,h,q⟩:=hm;rw[g]at h;cases h;exact⟨_,k,l,d,q⟩) aW i
def df.turned{t':Nat}{it:e_}(I:df X p_ σ H s)(k:∀b o,b≠it->s.heap.get? b=a_ o->h'.get? b=a_ o)(hn:H it=b_)(d:it≠X.env.locals)(h1:it∈X.ex\/X.s₀.zS<=it)(h2:∀x c,X.env.cells.lookup x=a_ c->c≠it)(h3:∀p∈X.pn++p_,p.1≠it):df X p_ σ H {s with heap:=h',toks:=t'}:=by
 have f:∀b u,H b=a_ u->b≠it:=λb u e z=>by rw[z,hn]at e;cases e
 refine I.step (g':=s.gens) (d':=s.drawn) (ch:=[it]) (λb g=>?_) (λb o _ _ a e _=>k b o (λz=>a<|by simp[z]) e) (λb o _ _ a e _=>⟨o.slots,k b o (λz=>a<|by simp[z]) e⟩) (λ_ _ _ _ n=>n)
  (λb o a e=>⟨o,k b o (λz=>a<|by simp[z]) e⟩) (λ_ _ e=>e) (λ_ _ _ e=>e) (λb ps e=>⟨#[],by rw[e];simp⟩) (λm hm=>?_) (λb u e=>?_) I.bare
 .have e:b=it:=by simpa using g
  subst e;exact⟨h1,d,h2,h3⟩
 .obtain⟨o,es,h,i,r⟩:=hm;exact⟨o,es,h,k _ o (iT d) i,r⟩
 refine(I.aW b u e).uh (λc v a q=>k c v ?_ q) (λ_ q=>q) λ_ _ q=>q;obtain z|z:=a
 .rw[z];exact f b u e
 exact f c _ z
def df.tok(I:df X p_ σ H s)(t:Nat):df X p_ σ H {s with toks:=t}:=I.un Un.refl I.aW
def df.kept{t':Nat}(I:df X p_ σ H s)(k:∀b u,s.heap.get? b=a_ u->h'.get? b=a_ u):df X p_ σ H {s with heap:=h',toks:=t'}:=I.un (Un.kept k)<|I.aW.kept k
def df.laid{o:HO}{t':Nat}(I:df X p_ σ H s)(k:∀b u,s.heap.get? b=a_ u->h'.get? b=a_ u)(c:s.zS<=a)(new:fj X.prog X.w (dc H a o) h' a o):df X p_ σ (dc H a o) {s with heap:=h',toks:=t'}:=I.un (Un.laid k c<|I.aW.fresh c)<|I.aW.laid k c new
def df.write{o:HO}{t':Nat}(I:df X p_ σ H s)(a:Io (H x))(c:e=x\/H e=a_ (.own x))(k:∀b u,b≠e->s.heap.get? b=a_ u->h'.get? b=a_ u)(d:∃u,h'.get? e=a_ u)(new:fj X.prog X.w (dc H x o) h' x o):df X p_ σ (dc H x o) {s with heap:=h',toks:=t'}:=I.un (Un.write a c k d)<|I.aW.write a c k d new
def df.weak{a:List (Option V)}(I:df X p_ σ H s)(b:a.length=σ.length)(w:∀(i:Nat)v,a[i]?=a_ (a_ v)->σ[i]?=a_ (a_ v)):df X p_ a H s:=
 ⟨I.ok,I.os,I.bare,I.base,let ⟨m,hn,uS⟩:=I.loc;⟨m,hn,λi x v c d e=>uS i x v c (w i v d) e⟩,I.cell,I.free,I.mh,I.pin,I.aW,b.gw I.len⟩
def df.vz(I:df X p_ σ H s)(h:∀p∈anP,s.heap.get? p.1=a_ p.2/\H p.1=b_/\p.1≠X.env.locals/\p.1∉X.fs/\∀v,p.2.data≠.cell v):df X anP σ H s:=
 ⟨I.ok,I.os,I.bare,I.base,I.loc,I.cell,I.free,I.mh,λp a=>(iC.mp a).elim (λz=>I.pin p<|qg _ z)<|h p,I.aW,I.len⟩
def Wr{N:List d0}(c:N.Nodup){i j:Nat}{x:d0}(a:N[i]?=a_ x)(b:N[j]?=a_ x):i=j:=by
 obtain⟨h1,d⟩:=b0.mp a;obtain⟨h2,e⟩:=b0.mp b;exact(List.getElem_inj c).mp (d.gw e.gx)
def Vc{M:d7}{A:h_}{E:f_->g_->Prop}{i:Nat}{x:d0}{v:V}{u:f_}{Q:Unit->g_->Prop}(I:df X p_ σ H s)(U:X.N.Nodup)(hi:X.N[i]?=a_ x)(t:lg X.env.scope x)(r:dn v u)
  (h:∀s',df X p_ (σ.set i<|a_ v) H s'->(∃a,gz a s.heap s'.heap/\(a=X.env.locals\/X.env.cells.lookup x=a_ a))->Q () s') (hf:X.fn x=c_\/X.env.scope.names.lookup x=a_ .local:=by first | exact .inl xz | exact .inr xz | assumption):bt M A (storeName X.env x u) Q E s:=by
 obtain⟨m,hn,W⟩:=id I.loc;have ap3:(X.env.scope.kind==.class||(X.env.scope.kind==.module&&X.env.locals != X.env.globals))=false:=by rw[I.ok.kind];rfl
 have Y:i < σ.length:=by rw[I.len];exact(b0.mp hi).1
 have yH:=I.yH
 have Z:∀{a:e_}{h':i_},(∃o,s.heap.get? a=a_ o/\H a=b_)->gz a s.heap h'->iw X.prog X.w H h':=λ{a h'}ha f b ob e=>by
  obtain⟨_,_,ZS⟩:=ha;refine(I.aW b _ e).uh (λc G l q=>(f.2 c ?_).gw q) (λ_ q=>q) λ_ _ q=>q;rintro rfl;obtain rfl|l:=l
  .rw[ZS]at e;cases e
  rw[ZS]at l;cases l
 obtain C|C:=t
 .refine wpAny_storeName_local C hn (λh' Eu f=>?_) ap3;obtain⟨oL,_,_,hoL,_⟩:=id hn;refine h _ ⟨I.ok,I.os,I.bare,⟨λb o e n D t=>?_,λb o e n D t=>?_,I.base.free,λb o e t=>?_,I.base.uf,I.base.sN,I.base.sI⟩,⟨_,Eu,λj y J g B K=>?_⟩,λy c e=>?_,I.free,I.mh,λp L=>?_,Z ⟨oL,hoL,I.free⟩ f,by simpa using I.len⟩ ⟨_,f,.inl xz⟩
  .exact(f.2 b<|dW<|ic (bY e) I.ok.above).gw (I.base.keep b o e n D t)
  .obtain⟨sl,g⟩:=I.base.slot b o e n D t;exact⟨sl,(f.2 b<|dW<|ic (bY e) I.ok.above).gw g⟩
  .obtain⟨o',g⟩:=I.base.there b o e t;exact⟨o',(f.2 b<|dW<|ic (bY e) I.ok.above).gw g⟩
  .by_cases F:j=i
   .subst F;rw[hi]at g;cases g;rw[gq Y]at B;cases B;exact⟨u,r,.inl ⟨C,by simp⟩⟩
   rw[nI<|iT F]at B;obtain⟨O,P,q⟩:=W j y J g B K;refine⟨O,P,?_⟩;obtain⟨k,e⟩|⟨k,c,e,z⟩:=q
   .refine .inl ⟨k,?_⟩;have:y≠x:=λe=>F<|Wr U g<|e ▸ hi;simp[this,e]
   exact .inr ⟨k,c,e,z.sameBut f<|yH y c e⟩
  .obtain⟨G,z⟩:=I.cell y c e;exact⟨G,z.sameBut f<|yH y c e⟩
  obtain⟨e,n,ne,R,d⟩:=I.pin p L;exact⟨(f.2 _ ne).gw e,n,ne,R,d⟩
 have S:X.fn x=true:=by
  obtain z|z:=hf
  .exact z
  rw[z]at C;cases C
 obtain⟨c,l⟩:=I.ok.has x<|.inl C;obtain⟨G,z⟩:=I.cell x c l;refine wpAny_storeName_cell I.ok.kind C l z λh' lN f=>?_;obtain⟨oc,ze,apK⟩:=id z;refine h {s with heap:=h'} ⟨I.ok,I.os,I.bare,⟨λb o e n D t=>?_,λb o e n D t=>?_,I.base.free,λb o e t=>?_,I.base.uf,I.base.sN,I.base.sI⟩,⟨m,hn.sameBut f<|iT<|yH x c l,λj y J g B K=>?_⟩,λy T e=>?_,I.free,I.mh,λp L=>?_,Z ⟨oc,ze,I.mh x c l⟩ f,by simpa using I.len⟩ ⟨c,f,.inr l⟩
 .exact(f.2 b<|dW<|ic (bY e)<|I.ok.yI x c S l).gw (I.base.keep b o e n D t)
 .obtain⟨sl,g⟩:=I.base.slot b o e n D t;exact⟨sl,(f.2 b<|dW<|ic (bY e)<|I.ok.yI x c S l).gw g⟩
 .obtain⟨o',g⟩:=I.base.there b o e t;exact⟨o',(f.2 b<|dW<|ic (bY e)<|I.ok.yI x c S l).gw g⟩
 .by_cases F:j=i
  .subst F;rw[hi]at g;cases g;rw[gq Y]at B;cases B;exact⟨u,r,.inr ⟨.inl C,c,l,lN⟩⟩
  rw[nI<|iT F]at B;obtain⟨O,P,q⟩:=W j y J g B K;refine⟨O,P,?_⟩;obtain q|⟨k,T,e,z'⟩:=q
  .exact .inl q
  refine .inr ⟨k,T,e,z'.sameBut f ?_⟩;rintro rfl;exact F<|Wr U g<|I.ok.inj _ _ _ e l ▸ hi
 .by_cases hcc:T=c
  .subst hcc;exact⟨_,lN⟩
  obtain⟨w2,z2⟩:=I.cell y _ e;exact⟨w2,z2.sameBut f hcc⟩
 obtain⟨e,n,ne,R,d⟩:=I.pin p L;refine⟨(f.2 _ ?_).gw e,n,ne,R,d⟩;intro q;rw[q,ze]at e;exact d _ (by rw[<-(c8 e)];exact apK)
def LS{M:d7}{i:Nat}{Q:Unit->g_->Prop}(I:df X p_ σ H s)(a:X.N.Nodup)(hi:X.N[i]?=a_ x)(b:lg X.env.scope x)(r:dn v u)
  (h:∀s',df X p_ (σ.set i<|a_ v) H s'->Q () s') (c:X.fn x=c_\/X.env.scope.names.lookup x=a_ .local:=by first | exact .inl xz | exact .inr xz | assumption):bt M A (storeName X.env x u) Q E s:=
 Vc I a hi b r (λs' d _=>h s' d) c
def df.ZM(I:df X p_ σ H s)(a:s'.os=s.os)(u:Un (qQ X.stack) ch H H' s.heap s'.heap)(aW:iw X.prog X.w H' s'.heap)(d:AllBare s'.gens)(f:∀b∈ch,(b∈X.ex\/X.s₀.zS<=b)/\b≠X.env.locals/\(∀x c,X.env.cells.lookup x=a_ c->c≠b)/\∀p∈X.pn++p_,p.1≠b):df X p_ σ H' s':=by
 obtain⟨h',g',d',t',o'⟩:=s';have e:=a;subst e;exact I.call u aW d f
end
abbrev XK:=f_->Option e_->Hp->Prop
abbrev St:=List<|Option V
abbrev VK:=V->Hp->Prop
abbrev TE:=St->Hp->VK->Prop
abbrev TT:=St->Hp->(Bool->Hp->Prop)->Prop
abbrev TA:=St->Hp->(List V->Hp->Prop)->Prop
structure Ends where
 nx:St->Hp->Prop
 rt:VK
 bk:St->Hp->Prop:=λ_ _=>False
 ct:St->Hp->Prop:=λ_ _=>False
abbrev TS:=Ends->St->Hp->Prop
def EP(X:Cx)(p_:List (e_×d5))(σ:St)(Q:VK)(u:f_)(s':g_):Prop:=∃v H',df X p_ σ H' s'/\dn v u/\Q v H'
def TP(X:Cx)(p_:List (e_×d5))(σ:St)(Q:Bool->Hp->Prop)(b:Bool)(s':g_):Prop:=∃H',df X p_ σ H' s'/\Q b H'
def AP(X:Cx)(p_:List (e_×d5))(σ:St)(Q:List V->Hp->Prop)(us:List f_)(s':g_):Prop:=∃vs H',df X p_ σ H' s'/\dt vs us/\Q vs H'
def SP(X:Cx)(p_:List (e_×d5))(D:Ends)(f:Flow)(s':g_):Prop:=
 match f with
 | .next=>∃a H',df X p_ a H' s'/\D.nx a H'
 | .brk=>∃a H',df X p_ a H' s'/\D.bk a H'
 | .cont=>∃a H',df X p_ a H' s'/\D.ct a H'
 | .ret u=>∃v a H',df X p_ a H' s'/\dn v u/\D.rt v H'
def PE(X:Cx)(e:c0)(t:TE):Prop:=
 ∀(p_:List (e_×d5))(s:g_)(σ:St)(H:Hp)(Q:VK),df X p_ σ H s->t σ H Q->bt (bv X.prog X.w) X.A (eval e X.env) (EP X p_ σ Q) X.xe s
def PT(X:Cx)(e:c0)(t:TT):Prop:=
 ∀(p_:List (e_×d5))(s:g_)(σ:St)(H:Hp)(Q:Bool->Hp->Prop),df X p_ σ H s->t σ H Q->bt (bv X.prog X.w) X.A (isTrue e X.env<|eval e X.env) (TP X p_ σ Q) X.xe s
def PW(X:Cx)(e:c0)(t:TT):Prop:=
 ∀(a:Sem f_)(p_:List (e_×d5))(s:g_)(σ:St)(H:Hp)(Q:Bool->Hp->Prop),df X p_ σ H s->t σ H Q->bt (bv X.prog X.w) X.A (isTrue e X.env a) (TP X p_ σ Q) X.xe s
def PW.pt{X:Cx}(h:PW X e t):PT X e t:=h _
def PA(X:Cx)(es:List c0)(t:TA):Prop:=
 ∀(a:Pos)(p_:List (e_×d5))(s:g_)(σ:St)(H:Hp)(Q:List V->Hp->Prop),df X p_ σ H s->t σ H Q->bt (bv X.prog X.w) X.A (spliced<|ca a<|cx es X.env) (AP X p_ σ Q) X.xe s
def PS(X:Cx)(st:bx)(t:TS):Prop:=
 ∀(p_:List (e_×d5))(s:g_)(σ:St)(H:Hp)(D:Ends),df X p_ σ H s->t D σ H->bt (bv X.prog X.w) X.A (exec st X.env) (SP X p_ D) X.xe s
def fD(X:Cx)(st:List bx)(t:TS):Prop:=
 ∀(p_:List (e_×d5))(s:g_)(σ:St)(H:Hp)(D:Ends),df X p_ σ H s->t D σ H->bt (bv X.prog X.w) X.A (execs st X.env) (SP X p_ D) X.xe s
def aV{b:Type}{t:Sem b}{Q c:b->g_->Prop}{M:d7}(h:bt M A t Q E s)(d:∀a s,Q a s->c a s):bt M A t c E s:=jU h d λ_ _ x=>x
def mC{X:Cx}{K:VK}{t:Sem f_}{M:d7}(h:bt M A t (EP X p_ σ K) E s)(k:∀v s x H,df X p_ σ H s->dn x v->K x H->Q' v s):bt M A t Q' E s:=aV h λv s z=>fh z<|k v s
def thT{X:Cx}{K:Bool->Hp->Prop}{t:Sem Bool}{a:Bool->g_->Prop}{M:d7}(h:bt M A t (TP X p_ σ K) E s)(k:∀v s H,df X p_ σ H s->K v H->a v s):bt M A t a E s:=aV h λv s z=>aD z<|k v s
def HU{X:Cx}{K:List V->Hp->Prop}{t:Sem (List f_)}{a:List f_->g_->Prop}{M:d7}(h:bt M A t (AP X p_ σ K) E s)(k:∀v s x H,df X p_ σ H s->dt x v->K x H->a v s):bt M A t a E s:=aV h λv s z=>fh z<|k v s
section
variable{X:Cx}
def qJ(i:Nat):TE:=λσ H Q=>∃v,σ[i]?=a_ (a_ v)/\Q v H
abbrev tC(v:V):TE:=λ_ H Q=>Q v H
def ajR{i:Nat}(f:X.N[i]?=a_ x)(g:Ij X.env.scope x)(hd:autoParam ((x==("__debug__":d0))=false) ap)(j:autoParam ((x==("__classdict__":d0))=false) ap):PE X (.Name x pos) (qJ i):=by
 intro p_ s σ H Q I h;obtain⟨v,e,h⟩:=h;obtain⟨m,hn,k⟩:=I.loc;obtain⟨u,r,l⟩:=k i x v f e g;have fin:EP X _ _ Q u s:=⟨v,H,I,r,h⟩;obtain⟨a,hm⟩|⟨a,c,b,d⟩:=l
 .exact wpAny_Name (wpAny_loadName_local I.ok.kind a hn hm fin) hd
 obtain a|a:=a
 .exact wpAny_Name (wpAny_loadName_cell I.ok.kind a b d fin) hd
 exact wpAny_Name (wpAny_loadName_free I.ok.kind a b d fin j) hd
def ar{i j pos}:PE X (.Constant (.int i) j pos) (tC<|.int i):=λ_ _ _ H _ I h=>wpAny_Constant_int ⟨.int i,H,I.tok _,⟨_,xz⟩,h⟩
def iF{b j pos}:PE X (.Constant (.bool b) j pos) (tC<|.bl b):=λ_ _ _ H _ I h=>Constant_bool ⟨.bl b,H,I,xz,h⟩
def oa{j pos}:PE X (.Constant .none j pos) (tC .aO):=λ_ _ _ H _ I h=>Constant_none ⟨.aO,H,I,xz,h⟩
def cq{x j pos}:PE X (.Constant (.str x) j pos) (tC<|.str x):=λ_ _ _ H _ I h=>Calls.Constant_str ⟨.str x,H,I.tok _,⟨_,xz⟩,h⟩
def Gl(X:Cx)(x:d0):Prop:=X.env.kindOf x=a_ .globalImplicit
def Gm(I:df X p_ σ H s)(a:Gl X x)(hm:X.mg x=a_ u)(h:Q u s)
  (hd:autoParam ((x==("__debug__":d0))=false) ap):bt (bv X.prog X.w) X.A (eval (.Name x pos) X.env) Q E s:=
 abi I.ok.kind a (Calls.loadGlobal_global (by rw[I.ok.glob];exact I.mod.glob.keeps I.bk) hm h) hd
def x9(I:df X p_ σ H s)(a:Gl X x)(hm:X.mg x=b_)(b:vh x=a_ u)(h:Q u s)
  (hn:autoParam (x ≠ "__name__") ap) (hd:autoParam ((x==("__debug__":d0))=false) ap):bt (bv X.prog X.w) X.A (eval (.Name x pos) X.env) Q E s:=by
 obtain⟨mb,h1,h2⟩:=I.mod.blt;exact abi I.ok.kind a (Calls.loadGlobal_builtin (I.ok.glob▸I.mod.glob.keeps I.bk) hm (I.ok.blt▸h1.keeps I.bk) ((h2 x hn).gw b) h) hd
def eW(a:Gl X x)(hm:X.mg x=a_ u)(r:dn v u)(hd:autoParam ((x==("__debug__":d0))=false) ap):PE X (.Name x pos) (tC v):=
 λ_ _ _ H _ I h=>Gm I a hm ⟨v,H,I,r,h⟩ hd
def nW(a:Gl X x)(hm:X.mg x=b_)(b:vh x=a_ u)(r:dn v u)(hn:autoParam (x ≠ "__name__") ap)(hd:autoParam ((x==("__debug__":d0))=false) ap):PE X (.Name x pos) (tC v):=
 λ_ _ _ H _ I h=>x9 I a hm b ⟨v,H,I,r,h⟩ hn hd
variable{a b:c0}{ta tb:TE}{pos:Pos}
def PC(X:Cx)(c:CmpOp)(a b:c0)(t:TE):Prop:=
 ∀(p_:List (e_×d5))(s:g_)(σ:St)(H:Hp)(Q:VK),df X p_ σ H s->t σ H Q->
  bt (bv X.prog X.w) X.A (eval a X.env) (λv d=>bt (bv X.prog X.w) X.A (eval b X.env) (λu e=>bt (bv X.prog X.w) X.A (g6 c v u) (EP X p_ σ Q) X.xe e) X.xe d) X.xe s
def Ws(b:c0){c:CmpOp}(h:c≠.In)(h2:c≠.NotIn):xA c b=false:=by
 have d:(c==CmpOp.In)=false:=by cases c <;> first | rfl | exact f' xz h
 have e:(c==CmpOp.NotIn)=false:=by cases c <;> first | rfl | exact f' xz h2
 cases b <;> simp[xA,d,e]
def aoo(ta:TE):TE:=λσ H Q=>ta σ H λx c=>Q (.bl<|decide<|x=.aO) c
def dn.ago(r:dn x v):(v==gD)=decide (x=.aO):=by
 cases x with
 | aO=>cases r;rfl
 | bl _=>cases r;rfl
 | int _=>obtain⟨t,rfl⟩:=r;rfl
 | str _=>obtain⟨t,rfl⟩:=r;rfl
 | oF _=>obtain⟨t,rfl⟩:=r;rfl
 | qR _=>obtain⟨t,rfl⟩:=r;rfl
 | ref _=>cases r;rfl
 | ty _=>cases r;rfl
def xW{j pos'}(ha:PE X a ta):PC X .Is a (.Constant .none j pos') (aoo ta):=by
 intro p_ s σ H Q I h;refine aV (ha _ s _ H _ I h) ?_;rintro v s1⟨x,c,d,e,f⟩;exact Constant_none<|is_none_gen ⟨.bl _,c,d,by rw[e.ago];rfl,f⟩
def tB(t:TE):TT:=λσ H Q=>t σ H λx d=>∃c,x=.bl c/\Q c d
def Yk{c:CmpOp}(h:PC X c a b t)(h1:xA c b=false:=by first | exact Ws _ qc qc | rfl):PE X (.Compare a [c] [b] pos) t:=λp_ s σ H Q I hw=>wpAny_Compare1 (h _ s _ H Q I hw) h1
def An{e:CmpOp}(h:PC X e a b t)(h1:xA e b=false:=by first | exact Ws _ qc qc | rfl):PT X (.Compare a [e] [b] pos) (tB t):=by
 refine λp_ s σ H Q I hw=>abC (aV (h _ s _ H _ I hw) λv s1 h1=>aV h1 λu s2 h2=>aV h2 ?_) h1;rintro c k⟨x,f,g,i,j⟩;obtain⟨d,rfl,q⟩:=j;cases i;exact qh ⟨f,g,q⟩
def dg(h:PE X e t)(f:∀c,isTrue e X.env c=(do let v <-c;standAt e.pos;holding [v] (truthy v)):=by intro _;rfl):PT X e (tB t):=by
 refine λp_ s σ H Q I hw=>isTrue_plain (aV (h _ s _ H _ I hw) ?_)<|f _;rintro v s1⟨x,g,i,j,k⟩;obtain⟨d,rfl,q⟩:=k;cases j;exact qh ⟨g,i,q⟩
variable{tA Iv:TT}{rest:List c0}
def aos(t u:TT):TT:=λσ H Q=>t σ H λc d=>if c=c_ then u σ d Q else Q d_ d
def tOr(t u:TT):TT:=λσ H Q=>t σ H λc d=>if c=c_ then Q c_ d else u σ d Q
def aom(t:TT):TT:=λσ H Q=>t σ H λc d=>Q (!c) d
def pw_and1(ha:PT X a tA):PW X (.BoolOp .And [a] pos) tA:=by
 refine λwh p_ s σ H Q I h=>isTrue_and (aV (ha _ s _ H Q I h) λc s1 e=>?_);rcases c with _|_;exact e;exact isTrue_and_nil e
def pw_or1(ha:PT X a tA):PW X (.BoolOp .Or [a] pos) tA:=by
 refine λwh p_ s σ H Q I h=>isTrue_or (aV (ha _ s _ H Q I h) λc s1 e=>?_);rcases c with _|_;exact isTrue_or_nil e;exact e
def pw_and(ha:PT X a tA)(f:PW X (.BoolOp .And (b::rest) pos) Iv):PW X (.BoolOp .And (a::b::rest) pos) (aos tA Iv):=by
 refine λwh p_ s σ H Q I h=>isTrue_and<|aV (ha _ s _ H _ I h) ?_;rintro c s1⟨g,d,e⟩;rcases c with _|_;exact⟨g,d,e⟩;exact f _ _ _ _ _ Q d e
def pw_or(ha:PT X a tA)(f:PW X (.BoolOp .Or (b::rest) pos) Iv):PW X (.BoolOp .Or (a::b::rest) pos) (tOr tA Iv):=by
 refine λwh p_ s σ H Q I h=>isTrue_or<|aV (ha _ s _ H _ I h) ?_;rintro c s1⟨g,d,e⟩;rcases c with _|_;exact f _ _ _ _ _ Q d e;exact⟨g,d,e⟩
def g7(ha:PT X a tA):PT X (.UnaryOp .Not a pos) (aom tA):=by
 exact λp_ s σ H Q I h=>isTrue_not<|ha _ s _ H _ I h
def alG(ta tb:TE):TE:=λσ H Q=>ta σ H λx d=>∃c,x=.bl c/\if c=c_ then tb σ d Q else Q (.bl d_) d
def aol(ta tb:TE):TE:=λσ H Q=>ta σ H λx d=>∃c,x=.bl c/\if c=c_ then Q (.bl c_) d else tb σ d Q
def alB(ta:TE):TE:=λσ H Q=>ta σ H λx d=>∃c,x=.bl c/\Q (.bl<|!c) d
def sk{op}(h:PE X a t):PE X (.BoolOp op [a] pos) t:=λp_ s σ H Q I hw=>BoolOp_one<|h _ s _ H Q I hw
def sr(ha:PE X a ta)(f:PE X (.BoolOp .And (b::rest) pos) tb):PE X (.BoolOp .And (a::b::rest) pos) (alG ta tb):=by
 refine λp_ s σ H Q I h=>BoolOp_and<|aV (ha _ s _ H _ I h) ?_;rintro v s1⟨x,g,e,i,d⟩;obtain⟨c,rfl,d⟩:=d;cases i;refine qh ?_;rcases c with _|_;exact⟨.bl _,g,e,xz,d⟩;exact f _ _ _ _ Q e d
def OZ(ha:PE X a ta)(f:PE X (.BoolOp .Or (b::rest) pos) tb):PE X (.BoolOp .Or (a::b::rest) pos) (aol ta tb):=by
 refine λp_ s σ H Q I h=>BoolOp_or<|aV (ha _ s _ H _ I h) ?_;rintro v s1⟨x,g,e,i,d⟩;obtain⟨c,rfl,d⟩:=d;cases i;refine qh ?_;rcases c with _|_;exact f _ _ _ _ Q e d;exact⟨.bl _,g,e,xz,d⟩
def Od(ha:PE X a ta):PE X (.UnaryOp .Not a pos) (alB ta):=by
 refine λp_ s σ H Q I h=>UnaryOp_<|aV (ha _ s _ H _ I h) ?_;rintro v s1⟨x,e,f,g,d⟩;obtain⟨c,rfl,d⟩:=d;cases g;exact not_of<|qh ⟨.bl<|!c,e,f,xz,d⟩
def tIf(t:TT)(ta tb:TE):TE:=λσ H Q=>t σ H λc d=>if c=c_ then ta σ d Q else tb σ d Q
def FX(g:PT X c tA)(ha:PE X a ta)(i:PE X b tb):PE X (.IfExp c a b pos) (tIf tA ta tb):=by
 refine λp_ s σ H Q I h=>wpAny_IfExp<|aV (g _ s _ H _ I h) ?_;rintro d s1⟨j,e,f⟩;rcases d with _|_;exact i _ _ _ _ Q e f;exact ha _ _ _ _ Q e f
end
def ag(K:u_)(H:Hp)(a:e_)(xs:List V):Prop:=
 Rd H a (.lst xs)\/
  ∃(o:d5)(b:Array f_)(n:Nat),K.lookup a=a_ o/\o.cls=.type "list"/\o.dict=b_/\o.data=.seq b n/\b.size<=bc/\dt xs b.toList
def aq(K:u_)(H:Hp)(a:e_)(xs:List V):Prop:=
 Rd H a (.tup xs)\/
  ∃(o:d5)(b:Array f_)(n:Nat),K.lookup a=a_ o/\o.cls=.type "tuple"/\o.data=.seq b n/\b.size<=bc/\dt xs b.toList
noncomputable def aoW:f_->Option V
 | .none=>a_ .aO
 | .bool b=>a_<|.bl b
 | .int i _=>a_<|.int i
 | .str x _=>a_<|.str x
 | .bytes b _=>a_<|.oF b
 | .float b _=>a_<|.qR b
 | .ref a=>a_<|.ref a
 | .type n=>a_<|.ty n
 | _=>b_
def dn.abs(r:dn x u):aoW u=a_ x:=by
 cases x with
 | aO=>cases r;rfl
 | bl _=>cases r;rfl
 | int _=>obtain⟨t,rfl⟩:=r;rfl
 | str _=>obtain⟨t,rfl⟩:=r;rfl
 | oF _=>obtain⟨t,rfl⟩:=r;rfl
 | qR _=>obtain⟨t,rfl⟩:=r;rfl
 | ref _=>cases r;rfl
 | ty _=>cases r;rfl
def dn.inj(r:dn x u)(q:dn y u):x=y:=c8<|r.abs.gx.gw q.abs
theorem dt.inj{xs ys:List V}{us:List f_}(h:dt xs us)(k:dt ys us):xs=ys:=by
 induction h generalizing ys with
 |nil=>cases k;rfl
 |cons r _ i=>cases k with|cons p q=>rw[r.inj p,i q]
section
variable{X:Cx}{p_:List (e_×d5)}{σ:St}{H:Hp}{s:g_}{a:e_}{xs ys:List V}
def ag.of{K:u_}(h:H a=a_ (.lst xs)):ag K H a xs:=.inl<|.inl h
def aq.of{K:u_}(h:H a=a_ (.tup xs)):aq K H a xs:=.inl<|.inl h
def df.list(I:df X p_ σ H s)(h:ag X.K H a xs):∃b:List f_,dt xs b/\PlainL s.heap a b.toArray/\xs.length<=bc:=by
 obtain h|⟨o,b,n,c,d,hd,f,g,r⟩:=h
 .obtain⟨z,b,n,r,e⟩:=h.ok I.aW;exact⟨b,r,⟨_,n,e,xz,xz,xz⟩,z⟩
 refine⟨b.toList,r,⟨o,n,I.dB a o c,d,hd,by simpa using f⟩,?_⟩;have e:=r.length;simp only[jS]at e;omega
def df.tuple(I:df X p_ σ H s)(h:aq X.K H a xs):∃b:List f_,dt xs b/\IsTup s.heap a b.toArray/\xs.length<=bc:=by
 obtain h|⟨o,b,n,c,d,f,g,r⟩:=h
 .obtain⟨z,b,r,p⟩:=h.ok I.aW;exact⟨b,r,p,z⟩
 refine⟨b.toList,r,⟨o,I.dB a o c,d,n,by simpa using f⟩,?_⟩;have e:=r.length;simp only[jS]at e;omega
def df.Wv(I:df X p_ σ H s)(h:ag X.K H a xs)(h':ag X.K H a ys):xs=ys:=by
 obtain⟨b,r,⟨o,n,e,_,_,d⟩,_⟩:=I.list h;obtain⟨c,f,⟨o',g,e',_,_,d'⟩,_⟩:=I.list h';rw[e]at e';cases e';rw[d]at d';injection d' with d1 _
 have:b=c:=by simpa using gv Array.toList d1
 subst this;exact r.inj f
def df.Vb(I:df X p_ σ H s)(h:aq X.K H a xs)(h':aq X.K H a ys):xs=ys:=by
 obtain⟨b,r,⟨o,e,_,n,d⟩,_⟩:=I.tuple h;obtain⟨c,f,⟨o',e',_,g,d'⟩,_⟩:=I.tuple h';rw[e]at e';cases e';rw[d]at d';injection d' with d1 _
 have:b=c:=by simpa using gv Array.toList d1
 subst this;exact r.inj f
end
noncomputable abbrev Cx.sH(X:Cx)(E:f_->g_->Prop):Cx:={X with xe:=E}
abbrev Cx.pY(X:Cx):Cx:=X.sH λ_ _=>False
def Cx.Ok.sH{X:Cx}(ok:X.Ok)(E:f_->g_->Prop):(X.sH E).Ok:=
 ⟨ok.mod,ok.kind,ok.glob,ok.blt,ok.above,ok.inj,ok.has,ok.yI,ok.hd,ok.frames,ok.AX,ok.wD,ok.bs,ok.nE,ok.yn,ok.vZ,ok.nA,ok.uB⟩
def Cx.Ok.vE{X:Cx}(ok:(X.sH E).Ok):X.Ok:=
 ⟨ok.mod,ok.kind,ok.glob,ok.blt,ok.above,ok.inj,ok.has,ok.yI,ok.hd,ok.frames,ok.AX,ok.wD,ok.bs,ok.nE,ok.yn,ok.vZ,ok.nA,ok.uB⟩
section
variable{X:Cx}{p_:List (e_×d5)}{σ:St}{H:Hp}{s:g_}{E:f_->g_->Prop}
def df.sH(I:df X p_ σ H s)(E:f_->g_->Prop):df (X.sH E) p_ σ H s:=⟨I.ok.sH E,I.os,I.bare,I.base,I.loc,I.cell,I.free,I.mh,I.pin,I.aW,I.len⟩
def df.vE(I:df (X.sH E) p_ σ H s):df X p_ σ H s:=⟨I.ok.vE,I.os,I.bare,I.base,I.loc,I.cell,I.free,I.mh,I.pin,I.aW,I.len⟩
def SP.vE{f:Flow}(h:SP (X.sH E) p_ D f s'):SP X p_ D f s':=by
 rcases f with _|_|_|u
 ·obtain⟨a,H',I,q⟩:=h;exact⟨a,H',I.vE,q⟩
 ·obtain⟨a,H',I,q⟩:=h;exact⟨a,H',I.vE,q⟩
 ·obtain⟨a,H',I,q⟩:=h;exact⟨a,H',I.vE,q⟩
 obtain⟨v,a,H',I,r,q⟩:=h;exact⟨v,a,H',I.vE,r,q⟩
def fD.pY{st:List bx}(h:fD X.pY st t):fD X st t:=λp_ s σ H D I hw=>
 jU (h p_ s σ H D (I.sH _) hw) (λ_ _ q=>q.vE) λ_ _ z=>nN z
end
section
variable{X:Cx}{st:bx}{rest:List bx}{t u:TS}{e:c0}{te:TE}{pos:Pos}
abbrev alC:TS:=λD σ H=>D.nx σ H
abbrev aoj(t u:TS):TS:=λD σ H=>t {D with nx:=u D} σ H
def bQ:fD X [] alC:=λ_ _ σ H _ I h=>E' ⟨σ,H,I,h⟩
def au(h1:PS X st t)(h2:fD X rest u):fD X (st::rest) (aoj t u):=by
 refine λp_ s σ H D I h=>wpAny_execs_cons (aV (h1 _ s _ H {D with nx:=u D} I h) λf s1 q=>?_);rcases f with _|v|_|_
 ·obtain⟨b,H',a,q⟩:=q;exact h2 _ _ _ _ D a q
 ·exact q
 ·exact q
 exact q
def ax(h1:PS X st t):fD X [st] t:=by
 refine λp_ s σ H D I h=>wpAny_execs_cons (aV (h1 _ s _ H D I h) λf s1 q=>?_);rcases f with _|v|_|_;exact E' q;exact q;exact q;exact q
def df.quiet(I:df X p_ σ H s):interactive X.env=false:=by simp[interactive,I.ok.kind]
abbrev alE(te:TE):TS:=λD σ H=>te σ H λ_ H1=>D.nx σ H1
def eE(a:PE X e te)(b:autoParam (FJ e b_ pos.line X.env=pure false) am):PS X (.Expr e pos) (alE te):=by
 refine λp_ s σ H D I h=>wpAny_Expr_any (aV (a _ s _ H _ I h) ?_) I.quiet b;rintro v s1⟨x,c,d,g,f⟩;exact⟨σ,c,d,f⟩
abbrev aok(te:TE):TS:=λD σ H=>te σ H D.rt
def aR(a:PE X e te):PS X (.Return (a_ e) pos) (aok te):=by
 refine λp_ s σ H D I h=>wpAny_Return_some<|aV (a _ s _ H _ I h) ?_;rintro v s1⟨x,b,c,d,f⟩;exact⟨x,σ,b,c,d,f⟩
abbrev aop(c:TT)(t u:TS):TS:=λD σ H=>c σ H λb H1=>if b=c_ then t D σ H1 else u D σ H1
def bz{a b:List bx}(i:PT X c tc)(ha:fD X a t)(j:fD X b u):PS X (.If c a b pos) (aop tc t u):=by
 refine λp_ s σ H D I h=>wpAny_If<|aV (i _ s _ H _ I h) ?_;rintro d s1⟨k,f,g⟩;rcases d with _|_;exact j _ _ _ _ D f g;exact ha _ _ _ _ D f g
def ajp:TS:=λ_ _ _=>False
def vp{a:List bx}:fD X a ajp:=λ_ _ _ _ _ _ h=>h.elim
end
abbrev TG:=V->St->Hp->(St->Hp->Prop)->Prop
abbrev yM:=List V->St->Hp->(St->Hp->Prop)->Prop
def PG(X:Cx)(b:c0)(t:TG):Prop:=
 ∀(p_:List (e_×d5))(s:g_)(σ:St)(H:Hp)(v:V)(u:f_)(Q:St->Hp->Prop),df X p_ σ H s->dn v u->t v σ H Q->
  bt (bv X.prog X.w) X.A (assign b X.env u) (λ_ s'=>∃a H',df X p_ a H' s'/\Q a H') X.xe s
def Im(X:Cx)(ts:List c0)(t:yM):Prop:=
 ∀(p_:List (e_×d5))(s:g_)(σ:St)(H:Hp)(vs:List V)(us:List f_)(Q:St->Hp->Prop),df X p_ σ H s->dt vs us->t vs σ H Q->
  bt (bv X.prog X.w) X.A (assignInOrder ((BV ts X.env).map (·.2)) us) (λ_ s'=>∃a H',df X p_ a H' s'/\Q a H') X.xe s
abbrev Dv:=V->V->V->Hp->(Hp->Prop)->Prop
def Qx(X:Cx)(t:Dv):Prop:=
 ∀(p_:List (e_×d5))(s:g_)(σ:St)(H:Hp)(o i v:V)(ov a u:f_)(Q:Hp->Prop),df X p_ σ H s->dn o ov->dn i a->dn v u->t o i v H Q->
  bt (bv X.prog X.w) X.A (setItem ov a u) (λ_ s'=>∃H',df X p_ σ H' s'/\Q H') X.xe s
abbrev A6:=V->V->Hp->VK->Prop
def Q9(X:Cx)(a:Operator)(t:A6):Prop:=
 ∀(p_:List (e_×d5))(s:g_)(σ:St)(H:Hp)(x y:V)(v u:f_)(Q:VK),df X p_ σ H s->dn x v->dn y u->t x y H Q->
  bt (bv X.prog X.w) X.A (inplaceOp a v u) (EP X p_ σ Q) X.xe s
section
variable{X:Cx}{pos:Pos}
abbrev g8(i:Nat):TG:=λv σ H Q=>Q (σ.set i<|a_ v) H
def bo{i:Nat}(a:X.N.Nodup)(hi:X.N[i]?=a_ x)(b:lg X.env.scope x)(c:X.fn x=c_\/X.env.scope.names.lookup x=a_ .local:=by first | exact .inl xz | exact .inr xz | assumption):PG X (.Name x pos) (g8 i):=by
 exact λp_ s σ H v u Q I r h=>wpAny_assign_Name<|LS I a hi b r (λs' d=>⟨_,H,d,h⟩) c
def p3:yM:=λvs σ H Q=>vs=[]/\Q σ H
def Pp(t:TG)(u:yM):yM:=λvs σ H Q=>∃v r,vs=v::r/\t v σ H λa H'=>u r a H' Q
def lV:Im X [] p3:=by
 intro p_ s σ H vs us Q I r h;obtain⟨e,h⟩:=h;subst e;cases r;exact assignInOrder_nil ⟨σ,H,I,h⟩
def ff{es:List c0}{u:yM}(h1:PG X e t)(h2:Im X es u)
  (a:autoParam ((BV (e::es) X.env).map (·.2)=assign e X.env::(BV es X.env).map (·.2)) am):Im X (e::es) (Pp t u):=by
 intro p_ s σ H vs us Q I r h;obtain⟨v,vr,b,h⟩:=h;subst b;cases r with
 | cons r rr=>
  rw[a];refine assignInOrder_cons<|aV (h1 _ s _ H _ _ _ I r h) ?_;rintro _ s1⟨f,g,c,d⟩;exact h2 _ _ _ _ _ _ Q c rr d
def pc(K:u_)(n:Nat)(t:yM):TG:=λv σ H Q=>∃a xs,v=.ref a/\aq K H a xs/\xs.length=n/\t xs σ H Q
def lX{es:List c0}{k:Nat}{t:yM}{n:Nat}(d:X.calm=c_)(h:Im X es t)
  (hn:autoParam ((BV es X.env).length=n) am) (f:autoParam ((BV es X.env).findIdx? (·.1)=none) am):PG X (.Tuple es k pos) (pc X.K n t):=by
 intro p_ s σ H v u Q I r hw;obtain⟨a,xs,g,i,j,hw⟩:=hw;subst g;cases r;obtain⟨p,c,l,q⟩:=I.tuple i;refine assign_Tuple_tuple (I.ok.hd d) l (by simp[hn,<-j,c.length]) f λh' m=>?_;exact h _ _ _ H _ _ Q (I.kept (t':=s.toks) λb o e=>m b o (dW<|bY e) e) (by simpa using c) hw
def aoS(a b:TE)(t:Dv):TG:=λv σ H Q=>a σ H λo c=>b σ c λi d=>t o i v d λe=>Q σ e
def vI{t:Dv}(b:PE X o to)(hi:PE X i ti)(c:Qx X t)
  (ha:∀v,assign (.Subscript o i pos) X.env v=(do
   let ov <-holding [v] (eval o X.env)
   let a <-holding [v,ov] (eval i X.env)
   standAt pos
   holding [v,ov,a] (setItem ov a v)
   release [v,ov,a] []):=by intro _;rfl):PG X (.Subscript o i pos) (aoS to ti t):=by
 intro p_ s σ H v u Q I r h;rw[ha];refine ak<|lP<|aV (b _ s _ H _ I h) ?_;rintro ov s1⟨x,n,d,e,f⟩;refine ak<|lP<|aV (hi _ _ _ _ _ d f) ?_;rintro a s2⟨y,p,g,r2,j⟩;refine ak<|T9<|ak<|lP<|aV (c _ _ _ _ x y v _ _ u _ g e r2 r j) ?_;rintro _ q⟨k,l,m⟩;exact wpAny_release ⟨σ,k,l,m⟩
abbrev PY(te:TE)(g:TG):TS:=λD σ H=>te σ H λx H1=>g x σ H1 D.nx
def vH(a:PE X e te)(b:PG X tg g)(c:autoParam (swapsWithSole [tg] e pos.line X.env=pure false) am)(hw:autoParam (swappedStores [tg] e X.env=pure none) am)
  (h1:autoParam ((BV [tg] X.env).map (·.2)=[assign tg X.env]) am):PS X (.Assign [tg] e pos) (PY te g):=by
 refine λp_ s σ H D I h=>wpAny_Assign_stores (aV (a _ s _ H _ I h) ?_) c hw;rintro v s1⟨x,j,d,f,i⟩;rw[h1];exact aV (b _ _ _ _ x v _ d f i) λ_ s2 q=>q
def bG{i:Nat}(a:X.N.Nodup)(hi:X.N[i]?=a_ x)(b:lg X.env.scope x)(c:PE X e te)(d:autoParam (FJ e (a_<|.Name x pos') pos.line X.env=pure false) am)(f:X.fn x=c_\/X.env.scope.names.lookup x=a_ .local:=by first | exact .inl xz | exact .inr xz | assumption):
  PS X (.Assign [.Name x pos'] e pos) (PY te<|g8 i):=by
 intro p_ s σ H D I h;refine wpAny_Assign_Name (aV (c _ s _ H _ I h) ?_) d;rintro v s1⟨y,g,j,k,l⟩;exact LS j a hi b k (λs2 m=>⟨_,g,m,l⟩) f
def aor(i:Nat)(a:TE)(b:A6):TS:=λD σ H=>∃x,σ[i]?=a_ (a_ x)/\a σ H λy c=>b x y c λz d=>D.nx (σ.set i<|a_ z) d
def ajQ{i:Nat}{b:Operator}{f:A6}(g:X.N.Nodup)(hi:X.N[i]?=a_ x)(d:lg X.env.scope x)(j:PE X e te)(n:Q9 X b f)(o:X.fn x=c_\/X.env.scope.names.lookup x=a_ .local:=by first | exact .inl xz | exact .inr xz | assumption):
  PS X (.AugAssign (.Name x pos') b e pos) (aor i te f):=by
 intro p_ s σ H D I h;obtain⟨v,p,h⟩:=h;obtain⟨m,hn,q⟩:=I.loc;have t:Ij X.env.scope x:=by obtain k|k:=d;exact .inl k;exact .inr (.inl k)
 obtain⟨u,r,l⟩:=q i x v hi p t;refine wpAny_AugAssign_Name ?_
 have go:bt (bv X.prog X.w) X.A (eval e X.env) (λw B=>bt (bv X.prog X.w) X.A (inplaceOp b u w) (λr C=>bt (bv X.prog X.w) X.A (storeName X.env x r) (λ_=>SP X p_ D .next) X.xe C) X.xe B) X.xe s:=by
  refine aV (j _ s _ H _ I h) ?_;rintro w s1⟨y,Q,E,F,G⟩;refine aV (n _ _ _ _ v y u w _ E r F G) ?_;rintro z s2⟨R,J,K,r2,L⟩;exact LS K g hi d r2 (λS M=>⟨_,J,M,L⟩) o
 obtain⟨a,hm⟩|⟨a,c,O,P⟩:=l
 .exact wpAny_loadName_local I.ok.kind a hn hm go
 obtain a|a:=a
 .exact wpAny_loadName_cell I.ok.kind a O P go
 obtain k|k:=d
 .have:X.env.scope.names.lookup x=a_ .free:=a;rw[k]at this;cases this
 .have:X.env.scope.names.lookup x=a_ .free:=a;rw[k]at this;cases this
def alF(a b c:TE)(d:V->V->Hp->VK->Prop)(e:A6)(f:Dv):TS:=λD σ H=>a σ H λo g=>b σ g λi h=>d o i h λx j=>c σ j λy k=>e x y k λz l=>f o i z l λm=>D.nx σ m
def oI(X:Cx)(t:V->V->Hp->VK->Prop):Prop:=
 ∀(p_:List (e_×d5))(s:g_)(σ:St)(H:Hp)(o i:V)(ov a:f_)(Q:VK),df X p_ σ H s->dn o ov->dn i a->t o i H Q->
  bt (bv X.prog X.w) X.A (getItem ov a) (EP X p_ σ Q) X.xe s
def ah9{b:V->V->Hp->VK->Prop}{c:A6}{d:Dv}{f:Operator}(j:PE X o to)(hi:PE X i ti)(k:oI X b)(l:PE X e te)(m:Q9 X f c)(n:Qx X d)
  (ha:∀ov a new,augStore i ov a new=(do holding [new,ov,a] (setItem ov a new);release [new,ov,a] [];pure .next):=by intros;rfl):PS X (.AugAssign (.Subscript o i HE) f e pos) (alF to ti te b c d):=by
 intro p_ s σ H D I h;refine wpAny_AugAssign_SubscriptAny (aV (j _ s _ H _ I h) ?_) ha;rintro ov s1⟨J,K,p,g,q⟩;refine aV (hi _ _ _ _ _ p q) ?_;rintro a s2⟨L,M,r,r2,t⟩;refine aV (k _ _ _ _ _ _ _ _ _ r g r2 t) ?_;rintro N O⟨P,Q,u,r3,w⟩;refine aV (l _ _ _ _ _ u w) ?_;rintro v R⟨S,T,x,y,z⟩;refine aV (m _ _ _ _ _ _ _ v _ x r3 y z) ?_;rintro new U⟨W,Y,A,B,C⟩;refine aV (n _ _ _ _ _ _ _ _ _ _ _ A g r2 B C) ?_;rintro _ Z⟨E,F,G⟩;exact⟨σ,E,F,G⟩
def ipI(f:Int->Int->Int):A6:=λx y H Q=>∃i j,x=.int i/\y=.int j/\Q (.int<|f i j) H
def YH:Q9 X .Add (ipI λi j=>i+j):=by
 intro p_ s σ H x y v u Q I a r2 h;obtain⟨i,j,b,c,q⟩:=h;subst b;subst c;obtain⟨t,rfl⟩:=a;obtain⟨t',rfl⟩:=r2;exact iadd_int ⟨.int _,H,I.tok _,⟨_,xz⟩,q⟩
end
section
variable{X:Cx}{pos:Pos}
def X1(c:TT)(f:TS):TS:=λD σ H=>∃W:Nat->St->Hp->Prop,(∃m,W m σ H)/\∀m σ H,W m σ H->
 c σ H λb a=>if b=c_ then ∃N:St->Hp->Prop,(∀d H',N d H'->∃e,e<m/\W e d H')/\f {D with nx:=N,ct:=N,bk:=D.nx} σ a else D.nx σ a
def Wj{l:List bx}(m:i8 (bv X.prog X.w) X.A X.env X.xe)(r:PT X c tc)(t:fD X l tb):PS X (.While c l [] pos) (X1 tc tb):=by
 intro p_ s σ H D I h;obtain⟨W,⟨u,w0⟩,turn⟩:=h;refine wpAny_While<|codeAny_whileLoop (λn s'=>∃o H',df X p_ o H' s'/\W n o H') ?_ u ⟨σ,H,I,w0⟩;rintro n s1 ⟨x,B,y,w1⟩;refine zG m<|aV (r _ _ _ _ _ y<|turn n _ _ w1) ?_;rintro b s2⟨z,p,e⟩;rcases b with _|_
 ·rw[eN dF];exact E' ⟨x,z,p,e⟩
 obtain⟨N,q,e⟩:=e;rw[eT rfl];refine zG m (aV (t _ _ _ _ _ p e) λf C g=>?_);cases f with
 | next=>
  obtain⟨a,d,i,j⟩:=g;obtain⟨k,hm,w3⟩:=q a d j;exact⟨k,hm,a,d,i,w3⟩
 | cont=>
  obtain⟨a,d,i,j⟩:=g;obtain⟨k,hm,w3⟩:=q a d j;exact⟨k,hm,a,d,i,w3⟩
 | brk=>exact g
 | ret v=>exact g
end
structure It where
 go:Nat->Hp->Prop
 we:Nat->Hp->V->Hp->Prop
 stop:Nat->Hp->Prop
def ju(X:Cx)(p_:List (e_×d5))(H:Hp)(b:e_):Prop:=
 H b=b_/\b≠X.env.locals/\b∉X.fs/\(b∈X.ex\/X.s₀.zS<=b)/\(∀x c,X.env.cells.lookup x=a_ c->c≠b)/\∀p∈X.pn++p_,p.1≠b
def df.jI{X:Cx}(I:df X p_ σ H s)(a:s.zS<=b)(hn:H' b=b_):ju X p_ H' b:=by
 refine⟨hn,vi<|ic I.lt a,I.aak a,.inr<|dq I.sz a,λx c e z=>?_,λp d z=>?_⟩
 .obtain⟨v,q⟩:=I.cell x c e;exact f' (ic q.lt<|by rw[z];exact a)<|lQ _
 exact f' (ic (bY (I.pin p d).1)<|by rw[z];exact a)<|lQ _
structure Turn(P:k_)(w:j_)(K:u_)(tg:c0)(J:It)(fp:List e_)(it:e_)(tn:Nat->i_->Prop):Prop where
 mem:it∈fp
 obj:∀i h,tn i h->∀b∈fp,∃o,h.get? b=a_ o/\∀v,o.data≠.cell v
 keep:∀i h h',tn i h->(∀b∈fp,∀o,h.get? b=a_ o->h'.get? b=a_ o)->tn i h'
 item:∀(X:Cx),X.prog=P->X.w=w->X.K=K->X.calm=c_->∀(i:Nat)(p_:List (e_×d5))(s:g_)(σ:St)(H:Hp)(E:f_->g_->Prop),df X p_ σ H s->(∀b∈fp,ju X p_ H b)->tn i s.heap->J.go i H->
  bt (bv P w) X.A (pyNext (.ref it)) (λr s1=>∃u,r=a_ u/\
   bt (bv P w) X.A (Kd tg (.ref it) u) (λ_ s2=>∃x H',df X p_ σ H' s2/\dn x u/\J.we i H x H'/\tn (i+1) s2.heap/\∀b∈fp,H' b=b_) E s1) E s
 done:∀(X:Cx),X.prog=P->X.w=w->X.K=K->X.calm=c_->∀(i:Nat)(p_:List (e_×d5))(s:g_)(σ:St)(H:Hp)(E:f_->g_->Prop),df X p_ σ H s->(∀b∈fp,ju X p_ H b)->tn i s.heap->J.stop i H->
  bt (bv P w) X.A (pyNext<|.ref it) (λr s1=>r=b_/\df X p_ σ H s1) E s
 self:∀(A:h_)(i:Nat)(s:g_)(Q:f_->g_->Prop)(E:f_->g_->Prop),tn i s.heap->Q (.ref it) s->bt (bv P w) A (pyIter<|.ref it) Q E s
abbrev TI:=St->Hp->(It->Hp->Prop)->Prop
def rp(X:Cx)(p_:List (e_×d5))(σ:St)(tg:c0)(R:It->Hp->Prop)(a:f_)(s2:g_):Prop:=
 ∃(it:e_)(fp:List e_)(tn:Nat->i_->Prop)(J:It)(H':Hp),a=.ref it/\df X p_ σ H' s2/\Turn X.prog X.w X.K tg J fp it tn/\tn 0 s2.heap/\(∀b∈fp,ju X p_ H' b)/\R J H'
def PI(X:Cx)(tg a:c0)(wi:TI):Prop:=
 ∀(p_:List (e_×d5))(s:g_)(σ:St)(H:Hp)(R:It->Hp->Prop),df X p_ σ H s->wi σ H R->
  bt (bv X.prog X.w) X.A (eval a X.env) (λv s1=>bt (bv X.prog X.w) X.A (pyIter v) (rp X p_ σ tg R) X.xe s1) X.xe s
def Po{M:d7}{n:String}{vs:Array f_}{Q:Unit->g_->Prop}(b:s.heap.get? it=a_ o)(c:o.cls=.type n)(hd:o.data=.fields vs)(hn:["enumerate","zip","dict_itemiterator","dict_reverseitemiterator","odict_iterator","itertools.zip_longest","itertools.pairwise"].contains n=d_)(a:Q () s):bt M A (Kd tg (.ref it) u) Q E s:=by
 unfold Kd
 cases tg <;> first
  | exact aP a
  | (cases u <;> first
    | exact aP a
    | (refine ak (La b ?_);rw[c,hd];show bt M A (if (["enumerate","zip","dict_itemiterator","dict_reverseitemiterator","odict_iterator","itertools.zip_longest","itertools.pairwise"].contains n&&vs[0]? == a_ (cP _))=c_ then _ else _) Q E s;rw[eN (by intro h;rw[hn,xy]at h;cases h)];exact aP a))
noncomputable def D3(K:u_)(a:e_):It:=
 ⟨λi H=>∃xs x,ag K H a xs/\xs[i]?=a_ x,λi H x H'=>H'=H/\∀xs,ag K H a xs->xs[i]?=a_ x,λi H=>∃xs,ag K H a xs/\xs.length<=i⟩
noncomputable def Rc(K:u_)(a:e_):It:=
 ⟨λi H=>∃xs x,aq K H a xs/\xs[i]?=a_ x,λi H x H'=>H'=H/\∀xs,aq K H a xs->xs[i]?=a_ x,λi H=>∃xs,aq K H a xs/\xs.length<=i⟩
def yP(lo:Int)(n:Nat):It:=⟨λi _=>i<n,λi H x H'=>H'=H/\x=.int (lo+i),λi _=>n<=i⟩
def aen{P:k_}{w:j_}{K:u_}(a it:e_):Turn P w K tg (D3 K a) [it] it (λi h=>h.IsListIter it a i) where
 mem:=by simp
 obj:=λi h st b f=>by
  have e:b=it:=by simpa using f
  subst e;obtain⟨o,e,c,d⟩:=st;exact⟨o,e,λv z=>by rw[d]at z;cases z⟩
 keep:=λi h h' st k=>st.at λo e=>k it (by simp) o e
 item:=by
  intro X l hw m D i p_ s σ H E I g st n;subst l hw m;obtain⟨xs,x,j,q⟩:=n;obtain⟨G,r,p,J⟩:=I.list j;obtain⟨u,L,M⟩:=r.get q;obtain⟨t,y,N,A,B,C⟩:=g it (by simp);refine wpAny_pyNext_list_item st p.isList (x:=u) (by simpa using L) λh' F O=>?_;have Q:df X p_ σ H {s with heap:=h'}:=I.turned (t':=s.toks) (λb o f e=>(O.2 b f).gw e) t y A B C;obtain⟨o,e,c,d⟩:=id F;exact⟨u,xz,Po (s:={s with heap:=h'}) e c d qc ⟨x,H,Q,M,⟨xz,λys R=>by rw[I.Wv R j];exact q⟩,F,λb f=>(g b f).1⟩⟩
 done:=by
  intro X l hw m D i p_ s σ H E I g st n;subst l hw m;obtain⟨xs,j,q⟩:=n;obtain⟨G,r,p,J⟩:=I.list j;obtain⟨t,y,N,A,B,C⟩:=g it (by simp);have T:=r.length;exact wpAny_pyNext_list_end (I.ok.hd D) st p.isList (by simp;omega) λh' S=>⟨xz,I.turned (t':=s.toks) (λb o f e=>S b o f e) t y A B C⟩
 self:=λ_ _ _ _ _ st h=>wpAny_pyIter_listiter st h
def adA{P:k_}{w:j_}{K:u_}(a it:e_):Turn P w K tg (Rc K a) [it] it (λi h=>h.IsTupleIter it a i) where
 mem:=by simp
 obj:=λi h st b f=>by
  have e:b=it:=by simpa using f
  subst e;obtain⟨o,e,c,d⟩:=st;exact⟨o,e,λv z=>by rw[d]at z;cases z⟩
 keep:=λi h h' st k=>st.at λo e=>k it (by simp) o e
 item:=by
  intro X l hw m F i p_ s σ H E I g st n;subst l hw m;obtain⟨xs,x,j,q⟩:=n;obtain⟨r,t,p,J⟩:=I.tuple j;obtain⟨u,L,M⟩:=t.get q;obtain⟨y,A,N,B,C,D⟩:=g it (by simp);refine wpAny_pyNext_tuple_item st (show s.heap.IsTuple a r.toArray from p) (x:=u) (by simpa using L) λh' G O=>?_;have Q:df X p_ σ H {s with heap:=h'}:=I.turned (t':=s.toks) (λb o f e=>(O.2 b f).gw e) y A B C D;obtain⟨o,e,c,d⟩:=id G;exact⟨u,xz,Po (s:={s with heap:=h'}) e c d qc ⟨x,H,Q,M,⟨xz,λys R=>by rw[I.Vb R j];exact q⟩,G,λb f=>(g b f).1⟩⟩
 done:=by
  intro X l hw m F i p_ s σ H E I g st n;subst l hw m;obtain⟨xs,j,q⟩:=n;obtain⟨r,t,p,J⟩:=I.tuple j;obtain⟨y,A,N,B,C,D⟩:=g it (by simp);have T:=t.length;exact wpAny_pyNext_tuple_end (I.ok.hd F) st (show s.heap.IsTuple a r.toArray from p) (by simp;omega) λh' S=>⟨xz,I.turned (t':=s.toks) (λb o f e=>S b o f e) y A B C D⟩
 self:=λ_ _ _ _ _ st h=>wpAny_pyIter_tupleiter st h
def adB{P:k_}{w:j_}{K:u_}(it:e_)(lo:Int)(n:Nat):Turn P w K tg (yP lo n) [it] it (λi h=>IsRangeIter h it (lo+(i:Nat)*1) ((n:Int)-(i:Nat)) 1) where
 mem:=by simp
 obj:=λi h st b a=>by
  have e:b=it:=by simpa using a
  subst e
  exact⟨_,st,λv z=>by
   have x:Data.fields _=Data.cell v:=z;cases x⟩
 keep:=λi h h' st k=>k it (by simp) _ st
 item:=by
  intro X d hw f g i p_ s σ H E I c st j;subst d hw f;obtain⟨l,m,y,p,q,r⟩:=c it (by simp);refine (Walks.range (prog:=X.prog) (w:=X.w) (I.ok.hd g) it lo 1 n).item i s _ _ j st λv h' tk A u B=>?_;obtain⟨t,rfl⟩:=A;have C:df X p_ σ H {s with heap:=h',toks:=tk}:=I.turned (λb o a e=>B b o (by simpa using a) e) l m p q r;refine⟨_,xz,Po (s:={s with heap:=h',toks:=tk}) (n:="range_iterator") u xz xz qc ⟨.int<|lo+i,H,C,⟨t,?_⟩,⟨xz,xz⟩,u,λb a=>(c b a).1⟩⟩;rw[Int.mul_one]
 done:=by
  intro X d hw f g i p_ s σ H E I c st j;subst d hw f;obtain⟨l,m,y,p,q,r⟩:=c it (by simp);exact wpAny_pyNext_range_end (I.ok.hd g) st (by have:n<=i:=j;omega) λh' D=>⟨xz,I.turned (t':=s.toks) (λb o a e=>D b o a e) l m p q r⟩
 self:=λ_ _ _ _ _ st h=>wpAny_pyIter_rangeiter st h
section
variable{X:Cx}{tg:c0}
def amI(K:u_)(tl:TE):TI:=λσ H R=>tl σ H λx b=>∃a,x=.ref a/\(∃xs,ag K b a xs)/\R (D3 K a) b
def pd(K:u_)(tl:TE):TI:=λσ H R=>tl σ H λx b=>∃a,x=.ref a/\(∃xs,aq K b a xs)/\R (Rc K a) b
def lA(d:PE X l tl):PI X tg l (amI X.K tl):=by
 refine λp_ s σ H R I h=>aV (d _ s _ H _ I h) ?_;rintro v s1⟨x,f,c,g,i⟩;obtain⟨a,e,⟨xs,j⟩,q⟩:=i;subst e;cases g;obtain⟨m,n,p,r⟩:=c.list j;refine zD p.isList ⟨s1.zS,[s1.zS],_,_,f,xz,c.kept λb o e=>bU _ e,aen a _,⟨_,eU _ xz,xz,xz⟩,λb k=>?_,q⟩;have e:b=s1.zS:=by simpa using k
 subst e;exact c.jI (aw _)<|c.aW.fresh<|aw _
def nZ(d:PE X l tl):PI X tg l (pd X.K tl):=by
 refine λp_ s σ H R I h=>aV (d _ s _ H _ I h) ?_;rintro v s1⟨x,f,c,g,i⟩;obtain⟨a,e,⟨xs,j⟩,q⟩:=i;subst e;cases g;obtain⟨m,n,p,r⟩:=c.tuple j;refine wpAny_pyIter_tuple p ⟨s1.zS,[s1.zS],_,_,f,xz,c.kept λb o e=>bU _ e,adA a _,⟨_,eU _ xz,xz,xz⟩,λb k=>?_,q⟩;have e:b=s1.zS:=by simpa using k
 subst e;exact c.jI (aw _)<|c.aW.fresh<|aw _
def afQ{R:It->Hp->Prop}{lo hi:Int}{t u v:Tok}{tk:Nat}(I:df X p_ σ H s)(h1:-(2^62)<=lo)(h2:lo<2^62)(h3:-(2^62)<=hi)(h4:hi<2^62)(q:R (yP lo (hi-lo).toNat) H):bt (bv X.prog X.w) X.A (pyIter<|.ref s.zS) (rp X p_ σ tg R) E {s with heap:=s.heap.push {cls:=.type "range",data:=.fields #[.int lo t,.int hi u,.int 1 v]},toks:=tk}:=by
 refine wpAny_pyIter_range (IsRange.new ..) (small_one h1 h2 h3 h4) ?_;have a:df X _ _ H {s with heap:=s.heap.push {cls:=.type "range",data:=.fields #[.int lo t,.int hi u,.int 1 v]},toks:=tk}:=I.kept λb o e=>bU _ e;refine⟨(s.heap.push {cls:=.type _,data:=.fields #[.int _ t,.int _ u,.int 1 v]}).zH,[(s.heap.push {cls:=.type _,data:=.fields #[.int _ t,.int _ u,.int 1 v]}).zH],_,_,H,xz,a.kept λb o e=>bU _ e,adB _ _ (hi-lo).toNat,?_,λb c=>?_,q⟩
 .have d:lo+((0:Nat):Int)*1=lo:=by simp
  have f:(((hi-lo).toNat:Nat):Int)-((0:Nat):Int)=Builtin.Range.rangeSize lo hi 1:=by rw[rangeSize_one];split <;> omega
  rw[d,f];exact eU _ xz
 have e:b=(s.heap.push {cls:=.type "range",data:=.fields #[.int lo t,.int hi u,.int 1 v]}).zH:=by simpa using c
 subst e;exact a.jI (aw _)<|a.aW.fresh<|aw _
def amH(a:TA):TI:=λσ H R=>a σ H λvs b=>∃j:Int,vs=[.int j]/\-(2^62)<=j/\j<2^62/\R (yP 0 j.toNat) b
def lu(c:Gl X "range")(hm:X.mg "range"=b_)(ha:PA X [a] ta)(d:autoParam (cx [a] X.env=[(d_,eval a X.env)]) am):PI X tg (.Call (.Name "range" p) [a] [] pos) (amH ta):=by
 refine λp_ s σ H R I h=>Call_<|x9 I c hm boot_range<|JE (aV (ha _ _ s _ H _ I h) ?_) d xz;rintro us s1⟨vs,l,f,g,b⟩;obtain⟨j,e,b,i,q⟩:=b;subst e;cases g with
 | cons r k=>
  cases k;obtain⟨t,rfl⟩:=r;exact call_range_1<|afQ f om om b i (by simpa using q)
def aoq(wi:TI)(g:TG)(c:TS):TS:=λD σ H=>wi σ H λJ d=>∃W:Nat->Nat->St->Hp->Prop,(∃m,W 0 m σ d)/\∀i m σ H,W i m σ H->
 (J.stop i H/\D.nx σ H)\/(J.go i H/\∃N:St->Hp->Prop,(∀a H',N a H'->∃b,b<m/\W (i+1) b a H')/\∀x H',J.we i H x H'->g x σ H' λe f=>c {D with nx:=N,ct:=N,bk:=D.nx} e f)
def CK(fp:List e_)(h:i_):List (e_×d5):=fp.filterMap λb=>(h.get? b).map λo=>(b,o)
def zT{fp:List e_}(a:b∈fp)(e:h.get? b=a_ o):(b,o)∈CK fp h:=JS.mpr ⟨b,a,by rw[e];rfl⟩
def Vs{fp:List e_}{p:e_×d5}(a:p∈CK fp h):p.1∈fp/\h.get? p.1=a_ p.2:=by
 obtain⟨b,c,e⟩:=JS.mp a;rcases q:h.get? b with _|o
 ·rw[q]at e;cases e
 rw[q]at e;have e':=c8 e;subst e';exact⟨c,q⟩
def df.pinned{fp:List e_}(I:df X p_ σ H s)(c:∀b∈fp,ju X p_ H b)(f:∀b∈fp,∃o,s.heap.get? b=a_ o/\∀v,o.data≠.cell v):df X (p_++CK fp s.heap) σ H s:=
 I.vz λp g=>(iC.mp g).elim (λz=>I.pin p<|gu _ z) λz=>by
  obtain⟨a,e⟩:=Vs z;obtain⟨h,i,j,_⟩:=c p.1 a;obtain⟨o,e',d⟩:=f p.1 a;rw[e]at e';cases e';exact⟨e,h,i,j,d⟩
def df.FP(I:df X (p_++pl) σ H s):df X p_ σ H s:=I.vz λp a=>I.pin p<|gu _<|qg _ a
def jV{E:List bx}{wi:TI}(p:i8 (bv X.prog X.w) X.A X.env X.xe)(F:X.calm=c_)(hi:PI X tg iter wi)(R:PG X tg g)(a:fD X E tb)
  (S:∀x,Tw iter X.env x=pure x:=by intro _;rfl):PS X (.For tg iter E [] pos) (aoq wi g tb):=by
 refine λp_ s σ H D I h=>wpAny_For (aV (hi _ s _ H _ I h) λv s1 h1=>aV h1 λIZ s2 h2=>?_) S;obtain⟨it,fp,tn,J,U,e,V,T,Y,G,W,⟨Z,w0⟩,turn⟩:=h2;subst e;have y:∀{H':Hp},(∀b∈fp,H' b=b_)->∀b∈fp,ju X _ _ b:=λhn b a=>⟨hn b a,(G b a).2⟩;refine codeAny_forLoop_any (λn s'=>∃i q H',df X p_ q H' s'/\tn i s'.heap/\(∀b∈fp,H' b=b_)/\W i n q H') ?_ Z ⟨0,σ,U,V,Y,λb a=>(G b a).1,w0⟩;rintro n s3 ⟨i,K,L,M,O,P,w3⟩;obtain⟨stop,qn⟩|⟨go,N,hN,step⟩:=turn i n K L w3
 .refine zG p (aV (T.done X xz xz xz F i _ _ _ _ _ M (y P) O stop) ?_);rintro r s4⟨z,I4⟩;subst z;exact E' ⟨K,L,I4,qn⟩
 refine zG p (aV (T.item X xz xz xz F i _ _ _ _ _ M (y P) O go) ?_);rintro r s4⟨u,z,h4⟩;subst z;refine zG p (aV h4 ?_);rintro _ s5⟨x,H5,I5,r5,y5,B,SM⟩;have SV:=I5.pinned (y SM)<|T.obj _ _ B;refine zG p (aV (R _ _ _ _ x u _ SV r5<|step x _ y5) ?_);rintro _ s6⟨σ6,H6,I6,q6⟩;refine zG p (aV (a _ _ _ _ _ I6 q6) λf C l=>?_)
 have Q:∀{c:St}{j:Hp},df X (p_++CK fp s5.heap) c j C->N c j->∃m,m<n/\∃i q H',df X p_ q H' C/\tn i C.heap/\(∀b∈fp,H' b=b_)/\W i m q H':=λ{c j}k t=>by
  obtain⟨m',hm,w7⟩:=hN c j t;refine⟨m',hm,i+1,c,j,k.FP,T.keep _ _ _ B λb a o e=>(k.pin _<|gu _<|gu _<|zT a e).1,λb a=>?_,w7⟩;obtain⟨o,e,d⟩:=T.obj _ _ B b a;exact(k.pin _<|gu _<|gu _<|zT a e).2.1
 cases f with
 | next=>obtain⟨c,j,k,t⟩:=l;exact Q k t
 | cont=>obtain⟨c,j,k,t⟩:=l;exact Q k t
 | brk=>obtain⟨c,j,k,l⟩:=l;exact⟨c,j,k.FP,l⟩
 | ret v=>obtain⟨x7,c,j,k,r7,l⟩:=l;exact⟨x7,c,j,k.FP,r7,l⟩
end
def Mz{K:u_}{a:e_}{xs:List V}{g:TG}{f:TS}{D:Ends}{σ:St}{H:Hp}(Pv:Nat->St->Hp->Prop)(j:Pv 0 σ H)(k:∀i σ H,i<=xs.length->Pv i σ H->ag K H a xs)(l:∀i x σ H,xs[i]?=a_ x->Pv i σ H->g x σ H λb c=>f {D with nx:=Pv<|i+1,ct:=Pv<|i+1,bk:=D.nx} b c)(hd:∀σ H,Pv xs.length σ H->D.nx σ H):∃W:Nat->Nat->St->Hp->Prop,(∃m,W 0 m σ H)/\∀i m σ H,W i m σ H->((D3 K a).stop i H/\D.nx σ H)\/((D3 K a).go i H/\∃N:St->Hp->Prop,(∀d H',N d H'->∃h,h<m/\W (i+1) h d H')/\∀x H',(D3 K a).we i H x H'->g x σ H' λb c=>f {D with nx:=N,ct:=N,bk:=D.nx} b c):=by
 refine⟨λi m σ H=>m=xs.length-i/\i<=xs.length/\Pv i σ H,⟨xs.length,by simp,bg _,j⟩,?_⟩;rintro i m σ H ⟨rfl,hi,p⟩;have q:=k i _ H hi p
 by_cases n:i<xs.length
 .refine .inr ⟨⟨xs,xs[i],q,by simp ⟩,Pv<|i+1,λd H' o=>⟨xs.length-(i+1),om,xz,n,o⟩,λx H' y=>?_⟩;obtain⟨e,y⟩:=y;subst e;exact l i x _ _ (y _ q) p
 have e:i=xs.length:=om;subst e;exact .inl ⟨⟨xs,q,aw _⟩,hd _ H p⟩
def B8{lo:Int}{n:Nat}{g:TG}{f:TS}{D:Ends}{σ:St}{H:Hp}(Pv:Nat->St->Hp->Prop)(j:Pv 0 σ H)(k:∀i σ H,i<n->Pv i σ H->g (.int<|lo+i) σ H λa b=>f {D with nx:=Pv<|i+1,ct:=Pv<|i+1,bk:=D.nx} a b)(hd:∀σ H,Pv n σ H->D.nx σ H):∃W:Nat->Nat->St->Hp->Prop,(∃m,W 0 m σ H)/\∀i m σ H,W i m σ H->((yP lo n).stop i H/\D.nx σ H)\/((yP lo n).go i H/\∃N:St->Hp->Prop,(∀c H',N c H'->∃h,h<m/\W (i+1) h c H')/\∀x H',(yP lo n).we i H x H'->g x σ H' λa b=>f {D with nx:=N,ct:=N,bk:=D.nx} a b):=by
 refine⟨λi m σ H=>m=n-i/\i<=n/\Pv i σ H,⟨n,by simp,bg _,j⟩,?_⟩;rintro i m σ H ⟨rfl,hi,p⟩
 by_cases d:i<n
 .refine .inr ⟨d,Pv<|i+1,λc H' l=>⟨n-(i+1),om,xz,d,l⟩,λx H' y=>?_⟩;obtain⟨e,y⟩:=y;subst e y;exact k i _ _ d p
 have e:i=n:=om;subst e;exact .inl ⟨aw _,hd _ H p⟩
def afv(Pv:St->Hp->Prop)(e:St->Hp->Nat)(g:Pv σ H)(h:∀σ H,Pv σ H->c σ H λb a=>if b=c_ then tb {D with nx:=λd H'=>Pv d H'/\e d H' < e σ H,ct:=λd H'=>Pv d H'/\e d H' < e σ H,bk:=D.nx} σ a else D.nx σ a)(mono:∀σ H Q f,(∀b a,Q b a->f b a)->c σ H Q->c σ H f):X1 c tb D σ H:=by
 refine⟨λm σ H=>m=e σ H/\Pv σ H,⟨_,xz,g⟩,?_⟩;rintro m σ H ⟨rfl,p⟩;refine mono _ H _ _ (λb a q=>?_)<|h _ H p;rcases b with _|_;exact q;refine⟨_,?_,q⟩;rintro d H'⟨i,l⟩;exact⟨_,l,xz,i⟩
abbrev R2:=V->V->Hp->VK->Prop
def dP(X:Cx)(f:f_->f_->Sem f_)(r:R2):Prop:=
 ∀(p_:List (e_×d5))(s:g_)(σ:St)(H:Hp)(x y:V)(v u:f_)(Q:VK),df X p_ σ H s->dn x v->dn y u->r x y H Q->
  bt (bv X.prog X.w) X.A (f v u) (EP X p_ σ Q) X.xe s
def Q8(X:Cx)(f:f_->Sem f_)(r:V->Hp->VK->Prop):Prop:=
 ∀(p_:List (e_×d5))(s:g_)(σ:St)(H:Hp)(x:V)(v:f_)(Q:VK),df X p_ σ H s->dn x v->r x H Q->
  bt (bv X.prog X.w) X.A (f v) (EP X p_ σ Q) X.xe s
def jt(X:Cx)(f:f_)(r:List V->Hp->VK->Prop):Prop:=
 ∀(p_:List (e_×d5))(s:g_)(σ:St)(H:Hp)(xs:List V)(us:List f_)(Q:VK),df X p_ σ H s->dt xs us->r xs H Q->
  bt (bv X.prog X.w) X.A (call f us) (EP X p_ σ Q) X.xe s
abbrev AW(r:R2)(ta tb:TE):TE:=λσ H Q=>ta σ H λx H1=>tb σ H1 λy H2=>r x y H2 Q
abbrev tUn(r:V->Hp->VK->Prop)(ta:TE):TE:=λσ H Q=>ta σ H λx H1=>r x H1 Q
def rI(C:Int->Int->Prop)(g:Int->Int->V):R2:=λx y H Q=>∃i j,x=.int i/\y=.int j/\C i j/\Q (g i j) H
def uy(g:Int->Int->V):R2:=λx y H Q=>∃i j,x=.int i/\y=.int j/\Q (g i j) H
def rU(g:Int->V):V->Hp->VK->Prop:=λx H Q=>∃i,x=.int i/\Q (g i) H
section
variable{X:Cx}{a b c:c0}{ta tb tc:TE}{pos:Pos}
def Qu(ha:PE X a ta)(g:PE X b tb){R:V->V->Hp->Prop}(I:df X p_ σ H s)(h:ta σ H λx e=>tb σ e λy d=>R x y d){f:f_->f_->Sem f_}(i:∀v u s2 x y d,df X p_ σ d s2->dn x v->dn y u->R x y d->bt (bv X.prog X.w) X.A (f v u) Q X.xe s2):bt (bv X.prog X.w) X.A (eval a X.env) (λv j=>bt (bv X.prog X.w) X.A (eval b X.env) (λu k=>bt (bv X.prog X.w) X.A (f v u) Q X.xe k) X.xe j) X.xe s:=by
 refine aV (ha _ s _ H _ I h) ?_;rintro v s1⟨x,e,l,m,n⟩;refine aV (g _ _ _ _ _ l n) ?_;rintro u s2⟨y,d,o,r2,p⟩;exact i v u _ x y _ o m r2 p
def aS{d:Operator}{r:R2}(e:dP X (nQ d) r)(ha:PE X a ta)(f:PE X b tb):PE X (.BinOp a d b pos) (AW r ta tb):=by
 exact λp_ s σ H Q I h=>wpAny_BinOp (Qu ha f I h λv u s2 x y k g i j q=>e _ _ _ _ x y v u Q g i j q)
def Zh{d:UnaryOp}{r:V->Hp->VK->Prop}(e:Q8 X (unaryOp d) r)(ha:PE X a ta):PE X (.UnaryOp d a pos) (tUn r ta):=by
 refine λp_ s σ H Q I h=>UnaryOp_<|aV (ha _ s _ H _ I h) ?_;rintro v s1⟨x,j,f,g,i⟩;exact e _ _ _ _ x v Q f g i
def yC{f:f_->f_->Sem f_}{C:Int->Int->Prop}{g:Int->Int->Int}(d:∀(i j:Int)(t u:Tok)(s:g_)(Q:f_->g_->Prop)(E:f_->g_->Prop),C i j->Q (.int (g i j) s.toks) {s with toks:=s.toks+1}->bt (bv X.prog X.w) X.A (f (.int i t)<|.int j u) Q E s):dP X f (rI C λi j=>.int<|g i j):=by
 intro p_ s σ H x y v u Q I e k h;obtain⟨i,j,rfl,rfl,l,q⟩:=h;obtain⟨t,rfl⟩:=e;obtain⟨t',rfl⟩:=k;exact d i j t _ s _ _ l ⟨.int<|g i j,H,I.tok _,⟨_,xz⟩,q⟩
def Hz{f:f_->f_->Sem f_}{g:Int->Int->Int}(d:∀(i j:Int)(t u:Tok)(s:g_)(Q:f_->g_->Prop)(E:f_->g_->Prop),Q (.int (g i j) s.toks) {s with toks:=s.toks+1}->bt (bv X.prog X.w) X.A (f (.int i t)<|.int j u) Q E s):dP X f (uy λi j=>.int<|g i j):=by
 intro p_ s σ H x y v u Q I e k h;obtain⟨i,j,rfl,rfl,q⟩:=h;obtain⟨t,rfl⟩:=e;obtain⟨t',rfl⟩:=k;exact d i j t _ s _ _ ⟨.int<|g i j,H,I.tok _,⟨_,xz⟩,q⟩
def Qj{f:f_->f_->Sem f_}{g:Int->Int->Bool}(d:∀(i j:Int)(t u:Tok)(s:g_)(Q:f_->g_->Prop)(E:f_->g_->Prop),Q (.bool<|g i j) s->bt (bv X.prog X.w) X.A (f (.int i t)<|.int j u) Q E s):dP X f (uy λi j=>.bl<|g i j):=by
 intro p_ s σ H x y v u Q I e k h;obtain⟨i,j,rfl,rfl,q⟩:=h;obtain⟨t,rfl⟩:=e;obtain⟨t',rfl⟩:=k;exact d i j t _ s _ _ ⟨.bl<|g i j,H,I,xz,q⟩
def aoX(i j:Int):Prop:=0<j/\j<1073741824
def rh(i j:Int):Prop:=0<=j/\j<=1000000/\i.natAbs<2^64
def Qy(i j:Int):Prop:=(-(2^64)<i/\i<2^64)\/(-(2^64)<j/\j<2^64)
def Qy.ok{i j:Int}(h:Qy i j):IntMulOk i j:=by
 obtain⟨h1,h2⟩|⟨h1,h2⟩:=h
 .exact .of_left (intBits_le_64 h1 h2)
 exact .of_right (intBits_le_64 h1 h2)
def adz(k:Nat):(0:Int)<=2^k:=by
 rw[two_pow_cast];exact xt _
def gE:dP X (nQ .Add) (uy λi j=>.int<|i+j):=Hz λ_ _ _ _ _ _ _ q=>add_int q
def Oe:dP X (nQ .Sub) (uy λi j=>.int<|i-j):=Hz λ_ _ _ _ _ _ _ q=>sub_int q
def vJ:dP X (nQ .Mult) (rI Qy λi j=>.int<|i*j):=yC λ_ _ _ _ _ _ _ d q=>mul_int q d.ok
def i9:dP X (nQ .FloorDiv) (rI aoX λi j=>.int<|i/j):=yC λi j _ _ _ _ _ d q=>by
 have h1:=d.1;have h2:=d.2;exact floordiv_int om (by rw[abh i om];exact q)<|.inl<|PyProof.noPylong_small om
def eh:dP X (nQ .Mod) (rI (λ_ j=>0<j) λi j=>.int<|i%j):=yC λi j _ _ _ _ _ d q=>by
 exact mod_int' om (by rw[Int.fmod_eq_emod_of_nonneg i om];exact q)
def GC:dP X (nQ .Pow) (rI rh λi j=>.int<|i^j.toNat):=yC λ_ _ _ _ _ _ _ d q=>pow_int_small d.1 d.2.1 d.2.2 q
def Of:dP X (nQ .LShift) (rI rh λi j=>.int<|i*2^j.toNat):=yC λ_ _ _ _ _ _ _ d q=>lshift_int_small d.1 d.2.1 d.2.2 q
def ajS:dP X (nQ .RShift) (rI (λ_ j=>0<=j) λi j=>.int<|i/2^j.toNat):=yC λi j _ _ _ _ _ d q=>
 rshift_int d (by rw[abh i<|adz _];exact q)
def Yo:dP X (nQ .BitAnd) (uy λi j=>.int<|Fi i j):=Hz λ_ _ _ _ _ _ _ q=>and_int q
def Zi:dP X (nQ .BitOr) (uy λi j=>.int<|Ko i j):=Hz λ_ _ _ _ _ _ _ q=>or_int q
def unI{f:f_->Sem f_}{g:Int->Int}(d:∀(i:Int)(t:Tok)(s:g_)(Q:f_->g_->Prop)(E:f_->g_->Prop),Q (.int (g i) s.toks) {s with toks:=s.toks+1}->bt (bv X.prog X.w) X.A (f<|.int i t) Q E s):Q8 X f (rU λi=>.int<|g i):=by
 intro p_ s σ H x v Q I e h;obtain⟨i,rfl,q⟩:=h;obtain⟨t,rfl⟩:=e;exact d i t s _ _ ⟨.int<|g i,H,I.tok _,⟨_,xz⟩,q⟩
def XZ:Q8 X (unaryOp .USub) (rU λi=>.int<|-i):=unI λ_ _ _ _ _ q=>neg_int q
end
noncomputable def P7:V->V->Bool
 | .aO,.aO=>c_ | .aO,.int _=>c_ | .int _,.aO=>c_ | .aO,.bl _=>c_ | .bl _,.aO=>c_ | .aO,.str _=>c_ | .str _,.aO=>c_
 | .int _,.int _=>c_ | .bl _,.bl _=>c_ | .str _,.str _=>c_ | .oF _,.oF _=>c_
 | .int _,.str _=>c_ | .str _,.int _=>c_ | .bl _,.str _=>c_ | .str _,.bl _=>c_
 | _,_=>d_
def rEq:R2:=λx y H Q=>P7 x y=c_/\Q (.bl<|decide<|x=y) H
def rNe:R2:=λx y H Q=>P7 x y=c_/\Q (.bl<|!decide (x=y)) H
def Gp{i j:Int}:decide (V.int i=V.int j)=(i==j):=by
 rw[Kh];simp
def YQ{i j:Bool}:decide (V.bl i=V.bl j)=(i==j):=by
 rw[Kh];simp
def XH:decide (V.str i=V.str j)=(i==j):=by
 rw[Kh];simp
def XI{i j:Array UInt8}:decide (V.oF i=V.oF j)=(i.toList==j.toList):=by
 rw[Kh];cases i;cases j;simp
section
variable{X:Cx}{a b c:c0}{ta tb tc:TE}{pos:Pos}
def eZ{k k':Bool}(I:df X p_ σ H s)(q:Q (.bl k) H)(e:k=k'):EP X p_ σ Q (.bool k') s:=by
 subst e;exact⟨.bl k,H,I,xz,q⟩
def dM:dP X (g6 .Eq) rEq:=by
 intro p_ s σ H x y v u Q I f d h;obtain⟨e,q⟩:=h;cases x with
 | aO=>
  cases f;cases y with
  | aO=>cases d;exact PySem.EqNone.eq_none_none<|eZ I q (by simp)
  | bl j=>cases d;exact PySem.EqNone.eq_none_bool<|eZ I q (by simp)
  | int j=>obtain⟨t',rfl⟩:=d;exact PySem.EqNone.eq_none_int<|eZ I q (by simp)
  | str j=>obtain⟨t',rfl⟩:=d;exact PySem.EqNone.eq_none_str<|eZ I q (by simp)
  | _=>exact f' e dF
 | bl i=>
  cases f;cases y with
  | aO=>cases d;exact PySem.EqNone.eq_bool_none<|eZ I q (by simp)
  | bl j=>cases d;exact eq_bool<|eZ I q YQ
  | str j=>obtain⟨t',rfl⟩:=d;exact PySem.EqMixed.eq_bool_str<|eZ I q (by simp)
  | _=>exact f' e dF
 | int i=>
  obtain⟨t,rfl⟩:=f;cases y with
  | aO=>cases d;exact PySem.EqNone.eq_int_none<|eZ I q (by simp)
  | int j=>obtain⟨t',rfl⟩:=d;exact eq_int<|eZ I q Gp
  | str j=>obtain⟨t',rfl⟩:=d;exact PySem.EqMixed.eq_int_str<|eZ I q (by simp)
  | _=>exact f' e dF
 | str i=>
  obtain⟨t,rfl⟩:=f;cases y with
  | aO=>cases d;exact PySem.EqNone.eq_str_none<|eZ I q (by simp)
  | bl j=>cases d;exact PySem.EqMixed.eq_str_bool<|eZ I q (by simp)
  | int j=>obtain⟨t',rfl⟩:=d;exact PySem.EqMixed.eq_str_int<|eZ I q (by simp)
  | str j=>obtain⟨t',rfl⟩:=d;exact eq_str<|eZ I q XH
  | _=>exact f' e dF
 | oF i=>
  obtain⟨t,rfl⟩:=f;cases y with
  | oF j=>obtain⟨t',rfl⟩:=d;exact W.eq_bytes<|eZ I q XI
  | _=>exact f' e dF
 | _=>cases y <;> exact f' (show d_=c_ from e) dF
def CZ:dP X (g6 .NotEq) rNe:=by
 intro p_ s σ H x y v u Q I f d h;obtain⟨e,q⟩:=h;cases x with
 | aO=>
  cases f;cases y with
  | aO=>cases d;exact PySem.EqNone.ne_none_none<|eZ I q (by simp)
  | bl j=>cases d;exact PySem.EqNone.ne_none_bool<|eZ I q (by simp)
  | int j=>obtain⟨t',rfl⟩:=d;exact PySem.EqNone.ne_none_int<|eZ I q (by simp)
  | str j=>obtain⟨t',rfl⟩:=d;exact PySem.EqNone.ne_none_str<|eZ I q (by simp)
  | _=>exact f' e dF
 | bl i=>
  cases f;cases y with
  | aO=>cases d;exact PySem.EqNone.ne_bool_none<|eZ I q (by simp)
  | bl j=>cases d;exact ne_bool<|eZ I q<|gv _ YQ
  | str j=>obtain⟨t',rfl⟩:=d;exact PySem.EqMixed.ne_bool_str<|eZ I q (by simp)
  | _=>exact f' e dF
 | int i=>
  obtain⟨t,rfl⟩:=f;cases y with
  | aO=>cases d;exact PySem.EqNone.ne_int_none<|eZ I q (by simp)
  | int j=>obtain⟨t',rfl⟩:=d;exact ne_int<|eZ I q<|gv _ Gp
  | str j=>obtain⟨t',rfl⟩:=d;exact PySem.EqMixed.ne_int_str<|eZ I q (by simp)
  | _=>exact f' e dF
 | str i=>
  obtain⟨t,rfl⟩:=f;cases y with
  | aO=>cases d;exact PySem.EqNone.ne_str_none<|eZ I q (by simp)
  | bl j=>cases d;exact PySem.EqMixed.ne_str_bool<|eZ I q (by simp)
  | int j=>obtain⟨t',rfl⟩:=d;exact PySem.EqMixed.ne_str_int<|eZ I q (by simp)
  | str j=>obtain⟨t',rfl⟩:=d;exact ne_str<|eZ I q<|gv _ XH
  | _=>exact f' e dF
 | oF i=>
  obtain⟨t,rfl⟩:=f;cases y with
  | oF j=>obtain⟨t',rfl⟩:=d;exact W.ne_bytes<|eZ I q<|gv _ XI
  | _=>exact f' e dF
 | _=>cases y <;> exact f' (show d_=c_ from e) dF
def vO:dP X (g6 .Lt) (uy λi j=>.bl<|decide<|i<j):=Qj λ_ _ _ _ _ _ _ q=>lt_int q
def C0:dP X (g6 .LtE) (uy λi j=>.bl<|decide<|i<=j):=Qj λ_ _ _ _ _ _ _ q=>le_int q
def Hf:dP X (g6 .Gt) (uy λi j=>.bl<|decide<|j<i):=Qj λ_ _ _ _ _ _ _ q=>gt_int q
def Ym:dP X (g6 .Is) (λx y H Q=>y=.aO/\Q (.bl<|decide<|x=.aO) H):=by
 intro p_ s σ H x y v u Q I d e h;obtain⟨rfl,q⟩:=h;cases e;refine is_none_gen<|eZ I q ?_
 cases x <;> first
  | (cases d;rfl)
  | (obtain⟨t,rfl⟩:=d;rfl)
def aib:dP X (g6 .IsNot) (λx y H Q=>y=.aO/\Q (.bl<|!decide (x=.aO)) H):=by
 intro p_ s σ H x y v u Q I d e h;obtain⟨rfl,q⟩:=h;cases e;refine isnot_none_gen<|eZ I q ?_
 cases x <;> first
  | (cases d;rfl)
  | (obtain⟨t,rfl⟩:=d;rfl)
def bR(b:c0){d:CmpOp}(h:autoParam (d≠.In) ap)(h2:autoParam (d≠.NotIn) ap):xA d b=false:=by
 have e:(d==CmpOp.In)=false:=by cases d <;> first | rfl | exact f' xz h
 have f:(d==CmpOp.NotIn)=false:=by cases d <;> first | rfl | exact f' xz h2
 cases b <;> simp[xA,e,f]
def nU{d:CmpOp}{r:R2}(e:dP X (g6 d) r)(ha:PE X a ta)(f:PE X b tb)(hm:xA d b=d_):PE X (.Compare a [d] [b] pos) (AW r ta tb):=by
 exact λp_ s σ H Q I h=>wpAny_Compare1 (Qu ha f I h λv u s2 x y k g i j q=>e _ _ _ _ x y v u Q g i j q) hm
abbrev Y6(t:TE):TT:=λσ H Q=>t σ H λx H'=>∃k,x=.bl k/\Q k H'
def cb{d:CmpOp}{r:R2}(f:dP X (g6 d) r)(ha:PE X a ta)(g:PE X b tb)(hm:xA d b=d_):PT X (.Compare a [d] [b] pos) (Y6<|AW r ta tb):=by
 intro p_ s σ H Q I h
 refine abC (aV (ha p_ s σ H _ I h) ?_) hm;rintro v s1⟨x,i,j,l,m⟩;refine aV (g p_ s1 σ i _ j m) ?_;rintro u s2⟨y,n,o,r2,p⟩;refine aV (f p_ s2 σ n x y v u _ o l r2 p) ?_;rintro c A⟨z,q,t,r3,k,e,w⟩
 subst e;cases r3;exact qh ⟨q,t,w⟩
def X2(r e:R2)(ta tb tc:TE):TE:=λσ H Q=>ta σ H λx f=>tb σ f λy g=>r x y g λz d=>∃k,z=.bl k/\
 (if k=c_ then tc σ d λh i=>e y h i Q else Q (.bl d_) d)
def Wl{f g:CmpOp}{r i:R2}(m:dP X (g6 f) r)(n:dP X (g6 g) i)(ha:PE X a ta)(o:PE X b tb)(p:PE X c tc)
  (hm:autoParam (lastMarks [f,g] [b,c]=false) aK):PE X (.Compare a [f,g] [b,c] pos) (X2 r i ta tb tc):=by
 intro p_ s σ H Q I h
 refine Compare_chain (aV (ha p_ s σ H _ I h) ?_) hm;rintro v s1⟨x,q,t,w,A⟩;refine chain_link<|aV (o p_ s1 σ q _ t A) ?_;rintro u s2⟨y,B,C,r2,D⟩;refine aV (m p_ s2 σ B x y v u _ C w r2 D) ?_;rintro d K⟨z,E,j,r3,k,e,l⟩
 subst e;cases r3;refine qh ?_;rcases k with _|_;exact ite_ff ⟨.bl _,E,j,xz,l⟩;refine ite_tt<|chain_last (aV (p _ _ _ _ _ j l) ?_);rintro L M⟨N,O,F,G,J⟩;exact n _ _ _ _ y _ u _ Q F r2 G J
def afV{f g:CmpOp}{r i:R2}(m:dP X (g6 f) r)(n:dP X (g6 g) i)(ha:PE X a ta)(o:PE X b tb)(p:PE X c tc)
  (hm:autoParam (lastMarks [f,g] [b,c]=false) aK):PT X (.Compare a [f,g] [b,c] pos) (Y6<|X2 r i ta tb tc):=by
 intro p_ s σ H Q I h
 refine isTrue_chain (aV (ha p_ s σ H _ I h) ?_) hm;rintro v s1⟨x,q,t,w,A⟩;refine test_link<|aV (o p_ s1 σ q _ t A) ?_;rintro u s2⟨y,B,C,r2,D⟩;refine aV (m p_ s2 σ B x y v u _ C w r2 D) ?_;rintro d R⟨z,E,j,r3,k,e,l⟩
 subst e;cases r3;refine qh ?_;rcases k with _|_
 ·obtain⟨k',e',F⟩:=l;cases e';exact ite_ff ⟨E,j,F⟩
 refine ite_tt<|test_last (aV (p _ _ _ _ _ j l) ?_);rintro S T⟨U,V,G,J,K⟩;refine aV (n _ _ _ _ y _ u _ _ G r2 J K) ?_;rintro d' W⟨Y,L,M,N,Z,O,P⟩;subst O;cases N;exact qh ⟨L,M,P⟩
def CN:(bc:Nat)<2^63:=by rw[gf];decide
def vals1(r:dt [x] us):∃u,us=[u]/\dn x u:=by
 cases r with
 | cons r1 r2=>cases r2;exact⟨_,xz,r1⟩
def vals2(r:dt [x,y] us):∃u d,us=[u,d]/\dn x u/\dn y d:=by
 cases r with
 | cons r1 r2=>
  cases r2 with
  | cons r3 e=>cases e;exact⟨_,_,xz,r1,r3⟩
end
structure yt(h:i_)(x dx C:e_)(mA:d0->Option f_):Prop where
 obj:h.get? x=a_ (W.instObj C dx)
 ns:h.Ns1 dx mA
 ne:dx≠x
def aeW{h:i_}{dx:e_}{mA:d0->Option f_}(n:h.Ns1 dx mA):∃od,h.get? dx=a_ od/\∀name,W.lookIn name od=a_ (mA name):=by
 obtain⟨o,es,i,b,hd,c,_,hm⟩:=n;refine⟨o,b,λname=>?_⟩;have e:=hm name;unfold nsFind findBy at e;rw[<-Array.find?_toList]at e;unfold W.lookIn;rw[hd];dsimp only
 split
 .rename_i y q
  rw[q]at e;exact gv _ e
 rename_i q
 rw[q]at e
 have a:es.toList.any (·.refKey)=false:=by
  rw[List.any_eq_false];intro y d;obtain⟨z,t,f⟩:=c y<|Array.mem_toList_iff.mp d;simp[DictEntry.refKey,f]
 have g:¬es.toList.any (·.refKey)=true:=by rw[a];exact dF
 rw[eN g];exact gv _ e
def yt.look{mA:d0->Option f_}(I:yt h x dx C mA):∃od,D_ h x (W.instObj C dx) C (a_ od)/\∀name,W.lookIn name od=a_ (mA name):=
 let ⟨od,ho,hl⟩:=aeW I.ns
 ⟨od,⟨I.obj,xz,xz,ho⟩,hl⟩
section
variable{prog:k_}{w:j_}{A:h_}{E:f_->g_->Prop}{s:g_}{K:u_}{x dx C f:e_}{mA:d0->Option f_}{name:d0}{v:f_}
def get_map{a:Bool}(X:K.In s.heap)(I:yt s.heap x dx C mA)(b:W.plainGet K C name=c_)(c:F_ K C=c_)(ha:w_ K (.ref C) name=a_ b_)(d:mA name=a_ v)(e:W.handedIn v=c_)(h:Q v {s with toks:=s.toks+1}):bt (bv prog w) A (getAttr (.ref x) name a) Q E s:=by
 obtain⟨od,J,g⟩:=I.look;exact W.get_value X J (W.plainGet_of b).1 (W.findObj_own c ha xz<|by rw[g,d]) e h
def agQ{pl:Sem Bool}{Q:f_×List f_->g_->Prop}(X:K.In s.heap)(I:yt s.heap x dx C mA)(a:W.plainGet K C name=c_)(b:w_ K (.ref C) name=a_ (a_<|.ref f))(c:W.isFn K (.ref f)=c_)(d:mA name=b_)(h:Q (.ref f,[.ref x]) s):bt (bv prog w) A (vt (.ref x) name pl) Q E s:=by
 obtain⟨od,J,e⟩:=I.look;exact W.method_fn X J (W.plainGet_of a).1 (W.plainGet_of a).2 b (gr.mp c) (by show (W.lookIn _ _).map (·.isSome)=a_ _;rw[e,d];rfl) h
def ahB{Q:Unit->g_->Prop}(X:K.In s.heap)(I:yt s.heap x dx C mA)(d:w_ K (.ref C) "__setattr__"=a_ (a_<|.builtin "object.__setattr__"))(e:W.plainOver K C=c_)(g:W.takerIn K C name=a_ b_)(i:F_ K C=c_)(hw:PySem.Within mA ns)(o:ns.length<=bc)(h:∀h',yt h' x dx C (λy=>if y=name then a_ v else mA y)->gz dx s.heap h'->Q () {s with heap:=h',toks:=s.toks+2}):bt (bv prog w) A (setAttr (.ref x) name v) Q E s:=by
 obtain⟨od,J,p⟩:=I.look;refine W.set_plain X J d (W.osa_open X J e g λb=>?_);obtain⟨cd,j,k⟩:=W.any_some i;refine ak<|aP<|ak<|ak<|wpAny_loadPart I.obj<|ak<|W.Looks.here (W.looks_clsIn X j) ?_;rw[k];refine aP<|ak<|aP<|ak (wpAny_nsSet1 I.ns λh' a c=>?_);obtain⟨q,r,t,l,m,n⟩:=a.count<|PySem.Within.cons name v hw;exact ak<|wpAny_lookBehind l (by rw[m];exact pastItsLine_dict<|dq n<|by rw[eI];omega)<|aP<|h _ ⟨(c.2 _<|iT I.ne).gw I.obj,a,I.ne⟩ c
def agD{R:Result->g_->Prop}{a:List (d0×f_)}(X:K.In s.heap)(hm:W.makesIn K C=c_)(hi:w_ K (.ref C) "__init__"=a_ (a_<|.ref f))(b:W.typeIn K (.ref f)=a_ (.type "function"))(h:codeAny (bv prog w) (A.under<|.builtin "type.__call__" ⟨.ref C::vs,a⟩) (.call (.ref f) ⟨.ref (s.zS+1)::vs,a⟩) (W.InitBack (s.zS+1) R) {s with heap:=(s.heap.push W.emptyDict).push (W.instObj C s.zS)}):codeAny (bv prog w) A (.call (.ref C) ⟨vs,a⟩) R s:=by
 obtain⟨c,g,d,t,os⟩:=s;exact W.make_core (W.makes_of X hm) (W.looks_findIn X hi) (λself=>W.bind_fn X _ b) (.inl xz) h
end
noncomputable def aJ(f:d0)(v:V):List (d0×V)->List (d0×V)
 | []=>[(f,v)]
 | (g,x)::r=>if g=f then (g,v)::r else (g,x)::aJ f v r
theorem dw(f g:d0)(v:V):∀fs:List (d0×V),(aJ f v fs).lookup g=if g=f then a_ v else fs.lookup g
 | []=>by
  show zR g [(f,v)]=_
  by_cases h:g=f
  .have a:(g==f)=true:=gr.mpr h;simp only[zR,a,eT h]
  have a:(g==f)=false:=gl.mpr h;simp only[zR,a,eN h]
 | (k,x)::r=>by
  rw[show aJ f v ((k,x)::r)=(if k=f then (k,v)::r else (k,x)::aJ f v r) from rfl]
  by_cases b:k=f
  .rw[eT b]
   by_cases h:g=k
   .have a:(g==k)=true:=gr.mpr h;simp only[zR,a,eT<|h.gw b]
   have a:(g==k)=false:=gl.mpr h;simp only[zR,a,eN λe:g=f=>h<|e.gw b.gx]
  rw[eN b]
  by_cases h:g=k
  .have a:(g==k)=true:=gr.mpr h;simp only[zR,a,eN λe:g=f=>b<|h.gx.gw e]
  have a:(g==k)=false:=gl.mpr h;simp only[zR,a];exact dw f g v r
theorem Lv(f:d0)(v:V)(fs:List (d0×V)):f∈(aJ f v fs).map (·.1)/\∀g,g∈fs.map (·.1)->g∈(aJ f v fs).map (·.1):=by
 induction fs with
 |nil=>exact⟨by simp[aJ],λg h=>by simp at h⟩
 |cons k r i=>
  obtain⟨b,c⟩:=i;rw[show aJ f v (k::r)=(if k.1=f then (k.1,v)::r else (k.1,k.2)::aJ f v r) from rfl]
  by_cases a:k.1=f
  .rw[eT a];subst a;exact⟨by simp,λg h=>by simpa using h⟩
  rw[eN a];refine⟨?_,λg h=>?_⟩
  .rw[eV];exact cu _ b
  rw[eV]at h ⊢;obtain e|e:=bK.mp h
  .exact bK.mpr (.inl e)
  exact cu _ (c g e)
theorem rY(f:d0)(v:V):∀fs:List (d0×V),(aJ f v fs).length<=fs.length+1
 | []=>by simp[aJ]
 | (k,x)::r=>by
  have ih:=rY f v r;rw[show aJ f v ((k,x)::r)=(if k=f then (k,v)::r else (k,x)::aJ f v r) from rfl]
  by_cases a:k=f
  .rw[eT a,eI,eI];omega
  rw[eN a,eI,eI];omega
def sP.some_of{o:Option f_}(r:sP (a_ v) o):∃u,o=a_ u/\dn v u:=by
 rcases o with _|u;exact r.elim;exact⟨u,xz,r⟩
def sP.none_of{o:Option f_}(r:sP b_ o):o=none:=by
 rcases o with _|u;rfl;exact r.elim
def ae6(r:dn v u):W.handedIn u=true:=by
 cases v with
 | aO=>cases r;rfl
 | bl b=>cases r;rfl
 | int i=>obtain⟨t,e⟩:=r;cases e;rfl
 | str x=>obtain⟨t,e⟩:=r;cases e;rfl
 | oF b=>obtain⟨t,e⟩:=r;cases e;rfl
 | qR b=>obtain⟨t,e⟩:=r;cases e;rfl
 | ref a=>cases r;rfl
 | ty n=>cases r;rfl
section
variable{P:k_}{w:j_}{H H':Hp}{h h':i_}{a C dx:e_}{fs mQ:List (d0×V)}
def Cy(aW:iw P w H h)(e:H a=a_ (.ins C dx fs)):∃mA,yt h a dx C mA/\(∀f,sP (fs.lookup f)<|mA f)/\PySem.Within mA (fs.map (·.1))/\fs.length<=1000/\H dx=a_ (.own a):=by
 obtain⟨d,z,ne,ob,mA,n,r,q⟩:=(aW a _ e);exact⟨mA,⟨ob,n,ne⟩,r,q,z,d⟩
end
structure di(K:u_)(C:e_):Prop where
 pg:W.plainGet K C Str.empty=c_
 hd:F_ K C=c_
 po:W.plainOver K C=c_
 sa:w_ K (.ref C) "__setattr__"=a_ (a_<|.builtin "object.__setattr__")
def di.get{K:u_}(c:di K C)(f:d0):W.plainGet K C f=true:=c.pg
def bJ(K:u_)(C:e_)(f:d0):Prop:=w_ K (.ref C) f=a_ b_
def bJ.alz{K:u_}(n:bJ K C f):W.takerIn K C f=a_ none:=by
 unfold W.takerIn;rw[show w_ K _ f=a_ _ from n];rfl
structure Meth(K:u_)(C:e_)(m:d0)(f:e_):Prop where
 at_:w_ K (.ref C) m=a_ (a_<|.ref f)
 fn:W.isFn K (.ref f)=c_
 kp:x_ K (.ref f)=c_
section
variable{X:Cx}{p_:List (e_×d5)}{σ:St}{H:Hp}{s:g_}{a C dx:e_}{fs:List (d0×V)}{f:d0}{v:V}{A:h_}{E:f_->g_->Prop}
def UP{b:Bool}(I:df X p_ σ H s)(e:H a=a_ (.ins C dx fs))(c:di X.K C)(n:bJ X.K C f)(l:fs.lookup f=a_ v)(h:∀u s',df X p_ σ H s'->dn v u->Q u s'):bt (bv X.prog X.w) A (getAttr (.ref a) f b) Q E s:=by
 obtain⟨mA,O,r,_,_,_⟩:=Cy I.aW e;obtain⟨u,g,d⟩:=sP.some_of (v:=v) (o:=mA f) (by rw[<-l];exact r f);exact get_map I.dB O (c.get f) c.hd n g (ae6 d)<|h u _ (I.tok _) d
def Ft{pl:Sem Bool}{Q:f_×List f_->g_->Prop}(I:df X p_ σ H s)(e:H a=a_ (.ins C dx fs))(c:di X.K C)(k:Meth X.K C m g)(l:fs.lookup m=b_)(h:Q (.ref g,[.ref a]) s):bt (bv X.prog X.w) A (vt (.ref a) m pl) Q E s:=by
 obtain⟨mA,O,r,_,_,_⟩:=Cy I.aW e;exact agQ I.dB O (c.get m) k.at_ k.fn (sP.none_of<|by rw[<-l];exact r m) h
def UE{Q:Unit->g_->Prop}(I:df X p_ σ H s)(e:H a=a_ (.ins C dx fs))(c:di X.K C)(n:bJ X.K C f)(t:fs.length<1000)(j:dn y u)(h:∀s',df X p_ σ (dc H a<|.ins C dx<|aJ f y fs) s'->Q () s'):bt (bv X.prog X.w) A (setAttr (.ref a) f u) Q E s:=by
 obtain⟨mA,O,r,wi,_,i⟩:=Cy I.aW e;have k:(fs.map (·.1)).length<=bc:=by rw[aA,gf];omega
 refine ahB I.dB O c.sa c.po n.alz c.hd wi k λh' d l=>h _ ?_;have hd:∃o,h'.get? dx=a_ o:=let ⟨o,_,_,e',_⟩:=d.ns;⟨o,e'⟩
 refine I.write (e▸mX) (.inr i) (λb q m z=>(l.2 b m).gw z) hd ⟨by rw[aj O.ne];exact i,?_,O.ne,d.obj,_,d.ns,λg=>?_,λg p=>?_⟩
 .have:=rY f y fs;omega
 .rw[dw]
  by_cases q:g=f
  .rw[eT q,eT q];exact j
  rw[eN q,eN q];exact r g
 by_cases q:g=f
 .rw[q];exact(Lv f y _).1
 refine(Lv f y _).2 g (wi g λz=>p ?_);show (if g=f then a_ u else mA g)=b_;rw[eN q];exact z
def df.made(I:df X p_ σ H s):df X p_ σ (dc (dc H s.zS<|.own<|s.zS+1) (s.zS+1)<|.ins C s.zS []) {s with heap:=(s.heap.push W.emptyDict).push (W.instObj C s.zS)}:=by
 have c:(s.heap.push _).get? _=a_ W.emptyDict:=eU _ xz
 have d:((s.heap.push W.emptyDict).push<|W.instObj C s.zS).get? (s.zS+1)=a_ (W.instObj C s.zS):=by
  have:=eU (s.heap.push W.emptyDict) (o:=W.instObj C s.zS) rfl;rwa[lO]at this
 have g:(s.heap.push _).Ns _ _:=⟨W.emptyDict,#[],_,c,xz,(λe h=>f' h<|by simp),λ_=>rfl⟩;refine (I.laid (o:=.own<|s.zS+1) (t':=s.toks) (λb u q=>bU _ q) (aw _) ⟨_,c⟩).laid (λb u q=>bU _ q) (rV<|lO _ _) ?_;have ne:s.zS≠s.zS+1:=dW<|vc _;refine⟨by rw[aj ne,ao],bg _,ne,d,λ_=>b_,(Heap.Ns1.of_empty g).at λo q=>bU _ q,λ_=>mX,λy i=>f' xz i⟩
def ajf{w:j_}{env:Env}(b:Kl e f env (eval e env)=eval e env)(h:bt (bv prog w) A (eval e env) (λo c=>bt (bv prog w) A (getAttr o f c_) Q E c) E s):bt (bv prog w) A (eval (.Attribute e f pos) env) Q E s:=
 Attribute_any_ h (by rw[arm_eval_Attribute,b])
end
def Hw(K:u_)(c:TE)(f:d0):TE:=λσ H Q=>c σ H λx b=>∃a C dx fs v,x=.ref a/\b a=a_ (.ins C dx fs)/\di K C/\bJ K C f/\fs.lookup f=a_ v/\Q v b
def Qe(K:u_)(c tv:TE)(f:d0):TS:=λD σ H=>tv σ H λy d=>c σ d λx b=>∃a C dx fs,x=.ref a/\b a=a_ (.ins C dx fs)/\di K C/\bJ K C f/\fs.length<1000/\
 D.nx σ (dc b a<|.ins C dx<|aJ f y fs)
def ro(X:Cx)(a:Operator)(rd:V->V->Hp->VK->Prop):Prop:=
 ∀(p_:List (e_×d5))(s:g_)(σ:St)(H:Hp)(x y:V)(u v:f_)(Q:VK),df X p_ σ H s->dn x u->dn y v->rd x y H Q->bt (bv X.prog X.w) X.A (inplaceOp a u v) (EP X p_ σ Q) X.xe s
def ahX(K:u_)(g tv:TE)(rd:V->V->Hp->VK->Prop)(f:d0):TS:=λD σ H=>g σ H λx c=>∃a C dx fs v,x=.ref a/\c a=a_ (.ins C dx fs)/\di K C/\bJ K C f/\fs.lookup f=a_ v/\
 tv σ c λy h=>rd v y h λz d=>∃e b,d a=a_ (.ins C e b)/\b.length<1000/\D.nx σ (dc d a<|.ins C e<|aJ f z b)
section
variable{X:Cx}{o e value:c0}{f:d0}{pos pos' HE:Pos}{ta tv:TE}
def a0(b:PE X e ta)(d:Kl e f X.env (eval e X.env)=eval e X.env):PE X (.Attribute e f pos) (Hw X.K ta f):=by
 refine λp_ s σ H Q I h=>ajf d<|aV (b _ s _ H _ I h) ?_;rintro u s1⟨x,g,i,j,a,C,dx,fs,v,ex,k,c,n,l,q⟩;subst ex;obtain rfl:u=dA a:=j;exact UP i k c n l λr s2 m p=>⟨v,g,m,p,q⟩
def dY(ha:PE X o ta)(b:PE X value tv)(d:FJ value (a_<|.Attribute o f pos') pos.line X.env=pure d_):PS X (.Assign [.Attribute o f pos'] value pos) (Qe X.K ta tv f):=by
 refine λp_ s σ H D I h=>plainObj_wpAny_Assign_Attribute (aV (b _ s _ H _ I h) ?_) d;rintro u s1⟨y,t,g,i,q⟩;refine aV (ha _ _ _ _ _ g q) ?_;rintro ov s2⟨x,v,j,k,a,C,dx,fs,ex,m,c,n,l,p⟩;subst ex;obtain rfl:ov=dA a:=k;exact UE j m c n l i λw r=>⟨σ,_,r,p⟩
def aeB{b:Operator}{rd:V->V->Hp->VK->Prop}(ha:PE X o ta)(d:PE X value tv)(g:ro X b rd):PS X (.AugAssign (.Attribute o f HE) b value pos) (ahX X.K ta tv rd f):=by
 refine λp_ s σ H D I h=>wpAny_AugAssign_AttributeAny<|aV (ha _ s _ H _ I h) ?_;rintro ov s1⟨x,L,i,j,a,C,dx,fs,v,ex,k,c,n,l,q⟩;subst ex;obtain rfl:ov=dA a:=j;refine UP i k c n l λu s2 m p=>aV (d _ _ _ _ _ m q) ?_;rintro w3 M⟨y,N,r,t,w⟩;refine aV (g _ _ _ _ v y u _ _ r p t w) ?_;rintro w4 O⟨z,P,A,B,Q,R,E,F,G⟩;exact UE A E c n F B λS J=>⟨σ,_,J,G⟩
def aoH:V->V->Hp->VK->Prop:=λx y H Q=>∃i j,x=.int i/\y=.int j/\Q (.int<|i+j) H
def akq:ro X .Add aoH:=by
 rintro p_ s σ H x y u v Q I a b ⟨i,j,rfl,rfl,q⟩;obtain⟨t,rfl⟩:=a;obtain⟨t',rfl⟩:=b;exact PyProof.Rows.iadd_int ⟨.int<|i+j,H,I.tok _,⟨_,xz⟩,q⟩
end
section
variable{X:Cx}{p_:List (e_×d5)}{σ:St}{H:Hp}{s:g_}{A:h_}{E:f_->g_->Prop}{Q:f_->g_->Prop}{c:f_}{b:Bool}
inductive gI (K:u_) (H:Hp):V->f_->Prop where
 | aO:gI K H .aO (.type "NoneType")
 | bl (x:Bool):gI K H (.bl x) (.type "bool")
 | int (i:Int):gI K H (.int i) (.type "int")
 | str (x:d0):gI K H (.str x) (.type "str")
 | qR (x:UInt64):gI K H (.qR x) (.type "float")
 | lst {a:e_} {xs:List V} (e:H a=a_ (.lst xs)):gI K H (.ref a) (.type "list")
 | jL {a:e_} {o:d5} {xs:List V} (e:H a=a_ (.jL o (.lst xs))):gI K H (.ref a) (.type "list")
 | tup {a:e_} {xs:List V} (e:H a=a_ (.tup xs)):gI K H (.ref a) (.type "tuple")
 | dK {a:e_} {fG:List (eu×V)} (e:H a=a_ (.dK fG)):gI K H (.ref a) (.type "dict")
 | dT {a:e_} {fG:List (ci×e_)} (e:H a=a_ (.dT fG)):gI K H (.ref a) (.type "dict")
 | ins {a C dx:e_} {fs:List (d0×V)} (e:H a=a_ (.ins C dx fs)) (cl:di K C) (ha:w_ K (.ref C) "__class__"=a_ (a_ (.builtin "object.__class__")))
   (hn:W.specialIn K (.builtin "object.__class__") "__get__"=a_ (a_<|.builtin "getset_descriptor.__get__")) (Bi:W.takesIn K (.builtin "object.__class__")=a_ c_)
   (hm:A_ K C (.type "object")=a_ c_):gI K H (.ref a) (.ref C)
def ae2(I:df X p_ σ H s)(d:dn x u)(ty:gI X.K H x t)(e:v_ X.K t c=a_ b)(h:∀tk,Q (.bool b) {s with toks:=tk}):bt (bv X.prog X.w) A (call (.builtin "isinstance") [u,c]) Q E s:=by
 cases ty with
 | aO=>cases d;exact E_ W.kitx_none I.dB mX e (λz=>by cases z) h
 | bl y=>cases (show u=lh y from d);exact E_ W.kitx_bool I.dB mX e (λz=>by cases z) h
 | int i=>obtain⟨t,q⟩:=(show ∃t,u=ig i t from d);cases q;exact E_ W.kitx_int I.dB mX e (λz=>by cases z) h
 | str y=>obtain⟨t,q⟩:=(show ∃t,u=FL y t from d);cases q;exact E_ W.kitx_str I.dB mX e (λz=>by cases z) h
 | qR y=>obtain⟨t,q⟩:=(show ∃t,u=KJ y t from d);cases q;exact E_ W.kitx_float I.dB mX e (λz=>by cases z) h
 | @lst a xs ea=>
  cases (show u=dA a from d);obtain⟨_,_,n,_,h1⟩:=(show fj X.prog X.w H s.heap a (.lst xs) from I.aW a _ ea);exact E_ W.kitx_list I.dB ⟨_,h1,xz⟩ e (λz=>by cases z) h
 | @jL a ob xs ea=>
  cases (show u=dA a from d);obtain⟨_,_,_,n,_,h1⟩:=(show fj X.prog X.w H s.heap a (.jL ob<|.lst xs) from I.aW a _ ea);exact E_ W.kitx_list I.dB ⟨_,h1,xz⟩ e (λz=>by cases z) h
 | @tup a xs ea=>
  cases (show u=dA a from d);obtain⟨_,_,_,p⟩:=(show fj X.prog X.w H s.heap a (.tup xs) from I.aW a _ ea);obtain⟨o,h1,h2,_⟩:=p;exact E_ W.kitx_tuple I.dB ⟨o,h1,h2⟩ e (λz=>by cases z) h
 | @dK a fG ea=>
  cases (show u=dA a from d);obtain⟨_,_,vs,_,p⟩:=(show fj X.prog X.w H s.heap a (.dK fG) from I.aW a _ ea);obtain⟨o,es,f,h1,h2,_⟩:=p;exact E_ W.kitx_dict I.dB ⟨o,h1,h2.1⟩ e (λz=>by cases z) h
 | @dT a fG ea=>
  cases (show u=dA a from d);obtain⟨_,_,o,es,f,h1,h2,_⟩:=(show fj X.prog X.w H s.heap a (.dT fG) from I.aW a _ ea);exact E_ W.kitx_dict I.dB ⟨o,h1,h2.1⟩ e (λz=>by cases z) h
 | @ins a C dx fs ea cl ha hn Bi hm=>
  cases (show u=dA a from d);obtain⟨mA,O,_⟩:=Cy I.aW ea;obtain⟨od,J,_⟩:=O.look;exact E_ (W.kitx_own (cl.get _) cl.hd ha hn Bi hm) I.dB J e (λz=>by cases z) h
end
structure fz(k:Nat)(A:h_):Prop where
 hd:A.handled=b_
 dp:A.depth+3*k+5<Fh
 un:A.units+16*k+200<cLine
def fz.mono{j k:Nat}(r:fz k A)(h:j<=k):fz j A:=⟨r.hd,by have:=r.dp;omega,by have:=r.un;omega⟩
def fz.deeper{k:Nat}(r:fz (k+1) A)(env:Env):fz k (A.deeper env):=
 ⟨r.hd,by have:=r.dp;show A.depth+1+3*k+5<_;omega,by have:=r.un;show A.units+3+16*k+200<_;omega⟩
def ad1{A:h_}{C:e_}{us:List f_}{a:List (d0×f_)}:(A.under<|.builtin "type.__call__" ⟨.ref C::us,a⟩).depth=A.depth+1:=by
 first | rfl | simp[Up,Code.weight,Code.isCreation,Code.isGuard,Code.isCaller,Code.frames,Code.isFrame,guardIds]
def ad0{A:h_}{C:e_}{us:List f_}{a:List (d0×f_)}:(A.under<|.builtin "type.__call__" ⟨.ref C::us,a⟩).units=A.units+1:=by
 first | rfl | simp[Up,Code.cUnits,Code.frames,Code.isFrame]
def fz.make{k:Nat}(r:fz (k+1) A)(C:e_)(us:List f_)(a:List (d0×f_)):fz k (A.under<|.builtin "type.__call__" ⟨.ref C::us,a⟩):=
 ⟨r.hd,by have:=r.dp;rw[ad1];omega,by have:=r.un;rw[ad0];omega⟩
def fz.depth{k:Nat}(r:fz k A):A.depth<Fh:=by have:=r.dp;omega
abbrev Hu:TA:=λ_ H Q=>Q [] H
abbrev Y7(ta:TE)(tr:TA):TA:=λσ H Q=>ta σ H λx H1=>tr σ H1 λxs H2=>Q (x::xs) H2
section
variable{X:Cx}{e:c0}{es:List c0}{te:TE}{t:TA}{pos:Pos}
def af:PA X [] Hu:=λ_ _ _ _ H Q I h=>Calls.spliced_nil ⟨[],H,I,.nil,h⟩
def aa(ha:PE X e te)(a:PA X es t)(b:autoParam (cx (e::es) X.env=(d_,eval e X.env)::cx es X.env) am):PA X (e::es) (Y7 te t):=by
 intro pos p_ s σ H Q I h;rw[b];refine Calls.spliced_cons<|aV (ha _ s _ H _ I h) ?_;rintro u s1⟨x,k,c,d,f⟩;refine aV (a _ _ _ _ _ _ c f) ?_;rintro us s2⟨xs,g,i,r2,j⟩;exact⟨x::xs,g,i,.cons d r2,j⟩
def aoi(t:TA):TE:=λσ H Q=>t σ H λxs a=>xs.length<=bc/\∀p,a p=b_->Q (.ref p) (dc a p<|.tup xs)
def aon(t:TA):TE:=λσ H Q=>t σ H λxs a=>xs.length<=bc/\∀p,a p=b_->Q (.ref p) (dc a p<|.lst xs)
def dR{x1}(h:PA X es t):PE X (.Tuple es x1 pos) (aoi t):=by
 refine λp_ s σ H Q I c=>wpAny_Tuple_spliced<|aV (h _ _ s _ H _ I c) ?_;rintro us s1⟨xs,d,a,r,z,q⟩;refine⟨by rw[<-r.length];exact z,?_⟩;refine⟨.ref _,dc _ _<|.tup _,a.laid (λb u e=>bU _ e) (aw _) ?_,xz,q _<|a.aW.fresh<|aw _⟩;exact⟨z,us,r,⟨_,eU _ xz,xz,_,xz⟩⟩
def eX(h:PA X es t):PE X (.List es pos) (aon t):=by
 refine λp_ s σ H Q I c=>wpAny_List_spliced<|aV (h _ _ s _ H _ I c) ?_;rintro us s1⟨xs,d,a,r,z,q⟩;refine⟨by rw[<-r.length];exact z,?_⟩;refine⟨.ref _,dc _ _<|.lst _,a.laid (λb u e=>bU _ e) (aw _) ?_,xz,q _<|a.aW.fresh<|aw _⟩;exact⟨z,us,0,r,eU _ xz⟩
end
abbrev Sp:=List V->Hp->VK->XK->Prop
abbrev p6:=List Env->Hp->g_->XK->f_->g_->Prop
structure yu(P:k_)(w:j_)(K:u_)(mg:d0->Option f_)(base:i_)(A:h_)(outer:List Env)(s:g_)(H:Hp):Prop where
 frames:A.frames=a_ outer
 mod:Mod K mg base
 bs:∀b o,base.get? b=a_ o->s.heap.get? b=a_ o/\H b=b_
 nE:base.zH<=s.zS
 nA:s.heap.FunFrames base outer
 uB:∀b∈qQ outer,H b=b_
 aW:iw P w H s.heap
 bare:AllBare s.gens
def CE(outer:List Env)(P:k_)(w:j_)(H:Hp)(s:g_)(Q:VK)(u:f_)(s':g_):Prop:=
 ∃v H',s'.os=s.os/\AllBare s'.gens/\Un (qQ outer) [] H H' s.heap s'.heap/\iw P w H' s'.heap/\dn v u/\Q v H'
def CR(CX:p6)(outer:List Env)(P:k_)(w:j_)(H:Hp)(s:g_)(Q:VK)(E:XK)(r:Result)(s':g_):Prop:=
 match r with
 | .ok (.ret u)=>CE outer P w H s Q u s'
 | .ok _=>False
 | .error e=>CX outer H s E e s'
structure aG(P:k_)(w:j_)(K:u_)(mg:d0->Option f_)(base:i_)(CX:p6)(k:Nat)(f:e_)(fd:ik)(ps:List d0)(sp:Sp):Prop where
 len:∀vs H Q E,sp vs H Q E->vs.length=ps.length
 run:∀(A:h_)(outer:List Env)(s:g_)(H:Hp)(args:Args)(us:List f_)(vs:List V)(Q:VK)(E:XK),fz k A->yu P w K mg base A outer s H->BindsTo s fd args (ps.zip us)->dt vs us->sp vs H Q E->
  codeAny (bv P w) A (.call (.ref f) args) (CR CX outer P w H s Q E) s
def yu.make{P:k_}{w:j_}{K:u_}{mg:d0->Option f_}{gW:i_}{outer:List Env}(e:yu P w K mg gW A outer s H)(C:e_)(us:List f_)(a:List (d0×f_)):yu P w K mg gW (A.under<|.builtin "type.__call__" ⟨.ref C::us,a⟩) outer s H:=⟨by first | exact e.frames | (simpa[Up,Code.envs,Code.isFrame,pushEnvs]using e.frames),e.mod,e.bs,e.nE,e.nA,e.uB,e.aW,e.bare⟩
section
variable{X:Cx}{p_:List (e_×d5)}{σ:St}{H:Hp}{s s':g_}
def df.aat(I:df X p_ σ H s):yu X.prog X.w X.K X.mg X.base X.A X.stack s H:=
 ⟨I.ok.frames,I.ok.mod,I.bs,dq I.ok.nE I.sz,I.stack,I.MU,I.aW,I.bare⟩
def df.after(I:df X p_ σ H s)(h:CE X.stack X.prog X.w H s Q u s'):EP X p_ σ Q u s':=by
 obtain⟨v,H',os,bare,un,aW,r,q⟩:=h;obtain⟨c,g,d,t,a⟩:=s';obtain rfl:a=s.os:=os;exact⟨v,H',I.call un aW bare λb z=>f' z (by simp),r,q⟩
end
abbrev ON(sp:Sp)(dvs:List V)(E:XK)(t:TA):TE:=λσ H Q=>t σ H λvs H1=>sp (vs++dvs) H1 Q E
def CS(C:e_)(m:d0)(sp:Sp)(c:List V)(E:XK)(d:TE)(t:TA):TE:=λσ H Q=>d σ H λx b=>∃a dx fs,x=.ref a/\b a=a_ (.ins C dx fs)/\fs.lookup m=b_/\
 t σ b λvs e=>sp (x::(vs++c)) e Q E
def alD(C:e_)(sp:Sp)(b:List V)(E:XK)(t:TA):TE:=λσ H Q=>t σ H λvs a=>∀x dx,a x=b_->a dx=b_->dx≠x->
 sp (.ref x::(vs++b)) (dc (dc a dx<|.own x) x<|.ins C dx []) (λv c=>v=.aO/\Q (.ref x) c) E
def dL(K:u_)(fd:ik)(ps:List d0)(ds:List f_):Prop:=
 ∀(s:g_)(us:List f_),K.In s.heap->(us++ds).length=ps.length->BindsTo s fd ⟨us,[]⟩ (ps.zip<|us++ds)
def dL.all{K:u_}(h:∀us:List f_,us.length=ps.length->t4 fd ⟨us,[]⟩=pure (ps.zip us)):dL K fd ps []:=λs us _ a=>by
 rw[nK]at a ⊢;exact .of_eq<|h _ a
def Passes(CX:p6)(X:Cx)(E:XK):Prop:=∀(p_:List (e_×d5))(σ:St)(H:Hp)(s:g_)(e:f_)(s':g_),df X p_ σ H s->CX X.stack H s E e s'->X.xe e s'
section
variable{X:Cx}{CX:p6}{k:Nat}{f C:e_}{fd:ik}{ps:List d0}{sp:Sp}{dvs:List V}{ds:List f_}{E:XK}{x m:d0}{p pos apos:Pos}{e o:c0}{es:List c0}{ta:TE}{t:TA}
def Am(F:aG X.prog X.w X.K X.mg X.base CX k f fd ps sp)(b:fz k X.A)(c:dL X.K fd ps ds)(hd:dt dvs ds)(d:Passes CX X E)(I:df X p_ σ H s)(r:dt vs us)(h:sp (vs++dvs) H Q E):bt (bv X.prog X.w) X.A (call (.ref f) us) (EP X p_ σ Q) X.xe s:=by
 have r2:=r.append hd;have g:(us++ds).length=ps.length:=by rw[<-r2.length];exact F.len _ _ _ _ h
 refine Lb (BK (F.run _ _ s H ⟨us,[]⟩ _ _ Q E b I.aat (c s _ I.dB g) r2 h) λr s' a=>?_);rcases r with e|i;exact d _ _ H s e _ I a
 cases i with
 | ret u=>exact I.after a
 | next=>exact nN a
 | brk=>exact nN a
 | cont=>exact nN a
def lB(F:aG X.prog X.w X.K X.mg X.base CX k f fd ps sp)(b:fz k X.A)(c:Gl X x)(hm:X.mg x=a_ (.ref f))(d:x_ X.K (.ref f)=c_)(g:dL X.K fd ps ds)(hd:dt dvs ds)(i:Passes CX X E)
  (ha:PA X (e::es) t) (j:autoParam ((x==("__debug__":d0))=false) ap) (l:autoParam (cx (e::es) X.env=(d_,eval e X.env)::cx es X.env) am) (n:autoParam ((ca pos<|cx es X.env).any (·.1)=false) am) :
  PE X (.Call (.Name x p) (e::es) [] pos) (ON sp dvs E t):=by
 refine λp_ s σ H Q I h=>E4<|Gm I c hm ?_ j;refine G_ I.ok.mod.yE d (aV (ha _ _ s _ H _ I h) ?_) l n;rintro us s1⟨vs,u,a,r,q⟩;exact⟨a.dB,Am F b g hd i a r q⟩
def Gj{pl:Sem Bool}(g:PE X o ta)(c:di X.K C)(hm:Meth X.K C m f)(F:aG X.prog X.w X.K X.mg X.base CX k f fd ps sp)(i:fz k X.A)(j:dL X.K fd ps ds)(hd:dt dvs ds)(n:Passes CX X E)(ha:PA X (e::es) t)
  (v:autoParam (cx (e::es) X.env=(d_,eval e X.env)::cx es X.env) am) (y:autoParam ((ca pos<|cx es X.env).any (·.1)=false) am)
  (z:autoParam (eval (.Call (.Attribute o m apos) (e::es) [] pos) X.env=(do
   let ov <-eval o X.env
   standAt apos.atName
   let (f,first) <-holding [ov] (vt ov m pl)
   Ac pos f first (ca pos<|cx (e::es) X.env) (xP pos<|xE [] X.env))) am) :
  PE X (.Call (.Attribute o m apos) (e::es) [] pos) (CS C m sp dvs E ta t):=by
 refine λp_ s σ H Q I h=>W.methodCall_KW (aV (g _ s _ H _ I h) ?_) z;rintro u s1⟨x,J,b,B,a,dx,fs,ex,D,l,q⟩;subst ex;obtain rfl:u=dA a:=B;refine Ft b D c hm l ?_;refine G_ I.ok.mod.yE hm.kp (aV (ha _ _ _ _ _ _ b q) ?_) v y;rintro us s2⟨vs,L,d,r,G⟩;exact⟨d.dB,Am (vs:=.ref a::vs) F i j hd n d (.cons xz r) G⟩
def FV{pl:Sem Bool}(d:PE X o ta)(c:di X.K C)(hm:Meth X.K C m f)(F:aG X.prog X.w X.K X.mg X.base CX k f fd ps sp)(g:fz k X.A)(i:dL X.K fd ps ds)(hd:dt dvs ds)(j:Passes CX X E)
  (n:autoParam (eval (.Call (.Attribute o m apos) [] [] pos) X.env=(do
   let ov <-eval o X.env
   standAt apos.atName
   let (f,first) <-holding [ov] (vt ov m pl)
   Ac pos f first (ca pos<|cx [] X.env) (xP pos<|xE [] X.env))) am) :
  PE X (.Call (.Attribute o m apos) [] [] pos) (CS C m sp dvs E ta Hu):=by
 refine λp_ s σ H Q I h=>W.methodCall_KW (aV (d _ s _ H _ I h) ?_) n;rintro u s1⟨x,y,b,r,a,dx,fs,ex,v,l,q⟩;subst ex;obtain rfl:u=dA a:=r;exact Ft b v c hm l<|W.callWith_K0 b.dB hm.kp<|Am (vs:=[.ref a]) F g i hd j b (.cons xz .nil) q
structure Mk(K:u_)(C f:e_):Prop where
 makes:W.makesIn K C=c_
 init:w_ K (.ref C) "__init__"=a_ (a_<|.ref f)
 fn:W.isFn K (.ref f)=c_
 kp:x_ K (.ref C)=c_
def afP(M:Mk X.K C f)(F:aG X.prog X.w X.K X.mg X.base CX k f fd ps sp)(d:fz (k+1) X.A)(g:dL X.K fd ps ds)(hd:dt dvs ds)(i:Passes CX X E)(I:df X p_ σ H s)(r:dt vs us)(h:∀x dx,H x=b_->H dx=b_->dx≠x->sp (.ref x::(vs++dvs)) (dc (dc H dx<|.own x) x<|.ins C dx []) (λv j=>v=.aO/\Q (.ref x) j) E):bt (bv X.prog X.w) X.A (call (.ref C) us) (EP X p_ σ Q) X.xe s:=by
 have c:=h _ _ (I.aW.fresh<|jC _) (I.aW.fresh<|aw _)<|dW<|vc _;have b:=df.made (C:=C) I;have r2:dt (V.ref (s.zS+1)::(vs++dvs)) _:=.cons xz<|r.append hd
 have l:(dA (s.zS+1)::us++ds).length=ps.length:=by
  have e:=r2.length;rw[F.len _ _ _ _ c]at e;exact e.gx
 refine Lb<|agD I.dB M.makes M.init (gr.mp M.fn) (BK (F.run _ _ _ _ ⟨dA (s.zS+1)::us,[]⟩ _ _ _ E (d.make C _ []) (b.aat.make C _ []) (g _ _ b.dB l) r2 c) λr s' a=>?_);rcases r with e|n;exact i _ _ _ _ e _ b a
 cases n with
 | ret u=>
  obtain⟨v,H',q,y,z,B⟩:=b.after a;subst z;exact⟨y,⟨V.ref<|s.zS+1,H',q,xz,B⟩⟩
 | next=>exact nN a
 | brk=>exact nN a
 | cont=>exact nN a
def pk(M:Mk X.K C f)(F:aG X.prog X.w X.K X.mg X.base CX k f fd ps sp)(b:fz (k+1) X.A)(c:Gl X x)(hm:X.mg x=a_ (.ref C))(d:dL X.K fd ps ds)(hd:dt dvs ds)(g:Passes CX X E)
  (ha:PA X (e::es) t) (i:autoParam ((x==("__debug__":d0))=false) ap) (j:autoParam (cx (e::es) X.env=(d_,eval e X.env)::cx es X.env) am) (l:autoParam ((ca pos<|cx es X.env).any (·.1)=false) am) :
  PE X (.Call (.Name x p) (e::es) [] pos) (alD C sp dvs E t):=by
 refine λp_ s σ H Q I h=>E4<|Gm I c hm ?_ i;refine G_ I.ok.mod.yE M.kp (aV (ha _ _ s _ H _ I h) ?_) j l;rintro us s1⟨vs,n,a,r,q⟩;exact⟨a.dB,afP M F b d hd g a r q⟩
end
structure aX(N P:List d0)(sc:d6):Prop where
 kind:sc.kind=.function
 co:sc.isCoroutine=d_
 gen:sc.isGenerator=d_
 nd:N.Nodup
 pre:N.take P.length=P
 par:∀x∈P,sc.names.lookup x=a_ .local\/sc.names.lookup x=a_ .cell
 aj6:∀y∈sc.names,y.2≠.free
def aZ{N P:List d0}{sc:d6}(a:autoParam (sc.kind=.function) am)(b:autoParam (sc.isCoroutine=false) am)(c:autoParam (sc.isGenerator=false) am)(d:N.Nodup:=by decide +kernel)(e:autoParam (N.take P.length=P) am)(f:∀x∈P,sc.names.lookup x=a_ .local\/ sc.names.lookup x=a_ .cell:=by decide +kernel)(g:∀y∈sc.names,y.2≠.free:=by decide +kernel):aX N P sc:=⟨a,b,c,d,e,f,g⟩
theorem VP{kindOf:d0->Option gR}{binds:List (d0×f_)}{m:d0->Option f_}(h:∀v,(x,v)∉binds):bindL kindOf binds m x=m x:=by
 induction binds generalizing m with
 |nil=>rfl
 |cons n r i=>
  unfold bindL;rw[i λw hw=>h w<|cu _ hw]
  split
  .have:x≠n.1:=by rintro rfl;exact h n.2 bV
   simp[this]
  rfl
theorem VR{kindOf:d0->Option gR}{binds:List (d0×f_)}{m:d0->Option f_}(h:∀v,(x,v)∉binds):bindC kindOf binds m x=m x:=by
 induction binds generalizing m with
 |nil=>rfl
 |cons n r i=>
  unfold bindC;rw[i λw hw=>h w<|cu _ hw]
  split
  .rfl
  .have:x≠n.1:=by rintro rfl;exact h n.2 bV
   simp[this]
theorem VQ{kindOf:d0->Option gR}{P:List d0}{vs:List f_}{i:Nat}{m:d0->Option f_}(nd:P.Nodup)(h1:P[i]?=a_ x)(h2:vs[i]?=a_ v)(hk:kindOf x=a_ .local):bindL kindOf (P.zip vs) m x=a_ v:=by
 induction P generalizing vs i m with
 |nil=>simp at h1
 |cons p P ih=>cases vs with
  |nil=>simp at h2
  |cons w vs=>
   show bindL kindOf ((p,w)::P.zip vs) m x=_;unfold bindL;cases i with
   |zero=>simp at h1 h2;subst h1;subst h2;rw[VP λv a=>(zI.mp nd).1 (Fc a).1,eT hk];simp
   |succ i=>exact ih (i:=i) (zI.mp nd).2 (by simpa using h1) (by simpa using h2)
theorem VS{kindOf:d0->Option gR}{P:List d0}{vs:List f_}{i:Nat}{m:d0->Option f_}(nd:P.Nodup)(h1:P[i]?=a_ x)(h2:vs[i]?=a_ v)(hk:kindOf x≠a_ .local):bindC kindOf (P.zip vs) m x=a_ v:=by
 induction P generalizing vs i m with
 |nil=>simp at h1
 |cons p P ih=>cases vs with
  |nil=>simp at h2
  |cons w vs=>
   show bindC kindOf ((p,w)::P.zip vs) m x=_;unfold bindC;cases i with
   |zero=>simp at h1 h2;subst h1;subst h2;rw[VR λv a=>(zI.mp nd).1 (Fc a).1,eN hk];simp
   |succ i=>exact ih (i:=i) (zI.mp nd).2 (by simpa using h1) (by simpa using h2)
noncomputable def start(N:List d0)(vs:List V):St:=vs.map a_++dU (N.length-vs.length) b_
def pO(CX:p6)(P:k_)(w:j_)(K:u_)(mg:d0->Option f_)(base:i_)(N:List d0)(qual:d0)(scope:d6)(f:e_)(cd:f_)(A:h_)(outer:List Env)(s:g_)(H:Hp)(E:XK):Cx where
 prog:=P
 w:=w
 K:=K
 mg:=mg
 base:=base
 A:=A.deeper<|db qual scope s.zS f cd
 N:=N
 s₀:=s
 H₀:=H
 env:=db qual scope s.zS f cd
 outer:=outer
 stack:=db qual scope s.zS f cd::outer
 ex:=[]
 calm:=c_
 fn:=λ_=>c_
 pn:=[]
 xe:=λe s'=>bt (bv P w) (A.deeper<|db qual scope s.zS f cd) (leaving (db qual scope s.zS f cd) e) (λ_ a=>CX outer H s E e a) (λe' a=>CX outer H s E e' a) s'
def WJ{sc:d6}{n:Nat}(h:sc.names.lookup x=a_ .cell):∃c,(cellsFrom n sc.names []).lookup x=a_ c:=by
 exact Option.isSome_iff_exists.mp<|W.cellsFrom_some _ n [] (.inl h)
def ae3{CX:p6}{P:k_}{w:j_}{K:u_}{mg:d0->Option f_}{gW:i_}{scope:d6}{outer:List Env}(S:aX N ps scope)(hd:A.handled=b_)(d:yu P w K mg gW A outer s H)(B:vs.length=ps.length)(r:dt vs us)(x:InCallC s s.zS (bindL (db qual scope s.zS f cd).kindOf (ps.zip us) λ_=>b_) (cellsFrom (s.zS+1) scope.names []) (bindC (db qual scope s.zS f cd).kindOf (ps.zip us) λ_=>b_) s1):df (pO CX P w K mg gW N qual scope f cd A outer s H E) [] (start N vs) H s1:=by
 have C:ps.length<=N.length:=by have:=gv KO S.pre;rw[fJ]at this;omega
 obtain⟨h1,tk,rfl,m⟩:=x.done;have l:∀b:e_,b∉(pO CX P w K mg gW N qual scope f cd A outer s H E).ex:=λb z=>f' (show b∈([]:List _) from z) (by simp);refine⟨⟨d.mod,S.kind,xz,xz,aw _,λy z c h1 h2=>?_,λy g=>?_,λy c _ h=>?_,λ_=>hd,abL d.frames,.inr ⟨xz,xz⟩,λb z=>f' z<|l b,d.bs,d.nE,λb _ _=>l b,λb z=>f' z<|l b,d.nA,d.uB⟩,xz,d.bare,Un.kept m,⟨_,x.toInCall.ns,λi y v h1 h2 h3=>?_⟩,λy c h=>⟨_,x.cell y c h⟩,d.aW.fresh<|aw _,λy c h=>?_,λp j=>f' (show p∈([]:List (e_×d5)) from j) (by simp),d.aW.kept m,?_⟩
 .exact name_of_addr x.apart (t_ h1) (t_ h2)
 .have g:=g;obtain g|g:=g
  .exact WJ g
  exact f' xz (S.aj6 _<|t_ g)
 .exact bL (x.above y c<|t_ h)
 .have hi:i<vs.length:=by
   unfold start at h2
   by_cases hi:i<vs.length
   .exact hi
   rw[BC (by simpa using hi)]at h2;rw[Tf]at h2
   split at h2 <;> cases h2
  have ha:vs[i]?=a_ v:=by
   unfold start at h2;rw[zA (by simpa using hi),cF]at h2;rcases e:vs[i]? with _|a
   ·rw[e]at h2;cases h2
   rw[e]at h2;cases h2;rfl
  obtain⟨u,n,t⟩:=r.get ha
  have j:ps[i]?=a_ y:=by
   rw[<-S.pre,List.getElem?_take_of_lt om];exact h1
  have o:ps.Nodup:=by rw[<-S.pre];exact S.nd.sublist<|ab5 _ _
  refine⟨u,t,?_⟩;rcases S.par y (a8 j)with k | k
  .exact .inl ⟨k,VQ o j n k⟩
  obtain⟨c,e⟩:=WJ k;refine .inr ⟨.inl k,c,e,?_⟩;have q:=x.cell y c e;rw[VS o j n (by show scope.names.lookup y≠_;rw[k];decide)]at q;exact q
 .exact d.aW.fresh (bL<|x.above y c<|t_ h)
 unfold start;show _=N.length;rw[cQ,aA,xn];omega
def yg{CX:p6}{P:k_}{w:j_}{K:u_}{mg:d0->Option f_}{gW:i_}{k:Nat}{j:Arguments}{g:List bx}{scope:d6}{an od:Option e_}{iK:Array (Option f_)}{sp:Sp}(lk:K.lookup f=a_ ⟨oc,od,.func<|B_ name qual j g scope dV kV doc pm an aH ct,iK⟩)(p:W.codeIn K aH qual=c_)(S:aX N ps scope)(len:∀vs H Q E,sp vs H Q E->vs.length=ps.length)(z:∀(A:h_)(outer:List Env)(s:g_)(H:Hp)(vs:List V)(Q:VK)(E:XK),fz k (A.deeper<|db qual scope s.zS f aH)->sp vs H Q E->∃t,fD (pO CX P w K mg gW N qual scope f aH A outer s H E) g t/\t {nx:=λ_ H'=>Q .aO H',rt:=Q} (start N vs) H):aG P w K mg gW CX (k+1) f (B_ name qual j g scope dV kV doc pm an aH ct) ps sp:=by
 refine⟨len,λA outer s H args us vs Q E h c B r l=>?_⟩;have m:=c.mod.yE.keeps λb o e=>(c.bs b o e).1;have C:=c.mod.nolimit.keeps λb o e=>(c.bs b o e).1
 have D:∀y∈ps.zip us,scope.names.lookup y.1=a_ .local\/(scope.names.lookup y.1=a_ .cell/\((cellsFrom (s.zS+1) scope.names []).lookup y.1).isSome=c_):=λ⟨n,v⟩F=>by
  obtain q|q:=S.par n (Fc F).1
  .exact .inl q
  exact .inr ⟨q,W.cellsFrom_some _ _ _<|.inl q⟩
 refine codeAny_call_function h.depth (m _ _ lk) xz S.co S.gen xz (W.codeRec_of m p)<|B _ _ _ _ ?_;refine wpAny_newFunctionEnv_cells S.kind D λenv G s1 x=>?_;subst G;refine⟨C.keeps x.toInCall.keep,codeAny_func ?_⟩;obtain⟨t,L,M⟩:=z A outer s H vs Q E (h.deeper _) l;have I:df (pO CX P w K _ _ N _ _ f _ A _ s H E) [] (start N _) H s1:=ae3 S h.hd c (len _ _ _ _ l) r x;refine jU (L [] s1 _ H _ I M) (λO s' a=>?_) λe s' a=>a
 have fin:∀{d:St}{H':Hp}{v:V}{u:f_},df (pO CX P w K mg gW N qual scope f aH A outer s H E) [] d H' s'->dn v u->Q v H'->CE outer P w H s Q u s':=
  λ{d H' v u}J i q=>⟨v,H',J.os,J.bare,J.base,J.aW,i,q⟩
 cases O with
 | ret u=>
  obtain⟨v,d,H',J,i,q⟩:=a;exact fin J i q
 | next=>
  obtain⟨d,H',J,q⟩:=a;exact fin (v:=V.aO) J xz q
 | brk=>
  obtain⟨_,_,_,q⟩:=a;exact nN q
 | cont=>
  obtain⟨_,_,_,q⟩:=a;exact nN q
section
variable{X:Cx}{x:d0}{p pos:Pos}{e:c0}{es:List c0}{t:TA}{id T:String}{r:List V->Hp->VK->Prop}
def QW(r:List V->Hp->VK->Prop)(t:TA):TE:=λσ H Q=>t σ H λvs a=>r vs a Q
def bC(a:jt X (.builtin id) r)(b:Gl X x)(hm:X.mg x=b_)(c:vh x=a_ (.builtin id))(ha:PA X (e::es) t)(hn:autoParam (x ≠ "__name__") ap)(d:autoParam ((x==("__debug__":d0))=false) ap)
  (f:autoParam (cx (e::es) X.env=(d_,eval e X.env)::cx es X.env) am) (g:autoParam ((ca pos<|cx es X.env).any (·.1)=false) am):PE X (.Call (.Name x p) (e::es) [] pos) (QW r t):=by
 intro p_ s σ H Q I h;refine E4<|x9 I b hm c (PyProof.Rows.callWith_builtin1 (aV (ha _ _ s _ H _ I h) ?_) f g) hn d;rintro us s1⟨vs,l,i,j,k⟩;exact a _ _ _ _ _ _ Q i j k
def fK(a:jt X (.type T) r)(b:Gl X x)(hm:X.mg x=b_)(c:vh x=a_ (.type T))(ha:PA X (e::es) t)(hn:autoParam (x ≠ "__name__") ap)(d:autoParam ((x==("__debug__":d0))=false) ap)
  (f:autoParam (cx (e::es) X.env=(d_,eval e X.env)::cx es X.env) am) (g:autoParam ((ca pos<|cx es X.env).any (·.1)=false) am):PE X (.Call (.Name x p) (e::es) [] pos) (QW r t):=by
 intro p_ s σ H Q I h;refine E4<|x9 I b hm c (JE (aV (ha _ _ s _ H _ I h) ?_) f g) hn d;rintro us s1⟨vs,l,i,j,k⟩;exact a _ _ _ _ _ _ Q i j k
end
end L2
namespace HT
section
variable{prog:k_}{w:j_}{A:h_}{E:f_->g_->Prop}{s:g_}
noncomputable def cp(n d:Nat):Option Int->Nat
 | none=>d
 | some v=>if v<0 then (v+(n:Int)).toNat else min v.toNat n
def ajL(n d:Nat)(hd:d<=n)(o:Option Int):cp n d o<=n:=by
 rcases o with _|v;exact hd
 show (if v<0 then (v+n).toNat else min _ n)<=n
 by_cases a:v<0
 .rw[eT a];omega
 rw[eN a];exact Nat.min_le_right _ _
def XJ(v:Int)(n d:Nat):(if v<0 then max (v+(n:Int)) 0 else min v (n:Int))=((cp n d (a_ v):Nat):Int):=by
 show (if v<0 then max _ 0 else min v n)=(((if v<0 then (v+n).toNat else min _ n):Nat):Int)
 by_cases a:v<0
 .simp only[eT a];omega
 simp only[eN a];omega
def aea(lo hi:Option Int)(n:Nat):Te lo hi 1 (n:Int)=(((cp n 0 lo:Nat):Int),((cp n n hi:Nat):Int)):=by
 have h1:¬(1<0):=om;unfold Te;refine Prod.ext ?_ ?_
 .rcases lo with _|v;rfl;exact XJ v n 0
 rcases hi with _|v;rfl;exact XJ v n n
def adK(i j:Nat):JG (i:Int) (j:Int) 1=j-i:=by
 unfold JG;have h1:1 > 0:=om;simp only[h1,if_true,Int.ediv_one]
 split <;> omega
def UC{o:Option Int}{Q:Option Int->g_->Prop}(p:IsPart v o)(h:Q o s):bt (bv prog w) A (Builtin.Slice.slicePartIndex v) Q E s:=by
 rcases p with _|⟨i,t⟩;exact slicePart_none h;exact slicePart_int h
def ab'{sl:e_}{lo hi:Option Int}{n:Nat}{Q:Int×Int×Nat->g_->Prop}(c:s.heap.IsSliceOf sl vl vu .none)(pl:IsPart vl lo)(d:IsPart vu hi)(h:Q (((cp n 0 lo:Nat):Int),1,cp n n hi-cp n 0 lo) s):bt (bv prog w) A (abk (.ref sl)<|pure (n:Int)) Q E s:=by
 obtain⟨os,a,e,b⟩:=id c;refine ak<|ak<|lR a b xz<|ak<|lR a b xz<|ak<|lR a b xz<|aP<|ak<|slicePart_none ?_;rw[eN qc];refine ak<|UC pl<|ak<|UC d<|ak<|aP ?_;show bt _ _ (match Te lo hi 1 (n:Int)with | (lo,hi)=>pure (lo,(1:Int),JG lo hi 1)) _ _ s;rw[aea _ _ n];show bt _ _ (pure (((cp n 0 lo:Nat):Int),(1:Int),JG ((cp n 0 lo:Nat):Int) ((cp n n hi:Nat):Int) 1)) _ _ s;rw[adK];exact aP h
def afX(xs:Array f_)(i k:Nat):((List.range k).filterMap λ(m:Nat)=>xs[((i:Int)+(m:Int)*1).toNat]?).toArray=((xs.toList.drop i).take k).toArray:=by
 have e:(λ(m:Nat)=>xs[((i:Int)+(m:Int)*1).toNat]?)=λm=>xs[i+m]?:=by
  funext m
  have:(i+(m:Int)*1).toNat=i+m:=om;rw[this]
 rw[e];have:=pick_run xs i k;rw[List.filterMap_map]at this;have a:((λx=>xs[x]?) ∘ λx=>i+x)=λm=>xs[i+m]?:=rfl;rw[a]at this;rw[this]
def abW{t sl:e_}{items:Array f_}{lo hi:Option Int}(a:IsTup s.heap t items)(c:s.heap.IsSliceOf sl vl vu .none)(pl:IsPart vl lo)(d:IsPart vu hi)(hw:¬(cp items.size 0 lo=0/\cp items.size items.size hi=items.size))(h:Q (.ref s.zS) {s with heap:=s.heap.push {cls:=.type "tuple",data:=.seq ((items.toList.drop<|cp items.size 0 lo).take<|cp items.size items.size hi-cp items.size 0 lo).toArray}})(j:items.size<=bc):bt (bv prog w) A (getItem (.ref t)<|.ref sl) Q E s:=by
 have b:sizeOk (.seq ((items.toList.drop<|cp items.size 0 lo).take<|cp items.size items.size hi-cp items.size 0 lo).toArray):=by
  show ((items.toList.drop<|cp _ 0 _).take<|cp _ _ _-cp _ 0 _).toArray.size<=bc;rw[dG,fJ,Kb,jS];omega
 have k:cp _ _ _<=items.size:=ajL _ _ (aw _) hi;obtain⟨os,e,f,l⟩:=id c;have g:s.TypeIs (.ref _) "slice":=⟨os,e,f⟩;unfold getItem
 try with_reducible refine lP ?_
 first | refine ak (aP ?_) | skip
 refine ak<|wpAny_sequenceKey a.typeIs qc (ak<|xj a.typeIs Ta<|rH Ta a.typeIs entry_tuple_getitem ?_<|args_tuple_getitem _ _);show bt _ _ (Builtin.Tuple.tupleItemsOf (.ref t) >>= _) _ _ s;refine ak<|tupleItemsOf_ a (ak<|Ku g ?_);rw[eT qc];refine ak<|ab' c pl d ?_
 have i:¬((((cp items.size 0 lo:Nat):Int)==0&&(1:Int)==1&&(cp items.size items.size hi-cp items.size 0 lo)==items.size)=c_):=by
  intro q;rw[iB,iB]at q;have n:=eq_of_beq q.1.1;have o:=eq_of_beq q.2;exact hw ⟨om,om⟩
 show bt _ _ (if (((cp items.size 0 lo:Nat):Int)==0&&(1:Int)==1&&(cp items.size items.size hi-cp items.size 0 lo)==items.size)=c_ then _ else _) _ _ s;rw[eN i,afX]
 first
  | exact ak (m:=JH _) (rF (aP ⟨_,rfl,aP h⟩) b)
  | exact ak (m:=JH _) (rF (ak (aP (aP ⟨_,rfl,aP h⟩))) b)
  | exact ak (ak (m:=JH _) (rF (aP (aP ⟨_,rfl,aP h⟩)) b))
  | exact ak (ak (m:=JH _) (rF (aP ⟨_,rfl,aP h⟩) b))
end
end HT
namespace L2
abbrev TO:=St->Hp->(Option Int->Hp->Prop)->Prop
def PO(X:Cx)(e:Option c0)(t:TO):Prop:=
 ∀(p_:List (e_×d5))(s:g_)(σ:St)(H:Hp)(Q:Option Int->Hp->Prop),df X p_ σ H s->t σ H Q->
  bt (bv X.prog X.w) X.A (evalPart e X.env) (λu s'=>∃o H',df X p_ σ H' s'/\IsPart u o/\Q o H') X.xe s
def ahn:TO:=λ_ H Q=>Q b_ H
def alA(t:TE):TO:=λσ H Q=>t σ H λx a=>∃i,x=.int i/\Q (a_ i) a
def intsAre_of:∀{us:List f_},dt (ns.map V.int) us->IntsAre us ns:=by
 induction ns with
 | nil=>intro us r;rw[Um]at r;cases r;exact .nil
 | cons n ns ih=>
  intro us r;rw[eV]at r;cases r with
  | cons r1 r2=>
   obtain⟨t,e⟩:=r1;subst e;exact .cons n t<|ih r2
section
variable{X:Cx}{e:c0}{te:TE}{lo hi:Option c0}{tl th:TO}{pos p2:Pos}
def Nl:PO X b_ ahn:=by
 intro p_ s σ H Q I h;rw[evalPart_none];exact aP ⟨b_,H,I,.none,h⟩
def Ct(h:PE X e te):PO X (a_ e) (alA te):=by
 intro p_ s σ H Q I hw;rw[evalPart_some];refine aV (h _ s _ H _ I hw) ?_;rintro u s1⟨x,a,b,c,d⟩;obtain⟨i,rfl,q⟩:=d;obtain⟨t,rfl⟩:=c;exact⟨a_ i,a,b,.int i t,q⟩
def Il(X:Cx)(r:V->Option Int->Option Int->Hp->VK->Prop):Prop:=
 ∀(p_:List (e_×d5))(s:g_)(σ:St)(H:Hp)(x:V)(v a b:f_)(lo hi:Option Int)(sl:e_)(Q:VK),df X p_ σ H s->dn x v->s.heap.IsSliceOf sl a b .none->IsPart a lo->IsPart b hi->r x lo hi H Q->
  ∃T id,typeLookup (.type T) "__getitem__"=pure (a_<|.builtin id)/\s.TypeIs v T/\bt (bv X.prog X.w) X.A (getItem v<|.ref sl) (EP X p_ σ Q) X.xe s
def tSl(r:V->Option Int->Option Int->Hp->VK->Prop)(te:TE)(tl th:TO):TE:=λσ H Q=>te σ H λx a=>tl σ a λl b=>th σ b λu c=>r x l u c Q
def FU{r:V->Option Int->Option Int->Hp->VK->Prop}(f:Il X r)(g:PE X e te)(i:PO X lo tl)(j:PO X hi th):PE X (.Subscript e (.Slice lo hi b_ p2) pos) (tSl r te tl th):=by
 intro p_ s σ H Q I h;refine Subscript_<|aV (g _ s _ H _ I h) ?_;rintro v s1⟨x,E,k,m,n⟩;refine wpAny_Slice<|aV (i _ _ _ _ _ k n) ?_;rintro c s2⟨l,F,o,pl,p⟩;refine aV (j _ _ _ _ _ o p) ?_;rintro d a⟨u,t,w,y,z⟩;rw[evalPart_none];refine aP ?_;have A:df X _ _ _ {a with heap:=a.heap.push {cls:=.type "slice",data:=.fields #[c,d,.none]}}:=w.kept λb ob q=>bU _ q;obtain⟨T,id,B,C,D⟩:=f p_ {a with heap:=a.heap.push {cls:=.type "slice",data:=.fields #[c,d,.none]}} σ t x v c d l u a.zS Q A m (Heap.IsSliceOf.new ..) pl y z;exact tail_any C B D (by with_unfolding_all rfl)
def pP(xs:List V)(lo hi:Option Int):List V:=(xs.drop<|HT.cp xs.length 0 lo).take<|HT.cp xs.length xs.length hi-HT.cp xs.length 0 lo
def Ux(xs:List V)(lo hi:Option Int):(pP xs lo hi).length<=xs.length:=by
 unfold pP;rw[fJ,Kb];omega
def pS(K:u_):V->Option Int->Option Int->Hp->VK->Prop:=λx lo hi H Q=>∃a xs,x=.ref a/\aq K H a xs/\
 ¬(HT.cp xs.length 0 lo=0/\HT.cp xs.length xs.length hi=xs.length)/\∀p,H p=b_->Q (.ref p) (dc H p<|.tup<|pP xs lo hi)
def NJ:Il X (pS X.K):=by
 intro p_ s σ H x v m n lo hi sl Q I g i pl j h;obtain⟨a,xs,rfl,k,hw,q⟩:=h;cases g;obtain⟨l,r,d,f⟩:=I.tuple k;have c:l.toArray.size=xs.length:=by rw[dG];exact r.length.gx
 refine⟨"tuple",_,Ta.lookup,d.typeIs,HT.abW d i pl j (c▸hw) ?_<|c▸f⟩;rw[c];refine⟨.ref _,_,I.laid (λb ob q=>bU _ q) (aw _) ?_,xz,q _<|I.aW.fresh<|aw _⟩;exact⟨dq (Ux _ _ _) f,_,(r.drop<|HT.cp _ 0 _).take<|HT.cp _ _ _-HT.cp _ 0 _,IsTup.new _ _⟩
end
noncomputable def oB(n:Nat)(i:Int):Option Nat:=if 0<=i then (if i<n then a_ i.toNat else b_) else if -(n:Int)<=i then a_ (i+n).toNat else b_
def iI{a:Type}(xs:List a)(i:Int):Option a:=(oB xs.length i).bind λj=>xs[j]?
def Xu{n:Nat}{i:Int}{j:Nat}(h:oB n i=a_ j):LK i n=a_ j/\j<n/\-(n:Int)<=i/\i<n:=by
 unfold oB at h
 by_cases a:0<=i
 .rw[eT a]at h
  by_cases h1:i<n
  .rw[eT h1]at h;have e:=c8 h;exact⟨by rw[seqIndex_of a h1,e],om,om,h1⟩
  rw[eN h1]at h;cases h
 rw[eN a]at h
 by_cases h1:-n<=i
 .rw[eT h1]at h;have e:=c8 h;exact⟨by rw[Ui om h1,e],om,h1,om⟩
 rw[eN h1]at h;cases h
def XR{a:Type}{xs:List a}{i:Int}{v:a}(h:iI xs i=a_ v):∃j,LK i xs.length=a_ j/\xs[j]?=a_ v/\j<xs.length/\-(xs.length:Int)<=i/\i<xs.length:=by
 unfold iI at h;rcases e:oB xs.length i with _|j
 ·rw[e]at h;cases h
 rw[e]at h;obtain⟨h1,h2,h3,h4⟩:=Xu e;exact⟨j,h1,h,h2,h3,h4⟩
def cI{a:Type}{xs:List a}{j:Nat}{v:a}(h:xs[j]?=a_ v):iI xs (j:Int)=a_ v:=by
 have b:=(b0.mp h).1
 have e:oB xs.length (j:Int)=a_ j:=by
  unfold oB;rw[eT om,eT om];simp
 unfold iI;rw[e];exact h
def WM{a:Type}(xs:List a)(v:a):iI (xs++[v]) (-1)=a_ v:=by
 have b:(xs++[v]).length=xs.length+1:=by simp
 have e:oB (xs++[v]).length (-1)=a_ xs.length:=by
  unfold oB;rw[b,eN qc,eT om]
  congr 1
  omega
 unfold iI;rw[e];simp
def ajh(b:c0):Prop:=∀o i,subscripted b d_ o i=operate [o,i] (getItem o i)
def A7(X:Cx)(r:R2):Prop:=
 ∀(b a:c0)(p_:List (e_×d5))(s:g_)(σ:St)(H:Hp)(x y:V)(v u:f_)(Q:VK),df X p_ σ H s->dn x v->dn y u->r x y H Q->
  subscripted a d_ v u=operate [v,u] (getItem v u)->bt (bv X.prog X.w) X.A (subscriptTail b a v u) (EP X p_ σ Q) X.xe s
def MtR(X:Cx)(id:String)(r:V->List V->Hp->VK->Prop):Prop:=
 ∀(p_:List (e_×d5))(s:g_)(σ:St)(H:Hp)(x:V)(xs:List V)(v:f_)(us:List f_)(Q:VK),df X p_ σ H s->dn x v->dt xs us->r x xs H Q->
  bt (bv X.prog X.w) X.A (call (.builtin id) (v::us)) (EP X p_ σ Q) X.xe s
section
variable{X:Cx}{a b:c0}{ta tb:TE}{pos:Pos}
def aU{r:R2}(c:A7 X r)(ha:PE X a ta)(d:PE X b tb)(e:ajh b:=by intro _ _;rfl):PE X (.Subscript a b pos) (AW r ta tb):=by
 exact λp_ s σ H Q I h=>Subscript_ (Qu ha d I h λv u s2 x y j f g i q=>c a b _ _ _ _ x y v u Q f g i q<|e _ _)
def AF(K:u_):R2:=λx y H Q=>∃p xs i v,x=.ref p/\y=.int i/\ag K H p xs/\iI xs i=a_ v/\Q v H
def AE(K:u_):R2:=λx y H Q=>∃p xs i v,x=.ref p/\y=.int i/\aq K H p xs/\iI xs i=a_ v/\Q v H
def bX:A7 X (AF X.K):=by
 intro B C p_ s σ H x y v u Q I g k h d;obtain⟨p,xs,i,z,rfl,rfl,l,m,q⟩:=h;cases g;obtain⟨t,rfl⟩:=k;obtain⟨n,r,pl,D⟩:=I.list l;obtain⟨j,h1,h2,h3,h4,h5⟩:=XR m;obtain⟨w,e,o⟩:=r.get h2;have A:=r.length;have hn:=CN;have fin:EP X _ _ Q w s:=⟨z,H,I,o,q⟩
 by_cases f:0<=i
 .have c:i.toNat=j:=by
   rw[seqIndex_of f h5]at h1;exact c8 h1
  exact item_listR pl.isList f om (by rw[c];simpa using e) fin d
 have c:(i+(n.toArray.size:Int)).toNat=j:=by
  rw[Ui om h4]at h1;rw[dG,<-A];exact c8 h1
 exact abx (x:=w) pl.isList.typeIs slot_list_getitem.lookup
  (wpAny_getItem_list_neg (Q:=λr s'=>r=w/\EP X p_ σ Q r s') pl.isList om (by rw[dG] <;> omega) om (by rw[c];simpa using e) ⟨xz,fin⟩) d
def dh:A7 X (AE X.K):=by
 intro m n p_ s σ H x y v u Q I c d h e;obtain⟨p,xs,i,z,rfl,rfl,f,g,q⟩:=h;cases c;obtain⟨t,rfl⟩:=d;obtain⟨o,r,pl,A⟩:=I.tuple f;obtain⟨j,h1,h2,h3,h4,h5⟩:=XR g;obtain⟨w,k,l⟩:=r.get h2;have hn:=CN;have fin:EP X _ _ Q w s:=⟨z,H,I,l,q⟩
 exact abx (x:=w) pl.typeIs slot_tuple_getitem.lookup
  (getItem_tuple (j:=j) (Q:=λr s'=>r=w/\EP X p_ σ Q r s') pl om om (by rw[dG,<-r.length];exact h1) (by simpa using k) ⟨xz,fin⟩) e
def adZ(c:List f_)(n j:Nat)(u:f_):gQ (·.setIfInBounds j u) {cls:=.type "list",data:=.seq c.toArray n}={cls:=.type "list",data:=.seq (c.set j u).toArray n}:=by
 simp[gQ]
def df.lst(I:df X p_ σ H s)(h:H p=a_ (.lst xs)):∃(c:List f_)(n:Nat),dt xs c/\s.heap.get? p=a_ {cls:=.type "list",data:=.seq c.toArray n}/\xs.length<=bc:=by
 obtain⟨z,c,n,r,e⟩:=I.aW p _ h;exact⟨c,n,r,e,z⟩
def df.akj{p_:List (e_×d5)}{σ:St}{H:Hp}{s:g_}{p:e_}{xs ys:List V}{g c:List f_}{n d:Nat}{f:d5->d5}(I:df X p_ σ H s)(h:H p=a_ (.lst xs))(j:s.heap.get? p=a_ {cls:=.type "list",data:=.seq g.toArray n})(i:f {cls:=.type "list",data:=.seq g.toArray n}={cls:=.type "list",data:=.seq c.toArray d})(r:dt ys c)(k:ys.length<=bc)(t:Nat):df X p_ σ (dc H p<|.lst ys) {s with heap:=s.heap.update p f,toks:=t}:=by
 have e:(s.heap.update p f).get? p=a_ {cls:=.type "list",data:=.seq c.toArray d}:=by
  rw[xo f j (by rw[i] <;> rfl),i]
 exact I.write (by rw[h];trivial) (.inl xz) (λb u l q=>(abB _ _<|iT l).gw q) ⟨_,e⟩ ⟨k,c,d,r,e⟩
def alQ:V->V->V->Hp->(Hp->Prop)->Prop:=λo i v H Q=>∃p xs k j,o=.ref p/\i=.int k/\H p=a_ (.lst xs)/\oB xs.length k=a_ j/\Q (dc H p<|.lst<|xs.set j v)
def set_list:Qx X alQ:=by
 intro p_ s σ H o i v ov B u Q I w x y h;obtain⟨p,xs,k,j,rfl,rfl,f,z,q⟩:=h;cases w;obtain⟨t,rfl⟩:=x;obtain⟨g,n,r,c,A⟩:=I.lst f;obtain⟨h1,h2,h3,h4⟩:=Xu z;have d:=r.length;have hn:=CN
 have l:df X p_ σ (dc H p<|.lst<|xs.set j v) {s with heap:=s.heap.update p (gQ (·.setIfInBounds j u))}:=
  I.akj f c (adZ g n j u) (r.set y j) (by rw[gL];exact A) s.toks
 by_cases m:0<=k
 .have e:k.toNat=j:=by
   rw[seqIndex_of m h4]at h1;exact c8 h1
  exact W.ki_setAt c m om (by rw[dG,<-d];exact h4)<|e▸⟨_,l,q⟩
 have e:(k+(g.toArray.size:Int)).toNat=j:=by
  rw[Ui om h3]at h1;rw[dG,<-d];exact c8 h1
 exact W.ki_setBack c om (by rw[dG,<-d];exact h3) om<|e▸⟨_,l,q⟩
def mL(i:Int)(n d:Nat):max 0 (min (if i<0 then i+(n:Int) else i) (n:Int))=((HT.cp n d (a_ i):Nat):Int):=by
 show _=(((if i<0 then (i+n).toNat else min i.toNat n:Nat)):Int)
 by_cases h:i<0
 .rw[eT h,eT h];lia
 rw[eN h,eN h];lia
def acW(lo hi:Option Int)(n:Nat):(sliceBounds lo hi b_ n).1=((HT.cp n 0 lo:Nat):Int)/\(sliceBounds lo hi b_ n).2.1=((HT.cp n n hi:Nat):Int)/\(sliceBounds lo hi b_ n).2.2=1:=by
 refine⟨?_,?_,xz⟩
 .rcases lo with _|i;rfl;exact(mL i n 0)
 rcases hi with _|i;rfl;exact(mL i n n)
def acM(c:List f_)(lo hi:Option Int):slicePick c.toArray lo hi b_=((c.drop<|HT.cp c.length 0 lo).take<|HT.cp c.length c.length hi-HT.cp c.length 0 lo).toArray:=by
 obtain⟨h1,h2,h3⟩:=acW _ _ _;unfold slicePick;rw[h1,h2,h3];simp only[sliceRange_one,pick_run,dG] <;> rfl
def aoC(K:u_):V->Option Int->Option Int->Hp->VK->Prop:=λx lo hi H Q=>∃a xs,x=.ref a/\ag K H a xs/\∀p,H p=b_->Q (.ref p) (dc H p<|.lst<|pP xs lo hi)
def ahx:Il X (aoC X.K):=by
 intro p_ s σ H x v k l lo hi sl Q I d e pl f h;obtain⟨a,xs,rfl,g,q⟩:=h;cases d;obtain⟨m,r,c,i⟩:=I.list g;have j:=r.length;refine⟨"list",_,slot_list_getitem.lookup,c.isList.typeIs,wpAny_getItem_list_slice c.isList e pl f .none (by simp) ?_<|by rw[dG] <;> omega⟩;rw[acM,<-j];refine⟨.ref _,_,I.laid (λb ob q=>bU _ q) (aw _) ?_,xz,q _<|I.aW.fresh<|aw _⟩;exact⟨dq (Ux _ _ _) i,_,0,(r.drop<|HT.cp _ 0 _).take<|HT.cp _ _ _-HT.cp _ 0 _,eU _ xz⟩
noncomputable def sD:V->Bool
 | .aO=>c_
 | .bl _=>c_
 | .int _=>c_
 | .str _=>c_
 | _=>d_
noncomputable def pZ:V->V->Bool
 | .aO,.aO=>c_
 | .bl a,.bl b=>a==b
 | .bl a,.int b=>(if a then 1 else 0)==b
 | .int a,.bl b=>a==(if b then 1 else 0)
 | .int a,.int b=>a==b
 | .str a,.str b=>a==b
 | _,_=>d_
def akB(d:dn y u)(c:dn x v)(f:sD y=c_)(e:sD x=c_):jD A s u v (pZ y x):=by
 cases y with
 | aO=>
  cases d;cases x with
  | aO=>cases c;exact jD.same _
  | bl b=>cases c;exact jD.none_bool b
  | int b=>obtain⟨t,rfl⟩:=c;exact abN b t
  | str b=>obtain⟨t,rfl⟩:=c;exact jD.none_str b t
  | _=>exact f' e dF
 | bl a=>
  cases d;cases x with
  | aO=>cases c;exact jD.bool_none a
  | bl b=>cases c;exact jD.bool_bool a b
  | int b=>obtain⟨t,rfl⟩:=c;exact jD.bool_int a b t
  | str b=>obtain⟨t,rfl⟩:=c;exact jD.bool_str a b t
  | _=>exact f' e dF
 | int a=>
  obtain⟨t',rfl⟩:=d;cases x with
  | aO=>cases c;exact abO a _
  | bl b=>cases c;exact jD.int_bool a _ b
  | int b=>obtain⟨t,rfl⟩:=c;exact jD.int_int a _ b t
  | str b=>obtain⟨t,rfl⟩:=c;exact jD.int_str a _ b t
  | _=>exact f' e dF
 | str a=>
  obtain⟨t',rfl⟩:=d;cases x with
  | aO=>cases c;exact jD.str_none a _
  | bl b=>cases c;exact jD.str_bool a _ b
  | int b=>obtain⟨t,rfl⟩:=c;exact jD.str_int a _ b t
  | str b=>obtain⟨t,rfl⟩:=c;exact jD.str_str a _ b t
  | _=>exact f' e dF
 | _=>exact f' f dF
def my(x:V)(u:f_):Bool:=match u with
 | .none=>pZ .aO x
 | .bool b=>pZ (.bl b) x
 | .int i _=>pZ (.int i) x
 | .str z _=>pZ (.str z) x
 | _=>d_
def YM(r:dn y u)(f:sD y=c_):my x u=pZ y x:=by
 cases y with
 | aO=>cases r;rfl
 | bl b=>cases r;rfl
 | int i=>obtain⟨t,rfl⟩:=r;rfl
 | str z=>obtain⟨t,rfl⟩:=r;rfl
 | _=>exact f' f dF
theorem CB{xs:List V}{us:List f_}(h:dt xs us)(f:xs.all sD=c_):us.any (my x)=xs.any λy=>pZ y x:=by
 induction h with
 |nil=>rfl
 |cons r t i=>rw[zL,iB]at f;rw[vg,vg,YM r f.1,i f.2]
theorem Ce(d:dn x v)(e:sD x=c_){xs:List V}{us:List f_}(h:dt xs us)(f:xs.all sD=c_):∀u∈us,jD A s u v<|my x u:=by
 induction h with
 |nil=>intro u c;cases c
 |cons r t i=>
  intro g c;rw[zL,iB]at f;obtain rfl|c:=bK.mp c
  .rw[YM r f.1];exact akB r d f.1 e
  exact i f.2 g c
def wz(x:V)(xs:List V):Bool:=xs.any λy=>pZ y x
def na(K:u_)(c:Bool):R2:=λx y H Q=>∃p xs,y=.ref p/\(ag K H p xs\/aq K H p xs)/\sD x=c_/\xs.all sD=c_/\Q (.bl (if c then !wz x xs else wz x xs)) H
def aeG:dP X (g6 .In) (na X.K d_):=by
 intro p_ s σ H x y v u Q I e g h;obtain⟨p,xs,rfl,c,f,fs,q⟩:=h;cases g;obtain c|c:=c
 .obtain⟨d,r,pl,i⟩:=I.list c;refine SeqAt.in_listAt _ pl.isList (λw hw=>Ce e f r fs w<|by simpa using hw) ⟨.bl _,H,I,xz,?_⟩;rw[show d.toArray.any (my x)=d.any (my x) by simp,CB r fs];exact q
 obtain⟨d,r,pl,i⟩:=I.tuple c;refine SeqAt.in_tupleAt _ pl (λw hw=>Ce e f r fs w<|by simpa using hw) ⟨.bl _,H,I,xz,?_⟩;rw[show d.toArray.any (my x)=d.any (my x) by simp,CB r fs];exact q
def Uh:dP X (g6 .NotIn) (na X.K c_):=by
 intro p_ s σ H x y v u Q I e g h;obtain⟨p,xs,rfl,c,f,fs,q⟩:=h;cases g;obtain c|c:=c
 .obtain⟨d,r,pl,i⟩:=I.list c;refine SeqAt.notIn_listAt _ pl.isList (λw hw=>Ce e f r fs w<|by simpa using hw) ⟨.bl _,H,I,xz,?_⟩;rw[show d.toArray.any (my x)=d.any (my x) by simp,CB r fs];exact q
 obtain⟨d,r,pl,i⟩:=I.tuple c;refine SeqAt.notIn_tupleAt _ pl (λw hw=>Ce e f r fs w<|by simpa using hw) ⟨.bl _,H,I,xz,?_⟩;rw[show d.toArray.any (my x)=d.any (my x) by simp,CB r fs];exact q
def ft:jt X (.builtin "len") (λxs H Q=>∃p ys,xs=[.ref p]/\(ag X.K H p ys\/aq X.K H p ys)/\Q (.int ys.length) H):=by
 intro p_ s σ H xs us Q I r h;obtain⟨p,ys,rfl,c,q⟩:=h;obtain⟨u,rfl,f⟩:=vals1 r;cases f;have hn:=CN;obtain c|c:=c
 .obtain⟨g,d,pl,i⟩:=I.list c;have e:=d.length;exact Calls.call_len_list pl.isList (by simp only[dG] <;> omega) ⟨.int _,H,I.tok _,⟨s.toks+1,by rw[dG,e]⟩,q⟩
 obtain⟨g,d,pl,i⟩:=I.tuple c;have e:=d.length;exact len_tuple pl (by simp only[dG] <;> omega) ⟨.int _,H,I.tok _,⟨s.toks+1,by rw[dG,e]⟩,q⟩
def xB:jt X (.type "list") (λxs H Q=>∃p ys,xs=[.ref p]/\(ag X.K H p ys\/aq X.K H p ys)/\∀l,H l=b_->Q (.ref l) (dc H l<|.lst ys)):=by
 intro p_ s σ H xs us Q I r h;obtain⟨p,ys,rfl,g,q⟩:=h;obtain⟨u,rfl,m⟩:=vals1 r;cases m
 have fin:∀(c:List f_),dt ys c->ys.length<=bc->∀(h':i_)(d:Nat),(∀b o',s.heap.get? b=a_ o'->h'.get? b=a_ o')->
   h'.get? s.zS=a_ {cls:=.type "list",dict:=b_,data:=.seq c.toArray d,slots:=#[]}->EP X p_ σ Q (.ref s.zS) {s with heap:=h'}:=λc f i h' d kp e=>
  ⟨.ref s.zS,_,I.laid (t':=s.toks) kp (aw _) (show fj X.prog X.w _ h' _ (.lst ys) from ⟨i,c,d,f,e⟩),xz,q _<|I.aW.fresh<|aw _⟩
 obtain g|g:=g
 .obtain⟨c,f,pl,i⟩:=I.list g;have t:=f.length;obtain⟨o,j,k,n,hd⟩:=pl.isList;exact call_list_seq p (.inl xz) j k hd (λh' d kp e=>fin c f i h' d kp e) (by simp only[dG] <;> omega)
 obtain⟨c,f,pl,i⟩:=I.tuple g;have t:=f.length;obtain⟨o,j,k,n,hd⟩:=pl;exact call_list_seq p (.inr xz) j k hd (λh' d kp e=>fin c f i h' d kp e) (by simp only[dG] <;> omega)
def kC:jt X (.type "tuple") (λxs H Q=>∃p ys,xs=[.ref p]/\((ag X.K H p ys/\∀l,H l=b_->Q (.ref l) (dc H l<|.tup ys))\/(aq X.K H p ys/\Q (.ref p) H))):=by
 intro p_ s σ H xs us Q I r h;obtain⟨p,ys,rfl,h⟩:=h;obtain⟨u,rfl,j⟩:=vals1 r;cases j;obtain⟨c,q⟩|⟨c,q⟩:=h
 .obtain⟨d,f,pl,g⟩:=I.list c;have m:=f.length;refine call_tuple_list pl.isList (λh' kp=>?_) (by simp only[dG] <;> omega);have i:=I.kept (t':=s.toks) kp
  have k:df X p_ σ (dc H h'.zH<|.tup ys) {s with heap:=h'.push {cls:=.type "tuple",data:=.seq d.toArray}}:=
   i.laid (t':=s.toks) (λb o e=>bU _ e) (aw _) (show fj X.prog X.w _ _ _ (.tup ys) from ⟨g,d,f,IsTup.new _ _⟩)
  exact⟨.ref _,_,k,xz,q _<|i.aW.fresh<|aw _⟩
 obtain⟨d,f,pl,g⟩:=I.tuple c;exact call_tuple_same pl ⟨.ref p,H,I,xz,q⟩
def mu(K:u_)(T:String)(x:V)(H:Hp):Prop:=match x with
 | .str _=>T="str"
 | .int _=>T="int"
 | .ref p=>(T="list"/\∃xs,ag K H p xs)\/(T="tuple"/\∃o,K.lookup p=a_ o/\o.cls=.type "tuple"/\o.dict=b_)\/
   (T="dict"/\((∃fG,H p=a_ (.dK fG))\/∃fG,H p=a_ (.dT fG)))\/(T="set"/\∃S n,H p=a_ (.set S n))
 | _=>False
def ajm{T:String}(I:df X p_ σ H s)(r:dn x v)(ty:mu X.K T x H):s.TypeIs v T/\∀a,v=.ref a->∃ob,s.heap.get? a=a_ ob/\ob.dict=none:=by
 cases x with
 | str z=>
  obtain⟨t,rfl⟩:=r;cases ty;exact⟨typeIs_str s z t,λ_ e=>by cases e⟩
 | int i=>
  obtain⟨t,rfl⟩:=r;cases ty;exact⟨typeIs_int s i t,λ_ e=>by cases e⟩
 | ref p=>
  cases r;obtain⟨rfl,xs,g⟩|⟨rfl,o,d,h,hd⟩|⟨rfl,d⟩|⟨rfl,S,n,d⟩:=ty
  .obtain⟨j,_,pl,_⟩:=I.list g;refine⟨pl.isList.typeIs,λa e=>?_⟩;cases e;obtain⟨o,n,e,c,hd,_⟩:=pl;exact⟨o,e,hd⟩
  .refine⟨⟨o,I.dB p o d,h⟩,λa e=>?_⟩;cases e;exact⟨o,I.dB _ o d,hd⟩
  .have z:∃o,s.heap.get? p=a_ o/\o.ExactDict:=by
    obtain⟨fG,d⟩|⟨fG,d⟩:=d
    .obtain⟨_,_,_,_,o,_,_,e,ex,_⟩:=I.aW p _ d;exact⟨o,e,ex⟩
    obtain⟨_,_,o,_,_,e,ex,_⟩:=I.aW p _ d;exact⟨o,e,ex⟩
   obtain⟨o,e,ex⟩:=z;refine⟨⟨o,e,ex.1⟩,λa f=>?_⟩;cases f;exact⟨o,e,ex.2.1⟩
  obtain⟨o,_,_,_,e,ex,_⟩:=I.aW p _ d;refine⟨⟨o,e,ex.1⟩,λa f=>?_⟩;cases f;exact⟨o,e,ex.2.1⟩
 | _=>exact nN ty
abbrev tBM(K:u_)(T:String)(r:V->List V->Hp->VK->Prop)(to:TE)(t:TA):TE:=λσ H Q=>to σ H λx H1=>mu K T x H1/\t σ H1 λxs H2=>r x xs H2 Q
variable{o e:c0}{es:List c0}{to:TE}{t:TA}{name:d0}{apos yz:Pos}{T id:String}{r:V->List V->Hp->VK->Prop}
def kG(g:PlainAttrs T)(slot:Slot T name id)(i:typeOf (.builtin id)=pure (.type "method_descriptor"))(hm:MtR X id r)(j:PE X o to)(ha:PA X (e::es) t)
  (k:autoParam (Kl o name X.env (eval o X.env)=eval o X.env) am)
  (l:autoParam (((ca yz<|cx (e::es) X.env).all (λx=>!x.1)&&(xP yz<|xE [] X.env).all (λx=>x.1.isSome)
   && decide ((e::es).length+([]:List Keyword).length+(if ([]:List Keyword).isEmpty then 0 else 1)<30))=true) am)
  (m:autoParam ((apos.endLine==yz.line)=true) am) (n:autoParam (cx (e::es) X.env=(d_,eval e X.env)::cx es X.env) am) (p:autoParam ((ca yz<|cx es X.env).any (·.1)=false) am) :
  PE X (.Call (.Attribute o name apos) (e::es) [] yz) (tBM X.K T r to t):=by
 refine λp_ s σ H Q I h=>wpAny_Call_method_late k l m xz<|aV (j _ s _ H _ I h) ?_;rintro v s1⟨x,y,c,d,ty,q⟩;obtain⟨h1,h2⟩:=ajm c d ty;refine⟨T,id,g,slot,i,h1,h2,?_⟩;have f:=ha yz _ _ _ _ _ c q;rw[n]at f ⊢;refine Calls.callWith_builtin (by show (d_||(ca _<|cx _ _).any (·.1))=d_;rw[p] <;> rfl)<|Calls.evalArgs_plain<|aV f ?_;rintro us s2⟨vs,z,u,r2,w⟩;exact hm _ _ _ _ x _ v _ Q u d r2 w
end
def Ra(X:Cx)(id:String)(r:V->List V->Hp->VK->Prop):Prop:=
 ∀(p_:List (e_×d5))(s:g_)(σ:St)(H:Hp)(x:V)(xs:List V)(v:f_)(us:List f_)(Q:VK),df X p_ σ H s->dn x v->dt xs us->r x xs H Q->
  bt (bv X.prog X.w) X.A (call (.builtin id) (v::us)) (EP X p_ σ Q) X.xe s
def dt.one:=@vals1
theorem dt.eraseIdx{xs:List V}{us:List f_}(i:Nat)(h:dt xs us):dt (xs.eraseIdx i) (us.eraseIdx i):=by
 induction h generalizing i with
 |nil=>exact .nil
 |cons q t j=>cases i with
  |zero=>exact t
  |succ i=>exact .cons q<|j i
theorem dt.rep(h:dt xs us):∀k:Nat,dt (dU k xs).flatten (dU k us).flatten
 | 0=>.nil
 | k+1=>by
  rw[xp,xp,E7,E7];exact dt.append h<|dt.rep h k
theorem VB{a:Type}(l:List a)(i:Nat):(l.eraseIdx i).length<=l.length:=by
 rw[abI];split<;>omega
theorem foldl_rep(a:List f_):∀(k:Nat)(b:List f_),U5 (λc d=>c++d) b.toArray (dU k a.toArray)=(b++(dU k a).flatten).toArray
 | 0,b=>by simp
 | k+1,b=>by
  have e:b.toArray++a.toArray=(b++a).toArray:=by simp
  have f:(b++a)++(dU k a).flatten=b++(dU (k+1) a).flatten:=by
   rw[xp,E7,JX]
  rw[<-f,<-foldl_rep a k<|b++a,<-e,xp,List.foldl_cons]
section
variable{X:Cx}{p_:List (e_×d5)}{σ:St}{H:Hp}{s:g_}{l b:e_}{xs ys zs:List V}
def df.Qk{c a:List f_}{n:Nat}{f:Array f_->Array f_}{t':Nat}(I:df X p_ σ H s)(d:H l=a_ (.lst xs))(e:s.heap.get? l=a_ {cls:=.type "list",data:=.seq c.toArray n})(g:f c.toArray=a.toArray)(h:dt ys a)(i:ys.length<=bc):df X p_ σ (dc H l<|.lst ys) {s with heap:=s.heap.update l<|gQ f,toks:=t'}:=by
 have q:=PySem.IsL.update e f;rw[g]at q;exact I.write (d▸trivial) (.inl xz) (λm u j k=>(abB _ _<|iT j).gw k) ⟨_,q⟩ ⟨i,a,_,h,q⟩
def df.aam{t':Nat}(I:df X p_ σ H s)(a:dt ys ah)(c:ys.length<=bc):df X p_ σ (dc H s.zS<|.lst ys) {s with heap:=s.heap.push {cls:=.type "list",data:=.seq ah.toArray},toks:=t'}:=
 I.laid (λ_ _ q=>bU _ q) (aw _) ⟨c,ah,0,a,eU _ xz⟩
def df.fresh(I:df X p_ σ H s):H s.zS=none:=I.aW.fresh<|aw _
def df.qL(I:df X p_ σ H s)(c:H l=a_ (.lst xs)):xs.length<=bc/\∃(a:List f_)(n:Nat),dt xs a/\xs.length=a.length/\s.heap.get? l=a_ {cls:=.type "list",data:=.seq a.toArray n}:=by
 obtain⟨z,a,n,r,e⟩:=I.aW l _ c;exact⟨z,a,n,r,r.length,e⟩
def Wo{n:Nat}(h:n<=bc):JI n=false:=by
 exact fT om
end
section
variable{X:Cx}
def ah3:V->List V->Hp->VK->Prop:=λx vs H Q=>∃l xs y,x=.ref l/\vs=[y]/\H l=a_ (.lst xs)/\xs.length<bc/\Q .aO (dc H l<|.lst<|xs++[y])
def mY:Ra X "list.append" ah3:=by
 intro p_ s σ H x vs v us Q I b c h;obtain⟨l,xs,y,rfl,rfl,a,f,q⟩:=h;cases b;obtain⟨u,rfl,d⟩:=c.one;obtain⟨z,g,n,r,i,e⟩:=I.qL a;refine Fu F.slot_list_append ⟨_,e,xz⟩ F.entry_list_append (F.args_list_append_2 _ _) (PySem.list_append l _ n u<|by rw[dG];omega) ⟨e,⟨.aO,_,I.Qk a e (by simp) (r.append<|.cons d .nil) ?_,xz,q⟩⟩;rw[cQ,Tj];omega
def ah2:V->List V->Hp->VK->Prop:=λx vs H Q=>∃l b xs a,x=.ref l/\vs=[.ref b]/\H l=a_ (.lst xs)/\H b=a_ (.lst a)/\xs.length+a.length<=bc/\Q .aO (dc H l<|.lst<|xs++a)
def Vx:Ra X "list.extend" ah2:=by
 intro p_ s σ H x vs v us Q I f g h;obtain⟨l,b,xs,t,rfl,rfl,d,i,w,q⟩:=h;cases f;obtain⟨u,rfl,j⟩:=g.one;cases j;obtain⟨z,a,n,r,y,e⟩:=I.qL d;obtain⟨A,c,k,r2,B,m⟩:=I.qL i;have o:a.toArray.size+c.toArray.size<=bc:=by rw[dG,dG];omega
 have p:¬(!a.toArray.isEmpty&&JI (a.toArray.size+c.toArray.size))=true:=by
  rw[Wo o,Bool.and_false];exact dF
 refine Fu F.slot_list_extend ⟨_,e,xz⟩ F.entry_list_extend (F.args_list_extend_2 _ _)
  (AutoSeq1.list_extend_list_list_0 l a.toArray n b c.toArray k p (by rw[dG];omega) om) ⟨e,m,?_⟩
 refine⟨.aO,_,I.Qk d e (by simp) (r.append r2) ?_,xz,q⟩;rw[cQ];omega
def ajP:V->List V->Hp->VK->Prop:=λx vs H Q=>∃l xs i k y,x=.ref l/\vs=[.int i]/\H l=a_ (.lst xs)/\-(2^63)<=i/\i<2^63/\LK i xs.length=a_ k/\xs[k]?=a_ y/\Q y (dc H l<|.lst<|xs.eraseIdx k)
def agx:Ra X "list.pop" ajP:=by
 intro p_ s σ H x vs v us Q I b c h;obtain⟨l,xs,i,k,y,rfl,rfl,a,h1,h2,d,f,q⟩:=h;cases b;obtain⟨u,rfl,g⟩:=c.one;obtain⟨t,rfl⟩:=g;obtain⟨z,j,n,r,m,e⟩:=I.qL a;obtain⟨w,hw,o⟩:=r.get f
 refine Fu F.slot_list_pop ⟨_,e,xz⟩ F.entry_list_pop (F.args_list_pop_2 _ _)
  (MeetsSeq.list_pop_at l j.toArray n i t k w (fitsIndex_both h1 h2) (by rw[dG,<-m];exact d) (by rw[<-zB];exact hw)<|by rw[dG];omega) ⟨e,?_⟩
 refine⟨y,_,I.Qk a e ?_ (r.eraseIdx k) ?_,o,q⟩
 .rw[List.eraseIdxIfInBounds_toArray]
 .have:=VB xs k;omega
def aoE:R2:=λx y H Q=>∃l b xs a,x=.ref l/\y=.ref b/\H l=a_ (.lst xs)/\H b=a_ (.lst a)/\xs.length+a.length<=bc/\∀p,H p=b_->Q (.ref p) (dc H p<|.lst<|xs++a)
def ajV:dP X (nQ .Add) aoE:=by
 intro p_ s σ H x y v u Q I d f h;obtain⟨l,b,xs,m,rfl,rfl,g,i,o,q⟩:=h;cases d;cases f;obtain⟨z,a,n,r,p,e⟩:=I.qL g;obtain⟨t,c,w,r2,A,j⟩:=I.qL i;refine PySem.P.add_list e j ?_ (by rw[dG,dG];omega);have k:a.toArray++c.toArray=(a++c).toArray:=by simp
 rw[k];exact⟨.ref _,_,I.aam (r.append r2) (by rw[cQ];omega),xz,q _ I.fresh⟩
def aoD:R2:=λx y H Q=>∃l k xs,x=.ref l/\y=.int k/\H l=a_ (.lst xs)/\-(2^63)<=k/\k<2^63/\xs.length*k.toNat<=bc/\
 ∀p,H p=b_->Q (.ref p) (dc H p<|.lst (dU k.toNat xs).flatten)
def len_rep{a:Type}(xs:List a)(k:Nat):(dU k xs).flatten.length=k*xs.length:=by
 induction k with
 | zero=>simp
 | succ k ih=>rw[xp,E7,cQ,ih,Ul,Nat.add_comm]
def Og:dP X (nQ .Mult) aoD:=by
 intro p_ s σ H x y v u Q I g i h;obtain⟨l,k,xs,rfl,rfl,j,h1,h2,f,q⟩:=h;cases g;obtain⟨t,rfl⟩:=i;obtain⟨z,b,n,r,o,e⟩:=I.qL j;have p:b.toArray.size*k.toNat<=bc:=by rw[dG,<-o];exact f
 have w:¬b.toArray.size*k.toNat > (2^63-1)/8:=by
  have:bc<=(2^63-1)/8:=qc;omega
 have A:¬(!Builtin.List.listFitsIndex k)=true:=by
  rw[fitsIndex_both h1 h2];exact dF
 have B:¬JI (b.toArray.size*k.toNat)=true:=by
  rw[Wo p];exact dF
 have C:U5 (λc d=>c++d) #[] (dU (if b.toArray.isEmpty=c_ then 0 else k.toNat) b.toArray)=(dU k.toNat b).flatten.toArray:=by
  have D:∀m:Nat,U5 (λc d=>c++d) #[] (dU m b.toArray)=(dU m b).flatten.toArray:=λm=>by
   have:=foldl_rep b m [];rw[List.nil_append]at this;exact this
  rw[D];rcases b with _|⟨a,E⟩;simp;rw[eN (by simp)]
 refine wpAny_binaryOp_repeat_ref (T:="list") (U:="int") qc ⟨_,e,xz⟩ (λs'=>typeIs_int s' k t) noFill_list_mul F.fills_int_mul F.slot_int_rmul repeat_list F.slot_int_index.lookup
  (Fu F.slot_int_rmul (typeIs_int s k t) F.entry_int_rmul (F.args_int_rmul_2 _ _) (int___rmul___int_list k t l b.toArray n) ⟨e,xz,⟨_,e,xz⟩,Fu F.slot_list_mul ⟨_,e,xz⟩ F.entry_list_mul (F.args_list_mul_2 _ _) (AutoListH.list___mul___list_int_3 l b.toArray n k t A w B) ⟨e,?_⟩⟩)
 rw[C];exact⟨.ref _,_,I.aam (r.rep _) (by rw[len_rep,Nat.mul_comm];exact f),xz,q _ I.fresh⟩
end
section
variable{prog:k_}{w:j_}{A:h_}{E:f_->g_->Prop}{s:g_}
end
end L2
namespace Att
open PySem.W PySem.Calls
def acq{P:Params}:∀(ns:List Int)(vs:List f_),WellAll P h vs (ns.map FK)->IntsAre vs ns:=by
 intro ns
 induction ns with
 | nil=>
  intro vs w;rw[Um]at w;cases w;exact .nil
 | cons n ns ih=>
  intro vs w;rw[eV]at w;cases w with
  | cons a b=>
   cases a;exact .cons _ _<|ih _ b
def aew{l:OpenLaw}{n:Nat}(hn:l.most=a_ n){P:Params}{args:List WData}(b:l.row.toRowW.claim.pre args=c_)(e:WellAll P h vals args):∃a vs ns,vals=[dA a]/\args=[WData.list (ns.map FK)]/\h.get? a=a_ {cls:=.type "list",data:=.seq vs.toArray}/\IntsAre vs ns/\ns.length<=n:=by
 have c:l.pre.holds [] {args:=args}=true:=(pre_splitW b).2;obtain⟨d,r,rfl,h1,h2⟩:=hasAllW_cons<|(pre_splitW b).1;obtain rfl:=hasAllW_nil h2;obtain⟨xs,rfl,h3⟩:=hasW_list h1;obtain⟨ns,rfl⟩:=items_int h3
 have f:ns.length<=n:=by
  unfold OpenLaw.pre at c
  have h4:(WTm.not<|.lt (.lit<|.int (n:Int))<|.len<|.arg 0).holds [] {args:=[.list (ns.map .int)]}=true:=by
   have h4:=(holds_andW c).1;rw[hn]at h4;exact h4
  have h5:=condW_of h4<|w_not<|w_lt w_lit<|w_len_list<|w_arg xz;rw[aA]at h5;refine Nat.le_of_not_lt λq=>?_;have g:=om
  first
   | (rw[fC g]at h5;exact f' h5 qc)
   | (simp at h5;omega)
 cases e with
 | cons w1 w2=>
  cases w2;cases w1 with
  | list ho yy=>exact⟨_,_,ns,xz,xz,ho,acq _ _ yy,f⟩
def aeC(l:OpenLaw)(args:List WData):l.row.toRowW.claim.post args (.bool c_) args=true:=
 postW_of (r:=l.row.toRowW) (X:=(c_==c_))
  (show WShape.has [] (.bool c_) .bool=c_ by first | rfl | decide | simp[WShape.has,WShape.arms,WShape.armsAll])
  (show (WTm.eq .res<|.lit<|.bool c_).value [] {args:=args,res:=a_<|.bool c_,after:=args}=a_ (.bool<|c_==c_) from w_eq_bool (w_res xz) w_lit) xz
end Att
namespace L2
theorem Le{vs:List f_}{ns:List Int}(h:IntsAre vs ns):dt (ns.map V.int) vs:=by
 induction h with
 |nil=>exact .nil
 |cons n t h i=>exact .cons ⟨t,xz⟩ i
abbrev aF:p6:=λ_ _ _ _ _ _=>False
abbrev E0:XK:=λ_ _ _=>False
def cX{X:Cx}:Passes aF X E0:=λ_ _ _ _ _ _ _ h=>h.elim
structure aQ(K:u_)(x qual:d0)(st:bx)(f:e_)(fd:ik):Prop where
 ex:∃(oc:f_)(od:Option e_)(kV doc pm:f_)(an:Option e_)(aH ct:f_)(iK:Array (Option f_)),fd=B_ x qual (lC st) (jb st) (aM st) .none kV doc pm an aH ct/\K.lookup f=a_ ⟨oc,od,.func fd,iK⟩/\W.codeIn K aH qual=c_
 kp:x_ K (.ref f)=c_
section
variable{P:k_}{w:j_}{K:u_}{mg:d0->Option f_}{gW:i_}
def aQ.ok{st:bx}{k:Nat}{sp:Sp}(F:aQ K x qual st f fd)(S:aX N ps (aM st))
  (a:∀(aH:f_)(A:h_)(outer:List Env)(s:g_)(H:Hp)(vs:List V)(Q:VK)(E:XK),fz k (A.deeper<|db qual (aM st) s.zS f aH)->sp vs H Q E->
   ∃t,fD (pO aF P w K mg gW N qual (aM st) f aH A outer s H E).pY (jb st) t/\t {nx:=λ_ H'=>Q .aO H',rt:=Q} (start N vs) H) (len:∀vs H Q E,sp vs H Q E->vs.length=ps.length:=by intro _ _ _ _ h;(repeat obtain⟨_,h⟩:=h);subst_vars;rfl):aG P w K mg gW aF (k+1) f fd ps sp:=by
 obtain⟨oc,od,kV,doc,pm,an,aH,ct,iK,rfl,lk,b⟩:=F.ex;refine yg lk b S len λA outer s H vs Q E c d=>?_;obtain⟨t,h,q⟩:=a aH A outer s H vs Q E c d;exact⟨t,h.pY,q⟩
def aQ.binds{st:bx}(F:aQ K x qual st f fd)(h:∀(kV doc pm:f_)(an:Option e_)(aH ct:f_)(us:List f_),us.length=ps.length->t4 (B_ x qual (lC st) (jb st) (aM st) .none kV doc pm an aH ct) ⟨us,[]⟩=pure (ps.zip us)):dL K fd ps []:=by
 obtain⟨oc,od,kV,doc,pm,an,aH,ct,iK,rfl,lk,a⟩:=F.ex;exact .all<|h _ _ _ _ _ _
def YI{st:bx}{od an:Option e_}{iK:Array (Option f_)}(l:K.lookup f=a_ ⟨oc,od,.func<|B_ x qual (lC st) (jb st) (aM st) .none kV doc pm an aH ct,iK⟩)(c:W.codeIn K aH qual=c_)(k:x_ K (.ref f)=c_):aQ K x qual st f (B_ x qual (lC st) (jb st) (aM st) .none kV doc pm an aH ct):=⟨⟨oc,od,kV,doc,pm,an,aH,ct,iK,xz,l,c⟩,k⟩
end
def bq{n:Nat}(h:n<=1000):n<bc:=nJ h qc
section
variable{X:Cx}
def pv(i:Nat)(a:autoParam (X.N[i]?=a_ x) am)(b:Ij X.env.scope x:=by first | exact aL xz | exact pC (aL xz) | exact pC (pC xz))(hd:autoParam ((x==("__debug__":d0))=false) ap)
  (c:autoParam ((x==("__classdict__":d0))=false) ap):PE X (.Name x pos) (qJ i):=ajR a b hd c
end
def eL{A B:Prop}(h:B):if d_=c_ then A else B:=by
 rw[eN dF];exact h
def j'{A B:Prop}(h:A):if c_=c_ then A else B:=by
 rw[eT rfl];exact h
def ae(H H':Hp):Prop:=∀b o,H b=a_ o->H' b=a_ o
def ae.refl(H:Hp):ae H H:=λ_ _ h=>h
def ae.gw(a:ae H H1)(b:ae H1 H2):ae H H2:=λc o h=>b c o<|a c o h
def ae.free(e:ae H H')(h:H' l=Option.none):H l=Option.none:=by
 rcases q:H l with _|o;rfl;rw[e l o q]at h;cases h
section
variable{K:u_}{σ:St}{H:Hp}{Q:VK}{p C dx:e_}{xs:List V}{v:V}{i:Nat}{j:Int}{fs:List (d0×V)}{f:d0}
def vr(h:σ[i]?=a_ (a_ v))(q:Q v H):qJ i σ H Q:=⟨v,h,q⟩
def rT(s:aq K H p xs)(a:iI xs j=a_ v)(q:Q v H):AE K (.ref p) (.int j) H Q:=⟨_,_,_,_,xz,xz,s,a,q⟩
def rL(s:ag K H p xs)(a:iI xs j=a_ v)(q:Q v H):AF K (.ref p) (.int j) H Q:=⟨_,_,_,_,xz,xz,s,a,q⟩
def cL(s:ag K H p xs)(a:iI xs j=a_ v)(q:Q v H):tC (.int j) σ H λy b=>AF K (.ref p) y b Q:=⟨_,_,_,_,xz,xz,s,a,q⟩
def vT(h:σ[i]?=a_ (a_<|.ref p))(s:aq K H p xs)(a:iI xs j=a_ v)(q:Q v H):AW (AE K) (qJ i) (tC<|.int j) σ H Q:=⟨_,h,_,_,_,_,xz,xz,s,a,q⟩
def vF(h:σ[i]?=a_ (a_<|.ref p))(e:H p=a_ (.ins C dx fs))(c:di K C)(n:bJ K C f)(l:fs.lookup f=a_ v)(q:Q v H):Hw K (qJ i) f σ H Q:=⟨_,h,_,_,_,_,_,xz,e,c,n,l,q⟩
def vM(h:σ[i]?=a_ (a_<|.ref p))(e:H p=a_ (.ins C dx fs))(l:fs.lookup m=b_)(q:t σ H λvs a=>sp (.ref p::(vs++dvs)) a Q E):CS C m sp dvs E (qJ i) t σ H Q:=⟨_,h,_,_,_,xz,e,l,q⟩
end
section
variable{K:u_}{σ:St}{H:Hp}{Q:VK}{p C dx:e_}{v:V}{fs:List (d0×V)}{f:d0}
def rM{R:Prop}(e:H p=a_ (.ins C dx fs))(l:fs.lookup m=b_)(q:R):∃a dx fs,V.ref p=.ref a/\H a=a_ (.ins C dx fs)/\fs.lookup m=b_/\R:=⟨_,_,_,xz,e,l,q⟩
def tk{R:Bool->Prop}{k:Bool}(q:R k):∃k',V.bl k=.bl k'/\R k':=⟨k,xz,q⟩
end
def sR(h:fD X ss t)(q:t D σ H):∃t,fD X ss t/\t D σ H:=⟨t,h,q⟩
section
variable{K:u_}{σ:St}{H:Hp}{Q:VK}{p:e_}{xs:List V}{v:V}{i j:Nat}
def kg(h:σ[i]?=a_ (a_<|.ref p))(e:H p=a_ (.tup xs))(a:xs[j]?=a_ v)(q:Q v H):AW (AE K) (qJ i) (tC<|.int (j:Int)) σ H Q:=vT h (aq.of e) (cI a) q
def Q6(e:H p=a_ (.lst xs))(a:xs[j]?=a_ v)(q:Q v H):tC (.int (j:Int)) σ H λy b=>AF K (.ref p) y b Q:=cL (σ:=σ) (ag.of e) (cI a) q
end
end L2
namespace L3
noncomputable def tests(a:List c0)(env:Env):Sem Bool:=
 forIn a c_ λc r=>if r=c_ then (do let ok <-isTrue c env (eval c env);pure (Kg ok)) else pure (Kg r)
section
variable{prog:k_}{w:j_}{A:h_}{R:Result->g_->Prop}{s:g_}
def aff(J:Nat->g_->Prop)(k:∀e s',EE e s'->notedBy (bv prog w) A env (λe s'=>R (.error e) s') e s')(turn:∀n s,J n s->bt (bv prog w) A (pyNext it) (λr a=>(r=b_->R (.ok .next) a)/\∀v,r=a_ v->bt (bv prog w) A (Kd tg it v) (λ_ c=>bt (bv prog w) A (assign tg env v) (λ_ d=>bt (bv prog w) A (tests ifs env) (λok b=> (ok=c_->bt (bv prog w) A (eval elt env) (λx f=>bt (bv prog w) A (call (.builtin "list.append") [acc,x]) (λ_ g=>∃m,m<n/\J m g) EE f) EE b)/\ (ok=d_->∃m,m<n/\J m b)) EE d) EE c) EE a) EE s)(n:Nat)(h:J n s):codeAny (bv prog w) A (.compLoop (.ListComp elt [⟨tg,iter,ifs,0⟩] sc pos) 0 it acc env) R s:=by
 refine codeAny_loop xz J (λn s l=>?_) n h;refine wpAny_noted<|jU ?_ (λ_ _ q=>q) k;rw[compTurn_list];refine ak<|T9<|ak (jU (turn n s l) (λr a i=>?_) λ_ _ q=>q);rcases r with _|v;exact aP<|i.1 xz
 refine ak (jU (i.2 v xz) (λ_ c o=>?_) λ_ _ q=>q);refine ak (jU o (λ_ d p=>?_) λ_ _ q=>q);refine ak (jU p (λok b j=>?_) λ_ _ q=>q);cases ok with
 | false=>exact aP ⟨xz,j.2 xz⟩
 | true=>
  refine ak<|ak (jU (j.1 xz) (λx f t=>?_) λ_ _ q=>q);exact ak (jU t (λ_ g u=>aP<|aP ⟨xz,u⟩) λ_ _ q=>q)
def aeq(h:Q c_ s):bt (bv prog w) A (tests [] env) Q E s:=aP h
def aep(h:bt (bv prog w) A (isTrue c env<|eval c env) Q E s):bt (bv prog w) A (tests [c] env) Q E s:=by
 unfold tests;rw[TR];exact ak<|ak (jU h (λok s' q=>aP<|aP q) λ_ _ q=>q)
noncomputable def gV(cells:List (d0×e_)):List (d0×gR)->List (d0×e_)->List (d0×e_)
 | [],acc=>acc
 | (n,k)::r,acc=>if k==.free then gV cells r (match cells.lookup n with | some c=>(n,c)::acc | none=>acc) else gV cells r acc
theorem UZ:∀(names:List (d0×gR))(a:List (d0×e_)),(∀p∈names,p.2=.free->∃c,env.cells.lookup p.1=a_ c)->
  (forIn names a λ(x:d0×gR)(cs:List (d0×e_))=>match x with
   | (name,kind)=>if (kind==rP)=c_ then (do let c <-cellOf env name;pure (Kg ((name,c)::cs))) else (pure (Kg cs):Sem (ForInStep<|List<|d0×e_)))=pure (gV env.cells names a)
 | [],a,_=>rfl
 | (n,k)::r,a,h=>by
  have ih:=λa=>UZ r a λp f=>h p<|cu _ f;rw[TR]
  by_cases b:(k==rP)=c_
  .obtain⟨c,d⟩:=h (n,k) bV (by simpa using b);have e:cellOf env n=pure c:=by unfold cellOf;rw[d]
   dsimp only;rw[eT b,e];unfold gV;rw[eT b,d];exact ih _
  dsimp only;rw[eN b];unfold gV;rw[eN b];exact ih _
def KZ(h:∀p∈sc.names,p.2=.free->∃c,env.cells.lookup p.1=a_ c):closureFor sc env=pure (gV env.cells sc.names []):=by
 unfold closureFor;simp only[(UZ sc.names [] h)];rfl
theorem F6(names:List (d0×gR))(a:List (d0×e_))(h:∀x c,a.lookup x=a_ c->cells.lookup x=a_ c)(x)(c)(e:(gV cells names a).lookup x=a_ c):cells.lookup x=a_ c:=by
 induction names generalizing a with
 |nil=>exact h x c e
 |cons n r i=>
  unfold gV at e
  split at e
  .refine i _ (λy d q=>?_) e
   split at q
   .rename_i g f
    by_cases b:y=n.1
    .subst b;rw[BD]at q;cases q;exact f
    rw[rJ,(gl.mpr b)]at q;exact h y d q
   exact h y d q
  exact i a h e
theorem LF(names:List (d0×gR))(a:List (d0×e_))(x:d0)(h:∃c,a.lookup x=a_ c):∃c,(gV cells names a).lookup x=a_ c:=by
 induction names generalizing a with
 |nil=>exact h
 |cons n r i=>
  unfold gV
  split
  .refine i _ ?_
   split
   .rename_i d e
    by_cases b:x=n.1
    .subst b;exact⟨d,BD⟩
    rw[rJ,(gl.mpr b)];exact h
   exact h
  exact i a h
theorem F7(names:List (d0×gR))(b:List (d0×e_))(x:d0)(h:(x,rP)∈names)(a:∃c,cells.lookup x=a_ c):∃c,(gV cells names b).lookup x=a_ c:=by
 induction names generalizing b with
 |nil=>cases h
 |cons n r i=>
  unfold gV;obtain e|e:=bK.mp h
  .cases e;obtain⟨c,a⟩:=a;rw[eT<|beq_self_eq_true _,a];exact LF r _ _ ⟨c,BD⟩
  split
  .exact i _ e
  exact i b e
end
end L3
namespace L2
open L3
def nB(X:Cx)(sc:d6)(N:List d0)(s:g_)(H:Hp)(ex:List e_)(C:e_)(EE:f_->g_->Prop):Cx:=
 {X with N:=N,s₀:=s,H₀:=H,env:=compEnvC sc (gV X.env.cells sc.names []) C X.env,outer:=X.stack,ex:=ex,fn:=λ_=>d_,pn:=[],xe:=EE}
def A4(X:Cx)(sc:d6)(N:List d0)(s:g_)(H:Hp)(ex:List e_)(C:e_):Cx:=nB X sc N s H ex C λ_ _=>False
structure cB(X:Cx)(sc:d6)(N:List d0)(idx:List Nat):Prop where
 kind:sc.kind=.function
 GD:∀y∈sc.names,y.2≠.cell
 locs:∀y∈sc.names,y.2=.local->sc.names.lookup y.1=a_ .local
 frees:∀y∈sc.names,y.2=.free->X.env.scope.names.lookup y.1=a_ .cell
 le:idx.length<=N.length
 cap:∀(k i:Nat)(x:d0),idx[k]?=a_ i->N[k]?=a_ x->X.N[i]?=a_ x/\sc.names.lookup x=a_ .free
noncomputable def lH(idx:List Nat)(n:Nat)(σ:St):St:=idx.map (λi=>(σ[i]?).join)++dU (n-idx.length) b_
def MJ(h:idx.length<=n):(lH idx n σ).length=n:=by
 unfold lH;rw[cQ,aA,xn];lia
def MK{idx:List Nat}{n k:Nat}(h:(lH idx n σ)[k]?=a_ (a_ v)):∃i,idx[k]?=a_ i/\σ[i]?=a_ (a_ v):=by
 unfold lH at h
 by_cases a:k<idx.length
 .rw[zA (by simpa using a),cF]at h;rcases e:idx[k]? with _|i
  ·rw[e]at h;cases h
  rw[e]at h;have h':(σ[i]?).join=a_ v:=c8 h;refine az i xz ?_;cases b:σ[i]? with
  | none=>rw[b]at h';cases h'
  | some o=>rw[b]at h';rw[show o=a_ v from h']
 rw[BC (by simpa using a),Tf]at h
 split at h
 .cases h
 cases h
noncomputable def rl(env:Env)(p:d0×gR):d0×gR:=if (p.2==rP&&env.scope.kind==.function&&env.kindOf p.1==a_ .cell)=c_ then (p.1,gR.cell) else p
def Oc(h:(k==rP&&env.scope.kind==.function&&env.kindOf n==a_ .cell)=c_):rl env (n,k)=(n,.cell):=eT h
def Xc(h:¬(k==rP&&env.scope.kind==.function&&env.kindOf n==a_ .cell)=c_):rl env (n,k)=(n,k):=eN h
theorem Ue(b:env.scope.kind=.function){names:List (d0×gR)}{x:d0}(h:names.lookup x=a_ .free)(hc:env.kindOf x=a_ .cell):(names.map<|rl env).lookup x=a_ .cell:=by
 induction names with
 |nil=>simp at h
 |cons n r i=>
  obtain⟨n,k⟩:=n;rw[eV]
  by_cases c:x=n
  .subst c;rw[BD]at h;cases h;rw[Oc (by rw[b,hc];decide),BD]
  have a:=gl.mpr c;rw[rJ,a]at h;have e:=i h
  by_cases q:(k==rP&&env.scope.kind==.function&&env.kindOf n==a_ .cell)=c_
  .rw[Oc q,rJ,a];exact e
  rw[Xc q,rJ,a];exact e
theorem Kq{names:List (d0×gR)}{x:d0}{kd:gR}(h:(names.map<|rl env).lookup x=a_ kd):(x,kd)∈names\/(x,rP)∈names:=by
 induction names with
 |nil=>simp at h
 |cons n r ih=>
  obtain⟨n,k⟩:=n;rw[eV]at h
  by_cases q:(k==rP&&env.scope.kind==.function&&env.kindOf n==a_ .cell)=c_
  .rw[Oc q]at h
   by_cases a:x=n
   .subst a
    have b:k=.free:=by
     rw[iB,iB]at q;exact eq_of_beq q.1.1
    subst b;exact .inr bV
   have c:=gl.mpr a;rw[rJ,c]at h;exact(ih h).elim (λe=>.inl<|cu _ e) λe=>.inr<|cu _ e
  rw[Xc q]at h
  by_cases a:x=n
  .subst a;rw[BD]at h;cases h;exact .inl bV
  rw[rJ,(gl.mpr a)]at h;exact(ih h).elim (λe=>.inl<|cu _ e) λe=>.inr<|cu _ e
def df.adopt(I:df X p_ σ H s)(hn:H a=b_)(g:X.s₀.zS<=a)(h:a≠X.env.locals)(i:∀x c,X.env.cells.lookup x=a_ c->c≠a)(j:∀p∈X.pn++p_,p.1≠a)(new:fj X.prog X.w (dc H a o) s.heap a o):df X p_ σ (dc H a o) s:=by
 have ne:∀b u,H b=a_ u->b≠a:=λb u e=>bh e hn;refine⟨I.ok,I.os,I.bare,⟨I.base.keep,I.base.slot,λb u q n k=>?_,I.base.there,λb xs q=>?_,λb u xs q=>?_,λb ps q=>?_⟩,I.loc,I.cell,?_,λx c e=>?_,λp d=>?_,λb u q=>?_,I.len⟩
 .rw[aj<|dW<|ic (bY q) g];exact I.base.free b u q n k
 .have e:=I.base.uf b _ q;rw[aj<|ne b _ e];exact e
 .have e:=I.base.sN b u _ q;rw[aj<|ne b _ e];exact e
 .exact oE (I.base.sI b _ q) λm e=>⟨m,by rw[aj<|ne b _ e];exact e⟩
 .rw[aj<|iT h];exact I.free
 .rw[aj<|i x c e];exact I.mh x c e
 .exact gY (I.pin p d) λl r t=>fY l ((aj<|j p d)▸r) t
 by_cases f:b=a
 .subst f;rw[ao]at q;cases q;exact new
 rw[aj f]at q;exact(I.aW b u q).uh (λ_ _ _ z=>z) (λc z=>by rw[aj<|ne c _ z];exact z) λc xs z=>by rw[aj<|ne c _ z];exact z
section
variable{X:Cx}{p_:List (e_×d5)}{σ:St}{H:Hp}{s:g_}{sc:d6}{N:List d0}{idx:List Nat}{fp:List e_}
noncomputable abbrev eY:d5:={cls:=.type "list",data:=.seq ([]:List f_).toArray}
abbrev lU(s:g_):Shared:={s with heap:=s.heap.push eY}
def afu(I:df X p_ σ H s)(h:ju X p_ H b):X.base.get? b=none:=by
 rcases e:X.base.get? b with _|o;rfl
 obtain z|z:=h.2.2.2.1
 .exact f' z (I.ok.yn b o e)
 exact f' (ic (bY e)<|dq I.ok.nE z) (lQ _)
def ag9(I:df X p_ σ H s)(S:cB X sc N idx)(g:∀b∈fp,ju X p_ H b)(G:∀b∈fp,∃o,s.heap.get? b=a_ o){m:d0->Option f_}{t:Nat}(J:h'.Ns (s.heap.push eY).zH m)(j:∀b o,(s.heap.push eY).get? b=a_ o->h'.get? b=a_ o):df (nB X sc N (lU s) H (s.zS::fp) (s.heap.push eY).zH EE) [] (lH idx N.length σ) H {lU s with heap:=h',toks:=t}:=by
 have f:df X _ _ H (lU s):=I.kept λb o e=>bU _ e;have B:(s.heap.push eY).zH=s.zS+1:=lO _ _;have d:∀x c,(gV _ _ []).lookup x=a_ c->X.env.cells.lookup x=a_ c:=F6 sc.names [] (λx c e=>by cases e)
 have K:∀x c,(gV X.env.cells sc.names []).lookup x=a_ c->c<s.zS:=λx c e=>by
  exact oE (I.cell x c<|d x c e) λv z=>z.lt
 have qR:∀b∈fp,b<s.zS:=λb a=>by
  exact oE (G b a) λo e=>bY e
 have L:∀x,((relabel sc X.env).names.lookup x=a_ .cell\/(relabel sc X.env).names.lookup x=a_ .free)->(x,rP)∈sc.names:=λx h=>by
  obtain h|h:=h
  .rcases Kq h with e | e
   .exact f' xz (S.GD _ e)
   exact e
  rcases Kq h with e | e
  .exact e
  exact e
 have has:∀x,(x,rP)∈sc.names->∃c,(gV X.env.cells sc.names []).lookup x=a_ c:=λx e=>
  F7 sc.names [] x e (I.ok.has x<|.inl<|S.frees _ e xz)
 refine⟨⟨I.ok.mod,S.kind,I.ok.glob,I.ok.blt,aw _,λx y c n w=>I.ok.inj x y c (d x c n)<|d y c w,λx h=>has x<|L x h,λx c h=>(by cases h),I.ok.hd,I.ok.frames,.inl xz,λb a=>?_,f.bs,dq I.ok.nE f.sz,λb o e a=>?_,λb a=>?_,f.stack,f.MU⟩,I.os ▸ xz,I.bare,Un.kept j,⟨m,J,λk x v n w R=>?_⟩,λx c e=>?_,f.aW.fresh<|aw _,λx c e=>I.mh x c<|d x c e,λp M=>f' (show p∈([]:List (e_×d5)) from M) (by simp),f.aW.kept j,MJ S.le⟩
 .obtain e|a:=bK.mp a
  .subst e;exact⟨by rw[B];exact dW<|vc _,λx c e=>dW<|K x c e⟩
  refine⟨by rw[B];exact dW<|E6<|qR b a,λx c e=>(g b a).2.2.2.2.1 x c<|d x c e⟩
 .obtain z|a:=bK.mp a
  .subst z;exact f' (bY<|I.bk _ _ e)<|lQ _
  have e':X.base.get? b=a_ o:=e;rw[afu I<|g b a]at e';cases e'
 .intro O;have C:=I.NA b O;obtain z|a:=bK.mp a
  .subst z;obtain e|e:=bK.mp C
   .exact f' I.lt (by rw[<-e];exact lQ _)
   exact I.aak (aw _) e
  obtain e|e:=bK.mp C
  .exact(g b a).2.1 e
  exact(g b a).2.2.1 e
 .refine aD (MK w) λi h1 h2=>oA (S.cap k i x h1 n) λh3 h4=>?_;have D:=t_ h4;have A:=S.frees _ D rfl;refine aD I.loc λT U P=>aD (P i x v h3 h2<|.inr<|.inl A) λu r l=>az u r<|.inr ⟨.inl<|Ue I.ok.kind h4 A,?_⟩;obtain⟨q,_⟩|⟨_,c,Q,z⟩:=l
  .have E:X.env.scope.names.lookup x=a_ .local:=q;rw[A]at E;cases E
  refine oE (has x D) λV F=>?_;have:=d x _ F;rw[Q]at this;cases this;exact az c F (z.keeps λb o e=>j b o<|bU _ e)
 exact oE (I.cell x c<|d x c e) λv z=>⟨v,z.keeps λb o e=>j b o<|bU _ e⟩
def ag8(I:df X p_ σ H s)(d:∀b∈fp,ju X p_ H b)(a:df (nB X sc N (lU s) H (s.zS::fp) (s.heap.push eY).zH EE) pl σ' H' s'):df X p_ σ H' s':=by
 have f:df X _ _ H (lU s):=I.kept λb o e=>bU _ e;refine f.ZM (a.os.gw xz) a.base a.aW a.bare λb c=>?_
 have q:ju X p_ H b:=by
  obtain e|c:=bK.mp c
  .subst e;exact I.jI (aw _)<|I.aW.fresh<|aw _
  exact d b c
 exact⟨q.2.2.2.1,q.2.1,q.2.2.2.2.1,q.2.2.2.2.2⟩
end
abbrev D0:=St->Hp->(Bool->Hp->Prop)->Prop
def je:D0:=λ_ H Q=>Q c_ H
def D2(X:Cx)(a:List c0)(t:D0):Prop:=
 ∀(p_:List (e_×d5))(s:g_)(σ:St)(H:Hp)(Q:Bool->Hp->Prop),df X p_ σ H s->t σ H Q->bt (bv X.prog X.w) X.A (tests a X.env) (TP X p_ σ Q) X.xe s
def eP:D2 X [] je:=λ_ _ _ H _ I h=>aeq ⟨H,I,h⟩
def vy(h:PT X c t):D2 X [c] t:=λp_ s σ H Q I q=>aep<|h _ s _ H Q I q
def Dd(n:Nat)(σ a:St):Prop:=a.length=σ.length/\∀i,i<n->a[i]?=σ[i]?
def Df(J:It)(g:TG)(f:D0)(h:TE)(j:St)(k:Hp)(K:List V->Hp->Prop):Prop:=
 ∃W:Nat->Nat->List V->Hp->Prop,(∃m,W 0 m [] k)/\∀i m ys H,W i m ys H->
  (J.stop i H/\K ys H)\/
  (J.go i H/\ys.length<bc/\∃N:List V->Hp->Prop,(∀a H',N a H'->∃c,c<m/\W (i+1) c a H')/\
   ∀x H',J.we i H x H'->g x j H' λd l=>f d l λb e=>if b=c_ then h d e (λy n=>N (ys++[y]) n) else N ys e)
def OM(wi:TI)(g:TG)(b:D0)(c:TE)(idx:List Nat)(n:Nat):TE:=λσ H Q=>wi σ H λJ d=>
 Df J g b c (lH idx n σ) d λys a=>ys.length<=bc/\∀p,a p=b_->Q (.ref p) (dc a p<|.lst ys)
def De(n:Nat)(g:TG):Prop:=∀x σ H Q,g x σ H Q->g x σ H λa b=>Q a b/\Dd n σ a
def Ms(h:n<=k):Dd n σ (σ.set k v):=⟨gL,λi hi=>nI li⟩
def eD(h:n<=k):De n (g8 k):=λx σ H Q q=>⟨q,Ms h⟩
def zU{K:u_}(h:n<=k)(h':n<=l):De n (pc K 2<|Pp (g8 k)<|Pp (g8 l) p3):=λx σ H Q q=>by
 refine og q λa xs f g j b=>cy b λv r m b=>fh b λc o p s q=>⟨a,⟨xs,f,g,j,v,r,m,c,o,p,s,q,?_⟩⟩;have d:Dd n _ (σ.set k<|a_ v):=Ms h;have e:Dd n _ ((σ.set k<|a_ v).set l<|a_ c):=Ms h';exact⟨e.1.gw d.1,λi hi=>(e.2 i hi).gw<|d.2 i hi⟩
def VT{X:Cx}{idx:List Nat}{n:Nat}(I:df X p_ σ2 H s)(k:Dd idx.length (lH idx n σ) σ2):df X p_ (lH idx n σ) H s:=
 I.weak k.1.gx λi v e=>by
  refine aD (MK e) λj h1 _=>?_;rw[k.2 i (b0.mp h1).1];exact e
def dX{K:List V->Hp->Prop}(P:Nat->List V->Hp->Prop)(hn:n<=bc)(f:P 0 [] H1)(h:∀i ys H,P i ys H->ys.length<=i)(j:∀i ys H,i<n->P i ys H->J.go i H)(k:∀ys H,P n ys H->J.stop n H)(l:∀i ys H,i<n->P i ys H->∀x H',J.we i H x H'->g x σ0 H' λc o=>tc c o λb d=>if b=c_ then te c d (λy q=>P (i+1) (ys++[y]) q) else P (i+1) ys d)(hd:∀ys H,P n ys H->K ys H):Df J g tc te σ0 H1 K:=by
 refine⟨λi m ys H=>m=n-i/\i<=n/\P i ys H,⟨n,by simp,bg _,f⟩,?_⟩;rintro i m ys H ⟨rfl,hi,p⟩
 by_cases a:i<n
 .refine .inr (fY (j i _ H a p) (by have:=h i _ H p;lia) ⟨P<|i+1,λs H' r=>⟨n-(i+1),om,xz,a,r⟩,l i _ H a p⟩)
 have e:i=n:=li;subst e;exact .inl ⟨k _ H p,hd _ H p⟩
section
variable{X:Cx}{tg elt iter:c0}{ifs:List c0}{wi:TI}{g:TG}{tc:D0}{te:TE}{sc:d6}{N:List d0}{idx:List Nat}{pos:Pos}
def WI{K:List V->Hp->Prop}{RR:e_->f_->Result->g_->Prop}(hc:X.calm=c_)(S:cB X sc N idx)(gk:De idx.length g){fp:List e_}{tn:Nat->i_->Prop}{J:It}(hg:PG (nB X sc N (lU s) H (s.zS::fp) (s.heap.push eY).zH EE) tg g)(ht:D2 (nB X sc N (lU s) H (s.zS::fp) (s.heap.push eY).zH EE) ifs tc)(he:PE (nB X sc N (lU s) H (s.zS::fp) (s.heap.push eY).zH EE) elt te)(I:df X p_ σ H s)(T:Turn X.prog X.w X.K tg J fp it tn)(st:tn 0 s.heap)(R:∀b∈fp,ju X p_ H b)(hW:Df J g tc te (lH idx N.length σ) H K)(SH:∀e s',EE e s'->notedBy (bv X.prog X.w) X.A (compEnvC sc (gV X.env.cells sc.names []) (s.heap.push eY).zH X.env) (λe s'=>RR (s.heap.push eY).zH (.ref s.zS) (.error e) s') e s')(hR:∀(s':g_)(ys:List V)(H':Hp)(m:d0->Option f_)(c:List f_)(n:Nat),K ys H'->df X p_ σ H' s'->s'.heap.Ns (s.heap.push eY).zH m->H' (s.heap.push eY).zH=b_->H' s.zS=b_->dt ys c->s'.heap.get? s.zS=a_ {cls:=.type "list",data:=.seq c.toArray n}->RR (s.heap.push eY).zH (.ref s.zS) (.ok .next) s'):bt (bv X.prog X.w) X.A (newList []) (λacc s₃=>bt (bv X.prog X.w) X.A (newFunctionEnv sc X.env.globals (gV X.env.cells sc.names []) [] X.env.qual b_ .none (a_ X.env)) (λaa5 s₄=>codeAny (bv X.prog X.w) X.A (.compStart (.ListComp elt [⟨tg,iter,ifs,0⟩] sc pos) 0 (.ref it) acc {aa5 with scope:=relabel sc X.env}) (RR aa5.locals acc) s₄) E s₃) E s:=by
 refine aD hW λW ab turn=>oE ab λm0 w0=>rF<|wpAny_newFunctionEnv S.GD (by intro y hy;cases hy) (λh' jO Jd=>?_) S.kind;have hC:(s.heap.push eY).zH=s.zS+1:=lO _ _;have F:∀b o,(s.heap.push _).get? b=a_ o->h'.get? b=a_ o:=λb o e=>(Jd.2 b<|dW<|bY e).gw<|bU _ e;have ho:∀b∈fp,∃o,s.heap.get? b=a_ o:=λb a=>let ⟨o,e,_⟩:=T.obj _ _ st b a;⟨o,e⟩
 have j:=ag9 (EE:=EE) (t:=s.toks+([]:List (d0×f_)).length) I S R ho jO F
 have fn:∀b∈fp,b≠s.zS:=λb a=>by
  exact oE (ho b a) λo e=>dW<|bY e
 have U:∀{H':Hp}{pl:List (e_×d5)},(∀b∈fp,H' b=b_)->(∀p∈pl,p.1=s.zS)->∀b∈fp,ju (nB X sc N (lU s) H (s.zS::fp) (s.heap.push eY).zH EE) pl H' b:=λ{H' pl}hn d b a=>by
  refine⟨(hn b a),((j.ok.wD b<|cu _ a).1),(j.ok.vZ b<|cu _ a),(.inl<|cu _ a),((j.ok.wD b<|cu _ a).2),(λp Y=>?_)⟩;have zc:p∈pl:=by simpa[nB]using Y
  rw[d p zc];exact iT<|fn b a
 have loop:codeAny (bv X.prog X.w) X.A (.compLoop (.ListComp elt [⟨tg,iter,ifs,0⟩] sc pos) 0 (.ref it) (.ref s.zS)<|compEnvC sc (gV X.env.cells sc.names []) (s.heap.push eY).zH X.env)
   (RR (s.heap.push eY).zH<|.ref s.zS) {lU s with heap:=h',toks:=s.toks+([]:List (d0×f_)).length}:=by
  refine aff (EE:=EE) (λn s'=>∃i ys H' c k,df (nB X sc N (lU s) H (s.zS::fp) (s.heap.push eY).zH EE) [] (lH idx N.length σ) H' s'/\tn i s'.heap/\(∀b∈fp,H' b=b_)/\H' s.zS=b_/\
   dt ys c/\s'.heap.get? s.zS=a_ {cls:=.type "list",data:=.seq c.toArray k}/\W i n ys H') SH ?_ m0 ?_
  .rintro n Z ⟨i,ys,l,c,f,I3,qZ,EK,G,L,ac3,w3⟩
   have M:∀{H':Hp},H' s.zS=b_->ju (nB X sc N (lU s) H (s.zS::fp) (s.heap.push eY).zH EE) [] H' s.zS:=λ{H'}hn=>
    ⟨hn,(j.ok.wD _ bV).1,j.ok.vZ _ bV,.inl bV,(j.ok.wD _ bV).2,λp Y=>f' (show p∈([]:List (e_×d5)) from Y)<|by simp⟩
   have P3:df (nB X sc N (lU s) H (s.zS::fp) (s.heap.push eY).zH EE) [(s.zS,{cls:=.type "list",data:=.seq c.toArray f})] (lH idx N.length σ) l Z:=I3.vz λp d=>by
    have e:p=(s.zS,{cls:=.type "list",data:=.seq c.toArray f}):=by simpa using d
    subst e;exact⟨ac3,G,((M G).2.1),((M G).2.2.1),(λv z=>by cases z)⟩
   have one:∀p∈[((s.zS,{cls:=.type "list",data:=.seq c.toArray f}):e_×d5)],p.1=s.zS:=λp d=>by
    have e:p=(s.zS,{cls:=.type "list",data:=.seq c.toArray f}):=by simpa using d
    rw[e]
   obtain⟨stop,kq⟩|⟨go,hz,NN,hNN,step⟩:=turn i n ys l w3
   .refine aV (T.done (nB X sc N (lU s) H (s.zS::fp) (s.heap.push eY).zH EE) xz xz xz hc i _ Z _ l _ P3 (U EK one) qZ stop) ?_;rintro r s4⟨O,P⟩;refine⟨λ_=>?_,λv e=>(by rw[O]at e;cases e)⟩;exact aD P.loc λB Eu _=>hR s4 ys l B c f kq (ag8 I R P) Eu P.free G L (P.pin _<|gu _ bV).1
   refine aV (T.item (nB X sc N (lU s) H (s.zS::fp) (s.heap.push eY).zH EE) xz xz xz hc i _ Z _ l _ P3 (U EK one) qZ go) ?_;rintro r s4⟨u,O,h4⟩;refine⟨λe=>(by rw[O]at e;cases e),λv e=>?_⟩;rw[O]at e;cases e;refine aV h4 ?_;rintro _ s5⟨x,H5,I5,r5,y5,C,SM⟩;have SV:=I5.pinned (U SM one)<|T.obj _ _ C;refine aV (hg _ s5 _ H5 x u _ SV r5<|gk _ _ _ _<|step x H5 y5) λ_ s6 zq=>fh zq λσ6 H6 I6 q6 k6=>thT (ht _ s6 σ6 H6 _ I6 q6) λok s7 H7 D Q=>⟨λe=>?_,λe=>?_⟩
   .subst e;rw[eT rfl]at Q;refine mC (he _ s7 σ6 H7 _ D Q) λv s8 y H8 I8 r8 n8=>aD (hNN _ _ n8) λB hm w8=>?_;have h:=I8.pin (s.zS,{cls:=.type "list",data:=.seq c.toArray f})<|gu _<|qg _ bV;have hlen:=L.length;refine wpAny_list_append_plain (items:=c.toArray) ⟨f,h.1⟩ (λh9 pl9 sb9=>?_) (by rw[dG];lia);have SU:=I8.vz λp d=>I8.pin p (gu _<|gu _ d)
    have I9:=SU.turned (h':=h9) (t':=s8.toks) (it:=s.zS) (λb o a e=>(sb9.2 b a).gw e) h.2.1 (M h.2.1).2.1 (.inl bV) (M h.2.1).2.2.2.2.1 (λp d=>by
     have gm:p∈CK fp s5.heap:=by simpa[nB]using d
     exact fn p.1 (Vs gm).1)
    refine oE pl9 λk9 e9=>⟨B,⟨hm,i+1,ys++[y],H8,c++[v],k9,VT (I9.vz λp d=>f' d<|by simp) k6,T.keep _ _ _ C λb a o e=>?_,λb a=>?_,h.2.1,L.append<|.cons r8 .nil,?_,w8⟩⟩
    .have q:=(SU.pin (b,o)<|gu _<|zT a e).1;exact(sb9.2 b<|fn b a).gw q
    .exact aD (T.obj _ _ C b a) λo e _=>(SU.pin (b,o)<|gu _<|zT a e).2.1
    rw[e9];simp
   subst e;rw[eN dF]at Q;refine aD (hNN _ _ Q) λB hm w7=>?_;have h:=D.pin (s.zS,{cls:=.type "list",data:=.seq c.toArray f})<|gu _<|qg _ bV;exact⟨B,⟨hm,i+1,ys,H7,c,f,VT (D.vz λp d=>f' d<|by simp) k6,T.keep _ _ _ C λb a o e=>(D.pin (b,o)<|gu _<|gu _<|zT a e).1,λb a=>aD (T.obj _ _ C b a) λo e _=>(D.pin (b,o)<|gu _<|gu _<|zT a e).2.1,h.2.1,L,h.1,w7⟩⟩
  exact⟨0,([]),H,([]),0,j,(T.keep _ _ _ st λb a o e=>F b o<|bU _ e),(λb a=>(R b a).1),I.aW.fresh<|aw _,.nil,(F _ _<|eU _ xz),w0⟩
 exact codeAny_compStart_list loop<|T.self _ 0 _ _ _ (T.keep _ _ _ st λb a o e=>F b o<|bU _ e) loop
def dZ(l:X.calm=c_)(S:cB X sc N idx)(q:De idx.length g)(hi:PI X tg iter wi)
  (r:∀s H ex C,PG (A4 X sc N s H ex C) tg g) (t:∀s H ex C,D2 (A4 X sc N s H ex C) ifs tc) (u:∀s H ex C,PE (A4 X sc N s H ex C) elt te)
  (w:∀x,Tw iter X.env x=pure x:=by intro _;rfl):PE X (.ListComp elt [⟨tg,iter,ifs,0⟩] sc pos) (OM wi g tc te idx N.length):=by
 intro p_ s σ H Q I h;rw[eval_ListComp];refine abp xz w (KZ λp y e=>I.ok.has _<|.inl<|S.frees p y e) S.kind S.locs (aV (hi _ s _ H _ I h) λv s1 h1=>aV h1 λR s2 h2=>BP h2 λit fp tn J U e a T A B D=>?_);subst e;refine WI (RR:=λC V=>compPost _ _ _ _ _ _ C) l S q (r _ _ _ _) (t _ _ _ _) (u _ _ _ _) a T A B D (λ_ _ z=>z.elim) λs' ys H' m E n i F G K j L M=>?_;have c:(s2.heap.push eY).zH=s2.zS+1:=lO _ _;have d:=a.jI (aw _)<|a.aW.fresh<|aw _;have f:ju X _ _ (s2.heap.push eY).zH:=a.jI (c▸jC _)<|a.aW.fresh<|c▸jC _;have k:=a.sz;refine az m G λh' O=>(eA (.ref _) _ ((df.adopt (o:=.lst _) F j k d.2.1 d.2.2.2.2.1 d.2.2.2.2.2 ⟨i.1,E,n,L,M⟩).turned (λb o P e=>(O.2 b P).gw e) ?_ f.2.1 (.inr<|by rw[c];exact tO k) f.2.2.2.2.1 f.2.2.2.2.2) xz<|i.2 _ j);rw[aj<|c▸JZ _];exact K
def BQ(u:X.N.Nodup)(w:X.N[i]?=a_ x)(k:X.env.scope.names.lookup x=a_ .local)(y:X.calm=c_)(S:cB X sc N idx)(A:De idx.length g)(hi:PI X tg iter wi)
  (B:∀s H ex C,PG (A4 X sc N s H ex C) tg g) (E:∀s H ex C,D2 (A4 X sc N s H ex C) ifs tc) (F:∀s H ex C,PE (A4 X sc N s H ex C) elt te)
  (G:autoParam (FJ (.ListComp elt [⟨tg,iter,ifs,0⟩] sc pos) (a_<|.Name x pos') aoY.line X.env=pure true) am)
  (K:∀x,Tw iter X.env x=pure x:=by intro _;rfl):PS X (.Assign [.Name x pos'] (.ListComp elt [⟨tg,iter,ifs,0⟩] sc pos) aoY) (PY (OM wi g tc te idx N.length)<|g8 i):=by
 intro p_ s σ H D I h;rw[exec_Assign_Name_used _ _ _ _ G];refine ak<|T9<|ak ?_;have L:=KZ λp M e=>I.ok.has _<|.inl<|S.frees p M e;refine ak (jU (abp xz K L S.kind S.locs<|aV (hi _ s _ H _ I h) λv s1 h1=>aV h1 λIZ s2 h2=>?_) (λ_ s' q=>aP<|aP q) λ_ _ q=>q);obtain⟨it,fp,tn,J,H2,e,c,T,O,P,Q⟩:=h2;subst e;refine WI (RR:=λC acc=>compPost _ _ _ _ _ _ C) y S A (B _ _ _ _) (E _ _ _ _) (F _ _ _ _) c T O P Q (λ_ _ z=>z.elim) λs' ys H' m R n l U V W r Y Z=>?_;have f:(s2.heap.push eY).zH=s2.zS+1:=lO _ _;have j:=c.jI (aw _)<|c.aW.fresh<|aw _;have d:ju X _ _ (s2.heap.push eY).zH:=c.jI (f▸jC _)<|c.aW.fresh<|f▸jC _;have t:=c.sz;have I1:=df.adopt (o:=.lst _) U r t j.2.1 j.2.2.2.2.1 j.2.2.2.2.2 ⟨l.1,R,n,Y,Z⟩
 have ap9:dc H' s2.zS (.lst ys) (s2.heap.push eY).zH=none:=by
  rw[aj<|f▸JZ _];exact W
 refine wpAny_assign_Name<|Vc (v:=.ref _) I1 u w (.inl k) xz (?_)<|.inr k;rintro s3 I3⟨a,sb,ha⟩
 have aC:(s2.heap.push eY).zH≠a:=by
  obtain e|e:=ha
  .rw[e];exact d.2.1
  exact iT (d.2.2.2.2.1 x a e)
 refine az m (V.sameBut sb aC) λh' sb'=>(gU _ _ (I3.turned (λb o hb e=>(sb'.2 b hb).gw e) ap9 d.2.1 (.inr<|by rw[f];exact tO t) d.2.2.2.2.1 d.2.2.2.2.2)<|l.2 _ r)
end
end L2
namespace L2
open PySem.W
section
variable{cmp:Nat->Nat->(Bool->g_->Prop)->g_->Prop}{r:Nat->Int}{n:Nat}{p:Array Nat}{s:g_}
noncomputable def rk(r:Nat->Int)(p:Array Nat)(k:Nat):Int:=r<|p.getD k 0
def iW(n:Nat)(p:Array Nat):Prop:=p.Perm (List.range n).toArray
def ua(r:Nat->Int)(p:Array Nat)(m:Nat):Prop:=∀i j,i<j->j<m->rk r p i<rk r p j
def iW.size(g:iW n p):p.size=n:=by
 have:=g.size_eq;simpa using this
def iW.lt(g:iW n p)(a:k<n):p.getD k 0<n:=by
 have b:=g.size;have hm:p[k]'(by exact wg)∈p:=Array.getElem_mem _;have:=(g.mem_iff).mp hm;simp only[xH,show k<p.size by exact wg,dif_pos];simpa using this
def iW.ne(g:iW n p)(hi:i<n)(a:j<n)(h:i≠j):p.getD i 0≠p.getD j 0:=by
 have b:=g.size;have nd:=(Tc.mp g).nodup_iff.mpr (by simpa using acj);intro e;simp only[xH,show i<p.size by exact wg,show j<p.size by exact wg,dif_pos]at e;have e':p.toList[i]'(by simpa using (by exact wg:i<p.size))=p.toList[j]'(by simpa using (by exact wg:j<p.size)):=by simpa using e
 obtain q|q:=Tt h
 .exact jR.mp nd i j _ _ q e'
 exact jR.mp nd j i _ _ q e'.gx
variable(hr:∀i j,i<n->j<n->r i=r j->i=j)(hc:∀i j(C:Bool->g_->Prop),i<n->j<n->i≠j->C (decide (r i<r j)) s->cmp i j C s)
include hr hc
theorem OY(g:iW n p)(hi:i<n)(a:j<n)(h:i≠j):rk r p i≠rk r p j:=λe=>g.ne hi a h<|hr _ _ (g.lt hi) (g.lt a) e
theorem OC(g:iW n p):∀f m,1<=m->m+f<=n->ua r p m->(∀l,m<=l->l<=m+f->ua r p l->(l<m+f->rk r p l<rk r p (l-1))->Q l s)->(kas_asc p f m).kasWp cmp Q s:=by
 intro f;induction f with
 |zero=>intro m h1 h2 ri k;exact k m (aw _) (aw _) ri λh=>f' h<|lQ _
 |succ f ih=>
  intro m h1 h2 ri k
  refine hc _ _ _ (g.lt li) (g.lt li) (g.ne om om li) ?_
  by_cases o:r (p.getD m 0)<r (p.getD (m-1) 0)
  .simp only[o,decide_true,if_true];exact k m (aw _) li ri λ_=>o
  .simp only[o,decide_false,tM,if_false];refine ih (m+1) li li (λi j q u=>?_) λl a b c d=>k l li li c λh=>d li
   by_cases e:j=m
   .subst e
    have h3:rk r p (j-1)<rk r p j:=by
     have:=OY hr hc g (i:=j-1) (j:=j) li li li;unfold rk at this ⊢;omega
    by_cases t:i=j-1
    .subst t;exact h3
    .have:=ri i (j-1) li om;lia
   .exact ri i j q li
theorem XG(g:iW n p):∀f m,1<=m->m+f<=n->(∀i j,i<j->j<m->rk r p j<rk r p i)->(∀d,m<=d->d<=m+f->(∀i j,i<j->j<d->rk r p j<rk r p i)->Q (p,d,0) s)->(kas_desc f p m 0).kasWp cmp Q s:=by
 intro f;induction f with
 |zero=>intro m h1 h2 ri k;exact k m (aw _) (aw _) ri
 |succ f ih=>
  intro m h1 h2 ri k
  refine hc _ _ _ (g.lt om) (g.lt om) (g.ne om om om) ?_
  by_cases h:r (p.getD m 0)<r (p.getD (m-1) 0)
  .simp only[h,decide_true,if_true];rw[eN li];refine ih (m+1) om om (λi j l q=>?_) λd a b c=>k d om om c
   by_cases e:j=m
   .subst e;have h3:rk r p j<rk r p (j-1):=h
    by_cases o:i=j-1
    .subst o;exact h3
    .have:=ri i (j-1) om om;lia
   .exact ri i j l om
  .simp only[h,decide_false,tM,if_false];refine hc _ _ _ (g.lt li) (g.lt li) (g.ne om om li) ?_
   have h3:r (p.getD (m-1) 0)<r (p.getD m 0):=by
    have:=OY hr hc g (i:=m-1) (j:=m) om om om;unfold rk at this;omega
   simp only[h3,decide_true,if_true];exact k m (aw _) om ri
theorem Yh(g:iW n p)(hm:m<=n)(a:k<m):rk r (kas_rev p 0 m) k=rk r p (m-1-k):=by
 have b:=g.size;unfold rk kas_rev;rw[JF,getElem?_mirror_all li,eT ⟨bg _,a⟩,JF]
 congr 3
 lia
theorem afy(g:iW n p)(h1:1<=m)(hm:m<=n)(f:∀i j,i<j->j<m->rk r p j<rk r p i)(k:∀d e,1<=d->d<=n->iW n e->ua r e d->Q (d,e) s):(kas_tail3 m n p).kasWp cmp Q s:=by
 unfold kas_tail3;rw[Fe];have g':iW n (kas_rev p 0 m):=(mirror_perm _ _ _ _).gw g;refine OC hr hc g' _ _ h1 li (λi j l h=>?_) λd a b c _=>k _ _ (by exact wj) li g' c;rw[Yh hr hc g hm li,Yh hr hc g hm h];exact f _ _ om om
theorem ag7(g:iW n p)(h1:1<=n)(k:∀c d,1<=c->c<=n->iW n d->ua r d c->Q (c,d) s):(kas_count n p).kasWp cmp Q s:=by
 unfold kas_count;rw[Fe];refine OC hr hc g _ _ (aw _) om (λi j h l=>f' h li) λm a b f o=>?_
 by_cases e:m=n
 .rw[eT (by simpa using e)];exact k m p (by exact w0) li g f
 rw[eN (by simpa using e)]
 by_cases h2:m > 1
 .rw[eT h2];refine hc _ _ _ (g.lt li) (g.lt li) (g.ne om om li) ?_;have h3:=f 0 (m-1) om om;unfold rk at h3;simp only[h3,decide_true,if_true];exact k m p (by exact w0) li g f
 rw[eN h2];have hm:m=1:=li;subst hm;unfold kas_descPart;rw[Fe];refine XG hr hc g _ _ (by exact xd) li (λi j h l=>?_) λc a b q=>?_
 .have:i=0/\j=1:=li;rw[this.1,this.2];exact o li
 exact afy hr hc g li li q k
theorem Mh(g:iW n p)(c:k<n)(d:ua r p k):∀f l u,l<=u->u<=k->u-l<=f->(∀i,i<l->rk r p i<rk r p k)->(∀i,u<=i->i<k->rk r p k<rk r p i)->(∀l,l<=k->(∀i,i<l->rk r p i<rk r p k)->(∀i,l<=i->i<k->rk r p k<rk r p i)->Q l s)->(kas_place p k f l u).kasWp cmp Q s:=by
 intro f;induction f with
 |zero=>intro l u h1 h2 h3 a b q;exact q l (by exact wj) a λi hi c=>b i li c
 |succ f ih=>
  intro l u h1 h2 h3 a b q
  unfold kas_place
  by_cases e:l ≥ u
  .rw[eT e];exact q l (by exact wj) a λi hi c=>b i (by exact wj) c
  .rw[eN e];refine hc _ _ _ (g.lt c) (g.lt li) (g.ne c om li) ?_;have hm:(l+u)/2<u:=li;have t:l<=(l+u)/2:=li
   by_cases h:r (p.getD k 0)<r (p.getD ((l+u)/2) 0)
   .simp only[h,decide_true,if_true];refine ih l ((l+u)/2) t li om a (λi hi v=>?_) q
    by_cases m:i=(l+u)/2
    .subst m;exact h
    .have:=d ((l+u)/2) i li v;have o:rk r p k<rk r p ((l+u)/2):=h;lia
   .simp only[h,decide_false,tM,if_false]
    have o:rk r p ((l+u)/2)<rk r p k:=by
     have:=OY hr hc g (i:=(l+u)/2) (j:=k) li c li;unfold rk at this ⊢;omega
    refine ih ((l+u)/2+1) u (by exact xf) h2 om (λi hi=>?_) b q
    by_cases m:i=(l+u)/2
    .subst m;exact o
    .have:=d i ((l+u)/2) li (by exact wh);lia
theorem YS(g:iW n p)(a:k<n)(b:l<=k)(j:Nat):rk r (bubble p k<|k-l) j=if j=l then rk r p k else if l<j/\j<=k then rk r p (j-1) else rk r p j:=by
 have c:=g.size;unfold rk;rw[JF,getElem?_bubble (by exact wg) _ li,show k-(k-l)=l by lia];simp only[JF]
 repeat' split
 all_goals first | rfl | (exfalso;omega)
theorem YT(q:∀c,iW n c->ua r c n->Q c s):∀f k(p:Array Nat),iW n p->k+f=n->ua r p k->(kas_bin f p k).kasWp cmp Q s:=by
 intro f;induction f with
 |zero=>intro k p g h ri;exact q p g (by have:k=n:=om;rwa[this]at ri)
 |succ f ih=>
  intro k p g h ri
  unfold kas_bin;rw[Fe];refine Mh hr hc g li ri k 0 k (bg _) (aw _) (by exact w1) (λi hi=>f' hi li) (λi hi o=>f' o li) λl d a b=>ih (k+1) _ ((bubble_perm _ _ _).gw g) li λi j t u=>?_;rw[YS hr hc g li d,YS hr hc g om d]
  by_cases e:i=l
  .rw[eT e,eN li,eT li];exact b _ li li
  .rw[eN e]
   by_cases m:j=l
   .rw[eT m,eN li];exact a i (by exact wf)
   .rw[eN m]
    by_cases h3:l<i/\i<=k
    .rw[eT h3,eT li];exact ri _ _ om li
    .rw[eN h3]
     by_cases h4:l<j/\j<=k
     .rw[eT h4]
      by_cases v:i=j-1
      .lia
      .exact ri _ _ li om
     .rw[eN h4];exact ri _ _ t li
theorem ahv(h1:1<=n)(q:∀c,iW n c->ua r c n->Q c s):(kas_sort n).kasWp cmp Q s:=by
 unfold kas_sort;rw[Fe];refine ag7 hr hc (acD _) h1 λm c a b g d=>?_;dsimp only
 by_cases h:m<n
 .rw[eT h];exact YT hr hc q _ _ _ g li (by rw[show max m 1=m by lia];exact d)
 rw[eN h];have:m=n:=li;rw[this]at d;exact q _ g d
end
end L2
namespace L2
open PySem.W
def aiz{h:i_}{a:e_}{m b:d0->Option f_}(x:h.Ns a m)(y:h.Ns a b):m=b:=by
 obtain⟨o,es,g,e,d,_,f⟩:=x;obtain⟨o',i,j,e',d',_,c⟩:=y;rw[e]at e';cases e';rw[d]at d';cases d'
 funext n
 exact(f n).gx.gw (c n)
section
variable{X:Cx}{p_:List (e_×d5)}{σ:St}{H:Hp}{s:g_}
def df.regrown{h':i_}{m:d0->Option f_}{t':Nat}{d':Drawn}(I:df X p_ σ H s)(h1:s.heap.Ns X.env.locals m)(h2:h'.Ns X.env.locals m)(k:∀b o,b≠X.env.locals->s.heap.get? b=a_ o->h'.get? b=a_ o):df X p_ σ H {s with heap:=h',drawn:=d',toks:=t'}:=by
 refine I.step (g':=s.gens) (d':=d') (ch:=[]) (λ_ z=>by cases z) (λb o a _ _ e _=>k b o a e) (λb o a _ _ e _=>⟨o.slots,k b o a e⟩) (λ_ _ _ _ n=>n) (λb o _ e=>?_) (λ_ _ e=>e) (λ_ _ _ e=>e)
  (λb ps e=>⟨#[],by rw[e];simp⟩) (λc hm=>by rw[aiz hm h1];exact h2) (λb u e=>?_) I.bare
 .by_cases z:b=X.env.locals
  .obtain⟨o',_,_,q,_⟩:=h2;exact⟨o',by rw[z];exact q⟩
  exact⟨o,k b o z e⟩
 refine(I.aW b u e).uh (λd v hd q=>k d v (λz=>?_) q) (λ_ q=>q) λ_ _ q=>q;have fr:=I.free;rw[<-z]at fr;obtain y|y:=hd
 .rw[y,e]at fr;cases fr
 rw[y]at fr;cases fr
structure Srt(P:k_)(w:j_)(A:h_)(L:e_)(h:i_)(vs:List f_)(r:Nat->Int):Prop where
 small:vs.length<64
 inj:∀i j,i<vs.length->j<vs.length->r i=r j->i=j
 ask:2<=vs.length->∃κ,∀(s':g_),(∀b o,b≠L->h.get? b=a_ o->s'.heap.get? b=a_ o)->
  (∀Q:SortKind->g_->Prop,Q κ s'->bt (bv P w) A (keyKind' vs.toArray) Q (λ_ _=>False) s')/\
  ∀i j(C:Bool->g_->Prop),i<vs.length->j<vs.length->i≠j->C (decide<|r i<r j) s'->kas_ask P w A κ vs i j C s'
def GY(ys:List V)(r:Nat->Int)(a:List V):Prop:=∃p:Array Nat,iW ys.length p/\ua r p ys.length/\a=p.toList.map λi=>ys.getD i .aO
def adF{P:k_}{w:j_}{A:h_}{E:f_->g_->Prop}{a:e_}{vs:List f_}{n:Nat}{R:PySem.Fin->g_->Prop}(c:s.heap.get? a=a_ (d8 "list" vs.toArray n))(h1:vs.length<2)(k:∀h' e,(∀b o,b≠a->s.heap.get? b=a_ o->h'.get? b=a_ o)->h'.get? a=a_ (d8 "list" vs.toArray e)->R (.done<|.ret .none) {s with heap:=h'}):bt (bv P w) A (Builtin.«list.sort» ⟨[.ref a],[]⟩) R E s:=by
 have hn:vs.toArray.size<2:=by rw[dG];exact h1
 have d:∀m:Nat,m<2->m<=bc:=λm hm=>by rw[gf];exact w5
 obtain⟨g,h⟩:∃g,(s.heap.update a<|gQ λ_=>(#[]:Array f_)).get? a=a_ (d8 "list" #[] g):=⟨_,TN c λ_=>#[]⟩;rw[list_sort_plain];refine ak<|listItems_at c xz<|ak<|listUpdate_at c xz (ak<|seqEpoch_at h xz<|ak<|Fg (ak<|T' (lP ?_)<|bg _)<|d _<|by simpa using h1) (d _<|by simpa using h1)<|bg _;have f:=bU (d8 "list" #[] 0)<|bU (d8 "tuple" vs.toArray 0) h;dsimp only;rw[eT hn,eT hn];refine ak<|aP ?_;rw[StateT.run_pure];refine ak<|aP ?_;dsimp only
 have j:(arrOf<|SortSt.mk' general' (vs.toArray.zip vs.toArray) #[] 7 b_).map (·.2)=vs.toArray:=by
  apply Array.toList_inj.mp;rw[Array.toList_map,Array.toList_zip];rw[List.map_snd_zip<|aw _]
 rw[j];refine ak<|seqEpoch_at f xz<|ak<|listUpdate_at f xz ?_ (bg _)<|dq (d _<|by simpa using h1)<|jC _;rw[eN (by simp)];refine aP<|k _ _ (λb o i e=>?_) (TN f λ_=>vs.toArray);rw[JP _ _ _ _ i];exact bU _<|bU _ (by rw[JP _ _ _ _ i];exact e)
theorem U'(a:dt ys vs)(l:List Nat):dt (l.map λi=>ys.getD i .aO) (l.map λi=>vs.getD i gD):=by
 induction l with
 |nil=>exact .nil
 |cons i l j=>
  refine .cons ?_ j;dsimp only;rw[cH,cH];rcases e:ys[i]? with _|y
  ·rw[a.none_of e];rfl
  obtain⟨u,e',q⟩:=a.get e;rw[e'];exact q
def adL(ys:List V):(List.range ys.length).map (λi=>ys.getD i .aO)=ys:=by
 apply Kc
 .simp
 intro i h1 h2;simp[h2]
def Lq(g:iW n p):p.toList.length=n:=by rw[jS,g.size]
def Lh(R:bt (bv X.prog X.w) X.A.in1 (collect x) (λvs s1=>∃ys r,df X p_ σ H s1/\dt ys vs/\Srt X.prog X.w X.A.in1.in1 X.env.locals s1.heap vs r/\∀l h,H l=b_->GY ys r h->Q (.ref l) (dc H l<|.lst h)) X.xe s):bt (bv X.prog X.w) X.A (call (.builtin "sorted") [x]) (EP X p_ σ Q) X.xe s:=by
 refine Calls.call_function_entry kind_sorted plain_sorted entry_sorted (args_sorted1 _) ?_;refine ak<|aP<|ak (jU R (λvs s1 T=>?_) λ_ _ z=>z);obtain⟨ys,r,I,t,S,q⟩:=T;have B:=t.length;have D:vs.length<=bc:=by have:=S.small;rw[gf];exact w5
 refine ak<|T' ?_ D;obtain⟨a,g,d,tk,os⟩:=s1;have u:(a.push<|d8 "list" vs.toArray 0).get? _=a_ _:=eU _ rfl;obtain⟨m,v⟩:=I.fr;have y:=dq I.ok.nE I.sz
 have fin:∀(h2:i_)(c:Nat)(h:List V)(n:List f_),h2.Ns X.env.locals m->(∀b o,b≠X.env.locals->a.get? b=a_ o->h2.get? b=a_ o)->h2.get? a.zH=a_ (d8 "list" n.toArray c)->
   dt h n->h.length<=bc->GY ys r h->EP X p_ σ Q (.ref a.zH) ⟨h2,g,d,tk,os⟩:=λh2 c h n U W Y Z l2 so=>by
  have hn:H a.zH=none:=I.aW.fresh<|aw _;have f:=I.jI (b:=a.zH) (aw _) hn;have J:=df.regrown (s:=⟨a,g,d,tk,os⟩) (t':=tk) (d':=d) I v.ns U W;exact⟨.ref a.zH,_,df.adopt (o:=.lst h) J hn I.sz f.2.1 f.2.2.2.2.1 f.2.2.2.2.2 ⟨l2,n,c,Z,Y⟩,xz,q _ _ hn so⟩
 refine ak<|lP<|rH slot_list_sort ⟨_,u,xz⟩ entry_list_sort ?_<|args_list_sort _;have kp:∀b o,a.get? b=a_ o->(a.push<|d8 "list" vs.toArray 0).get? b=a_ o:=λb o e=>bU _ e
 by_cases h2:vs.length<2
 .refine adF (s:=⟨a.push<|d8 "list" vs.toArray 0,g,d,tk,os⟩) u h2 λh' e k' e'=>⟨_,xz,aP ⟨_,xz,?_⟩⟩;have ne:∀b o,a.get? b=a_ o->b≠a.zH:=λb o z=>dW<|bY z;refine fin h' e ys vs ?_ (λb o _ z=>k' b o (ne b o z)<|kp b o z) e' t w7 ⟨(List.range ys.length).toArray,acD _,λi j mJ E=>f' mJ li,(adL ys).gx⟩;obtain⟨o,es,ep,z,rr⟩:=v.ns;exact⟨o,es,ep,k' _ _ (ne _ _ z)<|kp _ _ z,rr⟩
 have h3:2<=vs.length:=li
 refine kat_list_sort (s:=⟨a.push<|d8 "list" vs.toArray 0,g,d,tk,os⟩) (h₀:=X.base) (L:=X.env.locals) (m:=m) (news:=rest X.base (a.push<|d8 "list" vs.toArray 0) X.env.locals a.zH) (v.push _)
  (λp k=>agq p (jB.mp k).1) u (vi I.lt) (abK y) Xe h3 S.small λe1 h' F G=>?_
 have keep:∀h3:i_,Fr X.base X.env.locals h3 m->News X.base X.env.locals h3 (rest X.base (a.push<|d8 "list" vs.toArray 0) X.env.locals a.zH)->∀b o,b≠X.env.locals->a.get? b=a_ o->h3.get? b=a_ o:=λh3 F3 N3 b o y z=>
  ac4 (λb o z=>kp b o<|I.bk b o z) F3 N3 b o y (dW<|bY z) (kp b o z)
 obtain⟨κ,hκ⟩:=S.ask h3;have K:=hκ ⟨h',g,d,tk,os⟩ (keep h' F λp k=>G p<|.tail _ k);refine K.1 _ (ahv (r:=r) S.inj (λi j C hi E ne c=>K.2 i j C hi E ne c) li λM N ri=>KasFin.intro F G (.head Xe) λh4 c O P=>⟨_,rfl,aP ⟨_,rfl,fin h4 c (M.toList.map λi=>ys.getD i .aO) _ O.ns (keep h4 O λp k=>P p<|.tail _ k) (P _<|.head _).1 (U' t _) ?_ ⟨M,by rw[B];exact N,by rw[B];exact ri,rfl⟩⟩⟩);rw[aA,Lq N];exact D
end
end L2
namespace L2
open PySem.W L3
abbrev Ot(X:Cx)(sc:d6)(qual:d0)(f:e_)(cd:f_)(L:e_):Env:=envX qual sc L f cd<|gV X.env.cells sc.names []
def Ic(X:Cx)(A:h_)(sc:d6)(N:List d0)(qual:d0)(f:e_)(cd:f_)(s:g_)(H:Hp):Cx:=
 {X with A:=A.deeper<|Ot X sc qual f cd s.zS,N:=N,s₀:=s,H₀:=H,env:=Ot X sc qual f cd s.zS,outer:=X.stack,stack:=Ot X sc qual f cd s.zS::X.stack,ex:=[],fn:=λ_=>d_,calm:=c_,pn:=[],xe:=λ_ _=>False}
section
variable{X:Cx}{p_:List (e_×d5)}{σ:St}{H:Hp}{s:g_}{sc:d6}{N:List d0}{idx:List Nat}{A:h_}{f:e_}{cd:f_}{qual px:d0}{k:Nat}{v:V}{u:f_}
def aiQ(I:df X p_ σ H s)(S:cB X sc N idx)(K:A.frames=a_ X.stack)(L:A.handled=b_)(C:N[k]?=a_ px)(M:sc.names.lookup px=a_ .local)(hi:idx.length<=k)(r:dn v u)(O:h'.Ns s.zS m)(hm:m px=a_ u)(kp:∀b o,s.heap.get? b=a_ o->h'.get? b=a_ o):df (Ic X A sc N qual f cd s H) [] ((lH idx N.length σ).set k<|a_ v) H {s with heap:=h',toks:=t}:=by
 have d:∀x c,(gV _ _ []).lookup x=a_ c->X.env.cells.lookup x=a_ c:=F6 sc.names [] (λx c e=>by cases e);have has:=λx e=>F7 _ [] x e (I.ok.has x<|.inl<|S.frees _ e xz);have g:∀b:e_,b∉(Ic X A sc N qual f cd s H).ex:=λb z=>f' (show b∈([]:List _) from z) (by simp);refine⟨⟨I.ok.mod,S.kind,xz,xz,aw _,λx y c n a=>I.ok.inj x y c (d x c n)<|d y c a,λx h=>?_,λx c h=>(by cases h),λ_=>L,abL K,.inr ⟨xz,xz⟩,λb z=>f' z<|g b,I.bs,dq I.ok.nE I.sz,λb _ _=>g b,λb z=>f' z<|g b,I.stack,I.MU⟩,xz,I.bare,Un.kept kp,⟨m,O,λj x w n a Y=>?_⟩,λx c e=>?_,I.aW.fresh<|aw _,λx c e=>I.mh x c<|d x c e,λp P=>f' (show p∈([]:List (e_×d5)) from P) (by simp),I.aW.kept kp,by rw[gL];exact MJ S.le⟩
 .have h2:=h;obtain z|z:=h2
  .exact f' xz (S.GD _<|t_ z)
  exact has x (t_ z)
 .have B:N[j]?=a_ x:=n
  by_cases D:j=k
  .subst D;rw[C]at B;cases B;have Q:j<(lH idx N.length σ).length:=by rw[MJ S.le];exact(b0.mp C).1
   rw[gq Q]at a;cases a;exact⟨u,r,.inl ⟨M,hm⟩⟩
  rw[nI<|iT D]at a;obtain⟨i,h1,h2⟩:=MK a;obtain⟨h3,h4⟩:=S.cap j i x h1 B;have E:=t_ h4;have F:=S.frees _ E rfl;obtain⟨Z,Eu,R⟩:=I.loc;obtain⟨T,U,l⟩:=R i x w h3 h2<|.inr<|.inl F;refine⟨T,U,.inr ⟨.inr h4,?_⟩⟩;obtain⟨q,_⟩|⟨_,c,V,z⟩:=l
  .have G:X.env.scope.names.lookup x=a_ .local:=q;rw[F]at G;cases G
  obtain⟨c',J⟩:=has x E;have:=d x _ J;rw[V]at this;cases this;exact⟨c,J,z.keeps kp⟩
 obtain⟨W,z⟩:=I.cell x c<|d x c e;exact⟨W,z.keeps kp⟩
def agF(I:df X p_ σ H s)(S:cB X sc N idx)(g:A.frames=a_ X.stack)(h:A.handled=b_)(i:A.depth<Fh)(j:N[k]?=a_ px)(c:sc.names.lookup px=a_ .local)(hi:idx.length<=k)(r:dn v u)(l:s.heap.get? f=a_ (kla_obj "<lambda>" qual params body sc (gV X.env.cells sc.names []) pm c' qf))(m:s.heap.CodeRec (.ref c') qual)(n:t4 (kla_fn "<lambda>" qual params body sc (gV X.env.cells sc.names []) pm (.ref c') qf) ⟨[u],[]⟩=pure [(px,u)])(p:sc.isCoroutine=d_)(x:sc.isGenerator=d_)(B:PE (Ic X A sc N qual f (.ref c') s H) body te)(q:te ((lH idx N.length σ).set k<|a_ v) H Q):bt (bv X.prog X.w) A (call (.ref f) [u]) (EP X p_ σ Q) E s:=by
 refine Lb<|kla_callFunE i l xz p x xz m ?_;rw[n];refine aP<|wpAny_newFunctionEnv S.GD (λy C=>?_) (λh1 D d=>⟨I.nolimit.fresh _ d,?_⟩) S.kind
 .have e:y=(px,u):=by simpa using C
  rw[e];exact c
 have kp:∀b o,s.heap.get? b=a_ o->h1.get? b=a_ o:=λb o e=>d.extBut b o (dW<|bY e)<|bU _ e;refine kla_codeExpr (jU (B [] _ _ H _ (aiQ (f:=f) (cd:=.ref c') (qual:=qual) (t:=s.toks+[(px,u)].length) I S g h j c hi r D (by simp ) kp) q) (λw s2 hw=>?_) λ_ _ z=>nN z);obtain⟨F,G,a,r2,J⟩:=hw;exact⟨F,G,I.ZM (ch:=[]) (a.os.gw xz) a.base a.aW a.bare λb z=>f' z (by simp),r2,J⟩
end
noncomputable def A5(c:e_)(qual:d0):HO:=.ext λh=>h.CodeRec (.ref c) qual
def akG{P:k_}{w:j_}(x:h.CodeRec (.ref c) qual):fj P w H h c (A5 c qual):=by
 obtain⟨j,o,vs,t,e,q,r⟩:=id x;cases e;refine⟨x,⟨o,q⟩,λh1 h2 y k=>?_⟩;obtain⟨c1,a,b,d,f,g,i⟩:=y;cases f;exact⟨c,a,b,d,xz,k _ g,i⟩
def b9(P:e_)(a:Pos)(qual:d0)(H:Hp):Prop:=∃ps,H P=a_ (.fA ps)/\(ps=#[]\/∃c,ps=#[cP a.line,cP a.col,.ref c]/\H c=a_ (A5 c qual))
def vW(P:e_)(H H':Hp):Prop:=∀b o,b≠P->H b=a_ o->H' b=a_ o
def vW.refl{P:e_}(H:Hp):vW P H H:=λ_ _ _ e=>e
def uv(mg:d0->Option f_)(gW:i_):Prop:=∃a ob,mg "__builtins__"=a_ (.ref a)/\a≠rZ/\a≠fe/\gW.get? a=a_ ob/\ob.cls=.type "module"/\ob.dict=a_ rZ/\ob.data=.plain
section
variable{X:Cx}{p_:List (e_×d5)}{σ:St}{H:Hp}{s:g_}
def df.grow{P:e_}(I:df X p_ σ H s)(a:H P=a_ (.fA ps))(k:∀b o,b≠P->s.heap.get? b=a_ o->h'.get? b=a_ o)(e:h'.get? P=a_ (tabObj<|ps++more)):df X p_ σ (dc H P<|.fA<|ps++more) {s with heap:=h',toks:=t'}:=by
 have ne:∀b,H b=b_->b≠P:=λb n z=>by rw[z,a]at n;cases n
 refine I.step (g':=s.gens) (d':=s.drawn) (ch:=[]) (λ_ z=>by cases z) (λb o _ _ _ q n=>k b o (ne b n) q) (λb o _ _ _ q n=>⟨o.slots,k b o (ne b n) q⟩) (λb o _ q n=>by rw[aj<|ne b n];exact n) (λb o _ q=>?_) (λb xs q=>?_) (λb o u q=>?_) (λb qs q=>?_)
  (λm hm=>?_) (λb u q=>?_) I.bare
 .by_cases z:b=P
  .exact⟨_,by rw[z];exact e⟩
  exact⟨o,k b o z q⟩
 .rw[aj<|iU q a (by intro z;cases z)];exact q
 .rw[aj<|iU q a (by intro z;cases z)];exact q
 .by_cases z:b=P
  .subst z;rw[a]at q;cases q;exact⟨more,ao⟩
  exact⟨#[],by rw[aj z,q];simp⟩
 .obtain⟨o,es,g,q,r⟩:=hm;exact⟨o,es,g,k _ o (ne _ I.free) q,r⟩
 by_cases z:b=P
 .subst z;rw[ao]at q;cases q;exact e
 rw[aj z]at q;refine(I.aW b u q).uh (λd v hd y=>k d v (λw=>?_) y) (λc y=>?_) λc xs y=>?_
 .obtain f|f:=hd
  .exact z (f.gx.gw w)
  rw[w,a]at f;cases f
 .rw[aj<|iU y a (by intro z;cases z)];exact y
 rw[aj<|iU y a (by intro z;cases z)];exact y
def df.Hy(I:df X p_ σ H s)(g:ju X p_ H f)(e:s.heap.get? f=a_ o)(n:∀v,o.data≠.cell v):df X (p_++[(f,o)]) σ H s:=
 I.vz λp a=>by
  obtain z|z:=iC.mp a
  .exact I.pin p (gu _ z)
  have b:p=(f,o):=by simpa using z
  rw[b];exact⟨e,g.1,g.2.1,g.2.2.1,n⟩
def agE{c P:e_}(I:df X p_ σ H s)(S:cB X sc N idx)(t:X.env.code=.ref c)(C:CodeHd X.base c P)(B:uv X.mg X.base)(M:defaultsOf params X.env=([],[]))(h:b9 P pos (X.env.qual++"<lambda>") H)(k:∀f a H' pm g s',df X (p_++[(f,kla_obj "<lambda>" (X.env.qual++"<lambda>") params body sc (gV X.env.cells sc.names []) pm a g)]) σ H' s'->vW P H H'->b9 P pos (X.env.qual++"<lambda>") H'->H' a=a_ (A5 a<|X.env.qual++"<lambda>")->R (.ref f) s'):bt (bv X.prog X.w) X.A (eval (.Lambda params body sc pos) X.env) R E s:=by
 have u:=KZ λp O e=>I.ok.has _<|.inl<|S.frees p O e;obtain⟨ps,i,Q⟩:=h;have l:=I.aW P _ i;obtain⟨T,ob,U,V,W,x,Y,Z,b7⟩:=B
 have nP:∀b o,X.base.get? b=a_ o->b≠P:=λb o e z=>by
  have:=(I.bs b o e).2;rw[z,i]at this;cases this
 have y:=I.mod.glob.keeps I.bk
 have gP:fe≠P:=by
  obtain⟨o,es,ep,e,_⟩:=I.mod.glob;exact nP _ _ e
 have D:s.heap.BuiltinsAt _ P:=⟨T,ob,U,V,W,nP _ _ x,I.bk _ _ x,Y,Z,b7⟩;have F:=C.keeps I.bk;refine kla_eval M ?_;obtain rfl|⟨j,rfl,G⟩:=Q
 .refine kla_makeFunction u I.ok.glob y t F l mX xz gP D λa g h' tk hx d J apF RO=>?_
  have m:df X p_ σ (dc H P<|.fA<|#[] ++ #[cP pos.line,cP pos.col,.ref a]) {s with heap:=h'.push<|kla_obj "<lambda>" (X.env.qual++"<lambda>") params body sc (gV X.env.cells sc.names []) ((X.mg "__name__").getD .none) a g,toks:=tk}:=
   I.grow i (λb o n e=>bU _<|hx b o n e) (bU _ RO)
  have K:=bY l;have q:=I.aW.fresh d;have L:=vi<|ic K d;have nc1:dc H P (.fA<|#[] ++ #[cP pos.line,cP pos.col,.ref a]) a=none:=by rw[aj L];exact q
  have fc:=I.jI d q;have r:=dq d<|bL J;have fP:=vi<|ic K r
  have nf:dc (dc H P<|.fA<|#[] ++ #[cP pos.line,cP pos.col,.ref a]) a (A5 a<|X.env.qual++"<lambda>") h'.zH=none:=by
   rw[aj<|vi J,aj fP];exact I.aW.fresh r
  have I3:=(df.adopt m nc1 (dq I.sz d) fc.2.1 fc.2.2.2.2.1 fc.2.2.2.2.2<|akG<|apF.push _).Hy (I.jI r nf) (eU _ xz) (λv z=>by cases z);refine k _ _ _ _ _ _ I3 (λb o n e=>?_) ⟨_,by rw[aj<|iT L,ao],.inr ⟨a,by simp,ao⟩⟩ ao;rw[aj<|bh e q,aj n];exact e
 have hf:codeAmong pos (#[cP pos.line,cP pos.col,dA j]:Array _).toList=a_ (.ref j):=by simp[codeAmong,cP]
 refine kla_makeFunctionHit u I.ok.glob y t F l mX hf D λg h' tk kk d=>?_;have m:df X _ _ H {s with heap:=h'.push<|kla_obj "<lambda>" (X.env.qual++"<lambda>") params body sc (gV X.env.cells sc.names []) ((X.mg "__name__").getD .none) j g,toks:=tk}:=I.kept λb o e=>bU _<|kk b o e;exact k _ _ _ _ _ _ (m.Hy (I.jI d<|I.aW.fresh d) (eU _ xz)<|λv z=>by cases z) (vW.refl H) ⟨_,i,.inr ⟨j,xz,G⟩⟩ G
end
end L2
namespace L2
open PySem.W
def ZN(ts:List e_)(H:Hp):Prop:=(∀b,H b=b_\/(∃o xs,H b=a_ (.jL o<|.lst xs))\/(b∈ts/\H b=a_ (.fA #[])))/\∀b∈ts,H b=a_ (.fA #[])
def aeX{P:k_}{w:j_}{K:u_}{mg mb:d0->Option f_}(C:K.In s₁.heap)(D:s₁.heap.Ns fe mg)(c:s₁.heap.Ns rZ mb)(T:∀x:d0,x ≠ "__name__"->mb x=vh x)(U:s₁.heap.NoLimit)(W:s₁.gens=#[])(X:uv mg s₁.heap)(g:∀b∈ts,s₁.heap.get? b=a_ (tabObj #[]))(Y:∀b∈ts,isCodeTable s₁.heap b)(Bi:∀b∈ts,K.lookup b=b_)(ha:s₁.heap.get? a=a_ {cls:=.type "list",data:=.seq vs.toArray})(hi:IntsAre vs ns)(E:ns.length<=bc)(Z:fz k callerA)(F:∀gW:i_,K.In gW->gW.Ns fe mg->uv mg gW->aG P w K mg gW CX k fa fd [x] sp)(Dj:∀(s:g_)(u:f_),BindsTo s fd ⟨[u],[]⟩ [(x,u)])(p9:∀H:Hp,ZN ts H->ag K H a (ns.map V.int)->sp [.ref a] H (λv _=>v=.bl c_) λ_ _ _=>False)(hCX:∀H e s',CX [] H s₁ (λ_ _ _=>False) e s'->False):codeAny (bv P w) callerA (.call (.ref fa) ⟨[.ref a],[]⟩) (λr s'=>r=.ok (.ret<|.bool c_)/\OldK s₁.heap s'.heap/\s'.os=s₁.os/\AllBare s'.gens) s₁:=by
 have G:=Le hi;have ao3:=hi.length
 have I:a∉ts:=λz=>by
  have e:=g a z;rw[ha]at e;cases e
 have J:∀H:Hp,ZN ts H->ag K H a (ns.map V.int)->iw P w H s₁.heap->(∀b,H b≠b_->b=a\/b∈ts)->(H a≠b_->K.lookup a=b_)->
   codeAny (bv P w) callerA (.call (.ref fa) ⟨[.ref a],[]⟩) (λr s'=>r=.ok (.ret<|.bool c_)/\OldK s₁.heap s'.heap/\s'.os=s₁.os/\AllBare s'.gens) s₁:=by
  intro H L hS aW M hK;have p:∀{b:e_}{o:d5},s₁.heap.get? b=a_ o->H b=b_->(sL s₁.heap H).get? b=a_ o:=λe n=>agO e n
  have N:∀{b:e_}{o:d5},s₁.heap.get? b=a_ o->(∀xs n,o.data≠.seq xs n)->(∀xs,o.data≠.fields xs)->H b=none:=λ{b o}e d1 d2=>by
   rcases q:H b with _|u;rfl
   rcases M b (by rw[q];simp)with z | z
   .subst z;rw[ha]at e;cases e;exact f' xz<|d1 _ _
   rw[g b z]at e;cases e;exact f' xz<|d2 _
  have l:∀{b:e_}{m:d0->Option f_},s₁.heap.Ns b m->(sL s₁.heap H).Ns b m:=λ{b m}⟨o,es,ep,e,d,r⟩=>⟨o,es,ep,p e (N e (λ_ _ z=>by rw[d]at z;cases z) λ_ z=>by rw[d]at z;cases z),d,r⟩
  have O:K.In (sL s₁.heap H):=λb o e=>p (C b o e) (by
   rcases q:H b with _|u;rfl
   rcases M b (by rw[q];simp)with z | z
   .subst z;rw[hK (by rw[q];simp)]at e;cases e
   rw[Bi b z]at e;cases e)
  have hB:uv mg (sL s₁.heap H):=by
   obtain⟨bm,ob,b1,b2,b3,Q,b5,b6,t⟩:=X;exact⟨bm,ob,b1,b2,b3,p Q (N Q (λ_ _ z=>by rw[t]at z;cases z) λ_ z=>by rw[t]at z;cases z),b5,b6,t⟩
  have hM:Mod K mg (sL s₁.heap H):=⟨O,l D,⟨mb,l c,T⟩,let ⟨mc,h1,h2⟩:=U;⟨mc,l h1,h2⟩⟩;have e0:yu P w K mg (sL s₁.heap H) callerA [] s₁ H:=⟨xz,hM,λb o e=>aiv e,rV<|ae4 _ _,trivial,λb c=>f' (show b∈([]:List e_) from c) (by simp),aW,.of_eq W⟩;refine BK ((F _ O (l D) hB).run callerA [] s₁ H ⟨[.ref a],[]⟩ [.ref a] [.ref a] _ _ Z e0 (Dj s₁<|.ref a) (.cons xz .nil) (p9 H L hS)) λr s' h=>?_;cases r with
  | error e=>exact(hCX H e s' h).elim
  | ok fl=>
   rcases fl with _|_|_|u;exact nN h;exact nN h;exact nN h
   obtain⟨v,H',os,bare,un,R,r',q⟩:=h;have q':=q;subst q';obtain rfl:u=lh true:=r'
   have S:∀b o,s₁.heap.get? b=a_ o->asItWas s₁.heap s'.heap b o/\∃o',s'.heap.get? b=a_ o':=λb o e=>by
    cases q:H b with
    | none=>
     have:=un.keep b o e q (by intro z;exact f' (show b∈([]:List e_) from z)<|by simp) (by simp);exact⟨.inl this,_,this⟩
    | some u=>
     obtain z|⟨ob,xs,z⟩|⟨hm,z⟩:=L.1 b
     .rw[q]at z;cases z
     .have y:=un.sN b ob _ z;obtain⟨i,_⟩:=aW b _ z;obtain⟨j,_⟩:=R b _ y;rw[e]at i;cases i;exact⟨.inl j,_,j⟩
     obtain⟨more,y⟩:=un.sI b _ z;have j:s'.heap.get? b=a_ (tabObj<|#[]++more):=R b _ y;have i:=g b hm;rw[e]at i;cases i;exact⟨.inr<|.inl ⟨Y b hm,xz,#[],more,xz,j⟩,_,j⟩
   exact⟨xz,⟨λb o e=>(S b o e).1,λb o e=>(S b o e).2⟩,os,bare⟩
 have tok:∀b,b∈ts->fj P w (λb=>if b=a then b_ else if b∈ts then a_ (.fA #[]) else b_) s₁.heap b (.fA #[]):=λb c=>g b c;rcases A:K.lookup a with _|o
 ·have ne:∀b∈ts,b≠a:=λb c z=>I<|z ▸ c;refine J (λb=>if b=a then a_ (.jL {cls:=.type "list",data:=.seq vs.toArray} (.lst<|ns.map V.int)) else if b∈ts then a_ (.fA #[]) else b_) ⟨λb=>?_,λb c=>?_⟩ (.inl<|.inr ⟨{cls:=.type "list",data:=.seq vs.toArray},eT xz⟩) (λb u z=>?_) (λb z=>?_) λ_=>A
  .by_cases c:b=a
   .exact .inr (.inl ⟨_,_,eT c⟩)
   by_cases f:b∈ts
   .exact .inr (.inr ⟨f,by dsimp only;rw[eN c,eT f]⟩)
   exact .inl (by dsimp only;rw[eN c,eN f])
  .dsimp only;rw[eN<|ne b c,eT c]
  .dsimp only at z
   by_cases c:b=a
   .rw[eT c]at z;cases z;subst c;exact⟨ha,by rw[aA];exact E,vs,_,G,ha⟩
   rw[eN c]at z
   by_cases f:b∈ts
   .rw[eT f]at z;cases z;exact g b f
   rw[eN f]at z;cases z
  by_cases c:b=a
  .exact .inl c
  by_cases f:b∈ts
  .exact .inr f
  exact f' (show (if b=a then _ else if b∈ts then _ else b_)=b_ by rw[eN c,eN f]) z
 have e:=C a o A;rw[ha]at e;cases e;have hta:∀b∈ts,(λb=>if b∈ts then a_ (HO.fA #[]) else b_) b=a_ (.fA #[]):=λb c=>eT c;refine J (λb=>if b∈ts then a_ (.fA #[]) else b_) ⟨λb=>?_,hta⟩ (.inr ⟨_,vs.toArray,_,A,xz,xz,xz,by rw[dG,ao3];exact E,by simpa using G⟩) (λb u z=>?_) (λb z=>?_) λz=>f' (eN I) z
 .by_cases c:b∈ts
  .exact .inr (.inr ⟨c,eT c⟩)
  exact .inl<|eN c
 .by_cases c:b∈ts
  .have B:=(eT c).gx.gw z;cases B;exact g b c
  have B:=(eN c).gx.gw z;cases B
 by_cases c:b∈ts
 .exact .inr c
 exact f' (eN c) z
end L2
namespace HT
open PySem.W L2
theorem Uc:∀{us:List f_}{xs:List d0},r9 us xs=c_->dt (xs.map V.str) us/\us.length=xs.length
 | [],[],_=>⟨.nil,xz⟩
 | .str y t::us,x::xs,h=>by
  have h:(decide (y=x)&&r9 us xs)=true:=h;rw[iB]at h;obtain⟨a,b⟩:=Uc h.2;have e:=fi h.1;subst e;exact⟨.cons ⟨t,xz⟩ a,by rw[eI,eI,b]⟩
 | [],_::_,h=>by simp[r9]at h
 | u::us,[],h=>by cases u <;> simp[r9]at h
 | .none::_,_::_,h=>by simp[r9]at h
 | .ref _::_,_::_,h=>by simp[r9]at h
 | .int _ _::_,_::_,h=>by simp[r9]at h
 | .bool _::_,_::_,h=>by simp[r9]at h
def ahk{K:Frag}(h:tupS K a xs=c_)(b:xs.length<=bc)(H:Hp):aq K H a (xs.map V.str):=by
 unfold tupS at h
 split at h
 .rename_i d c n sl e
  obtain⟨r,l⟩:=Uc h;exact .inr ⟨_,c,n,e,xz,xz,by rw[<-jS,l];exact b,r⟩
 cases h
end HT
namespace L3
def jZ(b:Bool)(h:i_)(it l:e_)(i:Nat):Prop:=if b=c_ then h.IsListIter it l i else h.IsTupleIter it l i
def iV(b:Bool)(h:i_)(l:e_)(xs:Array f_):Prop:=if b=c_ then h.IsList l xs else h.IsTuple l xs
def jZ.ext(x:jZ b h it l i)(e:KP c h h')(n:it≠c):jZ b h' it l i:=by
 rcases b with _|_;exact x.extBut e n;exact x.extBut e n
def iV.ext(x:iV b h l xs)(e:KP c h h')(n:l≠c):iV b h' l xs:=by
 rcases b with _|_;exact x.extBut e n;exact x.extBut e n
def jZ.at(x:jZ b h it l i)(e:∀o,h.get? it=a_ o->h'.get? it=a_ o):jZ b h' it l i:=by
 rcases b with _|_
 ·obtain⟨o,a,r⟩:=x;exact⟨o,e o a,r⟩
 exact(show h.IsListIter it l i from x).at e
def iV.at(x:iV b h l xs)(e:∀o,h.get? l=a_ o->h'.get? l=a_ o):iV b h' l xs:=by
 rcases b with _|_
 ·obtain⟨o,a,r⟩:=x;exact⟨o,e o a,r⟩
 exact(show h.IsList l xs from x).at e
def jZ.obj(x:jZ b h it l i):∃o vs,h.get? it=a_ o/\o.data=.fields vs:=by
 rcases b with _|_
 ·obtain⟨o,e,_,d⟩:=x;exact⟨o,_,e,d⟩
 obtain⟨o,e,_,d⟩:=x;exact⟨o,_,e,d⟩
section
variable{prog:k_}{w:j_}{A:h_}{E:f_->g_->Prop}{s:g_}
def acO(a:s.heap.IsTupleIter it t i)(b:s.heap.IsTuple t ah)(f:ah[i]?=a_ x)(k:∀h',h'.IsTupleIter it t (i+1)->gz it s.heap h'->Q x {s with heap:=h'}):bt (bv prog w) A (xh<|.ref it) Q E s:=by
 obtain⟨o,e,c,d⟩:=id a;obtain⟨j,g,_,l,h⟩:=b;refine ak<|xj a.typeIs F.slot_tuple_iterator_next<|rH F.slot_tuple_iterator_next a.typeIs F.entry_tuple_iterator_next ?_<|F.args_tuple_iterator_next_1 _;show bt _ _ (field (.ref it) 0 >>= _) _ _ s;refine ak<|lR e d xz ?_;rw[eN (by exact dF)];refine ak<|lR e d xz ?_;refine ak<|rO g h ?_;simp only[fH,f];refine ak<|xw e d (by simp)<|aP ⟨x,xz,aP<|k _ ⟨_,xo _ e<|Obj.isFreed_of_fields<|abS d _,(Obj.cls_mapFields ..).gw c,?_⟩<|kA ..⟩;rw[abS d];simp[cP]
def ac0(b:A.handled=b_)(a:s.heap.IsTupleIter it t i)(f:s.heap.IsTuple t ah)(g:ah[i]?=b_)(k:∀h' x,KP it s.heap h'->(∃o,h'.get? x=a_ o/\o.cls=.type "StopIteration")->E (.ref x) {s with heap:=h'}):bt (bv prog w) A (xh<|.ref it) Q E s:=by
 obtain⟨o,e,c,d⟩:=id a;obtain⟨l,h,_,m,j⟩:=f;refine ak<|xj a.typeIs F.slot_tuple_iterator_next<|rH F.slot_tuple_iterator_next a.typeIs F.entry_tuple_iterator_next ?_<|F.args_tuple_iterator_next_1 _;show bt _ _ (field (.ref it) 0 >>= _) _ _ s;refine ak<|lR e d xz ?_;rw[eN (by exact dF)];refine ak<|lR e d xz ?_;refine ak<|rO h j ?_;simp only[fH,g];refine ak<|vn<|ak<|xw e d (by simp) ?_;refine ak ?_;refine ak<|rF ?_ (by size_fits);refine ak<|KH (by first | rfl | (rfl))<|rF ?_ (by size_fits);refine ak<|wpAny_handled ?_
 first | rw[show A.in1.handled=b_ from b] | rw[b]
 exact ak<|aP<|wpAny_throw<|k _ _ (((kA ..).extBut.push _).push _) ⟨_,eU _ xz,xz⟩
def next_item(a:jZ b s.heap it l i)(c:iV b s.heap l xs)(d:xs[i]?=a_ x)(k:∀h',jZ b h' it l (i+1)->gz it s.heap h'->Q x {s with heap:=h'}):bt (bv prog w) A (xh<|.ref it) Q E s:=by
 rcases b with _|_;exact acO a c d k;exact wpAny_nextOf_list_item a c d k
def next_end(a:A.handled=b_)(c:jZ b s.heap it l i)(d:iV b s.heap l xs)(e:xs[i]?=b_)(k:∀h' x,KP it s.heap h'->(∃o,h'.get? x=a_ o/\o.cls=.type "StopIteration")->E (.ref x) {s with heap:=h'}):bt (bv prog w) A (xh<|.ref it) Q E s:=by
 rcases b with _|_;exact ac0 a c d e k;exact wpAny_nextOf_list_end a c d e k
noncomputable abbrev qG(b:Bool)(l:e_):d5:={cls:=.type (if b=c_ then "list_iterator" else "tuple_iterator"),data:=.fields #[.ref l,.int 0 0]}
def Mu(m:iV b s.heap l xs)(k:Q (.ref s.heap.objs.size) {s with heap:=s.heap.push (qG b l)}):bt (bv prog w) A (pyIter<|.ref l) Q E s:=by
 rcases b with _|_;exact wpAny_pyIter_tuple m k;exact zD m k
def agJ(e:h.get? a=a_ (qG b l)):jZ b h a l 0:=by
 rcases b with _|_;exact⟨_,e,xz,xz⟩;exact⟨_,e,xz,xz⟩
end
def iV.push(x:iV b h l xs)(o:d5):iV b (h.push o) l xs:=x.at λ_ e=>bU _ e
end L3
namespace L3
open AutoSeq1 (wpAny_loadPart')
def ae9(l:e_)(a:Array f_)(n:Nat)(yG:Option e_)(sl:Array (Option f_)):Meets (Builtin.«enumerate.__new__» ⟨[.type "enumerate",.ref l],[]⟩) (λ_ R s=>s.heap.get? l=a_ {cls:=.type "tuple",dict:=yG,data:=.seq a n,slots:=sl}/\R (.ok<|.ret<|.ref (s.heap.push<|qG d_ l).objs.size) {s with heap:=(s.heap.push<|qG d_ l).push {cls:=.type "enumerate",data:=.fields #[.none,.bool d_,.ref s.heap.objs.size,cP 0,.none,.none]}}):=
 .of_wp λprog w A R s h=>by
  obtain⟨b,g,d,tk,os⟩:=s;obtain⟨q,h⟩:=h;have e:=sub_enumerate;have M:iV d_ _ l a:=⟨_,q,xz,n,xz⟩
  wp_walk using TM q
  refine wpAny_stack_any λst=>aP ?_
  split
  .rename_i c _ _ _ _ _
   cases (c==gC "enumerate") <;> (wp_walk using TM q,Mu M;exact⟨_,xz,h⟩)
  .wp_walk using TM q,Mu M
   exact⟨_,xz,h⟩
section
variable{prog:k_}{w:j_}{A:h_}{E:f_->g_->Prop}{s:g_}
def ae'(m:iV b s.heap l xs)(k:∀h',IsEnum h' (s.heap.objs.size+1) s.heap.objs.size 0 .none->jZ b h' s.heap.objs.size l 0->(∀c o,s.heap.get? c=a_ o->h'.get? c=a_ o)->Q (.ref<|s.heap.objs.size+1) {s with heap:=h'}):bt (bv prog w) A (call (.type "enumerate") [.ref l]) Q E s:=by
 rcases b with _|_
 ·obtain⟨⟨c,yG,j,sl⟩,f,a,n,hd⟩:=m;have a:=a;have hd:=hd;subst a hd;refine callType_new F.called_enumerate qc (F.typeCall_enumerate_1 _) (F.newCall_enumerate_1 _) (λobj=>F.args_object_init_2 _ _) F.entry_enumerate_new (ae9 l _ n _ _) ⟨f,?_⟩;have d:(s.heap.push<|qG d_ l).objs.size=s.heap.objs.size+1:=lO ..
  have e:IsEnum ((s.heap.push<|qG d_ l).push {cls:=.type "enumerate",data:=.fields #[.none,.bool d_,.ref s.heap.objs.size,cP 0,.none,.none]}) (s.heap.objs.size+1) s.heap.objs.size 0 .none:=by
   have q:=eU (s.heap.push<|qG d_ l) (o:={cls:=.type "enumerate",data:=.fields #[.none,.bool d_,.ref s.heap.objs.size,cP 0,.none,.none]}) rfl;rw[d]at q;exact q
  show _/\_;rw[d];exact⟨⟨_,e,xz⟩,k _ e ⟨_,bU _<|eU _ xz,xz,xz⟩ λc o x=>bU _<|bU _ x⟩
 exact call_enumerate_list m λh' g h _ i=>k _ g h i
def afd(d:A.handled=b_)(it l:e_)(f:l≠it)(xs:Array f_):Draws prog w A it [it,l] xs.size (λi v=>xs[i]?=a_ v) (λi h=>jZ b h it l i/\iV b h l xs) where
 live:=λ_ _ st=>let ⟨o,_,e,_⟩:=st.1.obj;⟨o,e⟩
 frame:=λ_ _ _ st a=>⟨st.1.at λo e=>a it (by simp) o e,st.2.at λo e=>a l (by simp) o e⟩
 item:=λi s Q E hi st g=>next_item st.1 st.2 (x:=xs[i]) (by simp[hi]) λh' j c=>g _ h' s.toks (by simp[hi]) ⟨j,st.2.ext c.extBut f⟩ c
 done:=λs Q E st k=>next_end d st.1 st.2 (by simp) k
end
end L3
namespace L2
open L3
def df.MS{X:Cx}{p_:List (e_×d5)}{σ:St}{H:Hp}{s:g_}{h':i_}{t':Nat}{ch:List e_}(I:df X p_ σ H s)(k:∀b o,b∉ch->s.heap.get? b=a_ o->h'.get? b=a_ o)(a:∀b∈ch,ju X p_ H b):df X p_ σ H {s with heap:=h',toks:=t'}:=by
 have f:∀b u,H b=a_ u->b∉ch:=λb u e z=>by rw[(a b z).1]at e;cases e
 refine I.step (g':=s.gens) (d':=s.drawn) (ch:=ch) (λb d=>⟨(a b d).2.2.2.1,(a b d).2.1,(a b d).2.2.2.2.1,(a b d).2.2.2.2.2⟩) (λb o _ _ z e _=>k b o z e) (λb o _ _ z e _=>⟨o.slots,k b o z e⟩) (λ_ _ _ _ n=>n)
  (λb o z e=>⟨o,k b o z e⟩) (λ_ _ e=>e) (λ_ _ _ e=>e) (λb ps e=>⟨#[],by rw[e];simp⟩) (λm hm=>?_) (λb u e=>?_) I.bare
 .exact C2 hm λo es g h r=>⟨o,es,g,(k _ o (λz=>(a _ z).2.1 xz) h),r⟩
 refine(I.aW b u e).uh (λc v i q=>k c v ?_ q) (λ_ q=>q) λ_ _ q=>q;obtain z|z:=i
 .rw[z];exact f b u e
 exact f c _ z
def Sq(b:Bool)(K:u_)(H:Hp)(a:e_)(xs:List V):Prop:=if b=c_ then ag K H a xs else aq K H a xs
def yb(I:df X p_ σ H s)(h:Sq b X.K H a xs):∃c:List f_,dt xs c/\iV b s.heap a c.toArray/\xs.length<=bc:=by
 rcases b with _|_;exact a9 (I.tuple h) eC;exact a9 (I.list h) λc r p z=>eC _ r p.isList z
def X4(I:df X p_ σ H s)(h:Sq b X.K H a xs)(h':Sq b X.K H a ys):xs=ys:=by
 rcases b with _|_;exact I.Vb h h';exact I.Wv h h'
def Y8(I:df X p_ σ H s)(h:Sq b X.K H a xs):a<s.zS:=by
 refine a9 (yb I h) λc r p z=>?_;rcases b with _|_
 ·obtain⟨o,e,_⟩:=p;exact bY e
 obtain⟨o,e,_⟩:=p;exact bY e
def KQ(x:jZ b h it l i):∃o,h.get? it=a_ o/\∀v,o.data≠.cell v:=by
 exact cy x.obj λo vs e d=>az o e (λv z=>by rw[d]at z;cases z)
section
variable{X:Cx}{pos:Pos}
def rq(b:Bool)(K:u_)(l:e_):It:=
 ⟨λi H=>∃xs x,Sq b K H l xs/\xs[i]?=a_ x,λi H v H'=>∃p x,H p=b_/\v=.ref p/\H'=dc H p (.tup [.int i,x])/\∀xs,Sq b K H l xs->xs[i]?=a_ x,λi H=>∃xs,Sq b K H l xs/\xs.length<=i⟩
end
def aeo{P:k_}{w:j_}{K:u_}{es:List c0}{Q:Nat}{R:Pos}{b:Bool}{e it l:e_}(n1:e≠it)(S:l≠it)(U:e≠l):Turn P w K (.Tuple es Q R) (rq b K l) [e,it] e (λi h=>(∃j,IsEnum h e it i j)/\jZ b h it l i) where
 mem:=by simp
 obj:=λi h⟨⟨j,d⟩,g⟩c a=>by
  simp only[bK,Ka,or_false]at a;obtain rfl|rfl:=a
  .exact az _ d (λv z=>by cases z)
  exact KQ g
 keep:=λi h h'⟨⟨j,d⟩,g⟩k=>⟨⟨j,k e (by simp) _ d⟩,g.at λo q=>k it (by simp) o q⟩
 item:=by
  rintro X p hw r a i p_ s σ H E I f ⟨⟨j,d⟩,g⟩ hg;subst p hw r;refine cy hg λxs x m L=>a9 (yb I m) λvs t B _=>aD (t.get L) λu M V=>?_
  have W:i<vs.toArray.size:=by
   have:=(b0.mp M).1;simpa using this
  have Y:X.A.in1.handled=none:=I.ok.hd a;refine wpAny_pyNext_enum_itemD (n:=vs.toArray.size) (afd (b:=b) Y it l S vs.toArray) d ⟨g,B⟩ W n1 (by simp;exact⟨n1,U⟩) λy h' tk Z c1 c2 c3 c4 kk=>?_
  have ey:y=u:=by
   have:vs[i]?=a_ y:=by simpa using Z
   rw[M]at this;exact(c8 this).gx
  subst ey;have C:=I.aW.fresh<|aw _;have N:e≠s.zS:=dW<|bY d
  have iS:it≠s.zS:=by
   exact aD (KQ g) λo q _=>dW<|bY q
  refine az _ xz (wpAny_letOwnedTupleGo_enum c1 λD d1 G=>?_)
  have k2:∀c o,c∉[e,it]->s.heap.get? c=a_ o->D.get? c=a_ o:=λc o a q=>by
   simp only[bK,Ka,or_false,not_or]at a;exact(G.2 c a.1).gw (kk c o a.1 a.2 q)
  have I1:df X p_ σ H {s with heap:=D,toks:=tk+1}:=df.MS I k2 f;have J:=I.jI (aw _) C
  have I2:df X p_ σ (dc H s.zS<|.tup [.int i,x]) {s with heap:=D,toks:=tk+1}:=df.adopt I1 C I.sz J.2.1 J.2.2.2.2.1 J.2.2.2.2.2
   ⟨by show 2<=bc;decide,[.int i tk,y],.cons ⟨_,xz⟩<|.cons V .nil,⟨_,(G.2 _<|iT N).gw c3,xz,_,xz⟩⟩
  refine⟨(.ref s.zS),_,I2,xz,⟨_,x,C,xz,xz,λxs' p1=>by rw[X4 I p1 m];exact L⟩,⟨⟨_,by simpa using d1⟩,c2.1.at λo q=>(G.2 _<|iT n1).gw q⟩,(λc a=>?_)⟩;simp only[bK,Ka,or_false]at a;obtain rfl|rfl:=a
  .rw[aj N];exact(f _<|by simp).1
  rw[aj iS];exact(f _<|by simp).1
 done:=by
  rintro X p hw r a i p_ s σ H E I f ⟨⟨j,d⟩,g⟩ hg;subst p hw r;refine aD hg λxs m QM=>a9 (yb I m) λvs t B _=>?_;have hl:=t.length;have O:s.TypeIs (.ref e) "enumerate":=⟨_,d,xz⟩;refine ak<|Fj<|xj (name:=rS "__next__") O F.slot_enumerate_next<|rH F.slot_enumerate_next O F.entry_enumerate_next ?_<|F.args_enumerate_next_1 _;show bt _ _ (field (.ref e) 2 >>= _) _ _ s;refine ak<|lR d xz (x:=.ref it) xz<|ak<|next_end (show X.A.in1.handled=b_ from I.ok.hd a) g B (by simp;lia) ?_;rintro h' y hk⟨o,ho,ze⟩;exact ak<|BH (T:="StopIteration") (b:=c_) ⟨o,ho,ze⟩ TU<|aP ⟨xz,I.turned (t':=s.toks) (it:=it) (λc q a z=>hk c q a z) (f it<|by simp).1 (f it<|by simp).2.1 (f it<|by simp).2.2.2.1 (f it<|by simp).2.2.2.2.1 (f it<|by simp).2.2.2.2.2⟩
 self:=λ_ _ _ _ _ st h=>let ⟨_,d⟩:=st.1;wpAny_pyIter_enum d h
section
variable{X:Cx}{pos:Pos}
def amJ(b:Bool)(K:u_)(c:TA):TI:=λσ H R=>c σ H λvs a=>∃l xs,vs=[.ref l]/\Sq b K a l xs/\R (rq b K l) a
def qm(j:Gl X "enumerate")(hm:X.mg "enumerate"=b_)(ha:PA X [a] ta)
  (k:autoParam (cx [a] X.env=[(d_,eval a X.env)]) am):PI X (.Tuple es x1 HE) (.Call (.Name "enumerate" p) [a] [] pos) (amJ b X.K ta):=by
 refine λp_ s σ H R I h=>Call_<|x9 I j hm boot_enumerate<|JE (HU (ha _ _ s _ H _ I h) λus s1 vs m d n f=>?_) k xz;obtain⟨l,xs,e,f,q⟩:=f;subst e;cases n with
 | cons r o=>
  cases o;cases r;obtain⟨w,_,t,_⟩:=yb d f;have n1:=Y8 d f;refine ae' t λh' c1 u v=>wpAny_pyIter_enum c1<|⟨_,_,_,_,m,xz,(d.kept v),(aeo (JZ _) (dW n1)<|iT<|dW<|E6 n1),⟨⟨_,c1⟩,u⟩,(λc g=>?_),q⟩
  have i:s1.zS<=c:=by
   simp only[bK,Ka,or_false]at g;rcases g with rfl | rfl <;> lia
  exact d.jI i<|d.aW.fresh i
end
end L2
namespace L2
open PySem.SeqAt L3
noncomputable def oT:V->Option f_
 | .ty n=>a_<|.type n
 | .ref a=>a_<|.ref a
 | _=>b_
def ag'(h:oT c=a_ cv)(r:dn c u):u=cv:=by
 cases c with
 | ty n=>cases h;exact r
 | ref a=>cases h;exact r
 | _=>cases h
def pu(K:u_):List V->Hp->VK->Prop:=λxs H Q=>∃x c t a b,xs=[x,c]/\gI K H x t/\oT c=a_ a/\v_ K t a=a_ b/\Q (.bl b) H
section
variable{X:Cx}
def iP:jt X (.builtin "isinstance") (pu X.K):=by
 refine λp_ s σ H xs us Q I r h=>lD h λx c t g b a=>Pc a λe ty d f q=>?_;subst e;cases r with
 | cons r1 r2=>
  cases r2 with
  | cons r2 r3=>
   cases r3;cases ag' d r2;exact ae2 I r1 ty f λtk=>(eA (.bl b) H (I.tok _) xz q)
def range_all(bs:List Bool):(List.range bs.length).all (λi=>bs.getD i d_)=bs.all id:=by
 induction bs with
 | nil=>rfl
 | cons b r ih=>
  rw[eI,abz,zL,zO,zL];simp only[id]
  congr 1
def range_any(bs:List Bool):(List.range bs.length).any (λi=>bs.getD i d_)=bs.any id:=by
 induction bs with
 | nil=>rfl
 | cons b r ih=>
  rw[eI,abz,vg,Uo,vg];simp only[id]
  congr 1
theorem LG{bs:List Bool}{us:List f_}(r:dt (bs.map V.bl) us):us=bs.map lh:=by
 induction bs generalizing us with
 |nil=>cases r;rfl
 |cons b bs i=>
  cases r with
  | cons a r2=>
   cases a;rw[eV,i r2]
def Ur(bs:List Bool):TruthOf X.prog X.w A (λi v=>(bs.map lh).toArray[i]?=a_ v) (λi=>bs.getD i d_):=by
 intro i v s Q E h q;have h':(bs.map lh)[i]?=a_ v:=by simpa using h
 rw[cF]at h';rcases e:bs[i]? with _|b
 ·rw[e]at h';cases h'
 rw[e]at h';have c:=(c8 h').gx;subst c;have d:bs.getD i d_=b:=by rw[cH,e];rfl
 have a:Q (bs.getD i d_) s:=q;rw[d]at a;exact qh a
def aoG(K:u_):List V->Hp->VK->Prop:=λxs H Q=>∃(p:e_)(bs:List Bool),xs=[.ref p]/\ag K H p (bs.map V.bl)/\Q (.bl<|bs.all id) H
def aoF(K:u_):List V->Hp->VK->Prop:=λxs H Q=>∃(p:e_)(bs:List Bool),xs=[.ref p]/\ag K H p (bs.map V.bl)/\Q (.bl<|bs.any id) H
def Ab(a:X.calm=c_):jt X (.builtin "all") (aoG X.K):=by
 refine λp_ s σ H xs us Q I r h=>fh h λp bs e c q=>?_;subst e;refine aD (vals1 r) λu d f=>?_;subst d;cases f;refine a9 (I.list c) λt g pl v=>?_;have j:=LG g;subst j
 have k:p≠s.zS:=by
  exact aD pl.isList λo e _=>dW<|bY e
 refine call_all_walk<|zD pl.isList<|⟨_,_,_,_,_,_,(ip _ xz (BW (show X.A.in1.handled=b_ from I.ok.hd a) _ p k (bs.map _).toArray) ⟨⟨_,eU _ xz,xz,xz⟩,pl.isList.push _⟩ (Ur _) λh' tk l=>?_)⟩
 have m:(List.range (bs.map lh).toArray.size).all (λi=>bs.getD i d_)=bs.all id:=by
  rw[dG,aA];exact range_all _
 rw[m];refine eA (.bl _) H (I.kept λb o e=>l b o (λz=>?_)<|bU _ e) xz q;have n:b=s.zS:=by simpa using z
 rw[n]at e;exact f' (bY e)<|lQ _
def WK(a:X.calm=c_):jt X (.builtin "any") (aoF X.K):=by
 refine λp_ s σ H xs us Q I r h=>fh h λp bs e c q=>?_;subst e;refine aD (vals1 r) λu d f=>?_;subst d;cases f;refine a9 (I.list c) λt g pl v=>?_;have j:=LG g;subst j
 have k:p≠s.zS:=by
  exact aD pl.isList λo e _=>dW<|bY e
 refine call_any_walk<|zD pl.isList<|⟨_,_,_,_,_,_,(ip _ xz (BW (show X.A.in1.handled=b_ from I.ok.hd a) _ p k (bs.map _).toArray) ⟨⟨_,eU _ xz,xz,xz⟩,pl.isList.push _⟩ (Ur _) λh' tk l=>?_)⟩
 have m:(List.range (bs.map lh).toArray.size).any (λi=>bs.getD i d_)=bs.any id:=by
  rw[dG,aA];exact range_any _
 rw[m];refine eA (.bl _) H (I.kept λb o e=>l b o (λz=>?_)<|bU _ e) xz q;have n:b=s.zS:=by simpa using z
 rw[n]at e;exact f' (bY e)<|lQ _
mutual
inductive eM (K:u_) (H:Hp):V->ci->Prop
 | aO:eM K H .aO .none
 | bl (b:Bool):eM K H (.bl b) (.bool b)
 | int (i:Int):eM K H (.int i) (.int i)
 | str (x:d0):eM K H (.str x) (.str x)
 | lst {a:e_} {xs:List V} {ds:List ci}:ag K H a xs->fw K H xs ds->eM K H (.ref a) (.list ds)
 | tup {a:e_} {xs:List V} {ds:List ci}:aq K H a xs->fw K H xs ds->eM K H (.ref a) (.tuple ds)
inductive fw (K:u_) (H:Hp):List V->List ci->Prop
 | nil:fw K H [] []
 | cons {x:V} {d:ci} {xs:List V} {ds:List ci}:eM K H x d->fw K H xs ds->fw K H (x::xs) (d::ds)
end
variable{p_:List (e_×d5)}{σ:St}{H:Hp}{s:g_}
theorem eM.reads(I:df X p_ σ H s){v:V}{d:ci}{u:f_}(h:eM X.K H v d)(r:dn v u):∃a,Reads s.heap u d a:=by
 refine eM.rec (motive_1:=λv d _=>∀u,dn v u->∃a,Reads s.heap u d a) (motive_2:=λvs ds _=>∀us,dt vs us->∃a,Cm s.heap us ds a) ?_ ?_ ?_ ?_ ?_ ?_ ?_ ?_ h u r
 .intro u r;cases r;exact⟨_,.none⟩
 .intro b u r;cases r;exact⟨_,.bool b⟩
 .intro i u r;obtain⟨t,e⟩:=r;subst e;exact⟨_,.int i t⟩
 .intro x u r;obtain⟨t,e⟩:=r;subst e;exact⟨_,.str x t⟩
 .intro _ _ _ hq hs ih u r;cases r;exact a9 (I.list hq) λk c pl l=>oE (ih _ c) λa h=>a9 pl.isList λo f g j=>oE j λn hd=>⟨_,.list f g hd<|by simpa using h⟩
 .intro _ _ _ hq hs ih u r;cases r;exact a9 (I.tuple hq) λk c pl l=>oE (ih _ c) λa h=>a9 pl λo f g j=>oE j λn hd=>⟨_,.tuple f g hd<|by simpa using h⟩
 .intro u r;cases r;exact⟨_,.nil⟩
 .intro _ _ _ _ h t i1 i2 u r;cases r with|cons r1 r2=>exact oE (i1 _ r1) λa b=>oE (i2 _ r2) λbs c=>⟨_,.cons b c⟩
theorem fw.ind{K:u_}{H:Hp}{P:∀{vs:List V}{ds:List ci},fw K H vs ds->Prop}{vs:List V}{ds:List ci}(h:fw K H vs ds)(a:P .nil)(b:∀{v d vs ds}(h:eM K H v d)(t:fw K H vs ds),P t->P (.cons h t)):P h:=
 fw.rec (motive_1:=λ_ _ _=>True) (motive_2:=λ_ _ h=>P h) ⟨⟩ (λ_=>⟨⟩) (λ_=>⟨⟩) (λ_=>⟨⟩) (λ_ _ _=>⟨⟩) (λ_ _ _=>⟨⟩) a (λh t _ i=>b h t i) h
theorem fw.reads(I:df X p_ σ H s){vs:List V}{ds:List ci}{us:List f_}(h:fw X.K H vs ds)(r:dt vs us):∃a,Cm s.heap us ds a:=by
 induction h using fw.ind generalizing us with
 |a=>cases r;exact⟨_,.nil⟩
 |b h t i=>cases r with|cons r1 r2=>exact oE (eM.reads I h r1) λa b=>oE (i r2) λbs c=>⟨_,.cons b c⟩
def Qi(K:u_)(a:Bool):R2:=λx y H Q=>∃d e,eM K H x d/\eM K H y e/\shaped d=c_/\shaped e=c_/\noMix d e=c_/\Q (.bl (if a=c_ then !same d e else same d e)) H
def Yn(a:X.A.units+64<cLine):dP X (g6 .Eq) (Qi X.K d_):=by
 exact λp_ s σ H x y v u Q I b c h=>eJ h λd e h1 h2 h3 h4 h5 q=>oE (h1.reads I b) λi f=>oE (h2.reads I c) λbs g=>eq_dataH_same f g h3 h4 a h5<|eA (.bl _) H I xz q
def ajT(a:X.A.units+64<cLine):dP X (g6 .NotEq) (Qi X.K c_):=by
 exact λp_ s σ H x y v u Q I b c h=>eJ h λd e h1 h2 h3 h4 h5 q=>oE (h1.reads I b) λi f=>oE (h2.reads I c) λbs g=>ne_dataH_same f g h3 h4 a h5<|eA (.bl _) H I xz q
end
structure PL(K:u_)(C:e_)(m:d0)(f:e_):Prop where
 sp:W.specialIn K (.ref C) "__getattribute__"=a_ (a_<|.builtin "type.__getattribute__")
 rd:W.readsIn K C (.type "type")=c_
 fc:W.findCls K (.ref C) (.type "type") m=a_ (.val<|.ref f)
 kp:x_ K (.ref f)=c_
section
variable{X:Cx}{CX:p6}{k:Nat}{f C:e_}{fd:ik}{ps:List d0}{sp:Sp}{dvs:List V}{ds:List f_}{E:XK}{x m:d0}{p pos apos:Pos}{e o:c0}{es:List c0}{ta:TE}{t:TA}
def zS(c:PL X.K C m f)(F:aG X.prog X.w X.K X.mg X.base CX k f fd ps sp)(b:fz k X.A)(d:Gl X x)(hm:X.mg x=a_ (.ref C))(g:dL X.K fd ps ds)(hd:dt dvs ds)(i:Passes CX X E)(ha:PA X (e::es) t)
  (j:autoParam ((x==("__debug__":d0))=false) ap) (l:autoParam (cx (e::es) X.env=(d_,eval e X.env)::cx es X.env) am) (n:autoParam ((ca pos<|cx es X.env).any (·.1)=false) am)
  (q:autoParam (eval (.Call (.Attribute (.Name x p) m apos) (e::es) [] pos) X.env=(do
   let ov <-eval (.Name x p) X.env
   standAt apos.atName
   let (f,first) <-holding [ov] (vt ov m pl)
   Ac pos f first (ca pos<|cx (e::es) X.env) (xP pos<|xE [] X.env))) am) :
  PE X (.Call (.Attribute (.Name x p) m apos) (e::es) [] pos) (ON sp dvs E t):=by
 intro p_ s σ H Q I h;refine W.methodCall_KW (Gm I d hm ?_ j) q;refine W.method_cls I.dB c.sp<|W.cls_value I.dB c.rd c.fc xz ?_;have u:=I.tok<|s.toks+1;refine G_ I.ok.mod.yE c.kp (HU (ha _ _ _ _ H _ u h) λus s2 vs y a r v=>⟨a.dB,?_⟩) l n;exact Am F b g hd i a r v
def ajr(P:k_)(w:j_)(K:u_)(mg:d0->Option f_)(gW:i_)(CX:p6)(k:Nat)(m:d0)(E:XK)(ta:TE):TE:=λσ H Q=>ta σ H λx b=>∃a C dx fs f fd ps sp,x=.ref a/\b a=a_ (.ins C dx fs)/\fs.lookup m=b_/\di K C/\Meth K C m f/\
 aG P w K mg gW CX k f fd ps sp/\dL K fd ps []/\sp [.ref a] b Q E
def Mi{P:k_}{w:j_}{K:u_}{mg:d0->Option f_}{gW:i_}(g:PE X o ta)(i:fz k X.A)(j:Passes CX X E)(n:autoParam (X.prog=P) am)(hw:autoParam (X.w=w) am)(r:autoParam (X.K=K) am)(v:autoParam (X.mg=mg) am)(y:autoParam (X.base=gW) am)
  (z:autoParam (eval (.Call (.Attribute o m apos) [] [] pos) X.env=(do
   let ov <-eval o X.env
   standAt apos.atName
   let (f,first) <-holding [ov] (vt ov m pl)
   Ac pos f first (ca pos<|cx [] X.env) (xP pos<|xE [] X.env))) am) :
  PE X (.Call (.Attribute o m apos) [] [] pos) (ajr P w K mg gW CX k m E ta):=by
 subst n hw r v y;intro p_ s σ H Q I h;refine W.methodCall_KW (aV (g _ s _ H _ I h) λu s1 B=>?_) z;refine fh B λx L d D b=>lD b λa C dx fs f b=>lE b λfd ps sp ex G b=>qz b λl c hm F J q=>?_;subst ex;obtain rfl:u=dA a:=D;exact Ft d G c hm l<|W.callWith_K0 d.dB hm.kp<|Am (vs:=[.ref a]) F i J .nil j d (.cons xz .nil) q
end
def bj{c A B:Prop}[Decidable c](h1:c->A)(h2:¬c->B):if decide c=c_ then A else B:=by
 by_cases h:c
 .rw[fC h];exact j'<|h1 h
 .rw[fT h];exact eL<|h2 h
def Ay{c A B:Prop}[Decidable c](h1:¬c->A)(h2:c->B):if (!decide c)=c_ then A else B:=by
 by_cases h:c
 .rw[fC h];exact eL<|h2 h
 .rw[fT h];exact j'<|h1 h
def lG{A B:Prop}(h1:b=c_->A)(h2:b=d_->B):if b=c_ then A else B:=by
 cases b with
 | true=>exact j'<|h1 xz
 | false=>exact eL<|h2 xz
def Pn{A B:Prop}(h1:b=d_->A)(h2:b=c_->B):if (!b)=c_ then A else B:=by
 cases b with
 | true=>exact eL<|h2 xz
 | false=>exact j'<|h1 xz
noncomputable def ql(sc a:d6)(b N:List d0)(idx:List Nat):Bool:=
 decide (sc.kind=.function)&&(sc.names.all (λy=>decide<|y.2≠.cell)&&(sc.names.all (λy=>decide (y.2≠.local)||decide (sc.names.lookup y.1=a_ .local))&&(sc.names.all (λy=>decide (y.2≠.free)||decide (a.names.lookup y.1=a_ .cell))&&(decide (idx.length<=N.length)&&(idx.zip N).all λp=>decide (b[p.1]?=a_ p.2)&&decide (sc.names.lookup p.2=a_ .free)))))
def cB.of(h:ql sc X.env.scope X.N N idx=c_):cB X sc N idx:=by
 unfold ql at h;simp only[iB,decide_eq_true_eq,kZ,Bool.or_eq_true]at h;refine qz h λh1 h2 h3 h4 h5 d=>⟨h1,h2,λy c e=>?_,λy c e=>?_,h5,λk i x a b=>?_⟩
 .obtain z|z:=h3 y c
  .exact f' e z
  .exact z
 .obtain z|z:=h4 y c
  .exact f' e z
  .exact z
 .have hm:(i,x)∈idx.zip N:=by
   have:(idx.zip N)[k]?=a_ (i,x):=by rw[abm];exact⟨a,b⟩
   exact a8 this
  exact d _ hm
end L2
namespace TL
open L2 L3
def kinds:List String:=["NoneType","bool","int","str","list",W_]
def YD:List String:=["int","bool","str",W_,"list"]
noncomputable def um(T U:String):Bool:=T==U||(T=="bool"&&U=="int")
def Ou(K:u_)(T U:String):v_ K (.type T) (.type U) =(if (gC T==gC U)=c_ then a_ c_ else if W.kitMeta U=c_ then (TV T).map (·.contains (.type U)) else b_):=rfl
def aiR:∀T∈kinds,∀U∈YD,(if (gC T==gC U)=c_ then a_ c_ else if W.kitMeta U=c_ then (TV T).map (·.contains (.type U)) else b_)=a_ (um T U):=dk
noncomputable def ek(H:Hp):V->Option String
 | .aO=>a_ "NoneType"
 | .bl _=>a_ "bool"
 | .int _=>a_ "int"
 | .str _=>a_ "str"
 | .ref a=>match H a with
  | some (.lst _)=>a_ "list"
  | some (.tup _)=>a_ "tuple"
  | _=>b_
 | _=>b_
def Va{K:u_}(h:ek H v=a_ T):gI K H v (.type T)/\T∈kinds:=by
 cases v with
 | aO=>cases h;exact⟨.aO,qc⟩
 | bl b=>cases h;exact⟨.bl b,qc⟩
 | int i=>cases h;exact⟨.int i,qc⟩
 | str x=>cases h;exact⟨.str x,qc⟩
 | ref a=>
  unfold ek at h;cases e:H a with
  | none=>simp only[e]at h;cases h
  | some o=>
   cases o with
   | lst xs=>simp only[e]at h;cases h;exact⟨.lst e,qc⟩
   | tup xs=>simp only[e]at h;cases h;exact⟨.tup e,qc⟩
   | _=>simp only[e]at h;cases h
 | _=>cases h
def pK{K:u_}(h:ek H v=a_ T)(a:U∈YD):v_ K (.type T) (.type U)=a_ (um T U):=by
 rw[Ou];exact aiR T (Va (K:=K) h).2 U a
def pU{K:u_}(h:ek H v=a_ T):gI K H v (.type T):=(Va h).1
def Uq(s:ae H H')(h:ek H v=a_ T):ek H' v=a_ T:=by
 cases v with
 | ref a=>
  unfold ek at h ⊢;cases e:H a with
  | none=>simp only[e]at h;cases h
  | some o=>simp only[s a o e];simp only[e]at h;exact h
 | _=>exact h
noncomputable def uA:V->Bool
 | .int _=>c_
 | _=>d_
def YF(h:ek H v=a_ T):(um T "int"&&!um T "bool")=uA v:=by
 cases v with
 | aO=>cases h;rfl
 | bl b=>cases h;rfl
 | int i=>cases h;rfl
 | str x=>cases h;rfl
 | ref a=>
  unfold ek at h;cases e:H a with
  | none=>simp only[e]at h;cases h
  | some o=>
   cases o with
   | lst xs=>simp only[e]at h;cases h;rfl
   | tup xs=>simp only[e]at h;cases h;rfl
   | _=>simp only[e]at h;cases h
 | _=>cases h
def ee(w:d0):Option (List Int):=
 if w = ac2 then a_ [4,hV] else if w = U_ then a_ [4,4] else if w = K_ then a_ [12,4] else if w = J_ then a_ [4,12] else if w = I_ then a_ [4,12]
 else if w = M_ then a_ [] else if w = O_ then a_ [4,121] else b_
noncomputable def ox:V->Int->Bool
 | .int i,b=>decide (0<=i)&&decide (i<b)
 | _,_=>d_
def stepOk:List V->Bool
 | .str w::ps=>match ee w with
  | none=>d_
  | some bs=>decide (ps.length=bs.length)&&(ps.zip bs).all λp=>ox p.1 p.2
 | _=>d_
noncomputable def uc(H:Hp):V->Option (List V)
 | .ref a=>match H a with
  | some (.tup xs)=>a_ xs
  | _=>b_
 | _=>b_
def Aq(H:Hp)(v:V):Bool:=match uc H v with
 | some xs=>stepOk xs
 | none=>d_
def ael(h:uc H v=a_ xs):∃a,v=.ref a/\H a=a_ (.tup xs):=by
 cases v with
 | ref a=>
  refine az a xz ?_;unfold uc at h;cases e:H a with
  | none=>simp only[e]at h;cases h
  | some o=>
   cases o with
   | tup ys=>simp only[e]at h;cases h;rfl
   | _=>simp only[e]at h;cases h
 | _=>cases h
def VV(h:H a=a_ (.tup xs)):uc H (.ref a)=a_ xs:=by
 unfold uc;simp only[h]
def Fp(h:H a=a_ (.tup xs)):ek H (.ref a)=a_ W_:=by
 unfold ek;simp only[h]
def Yp(h:ek H v=a_ T):um T W_ = (uc H v).isSome:=by
 cases v with
 | aO=>cases h;rfl
 | bl b=>cases h;rfl
 | int i=>cases h;rfl
 | str x=>cases h;rfl
 | ref a=>
  unfold ek at h;unfold uc;cases e:H a with
  | none=>simp only[e]at h;cases h
  | some o=>
   cases o with
   | lst xs=>simp only[e]at h ⊢;cases h;rfl
   | tup xs=>simp only[e]at h ⊢;cases h;rfl
   | _=>simp only[e]at h;cases h
 | _=>cases h
def GN(h:ek H v=a_ T):um T "str"=c_↔∃x,v=.str x:=by
 cases v with
 | str x=>cases h;exact⟨λ_=>⟨x,xz⟩,λ_=>rfl⟩
 | aO=>cases h;refine⟨λz=>(by cases z),?_⟩;rintro ⟨_,z⟩;exact (by cases z)
 | bl b=>cases h;refine⟨λz=>(by cases z),?_⟩;rintro ⟨_,z⟩;exact (by cases z)
 | int i=>cases h;refine⟨λz=>(by cases z),?_⟩;rintro ⟨_,z⟩;exact (by cases z)
 | ref a=>
  refine⟨λz=>?_,λ⟨_,z⟩=>by cases z⟩;unfold ek at h;cases e:H a with
  | none=>simp only[e]at h;cases h
  | some o=>
   cases o with
   | lst xs=>simp only[e]at h;cases h;cases z
   | tup xs=>simp only[e]at h;cases h;cases z
   | _=>simp only[e]at h;cases h
 | _=>cases h
def ay(s:ae H H')(h:H' p=b_):ae H (dc H' p o):=λb u e=>by
 rw[aj<|bh (s b u e) h];exact s b u e
end TL
namespace L3
def wx(h:a<b\/b<a):@Ne e_ a b:=λe=>by have e':=e;lia
abbrev i0:=Bool×Nat
abbrev lY(h:i_)(T:e_)(xs:List f_):Prop:=h.get? T=a_ {cls:=.type "tuple",data:=.seq xs.toArray}
noncomputable def lF:Nat->Nat->List f_
 | _,0=>[]
 | m,k+1=>.ref m::lF (m+1) k
noncomputable def oJ(g:i_)(i:Nat):Nat->List i0->Prop
 | _,[]=>True
 | m,s::S=>jZ s.1 g m s.2 i/\oJ g i (m+1) S
noncomputable def wG(g:i_)(n i:Nat):List i0->List f_->Prop
 | [],xs=>xs=[]
 | s::S,xs=>∃x ys vs,xs=x::ys/\iV s.1 g s.2 vs/\vs[i]?=a_ x/\s.2<n/\wG g n i S ys
theorem oJ.keep{m:Nat}{S:List i0}(h:oJ g i m S)(k:∀(c:Nat)o,m<=c->c<m+S.length->g.get? c=a_ o->g'.get? c=a_ o):oJ g' i m S:=by
 induction S generalizing m with
 |nil=>trivial
 |cons s S j=>exact⟨h.1.at λo e=>k m o (aw _) (Nat.lt_add_of_pos_right<|Kw _) e,j h.2 λc o h1 h2 e=>k c o li (by rw[eI];lia) e⟩
theorem wG.keep{S:List i0}{xs:List f_}(h:wG g n i S xs)(k:∀(c:Nat)o,c<n->g.get? c=a_ o->g'.get? c=a_ o):wG g' n i S xs:=by
 induction S generalizing xs with
 |nil=>exact h
 |cons s S j=>obtain⟨x,ys,vs,e,a,b,c,d⟩:=h;exact⟨x,ys,vs,e,a.at λo e=>k _ o c e,b,c,j d⟩
section
variable{prog:k_}{w:j_}{A:h_}{E:f_->g_->Prop}{s:g_}
def aeg(J:S.length=k+1)(h8:k<=8)(R:cs.length=k+1)(j:IsZip s.heap (n+k+3) (n+k+1) (n+k+2) .none)(SG:lY s.heap (n+k+1) (lF n<|k+1))(hTO:lY s.heap (n+k+2) cs)(hi:oJ s.heap i n S)(T:wG s.heap n i S xs)(hQ:∀h',IsZip h' (n+k+3) (n+k+1) (n+k+2) (cP s.heap.objs.size)->lY h' (n+k+2) xs->oJ h' (i+1) n S->lY h' s.heap.objs.size xs-> (∀(c:Nat)o,c≠n+k+3->c≠n+k+2->(c<n\/n+k<c)->s.heap.get? c=a_ o->h'.get? c=a_ o)->Q (a_<|.ref s.heap.objs.size) {s with heap:=h'}):bt (bv prog w) A (pyNext<|.ref<|n+k+3) Q E s:=by
 have U:s.TypeIs (.ref<|n+k+3) "zip":=⟨_,j,xz⟩;have hsz:=gf;unfold pyNext;refine ak<|Fj<|xj U F.slot_zip_next<|rH F.slot_zip_next U F.entry_zip_next ?_<|F.args_zip_next_1 _;show bt _ _ (field (.ref<|n+k+3) 2 >>= _) _ _ s;refine ak<|lR j xz xz ?_;show bt _ _ _ _ _ s;refine ak<|lR j xz xz<|ak<|rO SG xz ?_;show bt _ _ _ _ _ s;unfold JD;refine ak<|ak<|lR j xz xz<|aP ?_;simp only ;refine ak<|vn<|ak<|lR j xz xz<|ak (E3 j (by simp) λg1 u s1=>?_);have u:=u
 let V:i_->Prop:=λg=>g.objs.size=s.heap.objs.size/\IsZip g (n+k+3) (n+k+1) (n+k+2) .ellipsis/\lY g (n+k+2) xs/\oJ g (i+1) n S/\∀(c:Nat)o,c≠n+k+3->c≠n+k+2->(c<n\/n+k<c)->s.heap.get? c=a_ o->g.get? c=a_ o
 refine ak (jU (BI _ (λl b s'=>b=(b_,())/\∃(g:i_)(m:Nat)(S':List i0)(ys done d:List f_),s'={s with heap:=g}/\l=(lF m S'.length).zipIdx done.length/\d.length=S'.length/\done.length+d.length=k+1/\m+S'.length=n+k+1/\n<=m/\
   IsZip g (n+k+3) (n+k+1) (n+k+2) .ellipsis/\lY g (n+k+2) (done++d)/\oJ g i m S'/\wG g n i S' ys/\
   ∀g',g'.objs.size=g.objs.size->lY g' (n+k+2) (done++ys)->oJ g' (i+1) m S'->(∀(c:Nat)o,c≠n+k+2->(c<m\/n+k<c)->g.get? c=a_ o->g'.get? c=a_ o)->V g')
  (λb s'=>b=(b_,())/\∃g,s'={s with heap:=g}/\V g) ?step ?fin _ _ ?init) (λb s' hq=>?_) λ_ _ z=>z)
 case init=>
  refine⟨xz,g1,n,S,xs,[],cs,xz,by rw[J];rfl,by rw[R,J],by rw[R];exact Nat.zero_add _,by rw[J];rfl,aw _,u,s1.extBut _ _ (wx li) hTO,hi.keep λc o _ _ e=>s1.extBut _ _ (wx li) e,T.keep λc o _ e=>s1.extBut _ _ (wx li) e,λg' p v y B=>?_⟩;exact⟨p.gw s1.1,B _ _ li (.inr li) u,v,y,λc o c1 q L e=>B c o q L<|s1.extBut _ _ c1 e⟩
 case fin=>
  rintro b s' ⟨rfl,g,m,S',ys,done,d,rfl,r,p,v,y,B,W,M,_,N,K⟩;cases S' with
  | cons a S'=>cases r
  | nil=>
   have ey:=N;have eo:=Tb p;subst ey;subst eo;exact⟨xz,g,xz,K g xz M trivial λ_ _ _ _ e=>e⟩
 case step=>
  rintro a rest b s' ⟨rfl,g,m,S',ys,done,d,rfl,r,p,v,y,B,W,M,km,N,K⟩;cases S' with
  | nil=>cases r
  | cons a' S'=>
   obtain⟨x,ys,vs,rfl,q1,q2,q3,q4⟩:=N;obtain⟨p1,p2⟩:=km;cases d with
   | nil=>cases p
   | cons o1 d=>
    simp only[eI]at p v y;rw[eI,show lF m _=.ref m::lF _ _ from xz,acg]at r;obtain⟨rfl,rfl⟩:=tS r;refine ak<|wpAny_onRaise ?_;show bt _ _ _ _ _ _;refine ak (next_item p1 q1 q2 λg2 n2 s2=>aP ?_);have O:=s2.extBut _ _ (wx li) M;refine ak<|rO O xz<|ak<|zF O xz (ak<|Fo<|aP ?_) (by simp;lia) (by simp;lia);have C:=kA g2 (n+k+2) (gQ λz=>z.setIfInBounds done.length x)
    have X:lY (g2.update (n+k+2)<|gQ λz=>z.setIfInBounds done.length x) (n+k+2) ((done++[x])++d):=
     (xo (f:=gQ λz=>z.setIfInBounds done.length x) O<|by unfold gQ;rfl).gw (by unfold gQ;simp)
    generalize g2.update _ _=g3 at C X ⊢;have up:∀c o,c≠m->c≠n+k+2->g.get? c=a_ o->g3.get? c=a_ o:=λc o c1 q e=>C.extBut _ _ q<|s2.extBut _ _ c1 e;refine⟨xz,g3,m+1,S',ys,done++[x],d,xz,by rw[cQ];rfl,li,by rw[cQ,Tj];lia,li,li,up _ _ li li W,X,p2.keep λc o h1 h2 e=>up c o li li e,q4.keep λc o h e=>up c o li li e,λg' D t G H=>?_⟩;refine K _ (D.gw<|C.1.gw s2.1) (by rw[JX]at t;exact t) ⟨n2.at λo e=>H m o li (.inl li)<|C.extBut _ _ (wx li) e,G⟩ λc o c1 q e=>?_;exact H c o c1 li<|up c o li c1 e
 obtain⟨rfl,g,rfl,D,t,G,H,f5⟩:=hq
 have hxl:xs.length<=bc:=by
  have:∀{S:List i0}{xs:List f_},wG s.heap n i S xs->xs.length=S.length:=λ{S}=>by
   induction S with
   | nil=>rintro xs rfl;rfl
   | cons a S ih=>rintro xs ⟨x,ys,_,rfl,_,_,_,h⟩;rw[eI,ih h];rfl
  rw[this T];lia
 refine ak<|rO G xz<|ak<|Fg ?_ hxl;have Y:=bY t;show bt _ _ _ _ _ _;unfold abd;have hz8:IsZip (g.push {cls:=.type "tuple",data:=.seq xs.toArray}) _ _ _ .ellipsis:=bU _ t;refine ak<|ak (E3 hz8 (by simp) λg9 P Z=>?_);have P:=P;refine E3 P (by simp) λgA I sA=>?_;have I:=I;have up:∀c o,c≠n+k+3->g.get? c=a_ o->gA.get? c=a_ o:=λc o c1 e=>sA.extBut _ _ c1<|Z.extBut _ _ c1<|bU _ e;have hTA:=sA.extBut _ _ (vi Y)<|Z.extBut _ _ (vi Y)<|eU _ xz;rw[D]at I hTA;refine aP ⟨_,xz,?_⟩;show bt _ _ _ _ _ _;rw[D];exact aP (hQ _ I (up _ _ li G) (H.keep λc o _ _ e=>up c o li e) hTA λc o c1 q L e=>up c o c1<|f5 c o c1 q L e)
def aft(p:A.handled=b_)(a:IsZip s.heap (n+k+3) (n+k+1) (n+k+2) .none)(r:lY s.heap (n+k+1) (lF n<|k+1))(n1:jZ b s.heap n l i)(t:iV b s.heap l vs)(C:l<n)(u:vs[i]?=b_)(v:∀h',(∀(c:Nat)o,c≠n+k+3->c≠n->s.heap.get? c=a_ o->h'.get? c=a_ o)->Q b_ {s with heap:=h'}):bt (bv prog w) A (pyNext<|.ref<|n+k+3) Q E s:=by
 have g:s.TypeIs (.ref<|n+k+3) "zip":=⟨_,a,xz⟩;unfold pyNext;refine ak<|Fj<|xj g F.slot_zip_next<|rH F.slot_zip_next g F.entry_zip_next ?_<|F.args_zip_next_1 _;show bt _ _ (field (.ref<|n+k+3) 2 >>= _) _ _ s;refine ak<|lR a xz xz ?_;show bt _ _ _ _ _ s;refine ak<|lR a xz xz<|ak<|rO r xz ?_;show bt _ _ _ _ _ s;unfold JD;refine ak<|ak<|lR a xz xz<|aP ?_;simp only ;refine ak<|vn<|ak<|lR a xz xz<|ak (E3 a (by simp) λD d s1=>?_);have d:=d;show bt _ _ (forIn (((dA n)::lF (n+1) k).zipIdx) _ _ >>= _) _ _ _;rw[acg,TR];refine ak<|ak<|ak<|wpAny_onRaise ?_;show bt _ _ _ _ _ _;refine ak (next_end p (n1.ext s1.extBut<|wx li) (t.ext s1.extBut<|wx li) u λg2 e s2 x=>?_);obtain⟨y,f,h⟩:=x;have j:=s2 _ _ (wx li) d;have z:e≠n+k+3:=λq=>by subst q;rw[j]at f;cases f;simp at h
 exact E3 j (by simp) λG _ m=>ak<|BH (T:="StopIteration") (b:=c_) ⟨y,m.extBut _ _ z f,h⟩ TU<|aP (v _ λc o c1 B q=>m.extBut _ _ c1<|s2 _ _ B<|s1.extBut _ _ c1 q)
noncomputable def pj:i_->List i0->i_
 | h,[]=>h
 | h,a::S=>pj (h.push<|qG a.1 a.2) S
noncomputable abbrev AD(S:List i0):List Value:=S.map λa=>.ref a.2
theorem UH:∀(S:List i0)(h:i_),(pj h S).objs.size=h.objs.size+S.length/\(∀(c:e_)o,h.get? c=a_ o->(pj h S).get? c=a_ o)/\oJ (pj h S) 0 h.objs.size S
 | [],h=>⟨xz,λ_ _ e=>e,trivial⟩
 | a::S,h=>by
  obtain⟨b,d,f⟩:=UH S<|h.push<|qG a.1 a.2;have g:(h.push<|qG a.1 a.2).objs.size=h.objs.size+1:=lO ..;rw[g]at b f;exact⟨b.gw (by rw[eI];lia),λc o e=>d c o<|bU _ e,agJ<|d _ _<|eU _ xz,f⟩
def agI(m:∀a∈S,∃vs,iV a.1 s.heap a.2 vs)(k:Q (lF s.heap.objs.size S.length) {s with heap:=pj s.heap S}):bt (bv prog w) A (abj<|AD S) Q E s:=by
 unfold abj
 refine ak (BI _ (λl(e:Array f_)s'=>∃(g:i_)(S':List i0),s'={s with heap:=g}/\l=AD S'/\(∀a∈S',∃vs,iV a.1 g a.2 vs)/\e.toList++lF g.objs.size S'.length=lF s.heap.objs.size S.length/\pj g S'=pj s.heap S)
  _ ?_ ?_ _ _ ⟨s.heap,S,xz,xz,m,xz,xz⟩)
 .rintro x rest e s' ⟨g,S',rfl,d,hm,f,c⟩;cases S' with
  | nil=>cases d
  | cons a S'=>
   obtain⟨rfl,rfl⟩:=tS d;obtain⟨vs,i⟩:=hm a bV;refine ak<|lP<|Mu i<|aP ⟨g.push<|qG _ _,S',xz,xz,λb j=>let ⟨vs,h⟩:=hm b<|cu _ j;⟨vs,h.push _⟩,?_,c⟩;rw[<-f,lO,ab9,JX];rfl
 .rintro e s' ⟨g,S',rfl,d,hm,f,c⟩;cases S' with
  | cons a S'=>cases d
  | nil=>
   have n:=(nK _).gx.gw f;have c:=c;subst c;exact aP<|n▸k
end
abbrev HR(h:i_)(S:List i0):Heap:=(pj h S).push {cls:=.type "tuple",data:=.seq (lF h.objs.size S.length).toArray}
abbrev HQ(h:i_)(S:List i0):Heap:=(HR h S).push {cls:=.type "tuple",data:=.seq ((lF h.objs.size S.length).map λ_=>gD).toArray}
abbrev Dy(h:i_)(S:List i0):Heap:=(HQ h S).push {cls:=.type "zip",data:=.fields #[.none,.bool d_,.bool d_,.ref (pj h S).objs.size,.ref (HR h S).objs.size]}
theorem Ln:∀m k,(lF m k).length=k
 | _,0=>rfl
 | m,k+1=>gv Ad<|Ln (m+1) k
def afs(S:List i0)(b:S.length<=9):Meets (Builtin.«zip.__new__» ⟨.type "zip":: AD S,[]⟩) (λ_ R s=>(∀a∈S,∃vs,iV a.1 s.heap a.2 vs)/\R (.ok<|.ret<|.ref (HQ s.heap S).objs.size) {s with heap:=Dy s.heap S}):=
 .of_wp λprog w A R s h=>by
  obtain⟨m,h⟩:=h;have c:=sub_zip;have d:=gf;have h1:=Ln s.heap.objs.size S.length
  wp_walk using agI m
  refine Fg ?_ li;refine ak<|Fg ?_ (by rw[aA];lia)
  wp_walk
  exact⟨_,xz,h⟩
section
variable{prog:k_}{w:j_}{A:h_}{E:f_->g_->Prop}{s:g_}
def ajk(us:List f_):checkTypeCall "zip" {pos:=us}=pure ():=by kernel_rfl
def aix(us:List f_)(o:f_):argsOk "object.__init__" {pos:=o::us}:=by kernel_rfl
def aeh(d:S.length=k+1)(p:k<=8)(l:E8 "zip.__new__" {pos:=gC "zip":: AD S}=pure ())(m:∀a∈S,∃vs,iV a.1 s.heap a.2 vs)(q:∀h',IsZip h' (s.heap.objs.size+k+3) (s.heap.objs.size+k+1) (s.heap.objs.size+k+2) .none->lY h' (s.heap.objs.size+k+1) (lF s.heap.objs.size<|k+1)->(∃cs,cs.length=k+1/\lY h' (s.heap.objs.size+k+2) cs)->oJ h' 0 s.heap.objs.size S-> (∀c o,s.heap.get? c=a_ o->h'.get? c=a_ o)->Q (.ref<|s.heap.objs.size+k+3) {s with heap:=h'}):bt (bv prog w) A (call (.type "zip")<|AD S) Q E s:=by
 refine callType_new F.called_zip qc (ajk _) l (aix _) F.entry_zip_new (afs S li) ⟨m,?_⟩;obtain⟨b,n,it⟩:=UH S s.heap;have b:(pj s.heap S).objs.size=s.heap.objs.size+k+1:=by rw[b,d];rfl
 have f:(HR s.heap S).objs.size=s.heap.objs.size+k+2:=by rw[lO,b]
 have h:(HQ s.heap S).objs.size=s.heap.objs.size+k+3:=by rw[lO,f]
 have g:(Dy s.heap S).get? (HQ s.heap S).objs.size=a_ _:=eU _ rfl;have i:(Dy s.heap S).get? (HR s.heap S).objs.size=a_ _:=bU _<|eU _ xz;have j:(Dy s.heap S).get? (pj s.heap S).objs.size=a_ _:=bU _<|bU _<|eU _ xz;have up:∀c o,(pj s.heap S).get? c=a_ o->(Dy s.heap S).get? c=a_ o:=λc o x=>bU _<|bU _<|bU _ x;show _/\_;rw[b,f,h]at g;rw[f]at i;rw[b,d]at j;rw[h];exact⟨⟨_,g,xz⟩,q _ g j ⟨_,by rw[aA,Ln,d],i⟩ (it.keep λc o _ _ e=>up c o e) λc o x=>up c o<|n c o x⟩
end
end L3
namespace L2
open L3
abbrev yN(K:u_)(H:Hp)(S:List i0)(Xs:List (List V)):Prop:=bw (λ(a:i0)xs=>Sq a.1 K H a.2 xs) S Xs
def oD(K:u_)(S:List i0):It:=
 ⟨λi H=>∃b row,yN K H S b/\bw (λ(xs:List V)x=>xs[i]?=a_ x) b row,λi H v H'=>∃p row,H p=b_/\v=.ref p/\H'=dc H p (.tup row)/\∀b,yN K H S b->bw (λ(xs:List V)x=>xs[i]?=a_ x) b row,λi H=>∃a S' xs,S=a::S'/\Sq a.1 K H a.2 xs/\xs.length<=i⟩
theorem Xw{m:Nat}{S:List i0}(q:oJ h i m S)(c:Nat)(h1:m<=c)(h2:c<m+S.length):∃o,h.get? c=a_ o/\∀v,o.data≠.cell v:=by
 induction S generalizing m with
 |nil=>exact f' h2<|Nat.not_lt.mpr h1
 |cons a S j=>
  obtain rfl|z:=Nat.eq_or_lt_of_le h1
  .exact KQ q.1
  .exact j q.2 z (by rw[eI]at h2;lia)
theorem WT(I:df X p_ σ H s){S:List i0}{d c:List (List V)}(h:yN X.K H S d)(k:yN X.K H S c):d=c:=by
 induction h generalizing c with
 |nil=>cases k;rfl
 |cons a _ i=>cases k with|cons b q=>rw[X4 I a b,i q]
theorem Yi(I:df X p_ σ H s){S:List i0}{c:List (List V)}{row:List V}(lo:∀a∈S,a.2<n)(h:yN X.K H S c)(q:bw (λ(xs:List V)x=>xs[i]?=a_ x) c row):∃us,wG s.heap n i S us/\dt row us:=by
 induction h generalizing row with
 |nil=>cases q;exact⟨[],xz,.nil⟩
 |cons a _ ih=>
  cases q with|cons b q=>obtain⟨vs,d,m,_⟩:=yb I a;obtain⟨u,e,f⟩:=d.get b;obtain⟨us,h1,h2⟩:=ih (λa h=>lo a<|cu _ h) q;exact⟨u::us,⟨u,us,_,xz,m,by simpa using e,lo _ bV,h1⟩,.cons f h2⟩
noncomputable abbrev np(n k:Nat):List Addr:=(List.range<|k+4).map λj=>(n+j:Nat)
def mZ:c∈np n k↔n<=c/\c<n+k+4:=by
 refine b8.gw ⟨?_,λh=>⟨c-n,mU.mpr li,by show n+(c-n)=c;lia⟩⟩;rintro ⟨j,a,e⟩;have:=mU.mp a;have e:n+j=c:=e;lia
def aem{P:k_}{w:j_}{K:u_}(A:S.length=k+1)(C:k<=8)(lo:∀a∈S,a.2<n):Turn P w K (.Tuple es x1 pos) (oD K S) (np n k) (n+k+3:Nat) (λi h=>IsZip h (n+k+3) (n+k+1) (n+k+2) .none/\lY h (n+k+1) (lF n<|k+1)/\(∃cs,cs.length=k+1/\lY h (n+k+2) cs)/\oJ h i n S) where
 mem:=mZ.mpr li
 obj:=by
  rintro i h⟨d,f,⟨cs,_,j⟩,g⟩c b;obtain⟨h1,h2⟩:=mZ.mp b
  by_cases z:(c:Nat)<n+S.length
  .exact Xw g c h1 z
  .rcases(show (c:Nat)=n+k+1\/(c:Nat)=n+k+2\/(c:Nat)=n+k+3 by lia)with e | e | e
   .exact⟨_,by rw[show c=_ from e];exact f,λv z=>by cases z⟩
   .exact⟨_,by rw[show c=_ from e];exact j,λv z=>by cases z⟩
   .exact⟨_,by rw[show c=_ from e];exact d,λv z=>by cases z⟩
 keep:=by
  rintro i h h'⟨d,f,⟨cs,b,j⟩,g⟩k;exact⟨k _ (mZ.mpr li) _ d,k _ (mZ.mpr li) _ f,⟨cs,b,k _ (mZ.mpr li) _ j⟩,g.keep λc o h1 h2 e=>k c (mZ.mpr li) o e⟩
 item:=by
  rintro X q hw r b i p_ s σ H E I l ⟨d,f,⟨cs,uV,j⟩,g⟩ ⟨Xs,row,q1,q2⟩;subst q hw r;obtain⟨us,t,r2⟩:=Yi I lo q1 q2;refine aeg A C uV d f j g t λh' c1 D F G m=>?_;have u:H s.zS=none:=I.aW.fresh<|aw _;have O:(n+k+3:Nat)<(s.zS:Nat):=bY d;refine⟨_,xz,wpAny_letOwnedTupleGo_zip c1 λx d1 B=>?_⟩;have J:df X p_ σ H {s with heap:=x}:=df.MS (t':=s.toks) I (λc o b e=>(B.2 _ λz=>b<|mZ.mpr<|by rw[show c=_ from z];lia).gw<|m c o (λz=>b<|mZ.mpr li) (λz=>b<|mZ.mpr li) (by have:=mt mZ.mpr b;lia) e) l;have ne:∀{c:Nat},c≠n+k+3->∀{o},h'.get? c=a_ o->x.get? c=a_ o:=λ{c}h{o}e=>(B.2 _ h).gw e;have y:ju X p_ H s.zS:=I.jI (aw _) u;have L:row.length=k+1:=by rw[<-r_ q2,<-r_ q1,A]
  have Q:=gf;have M:df X p_ σ (dc H s.zS<|.tup row) {s with heap:=x}:=df.adopt J u I.sz y.2.1 y.2.2.2.2.1 y.2.2.2.2.2 ⟨li,us,r2,⟨_,ne li G,xz,_,xz⟩⟩;refine⟨.ref s.zS,_,M,xz,⟨_,row,u,xz,xz,λR p=>by rw[WT I p q1];exact q2⟩,⟨d1,ne li<|m _ _ li li (.inr li) f,⟨us,by rw[<-r2.length];exact L,ne li D⟩,F.keep λc o h1 h2 e=>ne li e⟩,λc b=>?_⟩;rw[aj λz=>by have:=mZ.mp b;have z:(c:Nat)=s.zS:=z;lia];exact(l c b).1
 done:=by
  rintro X q hw r b i p_ s σ H E I l ⟨d,f,_,g⟩ ⟨a,S',xs,e,q1,QM⟩;subst q hw r;subst e;obtain⟨vs,t,N,_⟩:=yb I q1;have l1:=t.length;refine aft (I.ok.hd b) d f g.1 N (lo a bV) (by simp;lia) λh' m=>⟨xz,?_⟩;refine df.MS (t':=s.toks) I (λc o b e=>m c o (λz=>b<|mZ.mpr li) (λz=>b<|mZ.mpr li) e) l
 self:=λ_ _ _ _ _ st h=>wpAny_pyIter_zip st.1 h
theorem WU{K:u_}{S:List i0}{b:List (List V)}(h:yN K H S b):∀a∈S,∃xs,Sq a.1 K H a.2 xs:=by
 induction h with
 |nil=>intro _ h;cases h
 |cons h _ i=>exact λa ha=>(bK.mp ha).elim (λe=>⟨_,e ▸ h⟩)<|i a
theorem U9{S:List i0}{us:List f_}(h:dt (S.map λa=>V.ref a.2) us):us=AD S:=by
 induction S generalizing us with
 |nil=>cases h;rfl
 |cons a S i=>cases h with|cons r q=>cases r;rw[i q];rfl
section
variable{X:Cx}{pos:Pos}
def amG(K:u_)(k:Nat)(c:TA):TI:=λσ H R=>c σ H λvs b=>∃(S:List i0)(d:List (List V)),vs=(S.map λa=>V.ref a.2)/\S.length=k+1/\yN K b S d/\R (oD K S) b
def Nm(i:∀us:List f_,us.length=k+1->E8 "zip.__new__" {pos:=gC "zip":: us}=pure ())(j:Gl X "zip")(hm:X.mg "zip"=b_)(ha:PA X (a::as) ta)(f:autoParam (k<=8) ap)
  (l:autoParam (cx (a::as) X.env=(d_,eval a X.env)::cx as X.env) am) (n:autoParam (((ca pos<|cx as X.env).any λx=>x.fst)=false) am):PI X (.Tuple es x1 HE) (.Call (.Name "zip" p) (a::as) [] pos) (amG X.K k ta):=by
 intro p_ s σ H R I h;refine Call_<|x9 I j hm boot_zip<|JE (HU (ha pos p_ s σ H _ I h) λus s1 vs o b r t=>?_) l n;obtain⟨S,A,rfl,e,d,q⟩:=t;have d:=WU d;cases U9 r;refine aeh e f (i _<|by rw[aA,e]) (λa ha=>let ⟨xs,h⟩:=d a ha;let ⟨_,_,m,_⟩:=yb b h;⟨_,m⟩) λh' c1 u v w y=>wpAny_pyIter_zip c1 ?_;refine⟨_,_,_,_,o,xz,b.kept (t':=s1.toks) y,aem e f λa ha=>let ⟨xs,h⟩:=d a ha;Y8 b h,⟨c1,u,v,w⟩,λc z=>?_,q⟩;have g:s1.zS<=c:=(mZ.mp z).1;exact b.jI g<|b.aW.fresh g
def ni(us:List f_)(h:us.length=1+1):E8 "zip.__new__" {pos:=gC "zip":: us}=pure ():=by
 cases us with|nil=>cases h|cons a us=>cases us with|nil=>cases h|cons b us=>simp at h;subst h;exact F.newCall_zip_2 _ _
def nc3(us:List f_)(h:us.length=2+1):E8 "zip.__new__" {pos:=gC "zip":: us}=pure ():=by
 cases us with|nil=>cases h|cons a us=>cases us with|nil=>cases h|cons b us=>cases us with|nil=>cases h|cons c us=>simp at h;subst h;kernel_rfl
def XY{c d:Type}{F:c->d->Prop}{a b:c}{l:List d}(h:bw F [a,b] l):∃x y,l=[x,y]/\F a x/\F b y:=by
 cases h with|cons h k=>cases k with|cons k j=>cases j;exact⟨_,_,xz,h,k⟩
def afr{d e:Type}{F:d->e->Prop}{a b c:d}{l:List e}(h:bw F [a,b,c] l):∃x y z,l=[x,y,z]/\F a x/\F b y/\F c z:=by
 cases h with|cons h k=>obtain⟨_,_,rfl,k,j⟩:=XY k;exact⟨_,_,_,xz,h,k,j⟩
end
end L2
namespace L4
open PySem.Builtin PySem.Builtin.Str
abbrev Tl:=d0×List Nat
inductive bu (sz:Nat):Tl->Prop
 | put (r m:Nat):r<4->m<10^60->bu sz ("put",[r,m])
 | add (r o:Nat):r<4->o<4->bu sz ("add",[r,o])
 | set (n r:Nat):n<12->r<4->bu sz ("set",[n,r])
 | look (r n:Nat):r<4->n<12->bu sz ("look",[r,n])
 | swap (r n:Nat):r<4->n<12->bu sz ("swap",[r,n])
 | clear:bu sz ("clear",[])
 | skip (r q:Nat):r<4->q<=sz->q<=120->bu sz ("skip",[r,q])
def bu.len{sz:Nat}(g:bu sz t):t.2.length<=2:=by cases g <;> simp
abbrev Pt:=List Tl
structure cW(ps:List Pt):Prop where
 ne:1<=ps.length
 le:ps.length<=4
 part:∀p∈ps,p.length<=120/\∀t∈p,bu p.length t
def bu.mono(g:bu a t)(h:a<=b):bu b t:=by
 cases g with
 | put r m h1 h2=>exact .put r m h1 h2
 | add r m h1 h2=>exact .add r m h1 h2
 | set r m h1 h2=>exact .set r m h1 h2
 | look r m h1 h2=>exact .look r m h1 h2
 | swap r m h1 h2=>exact .swap r m h1 h2
 | clear=>exact .clear
 | skip r q h1 h2 h3=>exact .skip r q h1 (dq h2 h) h3
end L4
namespace L2
open TL
def nw(n:H l=b_):∃H',dc H l o=H'/\ae H H'/\H' l=a_ o:=⟨_,xz,ay (ae.refl _) n,ao⟩
def sl(h:autoParam (n<=1000) ap):n<=bc:=by rw[gf];exact dq h qc
end L2
set_option autoImplicit true
namespace L2
abbrev IV:=Nat->St->Hp->Prop
def pR(R:TS)(h:fD X l R):fD X l R:=h
end L2
namespace L2
structure Dp(P:k_)(w:j_)(K:u_)(mg:d0->Option f_)(base:i_)(k:Nat)(x:d0)(ps:List d0)(sp:Sp) where
 {f:e_}
 {fd:ik}
 G:aG P w K mg base aF k f fd ps sp
 k:x_ K (.ref f)=c_
 b:dL K fd ps []
 m:mg x=a_ (.ref f)
structure Mt(P:k_)(w:j_)(K:u_)(mg:d0->Option f_)(base:i_)(C:e_)(k:Nat)(x:d0)(ps:List d0)(sp:Sp) where
 {f:e_}
 {fd:ik}
 G:aG P w K mg base aF k f fd ps sp
 b:dL K fd ps []
 m:Meth K C x f
section
variable{X:Cx}{C:e_}{k:Nat}{ps:List d0}{sp:Sp}{x m:d0}{p pos apos:Pos}{e o:c0}{es:List c0}{ta:TE}{t:TA}
def bA(D:Dp X.prog X.w X.K X.mg X.base k x ps sp)(a:fz k X.A)(c:Gl X x)(ha:PA X (e::es) t)(d:autoParam ((x==("__debug__":d0))=false) ap)(f:autoParam (cx (e::es) X.env=(d_,eval e X.env)::cx es X.env) am)(g:autoParam ((ca pos<|cx es X.env).any (·.1)=false) am):
  PE X (.Call (.Name x p) (e::es) [] pos) (ON sp [] E0 t):=lB D.G a c D.m D.k D.b .nil cX ha d f g
def jF(a:PE X o ta)(c:di X.K C)(D:Mt X.prog X.w X.K X.mg X.base C k m ps sp)(d:fz k X.A)(ha:PA X (e::es) t)
  (g:autoParam (cx (e::es) X.env=(d_,eval e X.env)::cx es X.env) am) (h:autoParam ((ca pos<|cx es X.env).any (·.1)=false) am)
  (i:autoParam (eval (.Call (.Attribute o m apos) (e::es) [] pos) X.env=(do
   let ov <-eval o X.env
   standAt apos.atName
   let (f,first) <-holding [ov] (vt ov m pl)
   Ac pos f first (ca pos<|cx (e::es) X.env) (xP pos<|xE [] X.env))) am) :
  PE X (.Call (.Attribute o m apos) (e::es) [] pos) (CS C m sp [] E0 ta t):=Gj a c D.m D.G d D.b .nil cX ha g h i
def pA(a:PE X o ta)(c:di X.K C)(D:Mt X.prog X.w X.K X.mg X.base C k m ps sp)(d:fz k X.A)
  (g:autoParam (eval (.Call (.Attribute o m apos) [] [] pos) X.env=(do
   let ov <-eval o X.env
   standAt apos.atName
   let (f,first) <-holding [ov] (vt ov m pl)
   Ac pos f first (ca pos<|cx [] X.env) (xP pos<|xE [] X.env))) am) :
  PE X (.Call (.Attribute o m apos) [] [] pos) (CS C m sp [] E0 ta Hu):=FV a c D.m D.G d D.b .nil cX g
end
end L2
namespace TL
open L2 L3
structure Bl(mg:d0->Option f_):Prop where
 ir:mg "isinstance"=b_
 int:mg "int"=b_
 bool:mg "bool"=b_
 str:mg "str"=b_
 tuple:mg W_ = b_
 len:mg "len"=b_
 all:mg "all"=b_
 zip:mg "zip"=b_
structure Cn(mg:d0->Option f_):Prop where
 top:∃u,mg "TOP"=a_ u/\dn (.int hV) u
 names:∃u,mg "NAMES"=a_ u/\dn (.int 12) u
 eB:∃u,mg "REGISTERS"=a_ u/\dn (.int 4) u
 long:∃u,mg "LONGEST"=a_ u/\dn (.int 120) u
section
variable{P:k_}{w:j_}{K:u_}{mg:d0->Option f_}{gW:i_}
def Gd:Sp:=λvs H Q _=>∃v T,vs=[v]/\ek H v=a_ T/\Q (.bl<|uA v) H
def ahG:aX ia ia (aM CH):=aZ
def Mj(F:aQ K ac1 ac1 CH f fd)(B:Bl mg):aG P w K mg gW aF 1 f fd ia Gd:=by
 refine F.ok ahG λaH A _ s H vs Q E c h=>?_
 .refine fh h λv T b a k=>?_;clear h;subst b;refine⟨_,ax<|aR<|sr (bC iP xz B.ir iO<|aa (pv 0)<|aa (nW (v:=.ty "int") xz B.int boot_int xz) af)<|sk<|Od<|bC iP xz B.ir iO<|aa (pv 0)<|aa (nW (v:=.ty "bool") xz B.bool boot_bool xz) af,?_⟩;have e:=YF a;refine az v xz<|dN _ _ _ _<|ip _ xz (pU a) xz (pK a qc)<|az _ xz (lG (λh1=>?_) λh1=>?_)
  .refine az v xz (dN _ _ _ _<|ip _ xz (pU a) xz (pK a qc)<|az _ xz ?_);rw[h1,rQ]at e;rw[e];exact k
  .rw[h1,xy]at e;rw[e];exact k
def V8:Sp:=λvs H Q _=>∃x,vs=[.str x]/\(ee x=b_->Q .aO H)/\∀bs,ee x=a_ bs->∀p,H p=b_->Q (.ref p) (dc H p<|.lst<|bs.map V.int)
def afO:aX ["word"] ["word"] (aM Cs):=aZ
def str_inj(h:V.str x=V.str y):x=y:=by injection h
def aeJ(F:aQ K au3 au3 Cs f fd)(C:Cn mg):aG P w K mg gW aF 1 f fd ["word"] V8:=by
 refine F.ok afO λaH A _ s H vs Q E G h=>?_
 .refine a9 h λx o k0 j=>?_;clear h;subst o;refine aD C.top λI q rT=>aD C.names λJ n rN=>aD C.eB λL l m=>aD C.long λM r rL=>?_;refine let a:TS:=_;let b:TS:=_;let c:TS:=_;let d:TS:=_;let g:TS:=_;⟨_,au (bz (cb dM (pv 0) cq<|bR _) (ax<|aR<|eX<|aa (eW xz l m)<|aa (eW xz q rT) af) bQ)<|pR g<|au (bz (cb dM (pv 0) cq<|bR _) (ax<|aR<|eX<|aa (eW xz l m)<|aa (eW xz l m) af) bQ)<|pR d<|au (bz (cb dM (pv 0) cq<|bR _) (ax<|aR<|eX<|aa (eW xz n rN)<|aa (eW xz l m) af) bQ)<|pR c<|au (bz (PW.pt<|pw_or (cb dM (pv 0) cq<|bR _)<|pw_or1<|cb dM (pv 0) cq<|bR _) (ax<|aR<|eX<|aa (eW xz l m)<|aa (eW xz n rN) af) bQ)<|pR b<|au (bz (cb dM (pv 0) cq<|bR _) (ax<|aR<|eX af) bQ)<|pR a<|au (bz (cb dM (pv 0) cq<|bR _) (ax<|aR<|eX<|aa (eW xz l m)<|aa (aS gE (eW xz r rL) ar) af) bQ)<|ax<|aR oa,?_⟩;refine vr xz ⟨xz,⟨_,xz,bj (λe=>?_) λn1=>?_⟩⟩
  .cases str_inj e;exact⟨qc,λp i=>j [4,hV] (by unfold ee;rw[eT rfl]) p i⟩
  refine az _ xz ⟨xz,⟨_,xz,bj (λe=>?_) λt=>?_⟩⟩
  .cases str_inj e;exact⟨qc,λp i=>j [4,4] (by unfold ee;rw[eN dk,eT rfl]) p i⟩
  refine az _ xz ⟨xz,⟨_,xz,bj (λe=>?_) λu=>?_⟩⟩
  .cases str_inj e;exact⟨qc,λp i=>j [12,4] (by unfold ee;rw[eN dk,eN dk,eT rfl]) p i⟩
  refine az _ xz ⟨xz,⟨_,xz,bj (λe=>?_) λv=>?_⟩⟩
  .cases str_inj e;exact j' ⟨qc,λp i=>j [4,12] (by unfold ee;rw[eN dk,eN dk,eN dk,eT rfl]) p i⟩
  refine vr xz ⟨xz,⟨_,xz,bj (λe=>?_) λz=>?_⟩⟩
  .cases str_inj e;exact⟨qc,λp i=>j [4,12] (by unfold ee;rw[eN dk,eN dk,eN dk,eN dk,eT rfl]) p i⟩
  refine az _ xz ⟨xz,⟨_,xz,bj (λe=>?_) λB=>?_⟩⟩
  .cases str_inj e;exact⟨qc,λp i=>j [] (by unfold ee;rw[eN dk,eN dk,eN dk,eN dk,eN dk,eT rfl]) p i⟩
  refine az _ xz ⟨xz,⟨_,xz,bj (λe=>?_) λD=>?_⟩⟩
  .cases str_inj e;exact⟨_,⟨_,xz,xz,qc,λp i=>j [4,121] (by unfold ee;rw[eN dk,eN dk,eN dk,eN dk,eN dk,eN dk,eT rfl]) p i⟩⟩
  refine k0 ?_;have k:∀{y:d0},¬V.str x=V.str y->¬x=y:=λh e=>h (by rw[e]);unfold ee;rw[eN<|k n1,eN<|k t,eN<|k u,eN<|k v,eN<|k z,eN<|k B,eN<|k D]
def V4:Sp:=λvs H Q _=>∃v T,vs=[v]/\ek H v=a_ T/\(∀xs,uc H v=a_ xs->xs.length<=1000/\∀x∈xs,∃T,ek H x=a_ T)/\∀H',ae H H'->Q (.bl<|Aq H v) H'
def Wf:aX [at0,"bounds"] iv (aM Gh):=aZ
def Qc(y:V)(ps:List V):HT.cp (y::ps).length 0 (a_ 1)=1:=by
 simp only[HT.cp,eI]
 first | omega | (simp;done) | (split <;> omega)
def oW(y:V)(ps:List V):pP (y::ps) (a_ 1) b_=ps:=by
 unfold pP;rw[Qc];show List.take (HT.cp (y::ps).length (y::ps).length b_-1) ps=ps;exact jl (by simp[HT.cp])
def U1{bs:List Int}(h:ee x=a_ bs):bs.length<=2:=by
 unfold ee at h
 repeat (first | (split at h;(cases h;decide)) | (cases h;done))
def Zm:([X_,"bound"]:List d0).Nodup:=dk
def aeI(F:aQ K "is_step" "is_step" Gh f fd)(B:Bl mg)(C:Cn mg)(U:aQ K ac1 ac1 CH fW sU)(bW:dL K sU ia [])(mW:mg ac1 = a_ (.ref fW))(W:aQ K au3 au3 Cs fB AZ)(bB:dL K AZ ["word"] [])(mB:mg au3 = a_ (.ref fB)):aG P w K mg gW aF 2 f fd iv V4:=by
 have GW:aG P w K mg gW aF 1 fW sU ia Gd:=Mj U B;have GB:aG P w K mg gW aF 1 fB AZ ["word"] V8:=aeJ W C;refine F.ok Wf λaH A _ s H vs Q E X h=>?_
 .refine og h λv T ab o hx k=>?_;clear h;subst ab
  refine let b:TS:=_;let d:TS:=_;let g:TS:=_;⟨_,au (bz (PW.pt<|pw_or (g7<|dg<|bC iP xz B.ir iO<|aa (pv 0)<|aa (nW (v:=.ty W_) xz B.tuple iE xz) af)<|pw_or (cb dM (bC ft xz B.len q_<|aa (pv 0) af) ar<|bR _)<|pw_or1<|g7<|dg<|bC iP xz B.ir iO<|aa (aU dh (pv 0) ar)<|aa (nW (v:=.ty "str") xz B.str boot_str xz) af) (ax<|aR iF) bQ) (pR g (au (bG (i:=1) Wf.nd xz (aL xz)<|lB GB X xz mB W.kp bB .nil cX<|aa (aU dh (pv 0) ar) af) (pR d (au (bz (PW.pt<|pw_or (cb Ym (pv 1) oa<|bR _)<|pw_or1<|cb CZ (bC ft xz B.len q_<|aa (pv 0) af) (aS gE (bC ft xz B.len q_<|aa (pv 1) af) ar)<|bR _) (ax<|aR iF) bQ) (pR b (ax (aR (bC (Ab xz) xz B.all Cj (aa (dZ (N:=[X_,"bound"]) (idx:=[]) xz (cB.of<|by kernel_rfl) (zU (bg _)<|bg _)
    (Nm ni xz B.zip<|aa (FU NJ (pv 0) (Ct ar) Nl)<|aa (pv 1) af)
    (λ_ _ _ _=>lX xz<|ff (bo (i:=0) Zm xz (aL xz)<|.inr xz)<|ff (bo (i:=1) Zm xz (aL xz)<|.inr xz) lV)
    (λ_ _ _ _=>eP)
    λ_ _ _ _=>sr (lB GW X xz mW U.kp bW .nil cX<|aa (pv 0) af)<|sk<|Wl C0 vO ar (pv 0)<|pv 1) af))))))))),?_⟩
  cases t:uc H v with
  | none=>
   have hi:um T W_ = false:=by rw[Yp o,t];rfl
   have cZ:Aq H v=false:=by unfold Aq;rw[t]
   have l:=k H<|ae.refl H;rw[cZ]at l;refine az v xz<|dN _ _ _ _<|ip _ xz (pU o) xz (pK o qc)<|az _ xz ?_;rw[hi];exact j'<|j' l
  | some xs=>
   refine aD (ael t) λa J ha=>?_;subst J;refine oA (hx xs t) λhl Y=>?_;have hi:um T W_ = true:=by rw[Yp o,t];rfl
   have l:∀H',ae H H'->Q (.bl<|stepOk xs) H':=λH' s=>by
    have q:=k H' s;unfold Aq at q;rw[t]at q;exact q
   refine vr xz<|dN _ _ _ _<|ip _ xz (pU o) xz (pK o qc)<|az _ xz ?_;rw[hi];refine eL ?_;cases xs with
   | nil=>
    refine vr xz<|eA a ([]) xz (.inr<|aq.of ha) ⟨xz,⟨_,xz,bj (λe=>?_) λZ=>f' xz Z⟩⟩;exact j'<|l H<|ae.refl H
   | cons y ps=>
    refine vr xz<|eA a (y::ps) xz (.inr<|aq.of ha) ⟨xz,⟨_,xz,bj (λe=>?_) λZ=>?_⟩⟩
    .injection e with e
     exact f' e (by simp only[eI];omega)
    refine oE (Y y bV) λTy G=>kg (v:=y) (j:=0) xz ha xz<|dN _ _ _ _<|ip _ xz (pU G) xz (pK G qc)<|az _ xz (Pn (λh1=>?_) λh1=>?_)
    .have e:stepOk (y::ps)=false:=by
      cases y with
      | str x=>exact f' ((GN G).mpr ⟨x,xz⟩) (by rw[h1];exact dF)
      | _=>rfl
     have q:=l H<|ae.refl H;rw[e]at q;exact q
    refine oE ((GN G).mp h1) λu J=>?_;subst J;refine kg (v:=.str u) (j:=0) xz ha xz (eC u xz (λD=>?_) λbs D p hp=>?_)
    .refine az _ xz ⟨xz,⟨_,xz,bj (λ_=>?_) λn=>f' xz n⟩⟩
     have e:stepOk (.str u::ps)=false:=by
      show (match ee u with | none=>d_ | some bs=>decide (ps.length=bs.length)&&(ps.zip bs).all λp=>ox p.1 p.2)=d_;rw[D]
     have q:=l H<|ae.refl H;rw[e]at q;exact j' q
    have s1:ae H (dc H p<|.lst<|bs.map V.int):=ay (ae.refl H) hp;have SD:=s1 _ _ ha
    have eS:stepOk (.str u::ps)=(decide (ps.length=bs.length)&&(ps.zip bs).all λp=>ox p.1 p.2):=by
     show (match ee u with | none=>d_ | some bs=>decide (ps.length=bs.length)&&(ps.zip bs).all λp=>ox p.1 p.2)=_;rw[D]
    rw[eS]at l;refine az _ xz ⟨xz,⟨_,xz,bj (λz=>by cases z) λ_=>vr xz ⟨a,⟨_,xz,.inr<|aq.of SD,_,xz,p,_,xz,.inl<|ag.of ao,_,_,xz,xz,xz,_,xz,Ay (λne=>?_) λL=>?_⟩⟩⟩⟩
    .have e:decide (ps.length=bs.length)=false:=fT λz=>ne (by rw[eI,aA,z];rfl);rw[e,xy]at l;exact l _ s1
    have M:ps.length=bs.length:=by
     injection L with L
     rw[eI,aA]at L;omega
    rw[fC M,rQ]at l;refine az _ xz<|az 1 xz ⟨a,⟨_,xz,aq.of SD,?_,λq hq=>?_⟩⟩
    .intro z;have z1:=z.1;rw[Qc]at z1;cases z1
    rw[oW];have s2:ae H (dc (dc H p<|.lst<|bs.map V.int) q<|.tup ps):=ay s1 hq;have wq:=bh ao hq;have I:dc (dc H p<|.lst<|bs.map V.int) q (.tup ps) p=a_ (.lst<|bs.map V.int):=by rw[aj wq];exact ao
    refine vr xz ⟨[(d_,q),(c_,p)],[ps,bs.map V.int],xz,xz,.cons (aq.of ao)<|.cons (ag.of I) .nil,?_⟩;generalize hH3:dc (dc H p<|.lst<|bs.map V.int) q (.tup ps)=H3 at s2 I;have O:H3 q=a_ (.tup ps):=by rw[<-hH3];exact ao
    refine dX (n:=bs.length) (λi ys H'=>i<=bs.length/\ae H3 H'/\ys=((ps.zip bs).take i).map λz=>V.bl<|ox z.1 z.2) ?_ ?_ ?_ ?_ ?_ ?_ ?_
    .have oU:=U1 D;exact bL<|bq w4
    .exact fY (bg _) (ae.refl _) xz
    .rintro i ys H' ⟨_,_,e⟩;rw[e,aA,fJ];exact xl
    .rintro i ys H' hi ⟨_,m,_⟩;exact⟨[ps,bs.map V.int],[ps[i]'wg,V.int bs[i]],.cons (aq.of<|m _ _ O)<|.cons (ag.of<|m _ _ I) .nil,.cons (by simp[M,hi])<|.cons (by simp[hi]) .nil⟩
    .rintro ys H' ⟨_,m,_⟩;exact⟨_,_,ps,xz,aq.of<|m _ _ O,rV M⟩
    .rintro i ys H' hi ⟨_,m,e⟩ v dQ ⟨r,row,R,ev,eH,RG⟩;obtain⟨x,y,rfl,du,oN⟩:=XY<|RG _<|.cons (aq.of<|m _ _ O)<|.cons (ag.of<|m _ _ I) .nil;subst ev;subst eH
     have qd:y=V.int bs[i]:=by
      rw[cF,aI hi]at oN;exact(c8 oN).gx
     subst qd;have s4:ae H3 (dc H' r<|.tup [x,V.int bs[i]]):=ay m R;refine oE (Y x<|cu _<|a8 du) λTx SE=>?_;have QR:=Uq (s2.gw s4) SE
     have zi:(ps.zip bs)[i]?=a_ (x,bs[i]):=by
      rw[abm];exact⟨du,aI hi⟩
     have fin:∀c,c=ox x bs[i]->i+1<=bs.length/\ae H3 (dc H' r<|.tup [x,V.int bs[i]])/\ys++[V.bl c]=((ps.zip bs).take<|i+1).map λz=>V.bl (ox z.1 z.2):=λc hc=>by
      refine fY hi s4 ?_;rw[iN,zi,dC,<-e,hc];rfl
     refine⟨r,([x,V.int bs[i]]),xz,(aq.of ao),xz,(gU x ([V.int bs[i]]) xz<|eA (V.int bs[i]) ([]) xz xz ?_)⟩;dsimp only[je];rw[eT rfl];refine vr xz<|eA x Tx xz QR<|az _ xz ?_;cases x with
     | int j=>
      exact j'<|az _ xz<|gU 0 j xz ⟨xz,⟨_,xz,bj (λS=>vr xz<|eA j (bs[i]) xz xz<|fin _<|by show _=(decide (0<=j)&&decide (j<bs[i]));rw[fC S,rQ]) λS=>fin _<|by show _=(decide (0<=j)&&decide (j<bs[i]));rw[fT S,xy]⟩⟩
     | _=>exact eL<|fin _ xz
    .rintro ys H' ⟨_,m,e⟩;refine⟨?_,λr R=>?_⟩
     .rw[e,aA,fJ];have oU:=U1 D;have:=bq (n:=bs.length) w4;omega
     have ey:ys=(((ps.zip bs).map λz=>ox z.1 z.2)).map V.bl:=by
      rw[e,jl (by rw[List.length_zip];omega),i7];rfl
     refine eA r ((ps.zip bs).map λz=>ox z.1 z.2) xz (ag.of<|by rw[ao,ey]) ?_;rw[zO];exact l _<|ay (s2.gw m) R
def vG(K:u_):Sp:=λvs H Q _=>∃x C dx fs a xs,vs=[.ref x,.ref a]/\H x=a_ (.ins C dx fs)/\di K C/\bJ K C N_/\fs.length<900/\H a=a_ (.tup xs)/\Q .aO (dc H x<|.ins C dx<|aJ N_ (.ref a) fs)
def ajF:aX hH hH (aM Hd):=aZ
def xQ(F:aQ K Q_ "Step.__init__" Hd f fd)(B:mg W_ = b_):aG P w K mg gW aF 1 f fd [Y_,at0] (vG K):=by
 refine F.ok ajF λaH A _ s H vs Q E e h=>?_
 .refine mV h λx C dx fs a xs b c cl nP d=>?_;subst b;exact gY d λg ha k=>sR (ax<|dY (pv 0) (fK kC xz B iE<|aa (pv 1) af) xz)<|vr xz<|gU a xs xz<|.inr ⟨aq.of ha,_,xz,x,C,dx,fs,xz,c,cl,nP,wa,k⟩
def AJ(f:d0)(u:V):(aJ f u []).length<1000:=by
 have h1:=rY f u [];have h3:([]:List (d0×V)).length=0:=rfl;exact wb
def AI(f g:d0)(u v:V):(aJ f u<|aJ g v []).length<1000:=by
 have h1:=rY f u<|aJ g v [];have h2:=rY g v [];have h3:([]:List (d0×V)).length=0:=rfl;exact xi
structure yi(K:u_)(mg:d0->Option f_)(cS fI:e_)(gK:ik):Prop where
 fn:aQ K Q_ "Step.__init__" Hd fI gK
 bi:dL K gK hH []
 cf:PL K cS Q_ fI
 at_:mg "Step"=a_ (.ref cS)
 tup:mg W_ = b_
def pV(C:e_)(d e:d0):Sp:=λvs H Q _=>∃x dx a xs b c,vs=[.ref x,.ref a]/\H x=a_ (.ins C dx [])/\H a=a_ (.tup xs)/\xs[1]?=a_ b/\xs[2]?=a_ c/\
 Q .aO (dc H x<|.ins C dx<|aJ e c<|aJ d b<|aJ N_ (.ref a) [])
def ajD:aX hH hH (aM Hc):=aZ
def aik(F:aQ K Q_ "Put.__init__" Hc f fd)(I:yi K mg cS fI gK)(cl:di K C)(nP:bJ K C N_)(n1:bJ K C R_)(e:bJ K C "number"):aG P w K mg gW aF 2 f fd hH (pV C R_ "number"):=by
 have g:aG P w K mg gW aF 1 fI gK hH (vG K):=xQ I.fn I.tup;refine F.ok ajD λaH A _ s H vs Q E i h=>?_
 .refine mV h λx dx a xs l m n d ha o p=>?_;subst n;refine oA p λq k=>?_;refine let b:TS:=_;⟨_,au (eE<|zS I.cf g i xz I.at_ I.bi .nil cX<|aa (pv 0)<|aa (pv 1) af)<|pR b<|au (dY (pv 0) (aU dh (pv 1) ar) xz)<|ax<|dY (pv 0) (aU dh (pv 1) ar) xz,?_⟩;have c:=iU ha d (by intro z;cases z);refine vr xz<|vr xz ⟨x,⟨C,dx,[],a,xs,xz,d,cl,nP,qc,ha,vT (v:=l) xz (aq.of<|by rw[aj c];exact ha) (cI (j:=1) o) ⟨_,xz,x,C,dx,_,xz,ao,cl,n1,AJ _ _,vT (v:=m) xz (aq.of<|by rw[aj c,aj c];exact ha) (cI (j:=2) q) ⟨_,xz,x,C,dx,_,xz,ao,cl,e,AI _ _ _ _,?_⟩⟩⟩⟩;rw[nR,nR];exact k
def ajJ:aX hH hH (aM He):=aZ
def aiu(F:aQ K Q_ "Add.__init__" He f fd)(I:yi K mg cS fI gK)(cl:di K C)(nP:bJ K C N_)(n1:bJ K C R_)(e:bJ K C "other"):aG P w K mg gW aF 2 f fd hH (pV C R_ "other"):=by
 have g:aG P w K mg gW aF 1 fI gK hH (vG K):=xQ I.fn I.tup;refine F.ok ajJ λaH A _ s H vs Q E i h=>?_
 .refine mV h λx dx a xs l m n d ha o p=>?_;subst n;refine oA p λq k=>?_;refine let b:TS:=_;⟨_,au (eE<|zS I.cf g i xz I.at_ I.bi .nil cX<|aa (pv 0)<|aa (pv 1) af)<|pR b<|au (dY (pv 0) (aU dh (pv 1) ar) xz)<|ax<|dY (pv 0) (aU dh (pv 1) ar) xz,?_⟩;have c:=iU ha d (by intro z;cases z);refine vr xz<|vr xz ⟨x,⟨C,dx,[],a,xs,xz,d,cl,nP,qc,ha,vT (v:=l) xz (aq.of<|by rw[aj c];exact ha) (cI (j:=1) o) ⟨_,xz,x,C,dx,_,xz,ao,cl,n1,AJ _ _,vT (v:=m) xz (aq.of<|by rw[aj c,aj c];exact ha) (cI (j:=2) q) ⟨_,xz,x,C,dx,_,xz,ao,cl,e,AI _ _ _ _,?_⟩⟩⟩⟩;rw[nR,nR];exact k
def ajC:aX hH hH (aM Ha):=aZ
def aij(F:aQ K Q_ "Set.__init__" Ha f fd)(I:yi K mg cS fI gK)(cl:di K C)(nP:bJ K C N_)(n1:bJ K C l_)(e:bJ K C R_):aG P w K mg gW aF 2 f fd hH (pV C l_ R_):=by
 have g:aG P w K mg gW aF 1 fI gK hH (vG K):=xQ I.fn I.tup;refine F.ok ajC λaH A _ s H vs Q E i h=>?_
 .refine mV h λx dx a xs l m n d ha o p=>?_;subst n;refine oA p λq k=>?_;refine let b:TS:=_;⟨_,au (eE<|zS I.cf g i xz I.at_ I.bi .nil cX<|aa (pv 0)<|aa (pv 1) af)<|pR b<|au (dY (pv 0) (aU dh (pv 1) ar) xz)<|ax<|dY (pv 0) (aU dh (pv 1) ar) xz,?_⟩;have c:=iU ha d (by intro z;cases z);refine vr xz<|vr xz ⟨x,⟨C,dx,[],a,xs,xz,d,cl,nP,qc,ha,vT (v:=l) xz (aq.of<|by rw[aj c];exact ha) (cI (j:=1) o) ⟨_,xz,x,C,dx,_,xz,ao,cl,n1,AJ _ _,vT (v:=m) xz (aq.of<|by rw[aj c,aj c];exact ha) (cI (j:=2) q) ⟨_,xz,x,C,dx,_,xz,ao,cl,e,AI _ _ _ _,?_⟩⟩⟩⟩;rw[nR,nR];exact k
def ahO:aX hH hH (aM Gz):=aZ
def age(F:aQ K Q_ "Look.__init__" Gz f fd)(I:yi K mg cS fI gK)(cl:di K C)(nP:bJ K C N_)(n1:bJ K C R_)(e:bJ K C l_):aG P w K mg gW aF 2 f fd hH (pV C R_ l_):=by
 have g:aG P w K mg gW aF 1 fI gK hH (vG K):=xQ I.fn I.tup;refine F.ok ahO λaH A _ s H vs Q E i h=>?_
 .refine mV h λx dx a xs l m n d ha o p=>?_;subst n;refine oA p λq k=>?_;refine let b:TS:=_;⟨_,au (eE<|zS I.cf g i xz I.at_ I.bi .nil cX<|aa (pv 0)<|aa (pv 1) af)<|pR b<|au (dY (pv 0) (aU dh (pv 1) ar) xz)<|ax<|dY (pv 0) (aU dh (pv 1) ar) xz,?_⟩;have c:=iU ha d (by intro z;cases z);refine vr xz<|vr xz ⟨x,⟨C,dx,[],a,xs,xz,d,cl,nP,qc,ha,vT (v:=l) xz (aq.of<|by rw[aj c];exact ha) (cI (j:=1) o) ⟨_,xz,x,C,dx,_,xz,ao,cl,n1,AJ _ _,vT (v:=m) xz (aq.of<|by rw[aj c,aj c];exact ha) (cI (j:=2) q) ⟨_,xz,x,C,dx,_,xz,ao,cl,e,AI _ _ _ _,?_⟩⟩⟩⟩;rw[nR,nR];exact k
def ahK:aX hH hH (aM Gw):=aZ
def af9(F:aQ K Q_ "Swap.__init__" Gw f fd)(I:yi K mg cS fI gK)(cl:di K C)(nP:bJ K C N_)(n1:bJ K C R_)(e:bJ K C l_):aG P w K mg gW aF 2 f fd hH (pV C R_ l_):=by
 have g:aG P w K mg gW aF 1 fI gK hH (vG K):=xQ I.fn I.tup;refine F.ok ahK λaH A _ s H vs Q E i h=>?_
 .refine mV h λx dx a xs l m n d ha o p=>?_;subst n;refine oA p λq k=>?_;refine let b:TS:=_;⟨_,au (eE<|zS I.cf g i xz I.at_ I.bi .nil cX<|aa (pv 0)<|aa (pv 1) af)<|pR b<|au (dY (pv 0) (aU dh (pv 1) ar) xz)<|ax<|dY (pv 0) (aU dh (pv 1) ar) xz,?_⟩;have c:=iU ha d (by intro z;cases z);refine vr xz<|vr xz ⟨x,⟨C,dx,[],a,xs,xz,d,cl,nP,qc,ha,vT (v:=l) xz (aq.of<|by rw[aj c];exact ha) (cI (j:=1) o) ⟨_,xz,x,C,dx,_,xz,ao,cl,n1,AJ _ _,vT (v:=m) xz (aq.of<|by rw[aj c,aj c];exact ha) (cI (j:=2) q) ⟨_,xz,x,C,dx,_,xz,ao,cl,e,AI _ _ _ _,?_⟩⟩⟩⟩;rw[nR,nR];exact k
def ahL:aX hH hH (aM Gx):=aZ
def af'(F:aQ K Q_ "Skip.__init__" Gx f fd)(I:yi K mg cS fI gK)(cl:di K C)(nP:bJ K C N_)(n1:bJ K C R_)(e:bJ K C T_):aG P w K mg gW aF 2 f fd hH (pV C R_ T_):=by
 have g:aG P w K mg gW aF 1 fI gK hH (vG K):=xQ I.fn I.tup;refine F.ok ahL λaH A _ s H vs Q E i h=>?_
 .refine mV h λx dx a xs l m n d ha o p=>?_;subst n;refine oA p λq k=>?_;refine let b:TS:=_;⟨_,au (eE<|zS I.cf g i xz I.at_ I.bi .nil cX<|aa (pv 0)<|aa (pv 1) af)<|pR b<|au (dY (pv 0) (aU dh (pv 1) ar) xz)<|ax<|dY (pv 0) (aU dh (pv 1) ar) xz,?_⟩;have c:=iU ha d (by intro z;cases z);refine vr xz<|vr xz ⟨x,⟨C,dx,[],a,xs,xz,d,cl,nP,qc,ha,vT (v:=l) xz (aq.of<|by rw[aj c];exact ha) (cI (j:=1) o) ⟨_,xz,x,C,dx,_,xz,ao,cl,n1,AJ _ _,vT (v:=m) xz (aq.of<|by rw[aj c,aj c];exact ha) (cI (j:=2) q) ⟨_,xz,x,C,dx,_,xz,ao,cl,e,AI _ _ _ _,?_⟩⟩⟩⟩;rw[nR,nR];exact k
structure bf where
 (fW fB fS fO fI Qs Qt Qr Py Pw Px amS kH kI iX jr jX qB jd:e_)
 (sU AZ Ib qT gK Hk Hl Hj GR GP GQ:ik)
structure sv(K:u_)(mg:d0->Option f_)(t:bf):Prop where
 bl:Bl mg
 cn:Cn mg
 Q3:aQ K ac1 ac1 CH t.fW t.sU
 bW:dL K t.sU ia []
 mW:mg ac1 = a_ (.ref t.fW)
 fnB:aQ K au3 au3 Cs t.fB t.AZ
 bB:dL K t.AZ ["word"] []
 mB:mg au3 = a_ (.ref t.fB)
 fnS:aQ K "is_step" "is_step" Gh t.fS t.Ib
 bS:dL K t.Ib iv []
 mS:mg "is_step"=a_ (.ref t.fS)
 wB:aQ K "step_of" "step_of" M7 t.fO t.qT
 bO:dL K t.qT iv []
 mO:mg "step_of"=a_ (.ref t.fO)
 init:yi K mg t.amS t.fI t.gK
 xT:di K t.qB
 aiC:bJ K t.qB N_
 aiG:Mk K t.qB t.fI
 aiI:mg "Clear"=a_ (.ref t.qB)
 ue:di K t.kH
 amt:bJ K t.kH N_
 Zs:bJ K t.kH R_
 Zq:bJ K t.kH "number"
 amv:Mk K t.kH t.Qs
 Zt:mg "Put"=a_ (.ref t.kH)
 amN:aQ K Q_ "Put.__init__" Hc t.Qs t.Hk
 amV:dL K t.Hk hH []
 sE:di K t.kI
 amu:bJ K t.kI N_
 Pg:bJ K t.kI R_
 Zr:bJ K t.kI "other"
 mkAdd:Mk K t.kI t.Qt
 Zu:mg "Add"=a_ (.ref t.kI)
 amO:aQ K Q_ "Add.__init__" He t.Qt t.Hl
 amW:dL K t.Hl hH []
 mj:di K t.iX
 ams:bJ K t.iX N_
 vQ:bJ K t.iX l_
 Zp:bJ K t.iX R_
 mkSet:Mk K t.iX t.Qr
 Hh:mg "Set"=a_ (.ref t.iX)
 amL:aQ K Q_ "Set.__init__" Ha t.Qr t.Hj
 amU:dL K t.Hj hH []
 m8:di K t.jr
 akb:bJ K t.jr N_
 Yv:bJ K t.jr R_
 xX:bJ K t.jr l_
 akg:Mk K t.jr t.Py
 Om:mg "Look"=a_ (.ref t.jr)
 akx:aQ K Q_ "Look.__init__" Gz t.Py t.GR
 akK:dL K t.GR hH []
 oh:di K t.jX
 aj':bJ K t.jX N_
 Oj:bJ K t.jX R_
 CM:bJ K t.jX l_
 ake:Mk K t.jX t.Pw
 Yz:mg "Swap"=a_ (.ref t.jX)
 akt:aQ K Q_ "Swap.__init__" Gw t.Pw t.GP
 akI:dL K t.GP hH []
 m7:di K t.jd
 aka:bJ K t.jd N_
 Ol:bJ K t.jd R_
 Ao:bJ K t.jd T_
 akf:Mk K t.jd t.Px
 GG:mg "Skip"=a_ (.ref t.jd)
 akv:aQ K Q_ "Skip.__init__" Gx t.Px t.GQ
 akJ:dL K t.GQ hH []
def cj(t:bf)(x:d0):Addr:=if x = ac2 then t.kH else if x = U_ then t.kI else if x = K_ then t.iX else if x = J_ then t.jr else if x = I_ then t.jX else if x = M_ then t.qB else t.jd
def cR(v:V)(x:d0)(ps:List V):List (d0×V):=
 if x = ac2 then aJ "number" (ps.getD 1 .aO) (aJ R_ (ps.getD 0 .aO)<|aJ N_ v [])
 else if x = U_ then aJ "other" (ps.getD 1 .aO) (aJ R_ (ps.getD 0 .aO)<|aJ N_ v [])
 else if x = K_ then aJ R_ (ps.getD 1 .aO) (aJ l_ (ps.getD 0 .aO)<|aJ N_ v [])
 else if x = J_ then aJ l_ (ps.getD 1 .aO) (aJ R_ (ps.getD 0 .aO)<|aJ N_ v [])
 else if x = I_ then aJ l_ (ps.getD 1 .aO) (aJ R_ (ps.getD 0 .aO)<|aJ N_ v [])
 else if x = M_ then aJ N_ v []
 else aJ T_ (ps.getD 1 .aO) (aJ R_ (ps.getD 0 .aO)<|aJ N_ v [])
def aiM{c:Type}{l:List c}(h:l.length=2):∃a b,l=[a,b]:=by
 cases l with
 | nil=>cases h
 | cons a t=>
  exact oE (Th.mp (show t.length=1 from BN h)) λb e=>wA a b (by rw[e])
def Ak(h:stepOk (.str x::ps)=c_){b c:Int}{bs:List Int}(a:ee x=a_ bs)(d:autoParam (bs=[b,c]) am):∃e f,ps=[e,f]:=by
 subst d;have h':(match ee x with | none=>d_ | some bs=>decide (ps.length=bs.length)&&(ps.zip bs).all λp=>ox p.1 p.2)=true:=h;rw[a]at h';simp only[iB,decide_eq_true_eq]at h';exact aiM h'.1
def aeY(h:stepOk (.str x::ps)=c_)(n1:¬x = ac2)(a:¬x = U_)(b:¬x = K_)(c:¬x = J_)(d:¬x = I_)(f:¬x = M_):x = O_:=by
 apply tK;intro g
 have e:ee x=none:=by
  unfold ee;rw[eN n1,eN a,eN b,eN c,eN d,eN f,eN g]
 have h':(match ee x with | none=>d_ | some bs=>decide (ps.length=bs.length)&&(ps.zip bs).all λp=>ox p.1 p.2)=true:=h;rw[e]at h';cases h'
def vv(t:bf):Sp:=λvs H Q _=>∃a x ps,vs=[.ref a]/\H a=a_ (.tup (.str x::ps))/\stepOk (.str x::ps)=c_/\(ps.length<=900/\∀y∈ps,∃T,ek H y=a_ T)/\
 ∀z dx H',ae H H'->H z=b_->H' z=a_ (.ins (cj t x) dx<|cR (.ref a) x ps)->Q (.ref z) H'
def We:aX [at0,"word"] iv (aM M7):=aZ
def xI(T:sv K mg t):aG P w K mg gW aF 4 t.fO t.qT [at0] (vv t):=by
 have Y:aG P w K mg gW aF 2 t.fS t.Ib iv V4:=aeI T.fnS T.bl T.cn T.Q3 T.bW T.mW T.fnB T.bB T.mB;have Z:aG P w K mg gW aF 1 t.fI t.gK hH (vG K):=xQ T.init.fn T.init.tup;have aqX:aG P w K mg gW aF 2 t.Qs t.Hk hH (pV t.kH R_ "number"):=aik T.amN T.init T.ue T.amt T.Zs T.Zq;have aqY:aG P w K mg gW aF 2 t.Qt t.Hl hH (pV t.kI R_ "other"):=aiu T.amO T.init T.sE T.amu T.Pg T.Zr;have aqW:aG P w K mg gW aF 2 t.Qr t.Hj hH (pV t.iX l_ R_):=aij T.amL T.init T.mj T.ams T.vQ T.Zp;have aob:aG P w K mg gW aF 2 t.Py t.GR hH (pV t.jr R_ l_):=age T.akx T.init T.m8 T.akb T.Yv T.xX;have an':aG P w K mg gW aF 2 t.Pw t.GP hH (pV t.jX R_ l_):=af9 T.akt T.init T.oh T.aj' T.Oj T.CM;have aoa:aG P w K mg gW aF 2 t.Px t.GQ hH (pV t.jd R_ T_):=af' T.akv T.init T.m7 T.aka T.Ol T.Ao;refine T.wB.ok We λaH A _ s H vs Q E M h=>?_
 .refine lE h λa S ps U ha bD=>?_;clear h;subst U;refine gY bD λN U k=>oA U λhl uK=>?_;have O:∀{y:d0},¬V.str S=V.str y->¬S=y:=λh e=>h (by rw[e])
  refine let c:TS:=_;let d:TS:=_;let f:TS:=_;let g:TS:=_;let l:TS:=_;let m:TS:=_;let n:TS:=_;let p:TS:=_;let r:TS:=_;let u:TS:=_;let z:TS:=_;let B:TS:=_;let C:TS:=_;let D:TS:=_;⟨_,(au (bz (g7<|dg<|lB Y (M.mono qc) xz T.mS T.fnS.kp T.bS .nil cX<|aa (pv 0) af) vp bQ)
   (pR D (au (bG (i:=1) We.nd xz (aL xz)<|aU dh (pv 0) ar) (pR C (au (bz (cb dM (pv 1) cq<|bR _) (pR c<|ax<|aR<|pk T.amv aqX M xz T.Zt T.amV .nil cX<|aa (pv 0) af) bQ) (pR B (au (bz (cb dM (pv 1) cq<|bR _) (pR d<|ax<|aR<|pk T.mkAdd aqY M xz T.Zu T.amW .nil cX<|aa (pv 0) af) bQ) (pR z (au (bz (cb dM (pv 1) cq<|bR _) (pR f<|ax<|aR<|pk T.mkSet aqW M xz T.Hh T.amU .nil cX<|aa (pv 0) af) bQ) (pR u (au (bz (cb dM (pv 1) cq<|bR _) (pR g<|ax<|aR<|pk T.akg aob M xz T.Om T.akK .nil cX<|aa (pv 0) af) bQ) (pR r (au (bz (cb dM (pv 1) cq<|bR _) (pR l<|ax<|aR<|pk T.ake an' M xz T.Yz T.akI .nil cX<|aa (pv 0) af) bQ) (pR p (au (bz (cb dM (pv 1) cq<|bR _) (pR m<|ax<|aR<|pk T.aiG Z (M.mono qc) xz T.aiI T.init.bi .nil cX<|aa (pv 0) af) bQ)
   (pR n<|ax<|aR<|pk T.akf aoa M xz T.GG T.akJ .nil cX<|aa (pv 0) af)))))))))))))))),?_⟩
  refine vr xz ⟨_,⟨_,xz,Fp ha,(λxs X=>?_),λH1 F=>?_⟩⟩
  .rw[VV ha]at X;cases X;refine⟨by simp only[eI];exact wb,λy W=>?_⟩;obtain e|W:=bK.mp W
   .subst e;exact⟨_,xz⟩
   .exact uK y W
  have cZ:Aq H (.ref a)=true:=by unfold Aq;rw[VV ha];exact N
  rw[cZ];refine az _ xz<|eL<|kg (v:=.str S) (j:=0) xz ((F _ _ ha)) xz<|az _ xz ⟨xz,⟨_,xz,bj (λe=>?_) λn1=>?_⟩⟩
  .cases str_inj e;obtain⟨I,J,L⟩:=Ak N (bs:=[4,hV]) (by unfold ee;rw[eT rfl]);subst L;refine vr xz λx dx nx G R=>⟨x,dx,a,[.str ac2,I,J],I,J,xz,ao,?_,xz,xz,xz,?_⟩
   .rw[aj<|bh (F _ _ ha) nx,aj<|bh (F _ _ ha) G];exact F _ _ ha
   .refine k x dx _ (λb o q=>?_) (F.free nx) (by rw[ao];rfl);rw[aj<|bh (F b o q) nx,aj<|bh (F b o q) nx,aj<|bh (F b o q) G];exact F b o q
  refine az _ xz ⟨xz,⟨_,xz,bj (λe=>?_) λn2=>?_⟩⟩
  .cases str_inj e;obtain⟨I,J,L⟩:=Ak N (bs:=[4,4]) (by unfold ee;rw[eN dk,eT rfl]);subst L;refine vr xz λx dx nx G R=>⟨x,dx,a,[.str U_,I,J],I,J,xz,ao,?_,xz,xz,xz,?_⟩
   .rw[aj<|bh (F _ _ ha) nx,aj<|bh (F _ _ ha) G];exact F _ _ ha
   .refine k x dx _ (λb o q=>?_) (F.free nx) (by rw[ao];rfl);rw[aj<|bh (F b o q) nx,aj<|bh (F b o q) nx,aj<|bh (F b o q) G];exact F b o q
  refine az _ xz ⟨xz,⟨_,xz,bj (λe=>?_) λn3=>?_⟩⟩
  .cases str_inj e;obtain⟨I,J,L⟩:=Ak N (bs:=[12,4]) (by unfold ee;rw[eN dk,eN dk,eT rfl]);subst L;refine vr xz λx dx nx G R=>⟨x,dx,a,[.str K_,I,J],I,J,xz,ao,?_,xz,xz,xz,?_⟩
   .rw[aj<|bh (F _ _ ha) nx,aj<|bh (F _ _ ha) G];exact F _ _ ha
   .refine k x dx _ (λb o q=>?_) (F.free nx) (by rw[ao];rfl);rw[aj<|bh (F b o q) nx,aj<|bh (F b o q) nx,aj<|bh (F b o q) G];exact F b o q
  refine az _ xz ⟨xz,⟨_,xz,bj (λe=>?_) λn4=>?_⟩⟩
  .cases str_inj e;obtain⟨I,J,L⟩:=Ak N (bs:=[4,12]) (by unfold ee;rw[eN dk,eN dk,eN dk,eT rfl]);subst L;refine vr xz λx dx nx G R=>⟨x,dx,a,[.str J_,I,J],I,J,xz,ao,?_,xz,xz,xz,?_⟩
   .rw[aj<|bh (F _ _ ha) nx,aj<|bh (F _ _ ha) G];exact F _ _ ha
   .refine k x dx _ (λb o q=>?_) (F.free nx) (by rw[ao];rfl);rw[aj<|bh (F b o q) nx,aj<|bh (F b o q) nx,aj<|bh (F b o q) G];exact F b o q
  refine az _ xz ⟨xz,⟨_,xz,bj (λe=>?_) λn5=>?_⟩⟩
  .cases str_inj e;obtain⟨I,J,L⟩:=Ak N (bs:=[4,12]) (by unfold ee;rw[eN dk,eN dk,eN dk,eN dk,eT rfl]);subst L;refine vr xz λx dx nx G R=>⟨x,dx,a,[.str I_,I,J],I,J,xz,ao,?_,xz,xz,xz,?_⟩
   .rw[aj<|bh (F _ _ ha) nx,aj<|bh (F _ _ ha) G];exact F _ _ ha
   .refine k x dx _ (λb o q=>?_) (F.free nx) (by rw[ao];rfl);rw[aj<|bh (F b o q) nx,aj<|bh (F b o q) nx,aj<|bh (F b o q) G];exact F b o q
  refine az _ xz ⟨xz,⟨_,xz,bj (λe=>?_) λn6=>?_⟩⟩
  .cases str_inj e;refine vr xz λx dx nx G R=>⟨x,t.qB,dx,[],a,.str M_ :: ps,xz,ao,T.xT,T.aiC,qc,?_,xz,?_⟩
   .rw[aj<|bh (F _ _ ha) nx,aj<|bh (F _ _ ha) G];exact F _ _ ha
   .refine k x dx _ (λb o q=>?_) (F.free nx) (by rw[ao];rfl);rw[aj<|bh (F b o q) nx,aj<|bh (F b o q) nx,aj<|bh (F b o q) G];exact F b o q
  have anS:=aeY N (O n1) (O n2) (O n3) (O n4) (O n5)<|O n6;subst anS;obtain⟨I,J,L⟩:=Ak N (bs:=[4,121]) (by unfold ee;rw[eN dk,eN dk,eN dk,eN dk,eN dk,eN dk,eT rfl]);subst L;refine vr xz λx dx nx G R=>⟨x,dx,a,[.str O_,I,J],I,J,xz,ao,?_,xz,xz,xz,?_⟩
  .rw[aj<|bh (F _ _ ha) nx,aj<|bh (F _ _ ha) G];exact F _ _ ha
  .refine k x dx _ (λb o q=>?_) (F.free nx) (by rw[ao];rfl);rw[aj<|bh (F b o q) nx,aj<|bh (F b o q) nx,aj<|bh (F b o q) G];exact F b o q
end
end TL
namespace L2
section
variable{X:Cx}
def len_K(K:u_)(h:autoParam (X.K=K) am):jt X (.builtin "len") (λxs H Q=>∃p ys,xs=[.ref p]/\(ag K H p ys\/aq K H p ys)/\Q (.int ys.length) H):=by subst h;exact ft
def C7(K:u_)(h:autoParam (X.K=K) am):A7 X (AF K):=by subst h;exact bX
def ZC(K:u_)(h:autoParam (X.K=K) am):A7 X (AE K):=by subst h;exact dh
def alL(K:u_)(h:autoParam (X.K=K) am):Il X (pS K):=by subst h;exact NJ
def ZE(K:u_)(a:PE X e ta)(b:Kl e f X.env (eval e X.env)=eval e X.env)(h:autoParam (X.K=K) am):PE X (.Attribute e f pos) (Hw K ta f):=by subst h;exact a0 a b
end
end L2
namespace L2
open PySem.SeqAt
mutual
noncomputable def noDict:ci->Bool
 | .dict _=>d_
 | .list xs=>vq xs
 | .tuple xs=>vq xs
 | _=>c_
noncomputable def vq:List ci->Bool
 | []=>c_
 | x::xs=>noDict x&&vq xs
end
mutual
theorem UN:∀d:ci,noDict d=c_->noMix d d=c_/\same d d=c_
 | .none,_=>⟨xz,xz⟩
 | .bool b,_=>⟨xz,by simp[same]⟩
 | .int i,_=>⟨xz,by simp[same]⟩
 | .str x,_=>⟨xz,by simp[same]⟩
 | .list xs,h=>by
  rw[noMix,same];exact Kk xs (by rw[noDict]at h;exact h)
 | .tuple xs,h=>by
  rw[noMix,same];exact Kk xs (by rw[noDict]at h;exact h)
 | .dict _,h=>by rw[noDict]at h;cases h
theorem Kk:∀xs:List ci,vq xs=c_->F9 xs xs=c_/\sameAll xs xs=c_
 | [],_=>⟨by rw[F9],by rw[sameAll]⟩
 | x::xs,h=>by
  rw[vq,iB]at h;refine oA (UN x h.1) λa b=>oA (Kk xs h.2) λc d=>?_;rw[F9,sameAll,a,b,c,d];exact⟨xz,xz⟩
end
mutual
theorem T6:∀d:ci,d.canLay0=c_->noDict d=c_
 | .none,_=>rfl
 | .bool b,_=>rfl
 | .int i,_=>rfl
 | .str x,_=>rfl
 | .list xs,h=>by rw[noDict];exact JY xs (by rw[xx]at h;exact h)
 | .tuple xs,h=>by rw[noDict];exact JY xs (by rw[xx]at h;exact h)
 | .dict _,h=>by rw[xx]at h;cases h
theorem JY:∀xs:List ci,rG xs=c_->vq xs=c_
 | [],_=>by rw[vq]
 | x::xs,h=>by
  rw[rG,iB]at h;rw[vq,T6 x h.1,JY xs h.2];rfl
end
def ahD(h:shaped d=c_):noMix d d=c_/\same d d=true:=UN d<|T6 d<|canLay_of_shaped h
def ag1{K:u_}(e:eM K H x d)(f:eM K H y d)(c:shaped d=c_)(q:Q (.bl c_) H):Qi K d_ x y H Q:=by
 refine oA (ahD c) λa b=>⟨d,d,e,f,c,c,a,?_⟩;rw[eN dF,b];exact q
theorem U0{c:Type}{f:c->ci}{l:List c}(h:∀a∈l,(f a).canLay0=c_):rG (l.map f)=c_:=by
 induction l with
 |nil=>simp[rG]
 |cons a l i=>rw[eV,rG,h a bV,i λb d=>h b<|cu _ d];rfl
theorem VN{c:Type}{f:c->ci}{k:Nat}{l:List c}(h:∀a∈l,(f a).depth<=k):vd (l.map f)<=k:=by
 induction l with
 |nil=>simp[vd]
 |cons a l i=>have h1:=h a bV;have h2:=i λb d=>h b<|cu _ d;simp only[eV,vd];lia
theorem LD{b:Type}{K:u_}{F:V->b->Prop}{f:b->ci}(h:∀v a,F v a->eM K H v (f a)){vs:List V}{l:List b}(g:bw F vs l):fw K H vs (l.map f):=by
 induction g with
 |nil=>exact .nil
 |cons g _ i=>exact .cons (h _ _ g) i
def sV(h:i_)(dx:ci)(u:f_):Bool:=@decide (∃d a,Reads h u d a/\lj d dx=c_)<|Tg _
def YN(r:Reads h u d as):sV h dx u=lj d dx:=by
 unfold sV;cases e:lj d dx with
 | true=>exact @fC _ (Tg _) ⟨d,as,r,e⟩
 | false=>
  refine @fT _ (Tg _) ?_;rintro⟨d',a,b,e'⟩;refine oA (r.unique d' a b) λq _=>?_;rw[q,e']at e;cases e
theorem Nv{us:List f_}{ds:List ci}{a:List e_}(q:Cm h us ds a):us.any (sV h dx)=ds.any λd=>lj d dx:=by
 induction us generalizing ds a with
 |nil=>cases q;rfl
 |cons u us i=>cases q with|cons r t=>rw[vg,vg,YN r,i t]
theorem Np{A:h_}{s:g_}{v:f_}{dx:ci}{bs:List e_}(b:Reads s.heap v dx bs)(c:shaped dx=c_)(a:A.in1.units+64<cLine){us:List f_}{ds:List ci}{e:List e_}(h:Cm s.heap us ds e)(f:∀d∈ds,shaped d=c_):∀u∈us,EqAt A.in1 s u v<|sV s.heap dx u:=by
 induction us generalizing ds e with
 |nil=>intro _ h;cases h
 |cons u us i=>
  cases h with|cons r t=>
  intro u hm;obtain rfl|hm:=bK.mp hm
  .rw[YN r];exact W.keq_at r b (f _<|by simp) c a
  .exact i t (λd hd=>f d<|cu _ hd) u hm
def Qh(K:u_)(a:Bool):R2:=λx y H Q=>∃p xs ds dx,y=.ref p/\ag K H p xs/\fw K H xs ds/\eM K H x dx/\shaped dx=c_/\(∀d∈ds,shaped d=c_)/\Q (.bl (if a=c_ then !(ds.any λd=>lj d dx) else ds.any λd=>lj d dx)) H
section
variable{X:Cx}
def ajU(l:X.A.units+65<cLine):dP X (g6 .In) (Qh X.K d_):=by
 intro p_ s σ H x y v u Q I c d h;obtain⟨p,xs,ds,dx,e,f,hd,g,i,j,q⟩:=h;subst e;cases d;refine a9 (I.list f) λa r pl m=>oE (hd.reads I r) λn b=>oE (g.reads I c) λbs k=>in_listAt (sV s.heap dx) pl.isList (λw hw=>Np k i (by show X.A.units+1+64<cLine;exact w0) b j w<|by simpa using hw) ⟨.bl _,H,I,xz,?_⟩;rw[show a.toArray.any (sV s.heap dx)=a.any (sV s.heap dx) by simp,Nv b];exact q
def Vr(l:X.A.units+65<cLine):dP X (g6 .NotIn) (Qh X.K c_):=by
 intro p_ s σ H x y v u Q I c d h;obtain⟨p,xs,ds,dx,e,f,hd,g,i,j,q⟩:=h;subst e;cases d;refine a9 (I.list f) λa r pl m=>oE (hd.reads I r) λn b=>oE (g.reads I c) λbs k=>notIn_listAt (sV s.heap dx) pl.isList (λw hw=>Np k i (by show X.A.units+1+64<cLine;exact w0) b j w<|by simpa using hw) ⟨.bl _,H,I,xz,?_⟩;rw[show a.toArray.any (sV s.heap dx)=a.any (sV s.heap dx) by simp,Nv b];exact q
end
def af2(j:X.A.units+64<cLine):dP X (g6 .NotEq) (λx y H Q=>∃a b xs,x=.ref a/\y=.ref b/\H a=a_ (.lst xs)/\H b=a_ (.lst [])/\Q (.bl<|!decide (xs=[])) H):=by
 intro p_ s σ H x y v u Q I d f h;obtain⟨a,b,xs,rfl,rfl,ha,g,q⟩:=h
 by_cases e:xs=[]
 .subst e;refine ajT j p_ s σ H _ _ v u Q I d f ⟨.list [],.list [],.lst (ag.of ha) .nil,.lst (ag.of g) .nil,qc,qc,by simp[noMix,F9],?_⟩;have c:same (.list []) (.list [])=true:=by simp[same,sameAll]
  rw[eT xz,c];exact q
 .cases d;cases f;obtain⟨z,k,n,r,l,c⟩:=I.qL ha;obtain⟨w,B,C,r2,m,i⟩:=I.qL g;rw[fT e]at q;have o:=tL.mp (by rw[<-m];rfl);subst o
  have p:(k.toArray.size != ([]:List f_).toArray.size)=true:=by
   rw[bne_iff_ne,dG,<-l];intro t;exact e<|tL.mp t
  show bt _ _ (KI .NotEq (.ref a)<|.ref b) _ _ s;exact aby ⟨_,c,xz⟩ ⟨_,i,xz⟩ F.slot_list_ne F.entry_list_ne (F.args_list_ne_2 _ _) (list_ne_lengthsAt a b _ _ _ _ _ _ _ _ p) ⟨c,i,(by intro z;cases z),⟨.bl c_,H,I,xz,q⟩⟩ om
def af3(j:X.A.units+64<cLine):dP X (g6 .Eq) (λx y H Q=>∃a b xs,x=.ref a/\y=.ref b/\H a=a_ (.lst xs)/\H b=a_ (.lst [])/\Q (.bl<|decide<|xs=[]) H):=by
 intro p_ s σ H x y v u Q I d f h;obtain⟨a,b,xs,rfl,rfl,ha,g,q⟩:=h
 by_cases e:xs=[]
 .subst e;refine Yn j p_ s σ H _ _ v u Q I d f ⟨.list [],.list [],.lst (ag.of ha) .nil,.lst (ag.of g) .nil,qc,qc,by simp[noMix,F9],?_⟩;have c:same (.list []) (.list [])=true:=by simp[same,sameAll]
  rw[eN dF,c];exact q
 .cases d;cases f;obtain⟨z,k,n,r,l,c⟩:=I.qL ha;obtain⟨w,B,C,r2,m,i⟩:=I.qL g;rw[fT e]at q;have o:=tL.mp (by rw[<-m];rfl);subst o
  have p:(k.toArray.size != ([]:List f_).toArray.size)=true:=by
   rw[bne_iff_ne,dG,<-l];intro t;exact e<|tL.mp t
  show bt _ _ (KI .Eq (.ref a)<|.ref b) _ _ s;exact aby ⟨_,c,xz⟩ ⟨_,i,xz⟩ F.slot_list_eq F.entry_list_eq (F.args_list_eq_2 _ _) (list_eq_lengthsAt a b _ _ _ _ _ _ _ _ p) ⟨c,i,(by intro z;cases z),⟨.bl d_,H,I,xz,q⟩⟩ om
end L2
namespace L2
open PySem.W L3
section
variable{X:Cx}{pz:List (e_×d5)}{σ:St}{H:Hp}{s:g_}{ns:List Int}{kf:Int->Int}{l it sx f:e_}{R:Result->g_->Prop}
def akT(kf:Int->Int)(ns:List Int)(sx:e_)(j:Nat)(h:i_):Prop:=(j=0/\∃c,h.get? sx=a_ (d8 "list" #[] c))\/
 (0<j/\∃a b d c,h.get? sx=a_ (d8 "list" #[b,.int (kf a) d] c)/\dn (.int a) b/\a∈ns/\∀i n,i<j->ns[i]?=a_ n->kf a<=kf n)
def akQ(a:dt (ns.map V.int) vs){j:Nat}(e:vs[j]?=a_ v):∃n t,ns[j]?=a_ n/\v=.int n t:=by
 have b:=a.length;rw[aA]at b;have d:j<vs.length:=(b0.mp e).1;obtain⟨u,e',t,c⟩:=a.get (i:=j) (x:=.int ns[j]) (by simp[show j<ns.length by exact wg]);rw[e]at e';cases e';exact⟨ns[j],t,aI (by exact wg),c⟩
def agA(hh:X.A.handled=b_)(hl:ag X.K H l (ns.map V.int))(h0:0<ns.length)(Sj:l≠it)(turn:∀(n:Int)(u:f_)(S:List (e_×d5))(s:g_),n∈ns->dn (.int n) u->(∀p∈pz,p∈S)->df X S σ H s->bt (bv X.prog X.w) X.A.in1 (call (.ref f) [u]) (EP X S σ λv H'=>v=.int (kf n)/\H'=H) (λ_ _=>False) s)(hR:∀g h s',df X pz σ H s'->dn (.int g) h->g∈ns->(∀n∈ns,kf g<=kf n)->R (.ok<|.ret h) s'):∀(r j:Nat)(s:g_),ns.length-j=r->j<=ns.length->df X pz σ H s->ju X pz H sx->ju X pz H it->sx≠it->s.heap.IsListIter it l j->akT kf ns sx j s.heap->codeAny (bv X.prog X.w) X.A (.builtin "min.loop" ⟨[.ref it,.ref f,.ref sx],[]⟩) R s:=by
 have T:(toString "min"++toString ".loop":String)="min.loop":=qc;intro r
 induction r with
 | zero=>
  intro j s hr hj I fs d y U Y;have ej:j=ns.length:=li;obtain⟨z,_⟩|⟨_,g,h,B,c,C,Z,mb,L⟩:=Y
  .lia
  .obtain⟨vs,M,pl,hz⟩:=I.list hl;have N:=M.length;rw[aA]at N;have W:=BW (prog:=X.prog) (w:=X.w) (A:=X.A.in1) hh it l Sj vs.toArray;refine(tP PySem.F.entry_min_loop (?_:bt _ _ _ _ _ s));rw[(va PySem.F.plain_min_loop _)];show bt _ X.A.in1 (LJ (.ref sx) >>= _) _ _ _;refine ak<|rO C xz (?_:bt _ X.A.in1 (tryCatch (pyNext<|.ref it) _ >>= _) _ _ _);refine ak<|Ki (W.done _ _ _ ⟨by rw[dG,<-N,<-ej];exact U,pl.isList⟩ λh' D lM=>?_);have E:∀b o,b≠it->s.heap.get? b=a_ o->h'.get? b=a_ o:=λb o n e=>lM b o (by simpa using n) e;have I1:df X pz σ H {s with heap:=h',toks:=D}:=I.turned E d.1 d.2.1 d.2.2.2.1 d.2.2.2.2.1 d.2.2.2.2.2;have e1:=E sx _ y C;show bt _ X.A.in1 (FH sx (λ_=>#[]) >>= _) _ _ _;refine ak<|zF e1 xz<|ak<|Fo<|aP ?_;have O:=kA h' sx (gQ λ_=>(#[]:Array f_));refine hR g h _ (I1.turned (h':=_) (t':=D) (it:=sx) (λb o n e=>(O.2 b n).gw e) fs.1 fs.2.1 fs.2.2.2.1 fs.2.2.2.2.1 fs.2.2.2.2.2) Z mb λn hn=>?_;obtain⟨i,hi,e⟩:=kY hn;exact L i n (by exact wg) (by rw[<-e];exact aI hi)
 | succ r ih=>
  intro j s hr hj I fs d y U Y;have lt:j<ns.length:=li;obtain⟨vs,M,pl,hz⟩:=I.list hl;have N:=M.length;rw[aA]at N;have W:=BW (prog:=X.prog) (w:=X.w) (A:=X.A.in1) hh it l Sj vs.toArray
  have hS:∃xs c,s.heap.get? sx=a_ (d8 "list" xs c)/\((j=0/\xs=#[])\/(0<j/\∃g h B,xs=#[h,.int (kf g) B]/\dn (.int g) h/\g∈ns/\∀i n,i<j->ns[i]?=a_ n->kf g<=kf n)):=by
   obtain⟨z,c,e⟩|⟨z,g,h,B,c,e,q⟩:=Y
   .exact⟨_,c,e,.inl ⟨z,xz⟩⟩
   .exact⟨_,c,e,.inr ⟨z,g,h,B,xz,q⟩⟩
  obtain⟨xs,c,C,hx⟩:=hS;refine(tP PySem.F.entry_min_loop (?_:bt _ _ _ _ _ s));rw[(va PySem.F.plain_min_loop _)];show bt _ X.A.in1 (LJ (.ref sx) >>= _) _ _ _;refine ak<|rO C xz (?_:bt _ X.A.in1 (tryCatch (pyNext<|.ref it) _ >>= _) _ _ _);refine ak<|Ki (W.item j _ _ _ (by rw[dG];exact wf) ⟨U,pl.isList⟩ λv h' D hP apB lM=>?_);have hv:vs[j]?=a_ v:=by simpa using hP
  obtain⟨n,t,en,rfl⟩:=akQ M hv;have mn:=a8 en;have E:∀b o,b≠it->s.heap.get? b=a_ o->h'.get? b=a_ o:=λb o z e=>lM b o (by simpa using z) e;have I1:df X pz σ H {s with heap:=h',toks:=D}:=I.turned E d.1 d.2.1 d.2.2.2.1 d.2.2.2.2.1 d.2.2.2.2.2;have e1:=E sx _ y C;obtain⟨P,hoI,ze,RY⟩:=id apB.1
  have P1:df X ((pz++[(sx,d8 "list" xs c)])++[(it,P)]) σ H {s with heap:=h',toks:=D}:=by
   have a:=I1.Hy fs e1 (λv z=>by cases z);refine a.Hy ⟨d.1,d.2.1,d.2.2.1,d.2.2.2.1,d.2.2.2.2.1,λp G=>?_⟩ hoI (λv z=>by rw[RY]at z;cases z);obtain z|z:=iC.mp G
   .exact d.2.2.2.2.2 p (qg _ z)
   .obtain z|z:=iC.mp z
    .exact d.2.2.2.2.2 p (gu _ z)
    .have z':p=(sx,d8 "list" xs c):=by simpa using z
     rw[z'];exact y
  show bt _ X.A.in1 (tryCatch (holding [ig n t] (call (.ref f) [ig n t])) _ >>= _) _ _ _;refine ak<|Ki<|lP (jU (turn n _ _ _ mn ⟨t,xz⟩ (λp G=>qg _<|qg _ G) P1) (λw s2 hw=>?_) λ_ _ z=>z.elim);obtain⟨v2,H2,J,r2,rfl,rfl⟩:=hw;obtain⟨x,rfl⟩:=r2;have I2:=J.vz λp G=>J.pin p<|gu _<|qg _<|qg _ G;have Q:=(J.pin (sx,d8 "list" xs c)<|gu _<|qg _<|gu _<|by simp).1;have i2:=(J.pin (it,P)<|gu _<|gu _<|by simp).1
  have wr:∀(tk:Nat),(∀i m,i<j->ns[i]?=a_ m->kf n<=kf m)->codeAny (bv X.prog X.w) X.A (.builtin "min.loop" ⟨[.ref it,.ref f,.ref sx],[]⟩) R {s2 with heap:=s2.heap.update sx (gQ λ_=>#[.int n t,.int (kf n) x]),toks:=tk}:=λtk anZ=>by
   have O:=kA s2.heap sx (gQ λ_=>#[ig n t,ig (kf n) x]);have I3:df X pz σ H2 {s2 with heap:=s2.heap.update sx (gQ λ_=>#[.int n t,.int (kf n) x]),toks:=tk}:=I2.turned (it:=sx) (λb o z e=>(O.2 b z).gw e) fs.1 fs.2.1 fs.2.2.2.1 fs.2.2.2.2.1 fs.2.2.2.2.2;refine ih (j+1) _ om (by exact xf) I3 fs d y ⟨P,(O.2 it<|iT y).gw i2,ze,RY⟩<|.inr ⟨Kw _,n,_,x,_,TN Q λ_=>#[.int n t,.int (kf n) x],⟨t,xz⟩,mn,λi m hi k=>?_⟩
   by_cases z:i=j
   .subst z;rw[en]at k;cases k;exact Int.le_refl _
   .exact anZ i m li k
  obtain⟨z,rfl⟩|⟨z,g,h,B,rfl,Z,mb,L⟩:=hx
  .show bt _ X.A.in1 (FH sx (λ_=>#[.int n t,.int (kf n) x]) >>= _) _ _ _;refine ak<|zF Q xz ?_;rw[T];exact aP ⟨ve PySem.F.plain_min_loop _,wr s2.toks λi m hi _=>f' hi li⟩
  .show bt _ X.A.in1 (tryCatch (holding [.int n t,.int (kf n) x] (KI .Lt (.int (kf n) x) (.int (kf g) B) >>= _)) _ >>= _) _ _ _;refine ak<|Ki<|lP<|ak<|lt_int (?_:bt _ _ _ _ _ _);refine ak (lP<|qh<|ak<|Fo<|aP ?_)
   by_cases cO:kf n<kf g
   .simp only[cO,decide_true,if_true];refine ak<|zF Q xz<|ak<|Fo ?_;rw[T];refine aP ⟨ve PySem.F.plain_min_loop _,wr s2.toks λi m hi k=>?_⟩;have:=L i m hi k;lia
   .simp only[cO,decide_false,tM,if_false];refine ak<|Fo ?_;rw[T];refine aP ⟨ve PySem.F.plain_min_loop _,ih (j+1) _ li (by exact xf) I2 fs d y ⟨P,i2,ze,RY⟩<|.inr ⟨Kw _,g,h,B,c,Q,Z,mb,λi m hi k=>?_⟩⟩
    by_cases z2:i=j
    .subst z2;rw[en]at k;cases k;lia
    .exact L i m li k
end
section
variable{X:Cx}{p_:List (e_×d5)}{σ:St}{H:Hp}{s:g_}{ns:List Int}{kf:Int->Int}{l f:e_}
def agB(I:df X pz σ H s)(h:X.A.handled=b_)(d:ag X.K H l (ns.map V.int))(i:0<ns.length)(turn:∀(n:Int)(u:f_)(a:List (e_×d5))(s:g_),n∈ns->dn (.int n) u->(∀p∈pz,p∈a)->df X a σ H s->bt (bv X.prog X.w) X.A.in1 (call (.ref f) [u]) (EP X a σ λv H'=>v=.int (kf n)/\H'=H) (λ_ _=>False) s)(q:∀m∈ns,(∀n∈ns,kf m<=kf n)->Q (.int m) H):bt (bv X.prog X.w) X.A (call (.builtin "min") [.ref l] [(rS "key",.ref f)]) (EP X pz σ Q) E s:=by
 have j:(toString "min"++toString ".loop":String)="min.loop":=qc;obtain⟨vs,B,pl,C⟩:=I.list d
 have k:l<s.heap.objs.size:=by
  obtain⟨o,e,_⟩:=pl.isList;exact bY e
 refine kmk_tree PySem.F.kind_min PySem.F.plain_min PySem.F.entry_min (kmk_min_key _ _) (?_:bt _ X.A.in1 (abg "min" ["key","default"] 0 ⟨[],[(rS "key",.ref f)]⟩ >>= _) _ _ s);refine ak<|KH (rfl:abg "min" ["key","default"] 0 ⟨[],[(rS "key",.ref f)]⟩=pure [a_ (.ref f),b_])<|ak<|aP<|ak<|zD pl.isList<|ak<|T' ?_<|bg _;rw[j];have c:(s.heap.push {cls:=.type "list_iterator",data:=.fields #[.ref l,.int 0 0]}).objs.size=s.heap.objs.size+1:=lO _ _;have r:=I.aW.fresh<|aw _;have t:H (s.heap.push {cls:=.type "list_iterator",data:=.fields #[.ref l,.int 0 0]}).objs.size=none:=I.aW.fresh (by rw[c];exact jC _);refine aP ⟨ve PySem.F.plain_min_loop _,?_⟩;have x:df X pz σ H {s with heap:=(s.heap.push {cls:=.type "list_iterator",data:=.fields #[.ref l,.int 0 0]}).push (d8 "list" #[] 0)}:=I.kept (t':=s.toks) λb o e=>bU _<|bU _ e
 refine agA (kf:=kf) (pz:=pz) (σ:=σ) h d i (dW k) turn (λg D s' J y mb z=>?_) (ns.length-0) 0 _ xz (bg _) x (I.jI (by rw[c];exact jC _) t) (I.jI (aw _) r) (by rw[c];exact JZ _)
  ⟨_,bU _<|eU _ xz,xz,xz⟩ (.inl ⟨xz,0,eU _ xz⟩)
 exact⟨.int g,H,J,y,q g mb z⟩
def pr(B:V->Hp->Prop):List V->Hp->Prop:=λvs H=>match vs with | [x]=>B x H | _=>False
def aid:∀{vs:List V}{H:Hp},pr B vs H->∃x,vs=[x]/\B x H
 | [x],_,h=>⟨x,xz,h⟩
 | [],_,h=>h.elim
 | _::_::_,_,h=>h.elim
def aho(K:u_)(P:e_)(d:Pos)(qual:d0)(tl e:TE)(idx:List Nat)(n k:Nat):TE:=λσ H Q=>tl σ H λx c=>∃(a:e_)(ns:List Int)(kf:Int->Int),x=.ref a/\ag K c a (ns.map V.int)/\0<ns.length/\b9 P d qual c/\
 ∀b,vW P c b->b9 P d qual b->ag K b a (ns.map V.int)/\(∀m∈ns,e ((lH idx n σ).set k<|a_<|.int m) b λv H'=>v=.int (kf m)/\H'=b)/\∀m∈ns,(∀n∈ns,kf m<=kf n)->Q (.int m) b
def aeE{le g:c0}{c P:e_}(r:X.calm=c_)(hrm:X.A.depth+5<Fh)(t:Gl X "min")(hm:X.mg "min"=b_)(y:PE X le tl)(S:cB X sc N idx)
  (z:X.env.code=.ref c) (C:CodeHd X.base c P) (B:uv X.mg X.base) (D:N[k]?=a_ px) (E:sc.names.lookup px=a_ .local) (hi:idx.length<=k) (i:∀A qual f cd s H,PE (Ic X A sc N qual f cd s H) g te)
  (F:∀(qual:d0)(cl:List (d0×e_))(pm cd o u:f_),t4 (kla_fn "<lambda>" qual params g sc cl pm cd o) ⟨[u],[]⟩=pure [(px,u)]) (G:autoParam (defaultsOf params X.env=([],[])) am) (J:autoParam (sc.isCoroutine=false) am) (L:autoParam (sc.isGenerator=false) am)
  (M:autoParam (ca pos (cx [le] X.env)=(d_,eval le X.env)::ca pos (cx [] X.env)) am) (O:autoParam ((ca pos<|cx [le] X.env).any (·.1)=false) am) (R:autoParam (cx [le] X.env=(d_,eval le X.env)::cx [] X.env) am) :
  PE X (.Call (.Name "min" p) [le] [⟨a_ "key",.Lambda params g sc AR,asn⟩] pos) (aho X.K P AR (X.env.qual++"<lambda>") tl te idx N.length k):=by
 intro p_ s σ H Q I h;refine E4<|x9 I t hm (show vh "min"=a_ (.builtin "min") from boot_min) ?_ qc qc
 refine callWith_kw (aV (aa (X:=X) y af R pos p_ s σ H (pr λx d=>∃(a:e_)(ns:List Int)(kf:Int->Int),x=.ref a/\ag X.K d a (ns.map V.int)/\0<ns.length/\b9 P AR (X.env.qual++"<lambda>") d/\
  ∀b,vW P d b->b9 P AR (X.env.qual++"<lambda>") b->ag X.K b a (ns.map V.int)/\(∀m∈ns,te ((lH idx N.length σ).set k<|a_<|.int m) b λv H'=>v=.int (kf m)/\H'=b)/\∀m∈ns,(∀n∈ns,kf m<=kf n)->Q (.int m) b) I h) ?_) M O xz xz;rintro us s1⟨vs,d,T,U,W⟩
 obtain⟨x,rfl,a,ns,kf,rfl,hL,Y,Z,hq⟩:=aid W;obtain⟨u,rfl,j⟩:=vals1 U;cases j;refine kws_cons (agE T S z C B G Z λf c' b pm o s2 I2 sm Dw Jr=>kws_nil ?_);obtain⟨rB,RN,hQ⟩:=hq b sm Dw;have q:=I.ok.hd r;refine mC (agB (kf:=kf) (f:=f) I2 q rB Y (λn u pp s3 hn j hp e=>?_) λm hm i=>hQ m hm i) λw s4 v H4 I4 r4 q4=>⟨v,H4,I4.FP,r4,q4⟩;refine agF (A:=X.A.in1) (v:=.int n) e S e.ok.frames q (by show X.A.depth<_;lia) D E hi j (e.pin _<|gu _<|hp _<|gu _ bV).1 (e.aW c' _ Jr).1 (F _ _ _ _ _ _) J L (i _ _ _ _ _ _)<|RN n hn
end
end L2
namespace L2
open L3
structure wc(K:u_)(x qual:d0)(st:bx)(f:e_)(fd:ik)(c:e_):Prop where
 ex:∃(oc:f_)(od:Option e_)(kV doc pm:f_)(an:Option e_)(ct:f_)(iK:Array (Option f_)),fd=B_ x qual (lC st) (jb st) (aM st) .none kV doc pm an (.ref c) ct/\K.lookup f=a_ ⟨oc,od,.func fd,iK⟩/\W.codeIn K (.ref c) qual=c_
 kp:x_ K (.ref f)=c_
def aiW{K:u_}{x qual:d0}{st:bx}{f c:e_}{oc:f_}{od an:Option e_}{iK:Array (Option f_)}{kV doc pm ct:f_}(l:K.lookup f=a_ ⟨oc,od,.func<|B_ x qual (lC st) (jb st) (aM st) .none kV doc pm an (.ref c) ct,iK⟩)(c1:W.codeIn K (.ref c) qual=c_)(k:x_ K (.ref f)=c_):wc K x qual st f (B_ x qual (lC st) (jb st) (aM st) .none kV doc pm an (.ref c) ct) c:=⟨⟨oc,od,kV,doc,pm,an,ct,iK,xz,l,c1⟩,k⟩
section
variable{P:k_}{w:j_}{K:u_}{mg:d0->Option f_}{gW:i_}
def wc.ok{st:bx}(F:wc K x qual st f fd c)(S:aX N ps (aM st))
  (b:∀(A:h_)(outer:List Env)(s:g_)(H:Hp)(vs:List V)(Q:VK)(E:XK),fz k (A.deeper<|db qual (aM st) s.zS f<|.ref c)->sp vs H Q E->
   ∃t,fD (pO aF P w K mg gW N qual (aM st) f (.ref c) A outer s H E).pY (jb st) t/\t {nx:=λ_ H'=>Q .aO H',rt:=Q} (start N vs) H) (len:∀vs H Q E,sp vs H Q E->vs.length=ps.length:=by intro _ _ _ _ h;(repeat obtain⟨_,h⟩:=h);subst_vars;rfl):aG P w K mg gW aF (k+1) f fd ps sp:=by
 refine lD F.ex λoc od kV doc pm a=>lE a λan ct iK a lk d=>?_;subst a;exact yg lk d S len λA outer s H vs Q E e g=>aD (b A _ s H _ Q E e g) λt h q=>az t h.pY q
def wc.fun{st:bx}(F:wc K x qual st f fd c):aQ K x qual st f fd:=by
 exact lD F.ex λoc od kV doc pm a=>lE a λan ct iK e lk b=>⟨⟨oc,od,kV,doc,pm,an,_,ct,iK,e,lk,b⟩,F.kp⟩
end
end L2
namespace L2
open PySem.W
def Ud(h:GY (ps.map (·.2)) (λi=>(ps.map (·.1)).getD i 0) zs):∃qs:List (Int×V),qs.Perm ps/\qs.Pairwise (λa b=>a.1<b.1)/\zs=qs.map (·.2):=by
 obtain⟨p,g,d,rfl⟩:=h;rw[aA]at g d;have r:=Lq g;have f:=Tc.mp g
 have m:(List.range ps.length).map (λi=>ps.getD i (0,.aO))=ps:=by
  apply Kc
  .simp
  .intro i h1 h2;simp[h2]
 refine⟨p.toList.map λi=>ps.getD i (0,.aO),?_,?_,?_⟩
 .have:=f.map λi=>ps.getD i (0,.aO);simp only at this;rw[m]at this;exact this
 .rw[jR];intro i j hi n o;rw[aA]at hi n;have:=d i j o wf;unfold rk at this;have s:=g.size;simp only[acm];have e:∀k c,p.getD k 0=p[k]:=λk c=>by simp[c]
  rw[e i _,e j _]at this;have l:∀k,k<ps.length->(ps.map (·.1)).getD k 0=(ps.getD k (0,.aO)).1:=λk c=>by simp[c]
  have lt:∀k(c:k<p.size),p[k]<ps.length:=λk c=>by
   have:=g.lt wf;rw[e k _]at this;exact this
  dsimp only at this;rw[l _<|lt i _,l _<|lt j _]at this;exact this
 .rw[i7];refine Tq λi hi=>?_
  have q:i<ps.length:=by
   have:=f.mem_iff.mp hi;simpa using this
  simp[q]
section
variable{X:Cx}
def ady(M:d7)(h:i_)(i:Int)(t:Tok):Looks M h (typeOf<|.int i t) (.type "int"):=Looks.of_pure xz
def ajN(K:u_):List V->Hp->VK->Prop:=λxs H Q=>∃(p:e_)(ps:List (Int×V)),xs=[.ref p]/\ag K H p (ps.map (·.2))/\ps.length<64/\(∀q∈ps,∃a ys,q.2=.ref a/\aq K H a (.int q.1::ys))/\(ps.map (·.1)).Nodup/\
 ∀l qs,H l=b_->ij qs ps->qs.Pairwise (λa b=>a.1<b.1)->Q (.ref l) (dc H l<|.lst<|qs.map (·.2))
def ac5:jt X (.builtin "sorted") (ajN X.K):=by
 intro p_ s σ H xs us Q I r h;obtain⟨p,ps,rfl,M,h64,N,nd,q⟩:=h;obtain⟨u,rfl,O⟩:=vals1 r;cases O;obtain⟨w,L,pl,hz⟩:=I.list M;have P:=L.length;rw[aA]at P;refine Lh (H:=H)<|collect_list pl.isList ?_ (by rw[gf];lia)
 have kp:∀b o,s.heap.get? b=a_ o->((s.heap.push<|d8 "list" #[] 0).update s.zS<|gQ (· ++ w.toArray)).get? b=a_ o:=λb o e=>by
  rw[JP _ _ _ _<|dW<|bY e];exact bU _ e
 have tup:∀i,i<ps.length->∃a o vs n,w.getD i gD=.ref a/\s.heap.get? a=a_ o/\o.cls=.type "tuple"/\o.data=.seq vs n/\∃t rest,vs.toList=ig ((ps.map (·.1)).getD i 0) t::rest:=λi hi=>by
  obtain⟨a,ys,y,f⟩:=N _<|pe hi;obtain⟨vs,R,⟨o,S,co,n,U⟩,_⟩:=I.tuple f;obtain⟨u,V,W⟩:=L.get (i:=i) (x:=.ref a) (by simp[hi,y]);cases W;cases R with
  | cons ra rr=>
   obtain⟨t,rfl⟩:=ra;exact⟨a,o,_,n,by rw[cH,V];rfl,S,co,U,t,_,by simp[hi];rfl⟩
 refine⟨ps.map (·.2),λi=>(ps.map (·.1)).getD i 0,I.kept kp,L,⟨li,λi j hi Y e=>?_,λh2=>?_⟩,λl zs hn Z=>?_⟩
 .have B:i<ps.length:=wg;have D:j<ps.length:=wg;have e':(ps.map (·.1))[i]'(by simpa using B)=(ps.map (·.1))[j]'(by simpa using D):=by simpa[B,D]using e
  obtain z|z|z:=tN i j
  .exact f' e' (jR.mp nd i j _ _ z)
  .exact z
  .exact f' e'.gx (jR.mp nd j i _ _ z)
 .refine⟨tuples' c_,λs' k=>?_⟩
  have nL:∀b o,s.heap.get? b=a_ o->o.cls=.type "tuple"->(∃vs n,o.data=.seq vs n)->b≠X.env.locals:=λb o e _ d z=>by
   obtain⟨m,F⟩:=I.fr;obtain⟨o',es,ep,e',d',_⟩:=F.ns;rw[z,e']at e;cases e;obtain⟨vs,n,d⟩:=d;rw[d']at d;cases d
  have at':∀i,i<ps.length->∃a o vs n,w.getD i gD=.ref a/\s'.heap.get? a=a_ o/\o.cls=.type "tuple"/\o.data=.seq vs n/\∃t rest,vs.toList=ig ((ps.map (·.1)).getD i 0) t::rest:=λi hi=>by
   obtain⟨a,o,vs,n,y,f,E,A,G⟩:=tup i hi;exact⟨a,o,vs,n,y,k _ _ (nL a o f E ⟨vs,n,A⟩)<|kp _ _ f,E,A,G⟩
  constructor
  .intro Q' hQ
   have kt:∀m,m<=ps.length->∃fs:List f_,fs.length=m/\KatTups s'.heap (w.drop<|ps.length-m) fs/\∀v∈fs,∃i t,v=ig i t:=λm=>by
    induction m with
    | zero=>
     intro _;refine⟨[],xz,?_,λv J=>by cases J⟩;rw[abA li];exact .nil
    | succ m ih=>
     intro hm;obtain⟨fs,h1,h2,h3⟩:=ih li;obtain⟨a,o,vs,n,y,f,E,A,t,rest,G⟩:=at' (ps.length-(m+1)) om
     have hd:w.drop (ps.length-(m+1))=.ref a::w.drop (ps.length-m):=by
      rw[abn om,show ps.length-(m+1)+1=ps.length-m by lia]
      congr 1
      rw[<-y];simp[show ps.length-(m+1)<w.length by omega]
     rw[hd];refine⟨ig ((ps.map (·.1)).getD (ps.length-(m+1)) 0) t::fs,by rw[eI,h1],.cons f E A ?_ h2,λv J=>?_⟩
     .have:vs.toList[0]?=a_ (ig ((ps.map (·.1)).getD (ps.length-(m+1)) 0) t):=by rw[G];rfl
      rw[zB]at this;exact this
     .obtain z|z:=bK.mp J
      .exact⟨_,_,z⟩
      .exact h3 v z
   obtain⟨fs,h1,h2,h3⟩:=kt _<|aw _;rw[Kx,List.drop_zero]at h2;refine kat_kind (T:=.type "int") h2 li (λv J=>?_) qc ((show (gC "int" != gC "tuple")=c_ by decide)▸hQ);obtain⟨i,t,e⟩:=h3 v J;rw[e];exact ady _ _ _ _
  .intro i j C hi Y ne c;obtain⟨a,o,vs,n,y,f,E,A,t,rest,G⟩:=at' i wg;obtain⟨a',o',jM,n',EU,e2',e3',e4',t',arO,e5'⟩:=at' j wg;unfold kas_ask;rw[y,EU];refine kat_lt f A e2' e4' ?_;rw[G,e5'];refine kat_cons (TC ?_)
   have iy:(ps.map (·.1)).getD i 0≠(ps.map (·.1)).getD j 0:=λe=>by
    have B:i<ps.length:=wg;have D:j<ps.length:=wg;have e':(ps.map (·.1))[i]'(by simpa using B)=(ps.map (·.1))[j]'(by simpa using D):=by simpa[B,D]using e
    obtain z|z:=Tt ne
    .exact f' e' (jR.mp nd i j _ _ z)
    .exact f' e'.gx (jR.mp nd j i _ _ z)
   rw[show ((ps.map (·.1)).getD i 0==(ps.map (·.1)).getD j 0)=d_ by simpa using iy];exact kat_no<|oneLt_int c
 .obtain⟨qs,g,pw,rfl⟩:=Ud Z;exact q l _ hn g pw
end
end L2
namespace TL
open L2 L3
structure hO where
 (t n num d:Int)
 deriving DecidableEq
noncomputable def bH(es:List hO)(i:Nat):List hO:=es.filter λe=>decide<|e.n=(i:Int)
def jH(H:Hp)(v:V)(e:hO):Prop:=∃p s,v=.ref p/\H p=a_ (.tup [.int e.t,.ref s])/\H s=a_ (.tup [.int e.n,.int e.num,.int e.d])
def D1(H:Hp)(b:e_)(es:List hO):Prop:=∃vs,H b=a_ (.lst vs)/\bw (jH H) vs es
def X0:List d0:=[U_,"latest","fronts","take","is_empty","listed","twin"]
structure oH(tn:Int)(es:List hO):Prop where
 asc:es.Pairwise λx y=>x.t<y.t
 nm:∀e∈es,0<=e.n/\e.n<12
 lt:∀e∈es,e.t<tn
structure dS(H:Hp)(a C:e_)(kd:d0)(tn:Int)(es:List hO)(q:e_)(qr:List e_):Prop where
 obj:∃dx fs,H a=a_ (.ins C dx fs)/\fs.lookup (Z_ : d0)=a_ (V.str kd)/\fs.lookup (at3 : d0)=a_ (V.int tn)/\fs.lookup ("queues":d0)=a_ (V.ref q)/\(∀m∈X0,fs.lookup m=b_)/\fs.length<=20
 qs:H q=a_ (.lst<|qr.map V.ref)
 len:qr.length=12
 nd:qr.Nodup
 nq:q∉qr
 jK:∀i b,qr[i]?=a_ b->D1 H b (bH es i)
 wf:oH tn es
structure hG(F:List e_)(H H':Hp):Prop where
 k:∀b o,b∉F->(∀ps,o≠.fA ps)->H b=a_ o->H' b=a_ o
 t:∀b,H' b=b_->H b=b_
def hG.of(s:ae H H'):hG F H H':=⟨λb o _ _ e=>s b o e,λb h=>s.free h⟩
def hG.gw(a:hG F H H1)(b:hG F H1 H2):hG F H H2:=⟨λc o h1 h2 e=>b.k c o h1 h2<|a.k c o h1 h2 e,λc h=>a.t c<|b.t c h⟩
def hG.DQ{P:e_}(s:vW P H H')(a:H P=a_ (.fA ps))(c:H' P=a_ (.fA yW)):hG [] H H':=
 ⟨λb o _ n e=>s b o (λz=>by rw[z,a]at e;cases e;exact n _ xz) e,λb h=>by
  cases e:H b with
  | none=>rfl
  | some o=>
   by_cases z:b=P
   .rw[z,c]at h;cases h
   .rw[s b o z e]at h;cases h⟩
def BS{P:e_}{d:Pos}{qual:d0}{F:List e_}{H H':Hp}(h:b9 P d qual H)(k:∀b o,b∉F->H b=a_ o->H' b=a_ o)(f:∀b∈F,∀o,H b=a_ o->(∃C dx fs,o=.ins C dx fs)\/∃xs,o=.lst xs):b9 P d qual H':=by
 refine aD h λps g a=>?_
 have nP:P∉F:=λz=>by
  rcases f P z _ g with ⟨_,_,_,e⟩ | ⟨_,e⟩ <;> cases e
 refine az _ (k P _ nP g) ?_;obtain e|⟨c,e,a⟩:=a
 .exact .inl e
 .refine .inr (az c e<|k c _ (λz=>?_) a);rcases f c z _ a with ⟨_,_,_,e⟩ | ⟨_,e⟩ <;> cases e
def iD{P:e_}{a:Pos}{qual:d0}{H H':Hp}(h:b9 P a qual H)(k:ae H H'):b9 P a qual H':=BS (F:=[]) h (λb o _ e=>k b o e) λb c=>(by cases c)
def jH.keep{F:List e_}(h:jH H v e)(k:∀b xs,H b=a_ (.tup xs)->H' b=a_ (.tup xs)):jH H' v e:=let ⟨p,s,e1,e2,e3⟩:=h;⟨p,s,e1,k _ _ e2,k _ _ e3⟩
theorem se{c d:Type}{F G:c->d->Prop}(f:∀a b,F a b->G a b){l:List c}{r:List d}(h:bw F l r):bw G l r:=Paired.bp h f
def D1.keep(h:D1 H b es)(a:∀o,H b=a_ o->H' b=a_ o)(k:∀b xs,H b=a_ (.tup xs)->H' b=a_ (.tup xs)):D1 H' b es:=let ⟨vs,e,r⟩:=h;⟨vs,a _ e,se (λ_ _ z=>z.keep (F:=[]) k) r⟩
def dS.keep(T:dS H a C kd tn es q qr)(k:∀b∈a::q::qr,∀o,H b=a_ o->H' b=a_ o)(d:∀b xs,H b=a_ (.tup xs)->H' b=a_ (.tup xs)):dS H' a C kd tn es q qr:=by
 obtain⟨⟨dx,fs,e,r⟩,qs,len,nd,nq,jK,wf⟩:=T;exact⟨⟨dx,fs,k a (by simp) _ e,r⟩,k q (by simp) _ qs,len,nd,nq,λi b c=>(jK i b c).keep (λo=>k b (by simp[a8 c]) o) d,wf⟩
def dS.amC(T:dS H a C kd tn es q qr)(k:hG F H H')(d:∀b∈F,b∉a::q::qr)(f:∀b∈F,∀xs,H b≠a_ (.tup xs)):dS H' a C kd tn es q qr:=by
 refine T.keep (λb c o e=>k.k b o (λz=>d b z c) (λps z=>?_) e) λb xs e=>k.k b _ (λz=>f b z xs e) (λps z=>by cases z) e;subst z;obtain z|z:=bK.mp c
 .refine cy T.obj λdx fs e' _=>?_;rw[z,e']at e;cases e
 .obtain z|z:=bK.mp z
  .rw[z,T.qs]at e;cases e
  .refine oE (kY z) λi g=>oE g λhi h=>?_;obtain⟨vs,e',_⟩:=T.jK i b (by rw[<-h];exact aI hi);rw[e']at e;cases e
def dS.pE(T:dS H a C kd tn es q qr)(k:hG [] H H'):dS H' a C kd tn es q qr:=T.amC k (λb c=>by cases c) λb c=>(by cases c)
def dS.kinds(T:dS H a C kd tn es q qr):∀b∈a::q::qr,∀o,H b=a_ o->(∃C dx fs,o=.ins C dx fs)\/∃xs,o=.lst xs:=λb c o e=>by
 obtain z|z:=bK.mp c
 .refine cy T.obj λdx fs e' _=>?_;rw[z,e']at e;cases e;exact .inl<|⟨_,_,_,xz⟩
 .obtain z|z:=bK.mp z
  .rw[z,T.qs]at e;cases e;exact .inr ⟨_,xz⟩
  .refine oE (kY z) λi d=>oE d λhi f=>?_;obtain⟨vs,e',_⟩:=T.jK i b (by rw[<-f];exact aI hi);rw[e']at e;cases e;exact .inr ⟨_,xz⟩
def dS.there(T:dS H a C kd tn es q qr):∀b∈a::q::qr,∃o,H b=a_ o:=λb c=>by
 obtain z|z:=bK.mp c
 .exact cy T.obj λdx fs e' _=>⟨_,by rw[z];exact e'⟩
 .obtain z|z:=bK.mp z
  .exact⟨_,by rw[z];exact T.qs⟩
  .refine oE (kY z) λi d=>oE d λhi e=>?_;obtain⟨vs,e',_⟩:=T.jK i b (by rw[<-e];exact aI hi);exact⟨_,e'⟩
def Cw(es:List hO)(i:Nat):Option hO:=(bH es i).getLast?
def lZ(es:List hO):List Int:=((List.range 12).filter λi=>decide<|bH es i≠[]).map λ(i:Nat)=>(i:Int)
def ja(kd:d0)(es:List hO):List Int:=if kd = L_ then (es.head?.map (·.n)).toList else lZ es
noncomputable def nj(es:List hO)(n:Int):List hO:=es.eraseP λe=>decide<|e.n=n
def ah5(i:Nat):bH [] i=[]:=rfl
def Xf(es:List hO)(e:hO)(i:Nat):bH (es++[e]) i=if e.n=(i:Int) then bH es i++[e] else bH es i:=by
 unfold bH;rw[xq]
 by_cases h:e.n=(i:Int)
 .rw[eT h];simp[h]
 .rw[eN h];simp[h]
def xJ:n∈lZ es↔∃i:Nat,i<12/\n=i/\bH es i≠[]:=by
 unfold lZ;rw[b8];constructor
 .rintro⟨i,hi,rfl⟩;rw[jB,mU]at hi;exact eC i hi.1 xz (by simpa using hi.2)
 .rintro⟨i,h1,rfl,h2⟩;exact az i (by rw[jB,mU];exact⟨h1,by simpa using h2⟩) xz
def Wx{i:Nat}(h:es.head?=a_ e)(hi:e.n=(i:Int)):(bH es i).head?=a_ e:=by
 cases es with
 | nil=>cases h
 | cons x r=>
  cases h;unfold bH;rw[rK,eT (by simpa using hi)];rfl
def ajl(w:oH tn es)(b:0<=n)(h1:n<12):oH (tn+1) (es++[⟨tn,n,num,d⟩]):=by
 refine⟨abH.mpr ⟨w.asc,abv _ _,λx c y f=>?_⟩,λe a=>?_,λe a=>?_⟩
 .rw[da.mp f];exact w.lt x c
 .obtain z|z:=iC.mp a
  .exact w.nm e z
  .rw[da.mp z];exact⟨b,h1⟩
 .obtain z|z:=iC.mp a
  .have:=w.lt e z;lia
  .rw[da.mp z];show tn<tn+1;lia
def ahi(w:oH tn es)(n:Int):oH tn (nj es n):=by
 have a:(nj es n).Sublist es:=List.eraseP_sublist;exact⟨w.asc.sublist a,λe b=>w.nm e<|a.subset b,λe b=>w.lt e<|a.subset b⟩
def afR(es:List hO)(n:Int)(i:Nat):bH (nj es n) i=if n=(i:Int) then (bH es i).tail else bH es i:=by
 induction es with
 | nil=>unfold nj bH;simp
 | cons e r ih=>
  unfold nj at ih ⊢;rw[TH]
  by_cases h:e.n=n
  .rw[fC h,cond_true];unfold bH
   by_cases hi:n=(i:Int)
   .rw[eT hi,rK,eT (by simpa using h.gw hi)];rfl
   .rw[eN hi,rK,eN (by simpa using λz:e.n=(i:Int)=>hi<|h.gx.gw z)]
  .rw[fT h,cond_false];unfold bH at ih ⊢;rw[rK,rK]
   by_cases a:e.n=(i:Int)
   .have b:¬n=(i:Int):=λz=>h<|a.gw z.gx;rw[eN b]at ih;simp only[fC a,if_true];rw[eN b,ih]
   .simp only[fT a,tM,if_false];rw[ih]
end TL
namespace L2
section
variable{X:Cx}
def alS(K:u_):List V->Hp->VK->Prop:=λxs H Q=>∃x p a c t b,xs=[x,.ref p]/\H p=a_ (.tup [.ty a,.ty c])/\gI K H x t/\W.kitAny K t [.type a,.type c]=a_ b/\Q (.bl b) H
def ad4(I:df X p_ σ H s)(c:dn x u)(ty:gI X.K H x t){sl:Array (Option f_)}(d:s.heap.get? tp=a_ ⟨.type "tuple",dd,.seq ah.toArray n,sl⟩)(e:W.kitAny X.K t ah=a_ b)(h:∀tk,Q (.bool b) {s with toks:=tk}):bt (bv X.prog X.w) A (call (.builtin "isinstance") [u,.ref tp]) Q E s:=by
 cases ty with
 | aO=>cases (show u=gD from c);exact W.kia_tup W.kitx_none I.dB mX d e (λz=>by cases z) h
 | bl y=>cases (show u=lh y from c);exact W.kia_tup W.kitx_bool I.dB mX d e (λz=>by cases z) h
 | int i=>obtain⟨t,q⟩:=(show ∃t,u=ig i t from c);cases q;exact W.kia_tup W.kitx_int I.dB mX d e (λz=>by cases z) h
 | str y=>obtain⟨t,q⟩:=(show ∃t,u=FL y t from c);cases q;exact W.kia_tup W.kitx_str I.dB mX d e (λz=>by cases z) h
 | qR y=>obtain⟨t,q⟩:=(show ∃t,u=KJ y t from c);cases q;exact W.kia_tup W.kitx_float I.dB mX d e (λz=>by cases z) h
 | @lst a xs ea=>
  cases (show u=dA a from c);exact oA ((show fj X.prog X.w H s.heap a (.lst xs) from I.aW a _ ea)) λ_ f=>cy f λ_ n _ h1=>W.kia_tup W.kitx_list I.dB ⟨_,h1,xz⟩ d e (λz=>by cases z) h
 | @jL a ob xs ea=>
  cases (show u=dA a from c);exact gY ((show fj X.prog X.w H s.heap a (.jL ob<|.lst xs) from I.aW a _ ea)) λ_ _ f=>cy f λ_ n _ h1=>W.kia_tup W.kitx_list I.dB ⟨_,h1,xz⟩ d e (λz=>by cases z) h
 | @tup a xs ea=>
  cases (show u=dA a from c);exact oA ((show fj X.prog X.w H s.heap a (.tup xs) from I.aW a _ ea)) λ_ f=>aD f λ_ _ p=>a9 p λo h1 h2 _=>W.kia_tup W.kitx_tuple I.dB ⟨o,h1,h2⟩ d e (λz=>by cases z) h
 | @dK a fG ea=>
  cases (show u=dA a from c);exact gY ((show fj X.prog X.w H s.heap a (.dK fG) from I.aW a _ ea)) λ_ _ f=>aD f λvs _ p=>lE p λo es g h1 h2 _=>W.kia_tup W.kitx_dict I.dB ⟨o,h1,h2.1⟩ d e (λz=>by cases z) h
 | @dT a fG ea=>
  cases (show u=dA a from c);exact gY ((show fj X.prog X.w H s.heap a (.dT fG) from I.aW a _ ea)) λ_ _ f=>lE f λo es g h1 h2 _=>W.kia_tup W.kitx_dict I.dB ⟨o,h1,h2.1⟩ d e (λz=>by cases z) h
 | @ins a C dx fs ea cl ha hn Bi hm=>
  cases (show u=dA a from c);exact aD (Cy I.aW ea) λmA O _=>aD O.look λod J _=>W.kia_tup (W.kitx_own (cl.get _) cl.hd ha hn Bi hm) I.dB J d e (λz=>by cases z) h
def afj:jt X (.builtin "isinstance") (alS X.K):=by
 intro p_ s σ H xs us Q I r h;refine mV h λx p f g t b e i ty j q=>?_;subst e;refine fh (vals2 r) λu v a k l=>?_;subst a;cases l;refine oA ((show fj X.prog X.w H s.heap p (.tup [.ty f,.ty g]) from I.aW p _ i)) λA a=>aD a λB m pl=>fh (vals2 m) λc d y z r2=>?_;subst y;cases z;cases r2;refine a9 pl λo h1 h2 a=>oE a λn h3=>?_;obtain⟨oc,od,C,iK⟩:=o;cases h2;cases h3;exact ad4 I k ty h1 j λtk=>(eA (.bl b) H (I.tok tk) xz q)
def alR(K:u_):List V->Hp->VK->Prop:=λxs H Q=>∃(p:e_)(ns:List Int),xs=[.ref p]/\ag K H p (ns.map V.int)/\ns≠[]/\∀M,M∈ns->(∀a∈ns,M<=a)->Q (.int M) H
def afi(y:X.calm=c_):jt X (.builtin "min") (alR X.K):=by
 intro p_ s σ H xs us Q I r h;refine og h λp ns e B C q=>?_;subst e;refine aD (vals1 r) λu d D=>?_;subst d;cases D;refine a9 (I.list B) λc f pl S=>?_;have hi:=intsAre_of f;have k:c.length=ns.length:=by have:=f.length;rw[aA]at this;exact this.gx
 have E:p≠s.heap.objs.size:=by
  exact aD pl.isList λo e _=>dW<|bY e
 have l:0<c.toArray.size:=by
  rw[dG,k];exact abP.mpr C
 have m:∀i v,c.toArray[i]?=a_ v->∃t,v=ig (ns.getD i 0) t:=λi v g=>by
  have n:c[i]?=a_ v:=by simpa using g
  have T:i<c.length:=(b0.mp n).1
  obtain⟨u,w,F⟩:=f.get (i:=i) (x:=V.int<|ns.getD i 0) (by
   rw[cF,aI wf,cH,aI wf];rfl)
  rw[n]at w;cases w;exact F
 refine call_min_walk<|zD pl.isList<|⟨_,_,_,_,_,_,(⟨_,xz,(BW (show X.A.in1.handled=b_ from I.ok.hd y) _ p E c.toArray),⟨⟨_,eU _ xz,xz,xz⟩,pl.isList.push _⟩,?_,l,(CmpOf.ints_lt (λi=>ns.getD i 0) m),(λv h' tk g G=>?_)⟩)⟩
 .intro b J;refine aD pl.isList λo e _=>?_;have L:=bY e;have M:(s.heap.push {cls:=.type "list_iterator",data:=.fields #[.ref p,.int 0 0]}).objs.size=s.heap.objs.size+1:=lO _ _;have N:b=s.heap.objs.size\/b=p:=by simpa using J
  rw[M];obtain e|e:=N
  .rw[e];exact vc _
  .rw[e];exact E6 L
 .refine oE (m _ _ g) λt d=>?_;subst d;refine oA (argBest_lt (λi=>ns.getD i 0)<|c.toArray.size-1) λh1 h2=>?_;rw[dG,k]at h1 h2 l ⊢;refine eA (.int _) H (I.kept λb o e=>G b o (λz=>?_)<|bU _ e) ⟨t,xz⟩ (q _ ?_ λa ha=>?_)
  .have O:b=s.heap.objs.size:=by simpa using z
   rw[O]at e;exact f' (bY e)<|lQ _
  .show ns.getD _ 0∈ns;rw[cH,aI om];exact pe _
  .refine oE (kY ha) λj d=>oE d λP e=>?_;have:=h2 j om;have R:ns.getD j 0=a:=by rw[cH,aI P,e];rfl
   rw[R]at this;exact this
end
section
variable{X:Cx}{CX:p6}{k:Nat}{E:XK}{m:d0}{pos apos:Pos}{e o:c0}{es:List c0}{ta:TE}{t:TA}
def ahp(P:k_)(w:j_)(K:u_)(mg:d0->Option f_)(gW:i_)(CX:p6)(k:Nat)(m:d0)(E:XK)(ta:TE)(t:TA):TE:=λσ H Q=>ta σ H λx b=>∃a C dx fs f fd ps sp,x=.ref a/\b a=a_ (.ins C dx fs)/\fs.lookup m=b_/\di K C/\Meth K C m f/\
 aG P w K mg gW CX k f fd ps sp/\dL K fd ps []/\t σ b λvs c=>sp (.ref a::vs) c Q E
def aeF{P:k_}{w:j_}{K:u_}{mg:d0->Option f_}{gW:i_}(i:PE X o ta)(j:fz k X.A)(n:Passes CX X E)(ha:PA X (e::es) t)(p:autoParam (X.prog=P) am)(hw:autoParam (X.w=w) am)(v:autoParam (X.K=K) am)(y:autoParam (X.mg=mg) am)(z:autoParam (X.base=gW) am)
  (B:autoParam ((cx (e::es) X.env)=((d_,eval e X.env)::cx es X.env)) am) (D:autoParam (((ca pos<|cx es X.env).any (·.1))=false) am)
  (G:autoParam (eval (.Call (.Attribute o m apos) (e::es) [] pos) X.env=(do
   let ov <-(eval o X.env)
   standAt apos.atName
   let (f,first) <-(holding [ov] (vt ov m pl))
   (Ac pos f first (ca pos<|cx (e::es) X.env) (xP pos<|xE [] X.env)))) am) :
  PE X (.Call (.Attribute o m apos) (e::es) [] pos) (ahp P w K mg gW CX k m E ta t):=by
 subst p hw v y z;intro p_ s σ H Q I h;refine W.methodCall_KW (aV (i _ s _ H _ I h) λu s1 J=>fh J λx R d L b=>lD b λa C dx fs f b=>lE b λfd ps sp ex M b=>qz b λl c hm F N q=>?_) G;subst ex;obtain rfl:u=dA a:=L;exact Ft d M c hm l<|G_ I.ok.mod.yE hm.kp (HU (ha _ _ _ _ _ _ d q) λus s2 vs S g r O=>⟨g.dB,Am (vs:=.ref a::vs) F j N .nil n g (.cons xz r)<|by rw[nK];exact O⟩) B D
end
noncomputable abbrev Cx.yh(X:Cx)(pn:List (e_×d5))(E:f_->g_->Prop):Cx:={X with pn:=pn,xe:=E}
section
variable{X:Cx}{p_ pl:List (e_×d5)}{σ:St}{H:Hp}{s:g_}{E:f_->g_->Prop}
def agn(ok:X.Ok)(pn:List (e_×d5))(E:f_->g_->Prop):(X.yh pn E).Ok:=
 ⟨ok.mod,ok.kind,ok.glob,ok.blt,ok.above,ok.inj,ok.has,ok.yI,ok.hd,ok.frames,ok.AX,ok.wD,ok.bs,ok.nE,ok.yn,ok.vZ,ok.nA,ok.uB⟩
def adX(ok:(X.yh pn E).Ok):X.Ok:=
 ⟨ok.mod,ok.kind,ok.glob,ok.blt,ok.above,ok.inj,ok.has,ok.yI,ok.hd,ok.frames,ok.AX,ok.wD,ok.bs,ok.nE,ok.yn,ok.vZ,ok.nA,ok.uB⟩
def df.yh(I:df X p_ σ H s)(E:f_->g_->Prop):df (X.yh (X.pn++p_) E) [] σ H s:=
 ⟨agn I.ok _ E,I.os,I.bare,I.base,I.loc,I.cell,I.free,I.mh,λp a=>I.pin p (by simpa using a),I.aW,I.len⟩
def df.F'(I:df (X.yh (X.pn++p_) E) pl σ H s):df X p_ σ H s:=
 ⟨adX I.ok,I.os,I.bare,I.base,I.loc,I.cell,I.free,I.mh,λp a=>I.pin p<|qg _ a,I.aW,I.len⟩
def ah8(b:∀pn:List (e_×d5),fD (X.yh pn λ_ _=>False) body t):PS X (.Try body (h::hs) [] [] pos) t:=by
 refine λp_ s σ H D I q=>wpAny_Try_except (jU (b _ [] s _ H D (I.yh _) q) (λf s1 q=>?_) λ_ _ y=>y.elim);rcases f with _|_|_|u
 ·obtain⟨a,H',I,q⟩:=q;exact E' ⟨a,H',I.F',q⟩
 ·obtain⟨a,H',I,q⟩:=q;exact⟨a,H',I.F',q⟩
 ·obtain⟨a,H',I,q⟩:=q;exact⟨a,H',I.F',q⟩
 obtain⟨v,a,H',I,r,q⟩:=q;exact⟨v,a,H',I.F',r,q⟩
end
end L2
namespace TL
open L2 L3
variable{P:k_}{w:j_}{K:u_}{mg:d0->Option f_}{gW:i_}
structure BT(mg:d0->Option f_):Prop where
 ir:mg "isinstance"=b_
 int:mg "int"=b_
 bool:mg "bool"=b_
 str:mg "str"=b_
 len:mg "len"=b_
 all:mg "all"=b_
 range:mg "range"=b_
 enum:mg at5 = b_
 min:mg "min"=b_
 sorted:mg "sorted"=b_
structure jY(K:u_)(C:e_):Prop where
 cl:di K C
 kind:bJ K C Z_
 turn:bJ K C at3
 sj:bJ K C "queues"
def VY:Sp:=λvs H Q _=>∃v T,vs=[v]/\ek H v=a_ T/\Q (.bl<|uA v) H
def afI:aX ia ia (aM M0):=aZ
def aeH(F:aQ K ac1 ac1 M0 f fd)(B:BT mg):aG P w K mg gW aF 1 f fd ia VY:=by
 refine F.ok afI λaH A _ s H vs Q E c h=>?_
 refine fh h λv T b a k=>?_;subst b;refine⟨_,ax<|aR<|sr (bC iP xz B.ir iO<|aa (pv 0)<|aa (nW (v:=.ty _) xz B.int boot_int xz) af)<|sk<|Od<|bC iP xz B.ir iO<|aa (pv 0)<|aa (nW (v:=.ty _) xz B.bool boot_bool xz) af,?_⟩;have e:=YF a;refine az v xz<|dN _ _ _ _<|ip _ xz (pU a) xz (pK a qc)<|az _ xz (lG (λh1=>?_) λh1=>?_)
 .refine az v xz (dN _ _ _ _<|ip _ xz (pU a) xz (pK a qc)<|az _ xz ?_);rw[h1,rQ]at e;rw[e];exact k
 rw[h1,xy]at e;rw[e];exact k
def P0(C:e_):Sp:=λvs H Q _=>∃x dx kd,vs=[.ref x,.str kd]/\H x=a_ (.ins C dx [])/\∀H' q qr,dS H' x C kd 0 [] q qr->(∀b o,b≠x->H b=a_ o->H' b=a_ o)->(∀b∈q::qr,H b=b_)->Q .aO H'
def aot:aX kn kn (aM DJ):=aZ
def oe:([l_]:List d0).Nodup:=dk
def amA:=@AJ
def amz:=@AI
def WR:∀m∈X0,¬m = Z_/\¬m = at3/\¬m="queues":=dk
def qP(kd:d0)(q:e_):(aJ "queues" (.ref q) (aJ at3 (.int 0)<|aJ Z_ (.str kd) []))=[((Z_ : d0),V.str kd),((at3 : d0),V.int 0),(("queues":d0),V.ref q)]:=by
 have n1:¬(Z_ : d0) = at3:=dk;have a:¬(Z_ : d0)="queues":=dk;have b:¬(at3 : d0)="queues":=dk;simp only[aJ,n1,a,b,if_false]
def Zj(F:aQ K Q_ "Tray.__init__" DJ f fd)(B:BT mg)(r:jY K C)(G:∃u,mg "NAMES"=a_ u/\dn (.int 12) u):aG P w K mg gW aF 1 f fd kn (P0 C):=by
 refine aD G λuN G rN=>F.ok aot λaH A _ s H vs Q E hr h=>?_
 refine lE h λx dx kd O R k=>?_;subst O
 refine let a:TS:=_;let d:TS:=_;⟨_,au (dY (pv 0) (pv 1) xz) (pR d (au (dY (pv 0) ar xz) (pR a (ax (dY (pv 0) (dZ (N:=[l_]) (idx:=[]) xz (cB.of<|by kernel_rfl) (eD<|bg _)
  (lu xz B.range<|aa (eW xz G rN) af) (λ_ _ _ _=>bo (i:=0) oe xz (aL xz)<|.inr xz) (λ_ _ _ _=>eP) λ_ _ _ _=>eX af) xz))))),?_⟩
 refine vr xz<|vr xz<|jT x C _ _ xz R r.cl r.kind qc<|az _ xz<|⟨x,C,dx,(iQ _ xz ao r.cl r.turn (amA _ _) ?_)⟩;rw[nR];refine⟨12,xz,qc,qc,?_⟩;generalize I:dc H x _=H1;have J:H1 x=a_ (.ins C dx<|aJ at3 (.int 0)<|aJ Z_ (.str kd) []):=by rw[<-I];exact ao
 have n1:∀b,H1 b=b_->H b=none:=λb e=>by
  rw[<-I]at e
  by_cases z:b=x
  .rw[z,ao]at e;cases e
  rwa[aj z]at e
 refine dX (n:=12) (λi ys H'=>∃qr:List _,ys=qr.map V.ref/\qr.length=i/\qr.Nodup/\(∀b∈qr,H' b=a_ (.lst [])/\H1 b=b_)/\ae _ H') qc ⟨[],xz,xz,.nil,(λb g=>by cases g),ae.refl _⟩ ?_ ?_ ?_ ?_ ?_
 .rintro i ys H' ⟨qr,rfl,t,_⟩;rw[aA,t];exact aw _
 .rintro i ys H' hi _;exact hi
 .rintro ys H' _;exact aw _
 .rintro i ys H' hi ⟨qr,rfl,t,nd,j,l⟩ y dQ ⟨S,ey⟩;subst S;dsimp only[g8,je];rw[eT rfl];refine⟨qc,λp D=>⟨qr++[p],by simp,by simp[t],?_,λb g=>?_,ay l D⟩⟩
  .refine JV.mpr (fY nd (by simp) λb g c T=>?_);rw[da.mp T];exact bh (j b g).1 D
  obtain z|z:=iC.mp g
  .exact⟨by rw[aj<|bh (j b z).1 D];exact(j b z).1,(j b z).2⟩
  rw[da.mp z];refine⟨ao,?_⟩;rcases e:H1 p with _|o;rfl;rw[l _ _ e]at D;cases D
 rintro ys H' ⟨qr,rfl,t,nd,j,l⟩;refine⟨by rw[aA,t];decide,λq v=>?_⟩;have nx:=bh (l _ _ J) v;refine vr xz<|⟨x,C,dx,(iQ _ xz (by rw[aj nx];exact l _ _ J) r.cl r.sj (amz _ _ _ _) ?_)⟩;have wm:q∉qr:=λz=>by rw[(j q z).1]at v;cases v
 have U:x∉qr:=λz=>by have:=(j x z).2;rw[J]at this;cases this
 refine k _ q _ ⟨⟨dx,_,ao,?_,?_,?_,?_,?_⟩,by rw[aj<|iT nx,ao],t,nd,wm,λi b g=>⟨[],?_,by rw[ah5];exact .nil⟩,⟨.nil,(λe L=>by cases L),(λe L=>by cases L)⟩⟩ (λb o g e=>?_) λb g=>?_
 .rw[dw,eN dk,dw,eN dk,dw,eT rfl]
 .rw[dw,eN dk,dw,eT rfl]
 .rw[dw,eT rfl]
 .refine λm hm=>gY (WR m hm) λW X Y=>?_;rw[dw,eN Y,dw,eN X,dw,eN W];rfl
 .rw[qP];show 3<=20;decide
 .have hm:=a8 g;have Z:b≠x:=λz=>U<|z ▸ hm;have nbq:b≠q:=λz=>wm<|z ▸ hm;rw[aj Z,aj nbq];exact(j b hm).1
 .have e1:H1 b=a_ o:=by rw[<-I,aj g];exact e
  have M:=l _ _ e1;rw[aj g,aj<|bh M v];exact M
 refine n1 b ?_;obtain z|z:=bK.mp g
 .subst z;rcases e:H1 b with _|o;rfl;rw[l _ _ e]at v;cases v
 exact(j b z).2
def Hq(F:List e_)(H H':Hp):Prop:=∀b o,b∉F->H b=a_ o->H' b=a_ o
def akl(h:n<=20000):n<bc:=by rw[gf];exact wb
def Nk(es:List hO)(i:Nat):(bH es i).length<=es.length:=o7 _ _
theorem KU{c d:Type}{F:c->d->Prop}{a:c}{b:d}{l:List c}{r:List d}(h:bw F l r)(k:F a b):bw F (l++[a]) (r++[b]):=by
 induction h with
 |nil=>exact .cons k .nil
 |cons g _ i=>exact .cons g i
def dS.aah{tn:Int}(T:dS H a C kd tn es q qr){n:Int}(c:0<=n)(h1:n<12):∃i:Nat,n=i/\i<12/\∃b,qr[i]?=a_ b/\iI (qr.map V.ref) n=a_ (.ref b):=by
 have d:=T.len;obtain⟨i,rfl⟩:∃i:Nat,n=i:=⟨n.toNat,xm⟩;have hi:i<qr.length:=li;refine eC i xz li<|az _ (aI hi)<|cI ?_;rw[cF,aI _];rfl
theorem YB(fs:List (d0×V))(u:V)(e:fs.lookup f=a_ v):(aJ f u fs).length=fs.length:=by
 induction fs with
 |nil=>cases e
 |cons g r i=>
  by_cases h:g.1=f
  .simp only[aJ,eT h,eI]
  simp only[aJ,eN h,eI];rw[i];have a:(f==g.1)=false:=by simpa using λz=>h z.gx
  rw[rJ,a]at e;exact e
def Zd(C:e_):Sp:=λvs H Q _=>∃a n num d kd tn es q qr,vs=[.ref a,.int n,.int num,.int d]/\dS H a C kd tn es q qr/\0<=n/\n<12/\es.length<=20000/\
 ∀H',dS H' a C kd (tn+1) (es++[⟨tn,n,num,d⟩]) q qr->Hq (a::q::qr) H H'->Q .aO H'
def ajz:aX kR kR (aM OQ):=aZ
def aii(F:aQ K U_ "Tray.add" OQ f fd)(r:jY K C):aG P w K mg gW aF 1 f fd kR (Zd C):=by
 refine F.ok ajz λaH A _ s H vs Q E hr h=>?_
 refine lD h λa n num d kd u=>CL u λtn es q qr u G=>?_;subst u;obtain⟨T,M,h1,hz,k⟩:=G;refine⟨_,au (eE<|kG m_ n_ o_ mY (aU bX (a0 (pv 0) xz)<|pv 1)<|aa (dR<|aa (a0 (pv 0) xz)<|aa (dR<|aa (pv 1)<|aa (pv 2)<|aa (pv 3) af) af) af)<|ax<|aeB (pv 0) ar akq,eJ (id T.obj) λdx fs g X I N Y el=>a9 (T.aah M h1) λi u hi G=>?_⟩;subst u;refine aD G λb x Z=>aD (T.jK i b x) λvs t O=>?_;have R:=a8 x;have lv:=r_ O;have lq:=Nk es i;refine vF xz g r.cl r.sj N<|vr xz<|rL (ag.of T.qs) (Z) ⟨.inl ⟨xz,_,ag.of t⟩,vF xz g r.cl r.turn I<|az _ xz<|vr xz<|vr xz ⟨(sl (n:=3)),(λst cZ=>⟨(sl (n:=2)),λp S=>?_⟩)⟩⟩;have B:∀c o,H c=a_ o->c≠st:=λc o e=>bh e cZ;have J:=λc o e=>bh (by rw[aj<|B c o e];exact e) S;have up:∀c o,H c=a_ o->dc (dc H st<|.tup [.int (i:Int),.int num,.int d]) p (.tup [.int tn,.ref st]) c=a_ o:=λc o e=>by rw[aj<|J c o e,aj<|B c o e];exact e
 have L:=iU g t (by intro z;cases z);have Rr:q≠b:=λz=>T.nq<|z ▸ R;refine⟨b,vs,(.ref p),xz,xz,(up _ _ t),(akl li),(az _ xz<|dN a C dx _<|iQ _ xz ((aj L)▸up _ _ g) r.cl r.turn I ⟨_,_,xz,xz,dx,fs,by rw[aj L];exact up _ _ g,wb,?_⟩)⟩;have pb:=iT<|J b _ t;have pa:=iT<|J a _ g;have sb:=iT<|B b _ t;have sa:=iT<|B a _ g;generalize v:dc _ a _=H2;have D:∀c o,c≠a->c≠b->H c=a_ o->H2 c=a_ o:=λc o z1 z2 e=>by rw[<-v,aj z1,aj z2];exact up c o e
 have ga:H2 a=a_ (.ins C dx<|aJ at3 (.int<|tn+1) fs):=by rw[<-v];exact ao
 have gb:H2 b=a_ (.lst<|vs++[.ref p]):=by rw[<-v,aj<|iT L];exact ao
 have gp:H2 p=a_ (.tup [.int tn,.ref st]):=by rw[<-v,aj pa,aj pb];exact ao
 have gs:H2 st=a_ (.tup [.int i,.int num,.int d]):=by rw[<-v,aj sa,aj sb,aj<|bh ao S];exact ao
 have U:∀c xs,H c=a_ _->H2 c=a_ (.tup xs):=λc xs e=>D c _ (iU e g<|by intro z;cases z) (iU e t<|by intro z;cases z) e;refine k _ ⟨⟨dx,_,ga,?_,?_,?_,λm hm=>?_,?_⟩,D q _ (iU T.qs g<|by intro z;cases z) Rr T.qs,T.len,T.nd,T.nq,λj c l=>?_,ajl T.wf M h1⟩ λc o l e=>D c o (λz=>l<|by simp[z]) (λz=>l<|by simp[z,R]) e
 .rw[dw,eN dk];exact X
 .rw[dw,eT rfl]
 .rw[dw,eN dk];exact N
 .rw[dw,eN (WR m hm).2.1];exact Y m hm
 .have:=YB _ (.int<|tn+1) I;exact w7
 rw[Xf]
 by_cases z:j=i
 .subst z;rw[x]at l;cases l;rw[eT rfl];exact az _ gb<|KU (se (λ_ _ y=>y.keep (F:=[]) U) O) ⟨p,st,xz,gp,gs⟩
 rw[eN λy=>z (by have:i=(j:Int):=y;lia)]
 have Ru:c≠b:=λy=>z (by
  subst y;have n2:=b0.mp x;refine oE (b0.mp l) λp1 V=>oE n2 λp2 W=>?_;obtain y|y|y:=tN j i
  .exact f' (V.gw W.gx) (jR.mp T.nd j i _ _ y)
  .exact y
  exact f' (W.gw V.gx) (jR.mp T.nd i j _ _ y))
 refine (T.jK j c l).keep (λo e=>D c o (λy=>aD (T.jK j c l) λjM e' _=>?_) Ru e) U;rw[y,g]at e';cases e'
def adN{b a:Type}{F:b->a->Prop}{r:List a}(h:bw F [] r):r=[]:=by cases h;rfl
theorem Ug{vs:List V}{l:List hO}(h:bw (jH H) vs l)(n:vs≠[]):∃c v e,vs=c++[v]/\l.getLast?=a_ e/\jH H v e:=by
 induction h with
 |nil=>exact f' xz n
 |cons g t i=>
  rcases t with _|⟨h,t⟩;exact⟨[],_,_,xz,xz,g⟩;exact lE (i<|by simp) λc d e' f i j=>⟨(_::c),d,e',(by rw[f];rfl),(by rw[List.getLast?_cons_cons];exact i),j⟩
def V1(C:e_):Sp:=λvs H Q _=>∃a n kd tn es q qr,vs=[.ref a,.int n]/\dS H a C kd tn es q qr/\0<=n/\n<12/\es.length<=20000/\
 (Cw es n.toNat=b_->Q .aO H)/\∀e st,Cw es n.toNat=a_ e->H st=a_ (.tup [.int e.n,.int e.num,.int e.d])->Q (.ref st) H
def Vj:aX [Y_,l_,"queue"] im (aM L6):=aZ
def adR(F:aQ K "latest" "Tray.latest" L6 f fd)(B:BT mg)(j:jY K C):aG P w K mg gW aF 1 f fd im (V1 C):=by
 refine F.ok Vj λaH A _ s H vs Q E L h=>?_
 refine lD h λa n kd tn es c=>og c λq qr c T o d=>?_;subst c;obtain⟨h1,M,k0,k⟩:=d;refine⟨_,au (bG (i:=2) Vj.nd xz (aL xz)<|aU bX (a0 (pv 0) xz)<|pv 1)<|ax<|aR<|FX (cb dM (bC ft xz B.len q_<|aa (pv 2) af) ar<|bR _) oa<|aU dh (aU bX (pv 2)<|Zh XZ ar) ar,eJ (id T.obj) λdx fs r N O t R S=>a9 (T.aah o h1) λi c hi d=>?_⟩;subst c;refine aD d λb u x=>?_;rw[fH]at k0 k;refine aD (T.jK i b u) λvs l m=>vF xz r j.cl j.sj t<|vr xz<|rL (ag.of T.qs) (x)<|vr xz ⟨b,⟨_,xz,.inl<|ag.of l,xz,_,xz,bj (λz=>?_) λz=>?_⟩⟩
 .have g:vs=[]:=by
   injection z with z
   exact tL.mp li
  subst g;refine k0 ?_;unfold Cw;rw[adN m];rfl
 have g:vs≠[]:=λy=>z (by rw[y];rfl);refine lE (Ug m g) λU v e D G c=>fh c λp st c I J=>?_;subst c;subst D;refine vr xz<|az _ xz<|rL (ag.of l) (WM _ _)<|rT (aq.of I) (xz)<|k e _ G J
def MW(C:e_):Sp:=λvs H Q _=>∃a kd tn es q qr,vs=[.ref a]/\dS H a C kd tn es q qr/\∀H',ae H H'->Q (.bl<|decide<|es=[]) H'
def afK:aX hF hF (aM M6):=aZ
def Wt:(["queue"]:List d0).Nodup:=dk
def aei{tn:Int}(w:oH tn es)(h:∀i,i<12->bH es i=[]):es=[]:=by
 rcases es with _|⟨e,r⟩;rfl;refine oA (w.nm e bV) λa h1=>?_;have:=h e.n.toNat li;unfold bH at this;rw[rK,eT (by simp;lia)]at this;cases this
def all_empty{tn:Int}(w:oH tn es):((List.range 12).map λi=>decide<|bH es i=[]).all id=decide (es=[]):=by
 by_cases h:es=[]
 .subst h;rfl
 rw[fT h,zO];cases e:(List.range 12).all (id ∘ λi=>decide<|bH es i=[])with
 | false=>rfl
 | true=>
  exfalso;exact h (aei w λi hi=>by simpa using kZ.mp e i (mU.mpr hi))
def aeL(F:aQ K "is_empty" "Tray.is_empty" M6 f fd)(B:BT mg)(c:jY K C):aG P w K mg gW aF 1 f fd hF (MW C):=by
 refine F.ok afK λaH A _ s H vs Q E x h=>?_
 refine lD h λa kd tn es q b=>a9 b λqr b T k=>?_;subst b
 refine⟨_,ax (aR (bC (Ab xz) xz B.all Cj (aa (dZ (N:=["queue"]) (idx:=[]) xz (cB.of<|by kernel_rfl) (eD<|bg _) (lA<|a0 (pv 0) xz)
  (λ_ _ _ _=>bo (i:=0) Wt xz (aL xz)<|.inr xz) (λ_ _ _ _=>eP) λ_ _ _ _=>nU dM (bC (len_K K) xz B.len q_<|aa (pv 0) af) ar<|bR _) af))),?_⟩
 refine eJ (id T.obj) λdx fs g D G l I J=>az _ xz<|dN a C _ _<|iQ _ xz g c.cl c.sj l<|eC q xz ⟨_,ag.of T.qs⟩ ?_;have m:=T.len;refine dX (n:=12) (λi ys H'=>H'=H/\ys=(List.range i).map λj=>V.bl<|decide<|bH es j=[]) qc ⟨xz,xz⟩ ?_ ?_ ?_ ?_ ?_
 .rintro i ys H' ⟨_,rfl⟩;rw[aA,qi];exact aw _
 .rintro i ys H' hi ⟨rfl,_⟩;exact gU _ _ (ag.of T.qs) (by rw[cF,aI wg];rfl)
 .rintro ys H' ⟨rfl,_⟩;exact az _ (ag.of T.qs) (by rw[aA,m];exact aw _)
 .rintro i ys H' hi ⟨rfl,rfl⟩ y L ⟨o,r⟩;subst o;have d:=r _<|ag.of T.qs;rw[cF,aI wg]at d;cases d;refine aD (T.jK i _<|aI wg) λvs t u=>?_;dsimp only[g8,je];rw[eT rfl];refine vr xz ⟨_,⟨_,xz,.inl<|ag.of t,xz,xz,?_⟩⟩;rw[pf,dC]
  congr 1
  have e:=r_ u;simp only[eV,Um,r6.injEq,V.bl.injEq,and_true];refine decide_eq_decide.mpr ⟨λz=>?_,λz=>?_⟩
  .injection z with z
   exact tL.mp li
  rw[z]at e;rw[e];rfl
 rintro ys H' ⟨rfl,rfl⟩;refine⟨by rw[aA,qi];decide,λp v=>eA p ((List.range 12).map λj=>decide<|bH es j=[]) xz (ag.of<|by rw[ao,i7];rfl) ?_⟩;rw[all_empty T.wf];exact k _<|ay (ae.refl _) v
def vL(es:List hO)(i:Nat):List Int:=((List.range i).filter λj=>decide<|bH es j≠[]).map λ(j:Nat)=>(j:Int)
def Uz(es:List hO)(i:Nat):vL es (i+1)=vL es i++(if bH es i≠[] then [(i:Int)] else []):=by
 unfold vL;rw[pf,xq,dC]
 congr 1
 by_cases h:bH es i≠[]
 .rw[eT h,EX (by simpa using h)];rfl
 rw[eN h,EY (by simpa using h)];rfl
def U8(es:List hO)(i:Nat):(vL es i).length<=i:=by
 unfold vL;rw[aA];have h:=o7 (λj=>decide<|bH es j≠[])<|List.range i;rw[qi]at h;exact h
def wy(es:List hO)(n:Int):Int:=((bH es n.toNat).head?.map (·.t)).getD 0
def Kt(w:oH tn es)(h:es.head?=a_ e):e.n∈lZ es:=by
 have hm:e∈es:=by
  rcases es with _|⟨x,r⟩;cases h;cases h;exact bV
 refine oA (w.nm e hm) λa h1=>xJ.mpr (eC _ li xm λz=>?_);have:=Wx h xm;rw[z]at this;cases this
def ahY(w:oH tn es)(hm:m∈lZ es)(c:∀n∈lZ es,wy es m<=wy es n):(es.head?.map (·.n)).toList=[m]:=by
 refine a9 (xJ.mp hm) λi hi d a=>?_;subst d;rcases es with _|⟨e,r⟩;exact f' xz a
 have h1:=c _<|Kt w xz;refine oA (w.nm e bV) λk n1=>?_
 have f:wy (e::r) e.n=e.t:=by
  unfold wy;rw[Wx (i:=e.n.toNat) (e:=e) xz xm];rfl
 cases q:bH (e::r) i with
 | nil=>exact f' q a
 | cons x l=>
  have g:wy (e::r) (i:Int)=x.t:=by
   unfold wy;rw[fH,q];rfl
  have b:x∈bH (e::r) i:=by rw[q];exact bV
  unfold bH at b;refine oA (jB.mp b) λh j=>?_;have hn:x.n=i:=by simpa using j
  obtain z|z:=bK.mp h
  .show [e.n]=[(i:Int)];rw[<-z,hn]
  .have:=(abT.mp w.asc).1 x z;rw[f,g]at h1;lia
def ahZ(w:oH tn es)(h:¬1<(lZ es).length):(es.head?.map (·.n)).toList=lZ es:=by
 rcases es with _|⟨e,r⟩;rfl
 have hm:=Kt w xz
 match q:lZ (e::r)with
 | []=>rw[q]at hm;cases hm
 | [x]=>
  rw[q]at hm;rw[<-da.mp hm];rfl
 | _::_::_=>
  rw[q]at h;simp at h
noncomputable abbrev LP:Pos:=⟨187,35,187,71⟩
noncomputable abbrev LQ:d0:=("Tray.fronts":d0)++".<locals>."++"<lambda>"
def LU(C PT:e_):Sp:=λvs H Q _=>∃a kd tn es q qr,vs=[.ref a]/\dS H a C kd tn es q qr/\b9 PT LP LQ H/\
 ∀H' l,hG [] H H'->b9 PT LP LQ H'->H l=b_->H' l=a_ (.lst<|(ja kd es).map V.int)->Q (.ref l) H'
def Vk:aX [Y_,au0] hF (aM FT):=aZ
def Zo:([l_,"queue"]:List d0).Nodup:=dk
def PZ(h:V.str x=V.str y):x=y:=by injection h
def adI{PT:e_}(s:ae H H1)(t:vW PT H1 H2)(a:H1 PT=a_ (.fA ps))(b:H2 PT=a_ (.fA yW)):hG [] H H2:=(hG.of s).gw<|hG.DQ t a b
def UM{f C PT c:e_}(F:wc K "fronts" "Tray.fronts" FT f fd c)(B:BT mg)(u:jY K C)(hC:W.CodeHd gW c PT)(hB:uv mg gW):aG P w K mg gW aF 2 f fd hF (LU C PT):=by
 refine F.ok Vk λA outer s H vs Q E hr h=>?_
 refine lD h λa kd tn es q t=>cc t λqr t T yx k=>?_;subst t;have hrm:=hr.dp
 refine let d:TS:=_;let g:TS:=_;⟨_,au (BQ (i:=1) (N:=[l_,"queue"]) (idx:=[]) Vk.nd xz xz xz (cB.of<|by kernel_rfl) (zU (bg _)<|bg _) (qm (b:=c_) xz B.enum<|aa (a0 (pv 0) xz) af)
   (λ_ _ _ _=>lX xz<|ff (bo (i:=0) Zo xz (aL xz)<|.inr xz)<|ff (bo (i:=1) Zo xz (aL xz)<|.inr xz) lV)
   (λ_ _ _ _=>vy<|cb Hf (bC (len_K K) xz B.len q_<|aa (pv 1) af) ar<|bR _) λ_ _ _ _=>pv 0)
  (pR g (au (bz (PW.pt<|pw_and (cb dM (a0 (pv 0) xz) cq<|bR _)<|pw_and1<|cb Hf (bC ft xz B.len q_<|aa (pv 1) af) ar<|bR _) (pR d (ax (aR (eX (aa (aeE (N:=[Y_,l_]) (idx:=[0]) (k:=1) (px:=l_) (P:=PT) xz (by show A.depth+1+5<_;have h1:A.depth+1+3*1+5<Fh:=hrm;lia) xz B.min (pv 1) (cB.of<|by kernel_rfl) xz hC hB xz xz qc
    (λ_ _ _ _ _ _=>aU (ZC K) (aU (C7 K) (aU (C7 K) (ZE K (pv 0) xz)<|pv 1) ar) ar) λ_ _ _ _ _ _=>rfl) af))))) bQ)
  (ax<|aR<|pv 1))),?_⟩
 refine eJ (id T.obj) λdx fs ea e1 e2 e3 em el=>?_;have hl:=T.len;refine vF xz ea u.cl u.sj e3 ⟨q,⟨_,xz,ag.of T.qs,dX (n:=12) (λi ys H'=>ae H H'/\ys=(vL es i).map V.int) qc ⟨ae.refl _,xz⟩ ?_ ?_ ?_ ?_ ?_⟩⟩
 .rintro i ys H' ⟨_,rfl⟩;rw[aA];exact U8 _ i
 .rintro i ys H' hi ⟨j,_⟩;exact gU _ _ (ag.of<|j _ _ T.qs) (by rw[cF,aI wg];rfl)
 .rintro ys H' ⟨j,_⟩;exact az _ (ag.of<|j _ _ T.qs) (by rw[aA,hl];exact aw _)
 .rintro i ys H' hi ⟨j,rfl⟩ y dQ ⟨p,x,hp,ey,eH,G⟩;subst ey;subst eH;have U:=G _<|ag.of<|j _ _ T.qs;rw[cF,aI wg]at U;cases U;refine aD (T.jK i _<|aI wg) λvs L I=>?_;have s2:ae H (dc _ p<|.tup [.int i,.ref qr[i]]):=ay j hp;have X:=r_ I;refine⟨p,⟨_,xz,aq.of ao,xz,_,_,xz,_,_,xz,xz,vr xz ⟨_,⟨_,xz,.inl<|ag.of<|s2 _ _ L,_,_,xz,xz,_,xz,bj (λz=>?_) λz=>?_⟩⟩⟩⟩
  .refine vr xz ⟨s2,?_⟩;rw[Uz,eT (λy=>by rw[y]at X;rw[X]at z;exact f' z<|by simp),dC];rfl
  refine⟨s2,?_⟩;rw[Uz,eN λy=>y<|tL.mp li,nK]
 rintro ys H' ⟨j,rfl⟩;have wl:=U8 es 12;refine⟨by rw[aA];exact bL<|bq w4,λl1 M=>?_⟩;have s1:ae H (dc _ _<|.lst<|(vL es 12).map V.int):=ay j M;generalize zr:dc _ _ _=H1 at s1;have v:H1 l1=a_ (.lst<|(lZ es).map V.int):=by rw[<-zr];exact ao
 have Y:H l1=none:=by
  rcases e:H l1 with _|o;rfl;rw[j _ _ e]at M;cases M
 have J:=iD yx s1;have Z:=T.pE<|hG.of s1;refine eJ (id Z.obj) λkz ko ES f1 f2 f3 _ _=>?_;refine az _ xz<|dN a C _ _<|⟨_,xz,ES,u.cl,u.kind,f1,xz,(az _ xz ?_)⟩
 by_cases D:kd = L_
 .rw[fC (show V.str kd=V.str L_ by rw[D])];refine j'<|vr xz ⟨l1,⟨_,xz,.inl<|ag.of v,_,_,xz,xz,_,xz,bj (λz=>?_) λz=>?_⟩⟩
  .rw[aA]at z;refine az _ xz<|⟨l1,(lZ _),(wy es),xz,(ag.of v),li,J,(λH2 sp O=>aD (id J) λps hPT _=>aD (id O) λyW aa1 _=>?_)⟩;have kp:=hG.DQ sp hPT aa1;have R:=Z.pE kp;refine fY (ag.of<|kp.k _ _ (by simp) (λps z=>by cases z) v) (λm hm=>?_) λm hm hb=>?_
   .refine a9 (xJ.mp hm) λi hi t iy=>?_;subst t;refine eJ (id R.obj) λky mP ea2 g1 g2 g3 _ _=>aD (R.jK i _<|aI wg) λvs L I=>?_;rcases S:bH es i with _|⟨x,r⟩;exact f' S iy
    rw[S]at I;cases I with
    | cons G wR=>
     refine fh G λp st t q1 q2=>?_;clear G;subst t;refine vF xz ea2 u.cl u.sj g3<|vr xz<|rL (ag.of R.qs) ((cI<|by rw[cF,aI _];rfl))<|Q6 L xz<|rT (aq.of q1) (cI xz) ⟨?_,xz⟩;unfold wy;rw[fH,S];rfl
   refine⟨(sl (n:=1)),λl hn=>k _ l ((adI s1 sp hPT aa1).gw<|hG.of<|ay (ae.refl _) hn) (iD O<|ay (ae.refl _) hn) ?_ ?_⟩
   .rcases e:H l with _|o;rfl
    by_cases zp:l=PT
    .refine aD O λps2 h2 _=>?_;rw[zp,h2]at hn;cases hn
    rw[sp _ _ zp<|s1 _ _ e]at hn;cases hn
   rw[ao];unfold ja;rw[eT D,ahY T.wf hm hb];rfl
  rw[aA]at z;refine vr xz<|k _ _ (hG.of s1) J Y ?_;rw[v];unfold ja;rw[eT D,ahZ T.wf li]
 rw[fT (show ¬V.str kd=V.str L_ from λz=>D<|PZ z)];refine eL<|eL<|vr xz<|k H1 l1 (hG.of s1) J Y ?_;rw[v];unfold ja;rw[eN D]
def aiU(n:Int)(ns:List Int):wz (.int n) (ns.map V.int)=decide (n∈ns):=by
 unfold wz
 induction ns with
 | nil=>rfl
 | cons m r ih=>
  rw[eV,vg,ih]
  by_cases h:m=n
  .subst h;simp[pZ]
  .have:pZ (.int m) (.int n)=false:=by simp[pZ,h]
   rw[this,Bool.false_or];exact decide_eq_decide.mpr ⟨cu _,λz=>(bK.mp z).resolve_left λy=>h y.gx⟩
def ae8(ns:List Int):(ns.map V.int).all sD=true:=by
 rw[zO];exact kZ.mpr λ_ _=>rfl
def VD(w:oH tn es)(h:n∈ja kd es):∃i:Nat,i<12/\n=i/\∃e r,bH es i=e::r:=by
 have hw:n∈lZ es:=by
  unfold ja at h
  by_cases a:kd = L_
  .rw[eT a]at h;rcases es with _|⟨e,r⟩;cases h
   have b:n=e.n:=by simpa using h
   rw[b];exact Kt w xz
  rw[eN a]at h;exact h
 refine a9 (xJ.mp hw) λi hi e c=>eC i hi e ?_;rcases q:bH es i with _|⟨x,r⟩;exact f' q c;exact⟨x,r,xz⟩
def X6(C PT:e_):Sp:=λvs H Q _=>∃a n kd tn es q qr,vs=[.ref a,.int n]/\dS H a C kd tn es q qr/\b9 PT LP LQ H/\n∈ja kd es/\
 ∀H' e st,(bH es n.toNat).head?=a_ e->dS H' a C kd tn (nj es n) q qr->hG (a::q::qr) H H'->b9 PT LP LQ H'->H' st=a_ (.tup [.int e.n,.int e.num,.int e.d])->Q (.ref st) H'
def ahI:aX im im (aM NO):=aZ
def af8{f fW V C PT c:e_}(F:aQ K "take" "Tray.take" NO f fd)(B:BT mg)(L:jY K C)(hC:W.CodeHd gW c PT)(hB:uv mg gW)(X:aQ K ac1 ac1 M0 fW sU)(bW:dL K sU ia [])(mW:mg ac1 = a_ (.ref fW))(FF:wc K "fronts" "Tray.fronts" FT V EL c)(bF:dL K EL hF [])(mF:Meth K C "fronts" V):aG P w K mg gW aF 3 f fd im (X6 C PT):=by
 have GW:aG P w K _ gW _ 1 _ _ _ VY:=aeH X B;have GF:aG P w K _ _ _ 2 _ _ _ _:=UM FF B L hC hB;refine F.ok ahI λaH A _ s H vs Q E Y h=>?_
 refine lD h λa n kd tn es u=>og u λq qr u T yx M=>?_;subst u;refine oA M λZ k1=>?_;clear M h
 refine let d:TS:=_;⟨_,au (bz (PW.pt (pw_or (g7<|dg<|lB GW (Y.mono qc) xz mW X.kp bW .nil cX<|aa (pv 1) af)
   (pw_or1<|cb Uh (pv 1) (FV (pv 0) L.cl mF GF Y bF .nil cX) xz))) vp bQ)
  (pR d<|ax<|aR<|aU dh (kG m_ PySem.F.slot_list_pop PySem.F.type_list_pop agx (aU bX (a0 (pv 0) xz)<|pv 1)<|aa ar af) ar),?_⟩
 refine eJ (id T.obj) λdx fs ea e1 e2 e3 em el=>vr xz<|eA _ _ xz xz<|az _ xz<|eL<|vr xz<|vM xz ea (em _ dk)<|⟨a,kd,tn,es,q,qr,xz,T,yx,(λN l kp AS hn hl=>⟨l,⟨_,xz,.inl<|ag.of hl,xz,ae8 _,_,xz,?_⟩⟩)⟩;rw[eT xz,aiU];refine Pn (λz=>f' Z<|gd z) λ_=>?_
 have g:=T.pE kp;refine a9 (VD T.wf Z) λi hi u M=>?_;subst u;refine yD M λe r O=>eJ (id g.obj) λkz ko R f1 f2 f3 fm fl=>?_;have asz:=g.len;have D:=aI wg;refine aD (g.jK i _ D) λvs x rb=>?_;have S:=a8 D;generalize qr[i]'wg=b at D x S;rw[O]at rb;cases rb with
 | cons hx wR=>
  refine fh hx λp st u I J=>?_;subst u
  rename_i jM
  refine az _ xz<|dN a C _ _<|iQ _ xz R L.cl L.sj f3<|vr xz<|rL (v:=.ref b) (ag.of g.qs) (cI<|by rw[cF,D];rfl) ⟨.inl ⟨xz,_,ag.of x⟩,⟨b,_,0,0,(.ref p),xz,xz,x,qc,qc,(by simp[LK]),xz,?_⟩⟩;have nsb:=iU J x (by intro z;cases z);refine rT (aq.of<|by rw[aj<|iU I x (by intro z;cases z)];exact I) (cI xz) ?_
  have ka:Hq (a::q::qr) N (dc N b<|.lst jM):=λc o m G=>by
   rw[aj λz=>m (by simp[z,S])];exact G
  have kt:∀c xs,N c=a_ (.tup xs)->dc N b (.lst jM) c=a_ (.tup xs):=λc xs G=>by rw[aj<|iU G x (by intro z;cases z)];exact G
  have Rr:q≠b:=λz=>g.nq<|z ▸ S
  refine k1 _ e st (by rw[fH,O];rfl) ⟨⟨kz,ko,by rw[aj<|iU R x (by intro z;cases z)];exact R,f1,f2,f3,fm,fl⟩,by rw[aj Rr];exact g.qs,g.len,g.nd,g.nq,λj c m=>?_,ahi g.wf _⟩
   ⟨λc o m ht G=>ka c o m<|kp.k c o (by simp) ht G,λc h=>kp.t c (by
    by_cases z:c=b
    .rw[z,ao]at h;cases h
    rwa[aj z]at h)⟩ (BS AS ka g.kinds) (by rw[aj nsb];exact J)
  rw[afR]
  by_cases U:j=i
  .subst U;rw[D]at m;cases m;rw[eT xz,O];exact az _ ao<|se (λ_ _ y=>y.keep (F:=[]) kt) wR
  rw[eN λy=>U (by have:i=(j:Int):=y;lia)]
  have Ru:c≠b:=λy=>U (by
   subst y;refine oE (b0.mp m) λp1 I=>oE (b0.mp D) λp2 J=>?_;obtain y|y|y:=tN j i
   .exact f' (I.gw J.gx) (jR.mp g.nd j i _ _ y)
   .exact y
   exact f' (J.gw I.gx) (jR.mp g.nd i j _ _ y))
  exact(g.jK j c m).keep (λo e=>by rw[aj Ru];exact e) kt
def VZ(C:e_):Sp:=λvs H Q _=>∃kd,vs=[.str kd]/\(kd = L_\/kd = l_\/kd = H_)/\∀H' x q qr,dS H' x C kd 0 [] q qr->Hq [] H H'->(∀b∈x::q::qr,H b=b_)->Q (.ref x) H'
def afJ:aX [Z_] [Z_] (aM M5):=aZ
theorem VG{e:hO}{f:Nat->List hO}:∀n:Nat,((∃k:Nat,k<n/\e.n=(k:Int))->ij ((List.range n).flatMap λ(i:Nat)=>if e.n=(i:Int) then e::f i else f i) (e::(List.range n).flatMap f))/\((¬∃k:Nat,k<n/\e.n=(k:Int))->((List.range n).flatMap λ(i:Nat)=>if e.n=(i:Int) then e::f i else f i)=(List.range n).flatMap f)
 | 0=>⟨λ⟨k,b,_⟩=>f' b<|zH _,λ_=>rfl⟩
 | n+1=>by
  refine oA (VG (e:=e) (f:=f) n) λm c=>?_;have d:∀g:Nat->List hO,(List.range<|n+1).flatMap g=(List.range n).flatMap g++g n:=λg=>by rw[pf,BE];simp
  rw[d,d];constructor
  .rintro⟨k,b,o⟩
   by_cases h:e.n=(n:Int)
   .have a:¬∃k:Nat,k<n/\e.n=(k:Int):=λ⟨j,p,l⟩=>li;rw[c a,eT h];exact aci
   rw[eN h];exact(m ⟨k,li,o⟩).append_right _
  intro a;rw[c λ⟨j,p,l⟩=>a ⟨j,li,l⟩,eN λh=>a ⟨n,w1,h⟩]
theorem Ut:∀{es:List hO},(∀e∈es,0<=e.n/\e.n<12)->ij ((List.range 12).flatMap<|bH es) es
 | [],_=>by
  have:(List.range 12).flatMap (bH [])=[]:=List.flatMap_eq_nil_iff.mpr λi _=>rfl;rw[this]
 | e::r,h=>by
  have a:(bH (e::r))=λi=>if e.n=((i:Nat):Int) then e::bH r i else bH r i:=by
   funext i
   unfold bH;rw[rK]
   by_cases z:e.n=(i:Int)
   .simp only[fC z,if_true,eT z]
   simp only[fT z,tM,if_false,eN z]
  refine oA (h e bV) λc h1=>?_;rw[a];exact((VG (e:=e) (f:=bH r) 12).1 ⟨e.n.toNat,li,xm⟩).gw ((Ut λx b=>h x<|cu _ b).cons e)
theorem Uu(qv:Nat->List V)(a:Nat->List hO):∀n:Nat,(∀i:Nat,i<n->bw (jH H) (qv i) (a i))->bw (jH H) ((List.range n).flatMap qv) ((List.range n).flatMap a)
 | 0,_=>.nil
 | n+1,h=>by
  have b:∀{e:Type}(g:Nat->List e),(List.range<|n+1).flatMap g=(List.range n).flatMap g++g n:=λg=>by rw[pf,BE];simp
  rw[b,b];exact paired_cat (Uu qv a n λi hi=>h i li)<|h n<|vc n
where
 paired_cat {H:Hp}:∀{l c:List V}{r d:List hO},bw (jH H) l r->bw (jH H) c d->bw (jH H) (l++c) (r++d)
 | _,_,_,_,.nil,h=>h
 | _,_,_,_,.cons g t,h=>.cons g<|paired_cat t h
theorem Vp{c d:Type}{F:c->d->Prop}{l:List c}{r:List d}(h:l.length=r.length)(k:∀(i:Nat)a b,l[i]?=a_ a->r[i]?=a_ b->F a b):bw F l r:=by
 induction l generalizing r with
 |nil=>cases tL.mp h.symm;exact .nil
 |cons a l i=>cases r with
  |nil=>cases h
  |cons b r=>exact .cons (k 0 a b xz xz) (i (by simpa using h) λi x y e f=>k (i+1) x y (by simpa using e)<|by simpa using f)
theorem KS{l:List V}{r:List hO}(g:bw (jH H) l r):∀q∈(l.zip r).map λz=>(z.2.t,z.1),∃e∈r,q.1=e.t/\jH H q.2 e:=by
 induction g with
 |nil=>intro q h;cases h
 |cons g _ i=>
  intro q h;rw[Tu,eV]at h;obtain z|z:=bK.mp h
  .rw[z];exact eC _ bV xz g
  .refine aD (i q z) λe' h1 h2=>?_;exact az e' (cu _ h1) h2
theorem zip_parts{l:List V}{r:List hO}(h:bw (jH H) l r):((l.zip r).map λz=>(z.2.t,z.1)).map (·.2)=l/\((l.zip r).map λz=>(z.2.t,z.1)).map (·.1)=r.map (·.t):=by
 induction h with
 |nil=>exact⟨xz,xz⟩
 |cons g t i=>refine oA i λh1 h2=>?_;rw[Tu,eV,eV,eV,h1,h2];exact⟨xz,xz⟩
def adg{H:Hp}{tn:Int}{es:List hO}{vs:List V}{qs:List (Int×V)}{L:List hO}(w:oH tn es)(d:ij L es)(r:bw (jH H) vs L)(f:ij qs ((vs.zip L).map λz=>(z.2.t,z.1)))(ha:qs.Pairwise λa b=>a.1<b.1):bw (jH H) (qs.map (·.2)) es:=by
 have g:qs.map (·.1)=es.map (·.t):=by
  refine W.ksm_same ?_ (JU.mpr<|ha.imp Int.le_of_lt)<|JU.mpr<|w.asc.imp Int.le_of_lt;have:=f.map (·.1);rw[(zip_parts r).2]at this;exact this.gw<|d.map _
 have p:qs.length=es.length:=by have:=gv KO g;simpa using this
 refine Vp (by rw[aA,p]) λi v e h k=>?_;rw[cF]at h;refine aD (uY.mp h) λq l c=>?_;subst c;refine a9 (KS r q<|f.mem_iff.mp<|a8 l) λe' s u x=>?_
 have y:q.1=e.t:=by
  have:(qs.map (·.1))[i]?=a_ q.1:=by rw[cF,l];rfl
  rw[g,cF,k]at this;exact(c8 this).gx
 have:e'=e:=by
  refine oE (kY<|d.mem_iff.mp s) λj c=>?_;refine oE c λm n=>oE (b0.mp k) λhi o=>?_;have A:es[j].t=es[i].t:=by rw[n,o,<-u,y]
  obtain z|z|z:=tN j i
  .have:=jR.mp w.asc j i m hi z;lia
  .subst z;rw[<-n,<-o]
  .have:=jR.mp w.asc i j hi m z;lia
 rw[<-this];exact x
def adl(w:oH tn es)(a:ij L es):(L.map (·.t)).Nodup:=by
 exact (a.map (·.t)).nodup_iff.mpr<|JU.mpr<|w.asc.imp Int.ne_of_lt
def aiS{x:d0}(h:x = L_\/x = l_\/x = H_):wz (.str x) [.str L_,.str l_,.str H_]=true:=by
 rcases h with rfl | rfl | rfl <;> decide +kernel
def aeK{f fI C a:e_}{fd gK:ik}(F:aQ K "tray_of" "tray_of" M5 f fd)(B:BT mg)(c:jY K C)(M:Mk K C fI)(FI:aQ K Q_ "Tray.__init__" DJ fI gK)(d:dL K gK kn [])(g:mg "Tray"=a_ (.ref C))(i:∃u,mg "NAMES"=a_ u/\dn (.int 12) u)(mK:mg "KINDS"=a_ (.ref a))(j:∀H:Hp,aq K H a [.str L_,.str l_,.str H_]):aG P w K mg gW aF 3 f fd [Z_] (VZ C):=by
 have l:aG P w K _ gW _ 1 _ _ _ _:=Zj FI B c i;refine F.ok afJ λaH A _ s H vs Q E m h=>?_
 refine a9 h λx n p k=>?_;subst n;refine⟨_,au (bz (PW.pt<|pw_or (g7<|dg<|bC iP xz B.ir iO<|aa (pv 0)<|aa (nW (v:=.ty _) xz B.str boot_str xz) af)<|pw_or1<|cb Uh (pv 0) (eW (v:=.ref _) xz mK xz) xz) vp bQ)<|ax<|aR<|pk M l m xz g d .nil cX<|aa (pv 0) af,vr xz<|dN _ _ _ _<|ip _ xz (pU xz) xz (pK (H:=H) (v:=.str x) xz qc)<|az _ xz<|eL<|vr xz ⟨a,⟨_,xz,.inr<|j H,xz,xz,_,xz,?_⟩⟩⟩;rw[eT xz,aiS p];refine eL (vr xz λo dx no r ne=>⟨o,dx,x,xz,ao,(λH' q qr t kp fr=>⟨xz,k _ o q _ t (λb u _ e=>kp b u (bh e no) ?_) λb y=>?_⟩)⟩)
 .rw[aj<|bh e no,aj<|bh e r];exact e
 obtain z|z:=bK.mp y
 .rw[z];exact no
 .have:=fr b z;have D:b≠o:=λe=>by rw[e,ao]at this;cases this
  rw[aj D]at this;have G:b≠dx:=λe=>by rw[e,ao]at this;cases this
  rw[aj G]at this;exact this
theorem WB{a:Type}{qv:Nat->List a}:∀n:Nat,(∀i,i<n->(qv i).length<=m)->((List.range n).flatMap qv).length<=n*m
 | 0,_=>by simp
 | n+1,h=>by
  rw[pf,BE,cQ];have h1:=WB n λi hi=>h i li;have h2:=h n<|vc n;simp only[zE,acn,nK];rw[Ul];lia
theorem zP{a b:Type}{F:a->b->Prop}{l:List a}{r:List b}{i:Nat}{x:a}(h:bw F l r)(e:l[i]?=a_ x):∃y,r[i]?=a_ y/\F x y:=by
 induction h generalizing i with
 |nil=>simp at e
 |cons h _ t=>cases i with
  |zero=>simp at e;subst e;exact⟨_,xz,h⟩
  |succ i=>exact aD (t (i:=i)<|by simpa using e) λy h1 h2=>az y (by simpa using h1) h2
def aoU(x y z:V):pP [x,y,z] b_ (a_ 2)=[x,y]:=rfl
def GZ(H:Hp)(v:V)(e:hO):Prop:=∃p,v=.ref p/\H p=a_ (.tup [.int e.n,.int e.num])
def V0(C:e_):Sp:=λvs H Q _=>∃a kd tn es q qr,vs=[.ref a]/\dS H a C kd tn es q qr/\es.length<64/\
 ∀H' l us,ae H H'->H l=b_->H' l=a_ (.lst us)->bw (GZ H') us es->Q (.ref l) H'
def Li:aX [Y_,"waiting","queue"] hF (aM L0):=aZ
def Zl:([at3,au4]:List d0).Nodup:=dk
def adQ(F:aQ K "listed" "Tray.listed" L0 f fd)(B:BT mg)(Y:jY K C):aG P w K mg gW aF 1 f fd hF (V0 C):=by
 refine F.ok Li λaH A _ s H vs Q E hr h=>?_
 obtain⟨a,kd,tn,es,q,qr,v,T,hz,k⟩:=h;subst v
 refine let g:TS:=_;let l:TS:=_;let u:TS:=_;⟨_,au (bG (i:=1) Li.nd xz (aL xz)<|eX af) (pR u (au (jV jA xz (lA<|a0 (pv 0) xz) (bo (i:=2) Li.nd xz<|aL xz)<|pR g<|ax<|eE<|kG m_ PySem.F.slot_list_extend PySem.F.type_list_extend Vx (pv 1)<|aa (pv 2) af) (pR l (ax (aR (dZ (N:=[at3,au4]) (idx:=[]) xz (cB.of<|by kernel_rfl) (zU (bg _)<|bg _) (lA<|bC ac5 xz B.sorted boot_sorted<|aa (pv 1) af)
   (λ_ _ _ _=>lX xz<|ff (bo (i:=0) Zl xz (aL xz)<|.inr xz)<|ff (bo (i:=1) Zl xz (aL xz)<|.inr xz) lV)
   (λ_ _ _ _=>eP) λ_ _ _ _=>FU (alL K) (pv 1) Nl<|Ct ar)))))),?_⟩
 refine eJ (id T.obj) λdx fs Z e1 e2 e3 em el=>?_;have hl:=T.len
 obtain⟨qv,M⟩:∃qv:Nat->List V,∀i(hi:i<qr.length),H qr[i]=a_ (.lst<|qv i)/\bw (jH H) (qv i) (bH es i):=by
  refine⟨λi=>match H (qr.getD i 0)with | some (.lst vs)=>vs | _=>[],λi hi=>?_⟩;refine aD (T.jK i _<|aI hi) λvs h1 h2=>?_;have eg:qr.getD i 0=qr[i]:=by simp[hi]
  dsimp only;rw[eg,h1];exact⟨xz,h2⟩
 refine⟨qc,λlw nw=>?_⟩;have s0:ae H (dc H _<|.lst []):=ay (ae.refl _) nw;have naw:=bh Z nw;have nqw:=bh T.qs nw;refine az _ xz<|dN a C dx _<|iQ _ xz ((aj naw)▸Z) Y.cl Y.sj e3 ⟨q,xz,⟨_,ag.of<|by rw[aj nqw];exact T.qs⟩,?_⟩;refine Mz (xs:=qr.map V.ref) (λi σ H'=>∃L,σ=[a_ (.ref a),a_<|.ref lw,L]/\ae H H'/\H' lw=a_ (.lst<|(List.range i).flatMap qv)) ⟨b_,xz,s0,by rw[ao];rfl⟩ ?_ ?_ ?_
 .rintro i σ H' _ ⟨L,rfl,D,_⟩;exact ag.of<|D _ _ T.qs
 .rintro i x σ H' hx ⟨L,rfl,D,hw⟩;rw[cF]at hx;refine aD (uY.mp hx) λb hb v=>?_;subst v;refine oE (b0.mp hb) λhi eb=>?_;refine oA (M i hi) λh1 h2=>?_;rw[eb]at h1;have lq:=r_ h2;have lq2:=Nk es i
  have fl:=WB (qv:=qv) (m:=64) i λj hj=>by
   have:=r_ (M j li).2;have:=Nk es j;lia
  refine vr xz ⟨.inl ⟨xz,_,ag.of hw⟩,⟨_,xz,lw,b,_,_,xz,xz,hw,D _ _ h1,?_,⟨_,xz,λc o e=>?_,?_⟩⟩⟩
  .rw[gf];lia
  .rw[aj<|bh e nw];exact D _ _ e
  rw[ao,pf,BE];simp
 rintro σ H' ⟨L,rfl,D,hw⟩;rw[aA,hl]at hw;have O:=Uu _ _ 12 λi hi=>(M i wg).2;have R:=Ut T.wf.nm;have ll:=R.length_eq;have lr:=r_ O;refine oA (zip_parts O) λz1 z2=>?_;have rp':=se (λ_ _ y=>y.keep (F:=[]) λb xs e=>D _ _ e) O;refine vr xz<|⟨lw,((((List.range 12).flatMap _).zip<|(List.range 12).flatMap<|bH _).map λz=>(z.2.t,z.1)),xz,(ag.of<|by rw[z1];exact hw),(by rw[aA,List.length_zip];omega),(λy S=>?_),(z2▸adl T.wf R),(λls qs hn hp ha=>?_)⟩
 .refine a9 (KS rp' y S) λe _ et v=>?_;refine fh v λp st ep h1 h2=>?_;exact gU p _ ep<|aq.of<|et▸h1
 have rs:=adg T.wf R rp' hp ha;have s1:ae _ (dc _ _<|.lst<|qs.map (·.2)):=ay (ae.refl _) hn;generalize zr:dc _ _ _=H1 at s1;have I:H1 ls=a_ (.lst<|qs.map (·.2)):=by rw[<-zr];exact ao
 have lqs:=r_ rs;refine eC _ xz ⟨_,ag.of I⟩ ?_;generalize hW:qs.map (·.2)=us at I rs lqs;refine dX (n:=es.length) (λi ys G=>ae H1 G/\bw (GZ G) ys (es.take i)) (by rw[gf];exact w5) ⟨ae.refl _,by rw[List.take_zero];exact .nil⟩ ?_ ?_ ?_ ?_ ?_
 .rintro i ys G ⟨_,r2⟩;rw[r_ r2,fJ];exact xl
 .rintro i ys G hi ⟨s2,_⟩;exact gU _ _ (ag.of<|s2 _ _ I)<|aI wg
 .rintro ys G ⟨s2,_⟩;exact az _ (ag.of<|s2 _ _ I) li
 .rintro i ys G hi ⟨s2,r2⟩ y H3 ⟨eH,S⟩;subst eH;have oN:=S _<|ag.of<|s2 _ _ I;refine aD (zP rs oN) λe he v=>?_;refine fh v λp st v h1 h2=>?_;subst v;have g1:=s2 _ _<|s1 _ _ h1;have g2:=s2 _ _<|s1 _ _ h2;refine⟨p,⟨_,xz,aq.of g1,xz,_,_,xz,_,_,xz,xz,?_⟩⟩;dsimp only[je];rw[eT rfl];refine vr xz<|az 2 xz ⟨st,⟨_,xz,aq.of g2,by show ¬(HT.cp 3 0 _=0/\HT.cp 3 3 _=3);decide,λr bE=>?_⟩⟩;have J:ae _ (dc _ r<|.tup<|pP [.int e.n,.int e.num,.int e.d] b_ (a_ 2)):=ay (ae.refl _) bE;refine⟨s2.gw J,?_⟩;rw[iN,he];refine KU (se (?_) r2)<|az r xz (by rw[ao,aoU]);rintro _ _⟨p,U,W⟩;exact⟨p,U,J _ _ W⟩
 rintro ys G ⟨s2,r2⟩;rw[ach]at r2;have ly:=r_ r2;refine⟨by rw[gf];lia,λlr X=>?_⟩;have J:ae _ (dc _ _<|.lst ys):=ay (ae.refl _) X;refine k _ _ _ (D.gw<|s1.gw<|s2.gw J) ?_ ao<|se (λ_ _⟨p,U,W⟩=>⟨p,U,J _ _ W⟩) r2;cases e:H lr with
 | none=>rfl
 | some o=>rw[s2 _ _<|s1 _ _<|D _ _ e]at X;cases X
end TL
namespace TL
open PySem.SeqAt L2 L3
def Ph(K:u_)(h:autoParam (X.K=K) am):jt X (.type "list") (λxs H Q=>∃p ys,xs=[.ref p]/\(ag K H p ys\/aq K H p ys)/\∀l,H l=b_->Q (.ref l) (dc H l<|.lst ys)):=by subst h;exact xB
def Vm(s:ae H0 H)(h:H0 r=b_):ae H0 (dc H r o):=λb u e=>by
 rw[aj<|bh e h];exact s b u e
theorem tV{fs:List (d0×V)}(h:fs.lookup f=a_ u):(aJ f v fs).length=fs.length:=YB fs v h
def Xq{fs:List (d0×V)}:(aJ x v fs).lookup x=a_ v:=by rw[dw,eT rfl]
def Ai{fs:List (d0×V)}(h:fs.lookup y=r)(n:y≠x):(aJ x v fs).lookup y=r:=by rw[dw,eN n];exact h
section
variable{P:k_}{w:j_}{K:u_}{mg:d0->Option f_}{gW:i_}
def WX(C:e_):Sp:=λvs H Q _=>∃a kd tn es q qr,vs=[.ref a]/\dS H a C kd tn es q qr/\∀H' x c d,dS H' x C kd tn es c d->ae H H'->(∀b∈x::c::d,H b=b_)->Q (.ref x) H'
def W7:aX [Y_,"other"] hF (aM NM):=aZ
def af7(F:aQ K "twin" "Tray.twin" NM f fd)(B:BT mg)(iz:mg "list"=b_)(r:jY K C)(M:Mk K C fI)(FI:aQ K Q_ "Tray.__init__" DJ fI gK)(bI:dL K gK kn [])(mT:mg "Tray"=a_ (.ref C))(mN:∃u,mg "NAMES"=a_ u/\dn (.int 12) u):aG P w K mg gW aF 3 f fd hF (WX C):=by
 have GI:aG P w K _ gW _ 1 _ _ _ _:=Zj FI B r mN;refine F.ok W7 λaH A _ s H vs Q E hr h=>?_
 obtain⟨a,kd,tn,es,q,qr,ab,T,k⟩:=h;subst ab
 refine let d:TS:=_;let g:TS:=_;⟨_,au (bG (i:=1) W7.nd xz (aL xz)<|pk M GI hr xz mT bI .nil cX<|aa (a0 (pv 0) xz) af) (pR g (au (dY (pv 1) (a0 (pv 0) xz) xz) (pR d (au (dY (pv 1) (dZ (N:=["queue"]) (idx:=[]) xz (cB.of<|by kernel_rfl) (eD<|bg _) (lA<|a0 (pv 0) xz) (λ_ _ _ _=>bo (i:=0) Wt xz (aL xz)<|.inr xz) (λ_ _ _ _=>eP) λ_ _ _ _=>fK (Ph K) xz iz tY<|aa (pv 0) af) xz)
  (ax<|aR<|pv 1))))),?_⟩
 refine eJ T.obj λdx fs ha hk ht hq Sb aaZ=>?_;refine vF xz ha r.cl r.kind hk λx kz nx fE ne=>⟨x,kz,kd,xz,ao,λX q1 qr1 T1 kp fr=>⟨xz,?_⟩⟩;have s1:ae H X:=λb o e=>kp b o (bh e nx) (by rw[aj<|bh e nx,aj<|bh e fE];exact e);refine eJ T1.obj λG O du k1 t1 qq1 ms1 asG=>?_;have nax:=bh ha nx;refine az _ xz<|dN a C _ _<|iQ _ xz (s1 _ _ ha) r.cl r.turn ht<|vr xz<|jT x C _ _ xz du r.cl r.turn wb ?_;have s2:ae H (dc _ x<|.ins C G<|aJ at3 (.int tn) O):=Vm s1 nx;have J:dc X x _ x=a_ (.ins C G<|aJ at3 (.int tn) O):=ao;have asF:=tV (v:=.int tn) t1;generalize dc _ x _=H2 at s2 J ⊢;have hlen:=T.len;have L:=s2 _ _ T.qs;refine az _ xz<|dN a C _ _<|iQ _ xz (s2 _ _ ha) r.cl r.sj hq<|eC q xz ⟨_,ag.of L⟩ ?_;refine dX (n:=qr.length) (λi ys H'=>i<=qr.length/\∃rs:List _,ys=rs.map V.ref/\rs.length=i/\ae H2 H'/\(∀j b,rs[j]?=a_ b->D1 H' b (bH es j))/\rs.Nodup/\∀b∈rs,H2 b=b_/\H' b≠b_) ?_ ?_ ?_ ?_ ?_ ?_ ?_
 .exact bL (bq w6)
 .exact⟨bg _,⟨[],xz,xz,ae.refl _,λj b z=>(by simp at z),List.nodup_nil,λb z=>by cases z⟩⟩
 .rintro i ys H' ⟨_,rs,rfl,rfl,_⟩;rw[aA];exact aw _
 .rintro i ys H' hi ⟨_,rs,_,_,t,_⟩;exact gU _ _ (ag.of<|t _ _ L)<|aI (by rw[aA];exact hi)
 .rintro ys H' ⟨_,rs,_,_,t,_⟩;exact az _ (ag.of<|t _ _ L) (by rw[aA];exact aw _)
 .rintro i ys H' hi ⟨_,rs,rfl,rfl,t,R,nd,D⟩ z dQ ⟨eH,cU⟩;subst eH;have Y:=cU _<|ag.of<|t _ _ L;rw[cF,aI hi]at Y;have ix:=(c8 Y).gx;subst ix;refine aD (T.jK _ _<|aI hi) λvs RK hv2=>?_;dsimp only[je,g8];rw[eT rfl];have Z:=s2.gw t;refine vr xz (eA _ _ xz (.inl<|ag.of<|Z _ _ RK) λl S=>?_);have y:=ay (o:=.lst vs) (ae.refl _) S;have kt:∀b xs,H b=a_ _->dc _ l _ b=a_ (.tup xs):=λb xs e=>y _ _<|Z _ _ e;refine⟨hi,⟨rs++[l],by rw[dC];rfl,by rw[cQ];rfl,t.gw y,λj b p=>?_,?_,λb p=>?_⟩⟩
  .by_cases hj:j<rs.length
   .rw[zA hj]at p;refine aD (R j b p) λus h1 h2=>?_;exact az _ (y _ _ h1)<|se (λ_ _ z=>z.keep (F:=[]) λb xs e=>y _ _ e) h2
   have ej:j=rs.length:=by
    have:=(b0.mp p).1;rw[cQ]at this;simp at this;lia
   subst ej;rw[BC<|aw _,Kx]at p;have eb:=c8 p;subst eb;exact az _ ao<|se (λ_ _ z=>z.keep (F:=[]) kt) hv2
  .rw[JV];refine fY nd (by simp) λb p c hc e=>?_;rw[da.mp hc]at e;rw[e]at p;exact(D l p).2 S
  obtain h|h:=iC.mp p
  .refine oA (D b h) λh1 h2=>?_;refine⟨h1,λz=>h2<|y.free z⟩
  rw[da.mp h];refine⟨t.free S,λz=>?_⟩;rw[ao]at z;cases z
 rintro ys H3 ⟨_,rs,rfl,gZ,t,R,nd,D⟩;refine⟨by rw[aA];exact bL<|bq li,λI U=>?_⟩;have y:=ay (o:=.lst<|rs.map V.ref) (ae.refl _) U;have hlq:dc H3 _ _ I=a_ (.lst<|rs.map V.ref):=ao;have W:=t.free U;have wm:I∉rs:=λz=>(D _ z).2 U;generalize dc _ _ _=H4 at y hlq ⊢;have s24:=t.gw y;have Eg:=s24 _ _ J;refine vr xz<|⟨x,C,G,(iQ _ xz Eg r.cl r.sj wd ?_)⟩;have nlx:I≠x:=λz=>by rw[z,J]at W;cases W
 have nrx:∀b∈rs,b≠x:=λb p z=>by have h:=(D b p).1;rw[z,J]at h;cases h
 have asE:=tV (v:=.ref I)<|Ai (x:=at3) (v:=.int tn) qq1 dk
 have IU:∀b xs,H4 b=a_ (.tup xs)->dc H4 x (.ins C G<|aJ "queues" (.ref I) (aJ at3 (.int tn) O)) b=a_ (.tup xs):=λb xs e=>by
  rw[aj (λz=>by rw[z,Eg]at e;cases e)];exact e
 refine vr xz (k _ x _ _ ⟨⟨G,_,ao,Ai (Ai k1 dk) dk,Ai Xq dk,Xq,λm hm=>?_,wu⟩,?_,wo,nd,wm,λi b p=>?_,T.wf⟩ ?_ λb p=>?_)
 .have h1:m ≠ "queues":=λz=>by subst z;exact f' hm dk
  have h2:m ≠ at3:=λz=>by subst z;exact f' hm dk
  exact Ai (Ai (ms1 m hm) h2) h1
 .rw[aj nlx];exact hlq
 .refine aD (R i b p) λus h1 h2=>?_;refine az us ?_<|se (λ_ _ z=>z.keep (F:=[]) λb xs e=>IU _ _<|y _ _ e) h2;rw[aj<|nrx b<|a8 p];exact y _ _ h1
 .exact Vm (s2.gw s24) nx
 obtain z|z:=bK.mp p
 .rw[z];exact nx
 obtain z|z:=bK.mp z
 .rw[z];exact s2.free W
 exact s2.free (D b z).1
end
end TL
namespace L2
open PySem.W
def nF(xs:Array Nat):Prop:=xs.toList.Pairwise (· < ·)
def GV(h:nF xs)(a:i<k)(b:k<xs.size):xs[i]<xs[k]:=by
 have:=jR.mp h i k (by simpa using Ky a b) (by simpa using b) a;simpa using this
theorem ML(h:nF xs)(j:Nat):∀f lo hi,lo<=hi->hi<=xs.size->hi-lo<=f->(∀i(_:i<xs.size),i<lo->xs[i]<j)->(∀i(_:i<xs.size),hi<=i->j<=xs[i])->JT xs j f lo hi<=xs.size/\(∀i(_:i<xs.size),i<JT xs j f lo hi->xs[i]<j)/\∀i(_:i<xs.size),JT xs j f lo hi<=i->j<=xs[i]:=by
 intro f;induction f with
 |zero=>
  intro lo hi h1 h2 h3 a b
  have:lo=hi:=li;subst this;exact fY h2 a b
 |succ f ih=>
  intro lo hi h1 h2 h3 a b
  unfold JT
  by_cases d:lo<hi
  .rw[eT d];have hm:(lo+hi)/2<hi:=li;have l:lo<=(lo+hi)/2:=li;have e:=wh;have m:xs.getD ((lo+hi)/2) j=xs[(lo+hi)/2]:=by simp[xH,e]
   dsimp only;rw[m]
   by_cases c:xs[(lo+hi)/2]<j
   .rw[eT c];refine ih _ _ xf h2 om (λi g n=>?_) b
    by_cases z:i=(lo+hi)/2
    .subst z;exact c
    exact Ky (GV h li e) c
   rw[eN c];refine ih _ _ l w3 om a λi g n=>?_
   by_cases z:i=(lo+hi)/2
   .subst z;omega
   .have:=GV h (i:=(lo+hi)/2) (k:=i) li g;omega
  rw[eN d];have:lo=hi:=li;subst this;exact fY h2 a b
def K'(h:nF xs)(j:Nat):gc xs j<=xs.size/\(∀i(_:i<xs.size),i<gc xs j->xs[i]<j)/\∀i(_:i<xs.size),gc xs j<=i->j<=xs[i]:=
 ML h j xs.size 0 xs.size (bg _) (aw _) (aw _) (λ_ _ z=>f' z<|zH _) λi hi z=>f' hi<|Nat.not_lt.mpr z
def U3(h:nF xs)(hi:i<xs.size):gc xs (xs[i]+1)=i+1:=by
 refine gY (K' h<|xs[i]+1) λh1 h2 h3=>?_;rcases tN (gc xs<|xs[i]+1) (i+1)with z | z | z
 .have:=h3 i hi li;lia
 .exact z
 have c:=wh;have a:=h2 _ c z;have b:=GV h (i:=i) (k:=i+1) w1 c;omega
def U2(h:nF xs):gc xs 0=0:=by
 refine gY (K' h 0) λh1 h2 h3=>?_;rcases Nat.eq_zero_or_pos (gc _ 0)with z | z
 .exact z
 .have:=h2 0 wh z;lia
def ad'(h:nF xs)(hn:xs[gc xs j]? ≠ a_ j):nF (bM.insertAt xs (gc xs j) j):=by
 refine gY (K' h j) λh1 h2 h3=>?_;unfold nF;rw[bM.toList_insertAt]
 have g:∀x∈xs.toList.take (gc xs j),x<j:=λx d=>by
  refine oE (kY d) λi f=>oE f λhi e=>?_;rw[fJ,jS]at hi;rw[List.getElem_take,JM]at e;rw[<-e];exact h2 i _ li
 have hd:∀x∈xs.toList.drop (gc xs j),j<x:=λx d=>by
  refine oE (kY d) λi f=>oE f λhi e=>?_;rw[Kb,jS]at hi;rw[List.getElem_drop,JM]at e;have k:gc xs j+i<xs.size:=om;have a:=h3 _ k li;rw[<-e];rcases Nat.lt_or_ge j xs[gc _ j+i]with z | z
  .exact z
  exfalso;have l:xs[gc _ j+i]=j:=li
  by_cases m:i=0
  .subst m;exact hn ((abo om)▸gv a_ l)
  have b:=h3 _ li<|aw _;have c:=GV h (i:=gc xs j) li k;omega
 refine abH.mpr (fY (h.sublist<|ab5 _ _) (abT.mpr ⟨hd,h.sublist<|List.drop_sublist _ _⟩) λx d y n=>?_);obtain z|z:=bK.mp n
 .rw[z];exact g x d
 exact Ky (g x d) (hd y z)
structure nu(led:Bool)(t:bM):Prop where
 Q5:t.dummies=#[]
 led:t.led=led
 asc:t.plain=c_->nF t.place
def aes(led:Bool):nu led (.fresh 0 0 led):=⟨xz,xz,λ_=>.nil⟩
def Fl(h:nu led t)(n:Nat):nu led (t.standIn n):=⟨xz,h.led,λz=>by cases z⟩
def ajo(h:nu led t)(n:Nat):nu led (t.orStandIn n):=by
 unfold bM.orStandIn
 split
 .exact h
 exact Fl h n
def has_none(j:Nat):Uk #[] j=false:=by simp[Uk]
theorem UI{t:bM}{a:Nat->Int}{h:Int}(hd:t.dummies=#[])(b:∀i,(a i==h)=d_):∀f(p:bM.Probe)j d,p.dummy=b_->ab2 t a h f p=a_ (.empty j d)->d=b_/\t.slot j=.empty:=by
 intro f;induction f with
 |zero=>intro p j d _ e;cases e
 |succ f ih=>
  intro p j d hp e
  unfold ab2 at e;cases q:t.slot p.j with
  | empty=>
   rw[q]at e;simp only[xu,arL]at e;refine oA e λc g=>?_;clear e;subst c;subst g;exact⟨hp,q⟩
  | dummy=>
   exfalso;unfold acV at q;rw[hd,has_none]at q;dsimp only at q
   split at q
   .cases q
   simp at q
  | live i=>
   rw[q]at e;simp only[b i,tM,if_false]at e;refine ih _ j d ?_ e;unfold bM.advance
   split
   .exact hp
   exact hp
def ahm(h:nu led t)(a:t.slot j=.empty):nu led (t.put j).1:=by
 refine⟨?_,h.led,λz=>?_⟩
 .show (if Uk t.dummies j then _ else t.dummies)=#[];rw[h.Q5,has_none];rfl
 refine ad' (h.asc z) λe=>?_;unfold acV at a;dsimp only at a;rw[eT (by rw[e];simp)]at a;cases a
def adE{led:Bool}{t:bM}(a:nu led t)(es:Array (Int×f_))(h:Int)(x:f_):nu led (layNew t es h x).2.1:=by
 unfold layNew
 split
 .rename_i slot wd e
  refine ajo ?_ _;unfold bM.freeSlot at e
  split at e
  .rename_i j d q
   obtain⟨hd,b⟩:=UI a.Q5 (λi=>by simp;lia) _ _ _ _ xz q;subst hd;simp only[xu,Km]at e;refine oA e λc _=>?_;clear e;subst c;exact ahm a b
  cases e
 exact Fl a _
def ahb(g:Nat->Option Nat):nF ((((List.range<|mask+1).filterMap λj=>(g j).map (j,·)).map (·.1)).toArray):=by
 unfold nF;rw[Tp,List.map_filterMap];refine Ub.filterMap _ (λa b h x c y d=>?_) List.pairwise_lt_range;cases e:g a with
 | none=>rw[e]at c;simp at c
 | some u=>
  cases f:g b with
  | none=>rw[f]at d;simp at d
  | some v=>
   rw[e]at c;rw[f]at d;simp at c d;lia
def aer(a:nu led t)(es:Array (Int×f_))(b:Nat):nu led (Ci t es b).2.1:=by
 unfold Ci
 split
 .rename_i t' d e
  dsimp only
  split
  .unfold bM.relaid bM.laid at e;cases o:bM.layClean (bM.sizeAbove b-1) (es.map (·.1))with
   | none=>rw[o]at e;cases e
   | some owner=>
    rw[o]at e;simp only[Option.bind_eq_bind,Option.bind_some,Option.pure_def,xu,Km]at e;refine oA e λc _=>?_;clear e;subst c;exact⟨xz,a.led,λ_=>ahb _⟩
  exact Fl a _
 exact Fl a _
noncomputable def nD(w:j_):Bool:=w.params.followText "set-order"
def ow(P:k_)(w:j_)(e:Int×f_)(k:Int):Prop:=e.1=(intKind P w).hash k/\∃t,e.2=.int k t
def kK(P:k_)(w:j_)(h:i_)(a:e_)(ns:List Int):Prop:=
 ∃o es b t ks,h.get? a=a_ o/\o.ExactSet/\o.data=.set es b t/\bw (ow P w) es.toList ks/\ij ks ns/\ns.Nodup/\t.fits es.size=c_/\nu (!nD w) t
theorem zJ{a b:Type}{F:a->b->Prop}{l:List a}{r:List b}(h:bw F l r):l.length=r.length:=by
 induction h with
 |nil=>rfl
 |cons _ _ i=>exact gv (· + 1) i
section
variable{P:k_}{w:j_}{A:h_}{E:f_->g_->Prop}{s:g_}{a:e_}{ns:List Int}
theorem WE{l:List (Int×f_)}{ks:List Int}(h:bw (ow P w) l ks):ElemsOf (intKind P w) l:=by
 induction h with
 |nil=>intro e b;cases b
 |cons h _ i=>
  obtain⟨h1,t,h2⟩:=h;intro e b;obtain z|z:=bK.mp b
  .rw[z];exact⟨⟨_,by rw[h2];exact Lc _ _ _ _,h1⟩,by rw[h2];rfl⟩
  exact i e z
def amE(e:v=.int k' t):(intKind P w).is k v=decide (k=k'):=by
 rw[e];exact KeyKind.is_eq_decide (Lc _ _ _ _) k
theorem Wd{l:List (Int×f_)}{ks:List Int}(h:bw (ow P w) l ks):((l.findIdx? λe=>(intKind P w).is k e.2).isSome=c_↔k∈ks):=by
 induction h with
 |nil=>simp
 |@cons e k' _ _ h r ih=>
  obtain⟨h1,t,h2⟩:=h;rw[List.findIdx?_cons,amE h2]
  by_cases z:k=k'
  .subst z;simp
  rw[fT z,eN dF,Option.isSome_map,ih,bK];exact⟨.inr,λh=>h.resolve_left z⟩
def KD(p:ij l' l)(h:bw (ow P w) l ks):∃b,ij b ks/\bw (ow P w) l' b:=by
 induction p generalizing ks with
 | nil=>cases h;exact⟨[],.nil,.nil⟩
 | cons x _ ih=>
  cases h with
  | cons hx r=>
   exact aD (ih r) λb q c=>az _ (q.cons _)<|.cons hx c
 | swap x y l=>
  cases h with
  | cons hx r=>
   cases r with
   | cons hy r=>exact⟨_,.swap _ _ _,.cons hy<|.cons hx r⟩
 | trans _ _ ih1 ih2=>
  exact aD (ih2 h) λg d r2=>aD (ih1 r2) λi e f=>az _ (e.gw d) f
theorem UK(b:ow P w x k){l:List (Int×f_)}{ks:List Int}(h:bw (ow P w) l ks):bw (ow P w) (l++[x]) (ks++[k]):=TL.KU h b
def UG(q:s.heap.get? a=a_ o)(x:o.ExactSet)(d:o.data=.set es ep t)(r:bw (ow P w) cE.toList ks)(p:ij ks ns)(nd:ns.Nodup)(f:t'.fits cE.size=c_)(b:nu (!nD w) t'):(s.heap.update a<|BX cE t').get? a=a_ {o with data:=.set cE (ep+1) t'}/\kK P w (s.heap.update a<|BX cE t') a ns:=by
 have g:(s.heap.update a<|BX cE t').get? a=a_ {o with data:=.set cE (ep+1) t'}:=by
  have z:=xo (BX _ _) q (by rw[putSet_of cE t' d];rfl);rw[putSet_of _ _ d]at z;exact z
 exact⟨g,⟨_,cE,ep+1,t',ks,g,x,xz,r,p,nd,f,b⟩⟩
def Vi{g:Bool->Sem Unit}(u:∀(b:Bool)(s1:g_)(i:Unit->g_->Prop),i () s1->bt (bv P w) A (g b) i E s1){es c:Array (Int×f_)}{v:Nat}{t e:bM}{wd:Bool}{R:Option Bool->g_->Prop}
  (q:s.heap.get? a=a_ o) (x:o.ExactSet) (d:o.data=.set es v t) (r:bw (ow P w) c.toList ks) (p:ij ks ns) (nd:ns.Nodup) (j:c.size<B') (f:e.fits c.size=c_) (l:nu (!nD w) e)
  (k:∀h',gz a s.heap h'->kK P w h' a ns->R (a_ c_) {s with heap:=h'}) :
  bt (bv P w) A (do storeSet a c e;if (!wd&&e.tooFull)=c_ then (do g (Ci e c<|zK c.size).2.2;storeSet a (Ci e c<|zK c.size).1 (Ci e c<|zK c.size).2.1;pure (a_ c_)) else pure (a_ c_)) R E s:=by
 refine oA (UG q x d r p nd f l) λm y=>?_;have n:=kA s.heap a<|BX c e;refine ak<|wpAny_storeSet_of q d ?_<|fits_of_scanBound j
 split
 .have h:=relayAll_perm e c<|zK c.size;have rf:=relayAll_fits e c<|zK c.size;have rt:=aer l c<|zK c.size;generalize Ci _ _ _=Y at h rf rt ⊢;obtain⟨z,F,G⟩:=Y;dsimp only at h rf rt ⊢;refine aD (KD h r) λH B r2=>?_;have C:z.size=c.size:=by rw[<-jS,h.length_eq,jS]
  refine ak<|u _ _ _<|ak<|wpAny_storeSet_of m xz ?_<|fits_of_scanBound<|C▸j;exact oA (UG (s:={s with heap:=s.heap.update a _}) m x xz r2 (B.gw p) nd rf rt) λ_ D=>aP<|k _ (n.gw<|kA _ a _) D
 exact aP<|k _ n y
noncomputable def pQ(k:Int)(ns:List Int):List Int:=if k∈ns then ns else ns++[k]
def afH{k:Int}{tk:Tok}{Q:Bool->g_->Prop}(S:kK P w s.heap a ns)(I:ns.length+1<B')(h:∀b h',gz a s.heap h'->kK P w h' a (pQ k ns)->Q b {s with heap:=h'}):bt (bv P w) A (setAddHashed a (.int k tk)<|(intKind P w).hash k) Q E s:=by
 refine BP S λo es J t ks q x d r p K=>gY K λnd f n=>?_;have u:=WE r;have l:es.size=ns.length:=by rw[<-jS,zJ r,p.length_eq]
 have L:(intKind P w).is k (.int k tk)=true:=Lc _ _ _ _;unfold setAddHashed setAddHashedIn;refine(lP<|ak<|BG q d f ?_);dsimp only;rw[byScan_of (knd:=intKind P w) (x:=.int k tk) xz li u];simp only ;unfold setAddByScan;refine ak<|ak<|vn<|ak<|wpAny_setScan_of L q d f u ?_;have v:=Wd (k:=k) r;cases sc:List.findIdx? (λe=>(intKind P w).is k e.2) es.toList with
 | some j=>
  dsimp only;have mem:=p.mem_iff.mp<|v.mp (by rw[sc];rfl);refine aP<|aP ?_;have e:pQ k _=ns:=eT mem;exact h _ _ (gz.refl a _) (by rw[e];exact⟨o,es,J,t,ks,q,x,d,r,p,nd,f,n⟩)
 | none=>
  dsimp only
  have nm:k∉ns:=λz=>by
   have:=v.mpr<|p.mem_iff.mpr z;rw[sc]at this;cases this
  have e:pQ k _=ns++[k]:=eN nm;have B:∀(b:Bool){s1:g_}{c:Unit->g_->Prop},c () s1->bt (bv P w) A (match b with | true=>rule "set.scan.the-table-gave-way" | false=>pure ()) c E s1:=λb s1 c z=>by cases b <;> first | exact aP z | exact vn z
  have g:=layNew_perm t es ((intKind P w).hash k)<|.int k tk;have i:=layNew_fits t es ((intKind P w).hash k)<|.int k tk;have lt:=adE n es ((intKind P w).hash k)<|.int k tk;generalize layNew t _ _ _=Y at g i lt ⊢;obtain⟨M,V,wd,W⟩:=Y;dsimp only at g i lt ⊢;rw[ab9]at g;refine aD (KD g<|UK ⟨xz,tk,xz⟩ r) λN O C=>?_;have D:ij N (pQ k ns):=by rw[e];exact O.gw<|p.append_right _
  have F:(pQ k ns).Nodup:=by
   rw[e];refine JV.mpr (fY nd (by simp) λy R z l=>?_);rw[da.mp l];intro T;exact nm<|T ▸ R
  have G:M.size<B':=by
   rw[<-jS,g.length_eq,cQ,jS,l];exact I
  have fin:=(h c_);refine ak<|B _ ?_;have H:∀b(s1:g_)c,c () s1->bt _ A _ c E s1:=λb s1 c z=>B b z
  split
  .refine ak ?_;rw[hashByValue_scannable 8 rfl];refine aP (Vi H q x d C D F G ?_ ?_ λh' m S'=>?_)
   .split
    .exact i
    exact bM.fits_plain_off i
   .split
    .exact lt
    exact⟨lt.Q5,lt.led,λz=>by cases z⟩
   dsimp only;exact aP<|fin h' m S'
  refine ak<|aP ?_;simp only[↓reduceIte];refine Vi H q x d C D F G i lt λh' m S'=>?_;dsimp only;exact aP<|fin h' m S'
end
def kK.keep{P:k_}{w:j_}(S:kK P w h a ns)(k:∀o,h.get? a=a_ o->h'.get? a=a_ o):kK P w h' a ns:=
 let ⟨o,es,ep,t,ks,q,r⟩:=S;⟨o,es,ep,t,ks,k o q,r⟩
def qF(ns:List Int):List Int:=ns.foldl (λa k=>pQ k a) []
def qE(val:Nat->Int)(i:Nat):List Int:=qF<|(List.range i).map val
def UL(val:Nat->Int)(i:Nat):qE val (i+1)=pQ (val i) (qE val i):=by
 unfold qE qF;rw[pf,dC,ab7];rfl
def ahf(k:Int)(ns:List Int):(pQ k ns).length<=ns.length+1:=by
 unfold pQ
 split
 .exact jC _
 rw[cQ,Tj];exact aw _
theorem Lp(val:Nat->Int):∀i,(qE val i).length<=i
 | 0=>aw _
 | i+1=>by
  rw[UL];have:=ahf (val i)<|qE val i;have:=Lp val i;lia
def ahe:x∈pQ k ns↔x=k\/x∈ns:=by
 unfold pQ
 split
 .rename_i h
  exact⟨.inr,λz=>z.elim (λe=>e ▸ h) id⟩
 simp[or_comm]
theorem VE{l a:List Int}:x∈l.foldl (λa k=>pQ k a) a↔x∈l\/x∈a:=by
 induction l generalizing a with
 |nil=>simp
 |cons k l i=>
  rw[List.foldl_cons,i,ahe,bK];constructor
  .rintro(h | h | h)
   .exact .inl (.inr h)
   .exact .inl (.inl h)
   exact .inr h
  rintro((h | h) | h)
  .exact .inr (.inl h)
  .exact .inl h
  exact .inr<|.inr h
def af4:x∈qF ns↔x∈ns:=by
 unfold qF;rw[VE];simp
section
variable{P:k_}{w:j_}{A:h_}{E:f_->g_->Prop}{s:g_}
def afD{fp wr:List e_}{St:Nat->i_->Prop}(W:Walks P w A.in1 I fp wr n Pv St)(g:S∉fp)(val:Nat->Int)(m:∀i v,Pv i v->∃t,v=.int (val i) t)(a:n+1<B'):∀(k i:Nat)(s:g_),n-i=k->i<=n->St i s.heap->kK P w s.heap S (qE val i)->(∀h' tk,(∀b o,b∉S::wr->s.heap.get? b=a_ o->h'.get? b=a_ o)->kK P w h' S (qE val n)->R (.ok<|.ret .none) {s with heap:=h',toks:=tk})->codeAny (bv P w) A (.builtin "set.update.loop" ⟨[.ref S,.ref I],[]⟩) R s:=by
 have j:S∉wr:=λh=>g<|W.sub _ h;intro k
 induction k with
 | zero=>
  intro i s p hi st d f;have q:i=n:=li;subst q;refine(tP F.entry_set_update_loop (?_:bt _ _ _ _ _ s));rw[(va F.plain_set_update_loop _)];show bt _ _ _ _ _ s;refine ak (W.done s _ _ st λh' tk c=>(?_:bt _ _ _ _ _ _));exact aP<|f _ _ (λb o a e=>c b o (λz=>a<|cu _ z) e) (d.keep λo e=>c _ _ j e)
 | succ k ih=>
  intro i s p hi st d f;refine(tP F.entry_set_update_loop (?_:bt _ _ _ _ _ s));rw[(va F.plain_set_update_loop _)];show bt _ _ _ _ _ s;refine ak (W.item i s _ _ om st λv h' tk r u c=>oE (m i v r) λt x=>?_);subst x;have y:=d.keep λo e=>c _ _ j e;refine(ak<|lP (?_:bt _ _ _ _ _ {s with heap:=h',toks:=tk}));unfold setAdd;refine lP<|ak<|(intKind P w).pyHash (Lc _ _ _ _) ?_;have H:=Lp val i;refine afH y li λb h2 B C=>?_;have l:∀b,b≠S->h2.get? b=h'.get? b:=B.2;refine aP ⟨ve F.plain_set_update_loop _,ih _ {s with heap:=h2,toks:=tk+1} om li (W.frame _ _ _ u λb a o e=>?_) (by rw[UL];exact C) λh3 J D G=>?_⟩
  .rw[l b λz=>g<|z ▸ a];exact e
  refine f _ _ (λb o a e=>D b o a ?_) G;rw[l b λz=>a<|z ▸ bV];exact c b o (λz=>a<|cu _ z) e
abbrev qy(w:j_):d5:={cls:=.type "set",dict:=b_,data:=.set #[] 0 (.fresh 0 0<|!nD w)}
def afG(e:h.get? a=a_ (qy w)):kK P w h a []:=⟨_,#[],0,_,[],e,⟨xz,xz,xz⟩,xz,.nil,.nil,.nil,xz,aes _⟩
def ahA(x:f_)(h:Q (.ref s.zS) {s with heap:=s.heap.push (qy w)}):codeAny (bv P w) A (.call (.builtin "set.__new__") ⟨[.type "set",x],[]⟩) (wants Q E) s:=by
 refine codeAny_of_tree (?_:bt _ _ _ _ _ s);refine ak<|KH (F.newCall_set_1 x)<|aP ⟨ve F.plain_set_new _,(tP F.entry_set_new (?_:bt _ _ _ _ _ s))⟩;rw[(va F.plain_set_new _)];unfold Builtin.«set.__new__» Builtin.Frozenset.newClass;have a:=sub_set_self;obtain⟨b,g,d,tk,os⟩:=s;dsimp only
 wp_walk
 refine TF<|aP ?_;dsimp only;simp only[newObj];exact ak<|wpAny_alloc<|aP<|aP h
set_option maxHeartbeats 6000000 in
def afF(B:A.handled=b_)(C:s.heap.IsList l items)(hi:IntsAre items.toList ns)(d:items.size+1<B')(h:∀(h':i_)(tk:Nat),kK P w h' s.zS (qE (λi=>ns.getD i 0) items.size)->(∀b o,s.heap.get? b=a_ o->h'.get? b=a_ o)->Q (.ref s.zS) {s with heap:=h',toks:=tk}):bt (bv P w) A (call (.type "set") [.ref l]) Q E s:=by
 refine yD F.called_set.mro λc tl asx=>?_;have arQ:=F.called_set.made;have QE:=F.called_set.sub;refine Lb<|codeAny_of_tree (?_:bt _ _ _ _ _ _);refine aP ⟨Code.quiet_builtin _ dk,(tP F.entry_type_call (?_:bt _ _ _ _ _ s))⟩;rw[Around.under_plain (weight_type_call_type "set" [.ref l] []) rfl];have h1:=F.called_set.notType;have h2:=F.called_set.canCreate;have hct:=F.typeCall_set_1<|.ref l
 repeat (any_goals (first | assumption | wp_step))
 refine BK (ahA _ (E:=E) (Q:=λobj m=>obj=.ref _/\m={s with heap:=s.heap.push _}) ⟨xz,xz⟩) λr m f=>?_;cases r with
 | error e=>exact f
 | ok D=>
  cases D with
  | ret obj=>
   refine oA f λa g=>?_;clear f;subst a;subst g;have n:(s.heap.push<|qy w).get? _=a_ _:=eU _ rfl;have G:Ua {s with heap:=s.heap.push _} (.ref _) "set":=⟨_,n,xz⟩;have Sj:=F.called_set.init.lookup;have hbi:=F.called_set.init.bind<|.ref s.zS
   repeat (any_goals (first | assumption | wp_step))
   refine BK (codeAny_call_builtin (R:=wants (λr p=>r=.none/\∃h' tk,p={s with heap:=h',toks:=tk}/\kK P w h' s.zS (qE (λi=>ns.getD i 0) items.size)/\(∀b o,s.heap.get? b=a_ o->h'.get? b=a_ o)) E) F.called_set.init.plain F.entry_set_init<|check_set_init_1 G ?_) λH p j=>?_
   .refine a9 C λI q u a=>oE a λJ x=>?_;obtain⟨asj,K,arP,L⟩:=I;simp only at u x;subst u;subst x;have M:(s.heap.push<|qy w).get? l=a_ {cls:=.type _,dict:=K,data:=.seq _ _,slots:=L}:=bU _ q;have asr:=F.sub_list_set;have ass:=F.sub_list_frozenset;have iy:(gC "list"==gC "dict")=false:=qc;have y:(s.heap.push<|qy w).IsList l items:=⟨_,M,xz,J,xz⟩;unfold Builtin.«set.__init__» noKeywords Builtin.Frozenset.updateFrom;generalize N:pyIter=PI
    wp_walk
    subst N;refine(zD y<|ak<|wpAny_runValue ?_);have z:=bY q;have O:A.in1.in1.in1.handled=none:=by simp[B]
    have k:(s.heap.push<|qy w).zH=s.zS+1:=lO _ _;have S:l≠(s.heap.push<|qy w).zH:=by rw[k];exact dW<|E6 z
    have T:s.zS∉[(s.heap.push<|qy w).zH,l]:=by
     rw[k];simp only[bK,da,xv,or_false,not_or];exact⟨dW<|vc _,vi z⟩
    have U:∀(i:Nat)(v:f_),items[i]?=a_ v->∃t,v=.int ((λi=>ns.getD i 0) i) t:=λi v V=>TY hi i v (by rw[zB];exact V);refine afD (BW O _ l S items) T (λi=>ns.getD i 0) U d (items.size-0) 0 _ li (bg _) ⟨⟨_,eU _ xz,xz,xz⟩,(y.push _)⟩ (afG<|bU _ n) λh' tk W S'=>?_;refine(aP (?_:bt _ _ (ret gD) _ _ _));refine aP ⟨xz,⟨h',tk,xz,S',λb o e=>W b o ?_<|bU _<|bU _ e⟩⟩;have d:=bY e;rw[k];simp only[bK,da,xv,or_false,not_or];exact⟨dW d,dW<|E6 d⟩
   cases H with
   | error e=>exact j
   | ok X=>
    cases X with
    | ret r=>
     refine oA j λa g=>?_;clear j;subst a;refine fh g λh' tk a Y Z=>?_;clear g;subst a
     repeat (any_goals (first | assumption | wp_step))
     exact h _ _ Y Z
    | _=>exact j.elim
  | _=>exact f.elim
end
namespace SF
def slot_next:Slot "set_iterator" "__next__" "set_iterator.__next__":=
 .of (owner:="set_iterator") (n:="__next__") (by rw[typeLookup_type,abE];kernel_rfl) dk dk dk (by first | exact .inl dk | exact .inr dk) (by rw[isSubtype_type];kernel_rfl)
def entry_next:entryFor table "set_iterator.__next__"=a_ Builtin.«set_iterator.__next__»:=entryFor_of_tree (by kernel_rfl)
def args_next(a:f_):argsOk "set_iterator.__next__" ⟨[a],[]⟩:=by unfold argsOk;kernel_rfl
def ad5:entryFor table "set.__iter__"=a_ Builtin.«frozenset.__iter__»:=entryFor_alias (id':="frozenset.__iter__") (by kernel_rfl) xz dk (by kernel_rfl)
def aiN:typeLookup (.type "set") "__len__"=pure (a_<|.builtin "set.__len__"):=by rw[typeLookup_type,abE];kernel_rfl
end SF
def UX{a:Type}{l:List a}{i:Nat}(h:i<l.length):ij (l[i]::l.eraseIdx i) l:=by
 have e:l.take i++l[i]::l.drop (i+1)=l:=by rw[List.getElem_cons_drop,JK]
 rw[List.eraseIdx_eq_take_drop_succ];have p:ij _ (l.take i++l[i]::l.drop (i+1)):=aci.gx;rw[e]at p;exact p
section
variable{M:d7}{A:h_}{E:f_->g_->Prop}{s:g_}
def ad7(hn:n≠0)(h:∀i d,i<n->Q i {s with drawn:=d}):bt M A (choose src n) Q E s:=
 λa p _=>⟨hn,h _ _<|Nat.mod_lt _<|Nat.pos_of_ne_zero hn⟩
theorem VM{b:Type}(n:Nat)(xs:List b)(s:g_){Q:List b->g_->Prop}(a:xs.length=n)(h:∀ys d,ij ys xs->Q ys {s with drawn:=d}):bt M A (drawOrder n xs) Q E s:=by
 induction n generalizing xs s Q with
 |zero=>have e:=tL.mp a;subst e;exact aP<|h [] s.drawn .nil
 |succ n j=>cases xs with
  |nil=>cases a
  |cons x xs=>unfold drawOrder;refine ak (ad7 (by simp) λi d hi=>?_);have e:(x::xs)[i]?=a_ ((x::xs)[i]):=aI hi;rw[e];dsimp only;exact ak (j _ _ (by rw[abI,eT hi,a];rfl) λys d' c=>aP<|h _ d'<|(c.cons _).gw<|UX hi)
end
theorem Xg{b:Type}(next:Nat->Nat)(n k:Nat)(left:List b)(a:Array b)(hl:left.length=n):∃ys,ij ys left/\(Uj next n k left a).toList=a.toList++ys:=by
 induction n generalizing k left a with
 |zero=>have e:=tL.mp hl;subst e;exact az ([]) .nil (by unfold Uj;simp)
 |succ n i=>have hi:next k%left.length<left.length:=Nat.mod_lt _ om;unfold Uj;rw[aI hi];dsimp only;obtain⟨ys,c,e⟩:=i (k+1) (left.eraseIdx<|next k%left.length) (a.push left[next k%left.length]) (by rw[abI,eT hi,hl];rfl);exact az (left[next k%left.length]::ys) ((c.cons _).gw<|UX hi) (by rw[e];simp)
def aeD{a:Type}(next:Nat->Nat)(xs:Array a):ij (xM next xs).toList xs.toList:=by
 refine aD (Xg next xs.size 0 xs.toList #[] (by simp)) λys b e=>?_;unfold xM;rw[e];simpa using b
noncomputable def slotAt(place:Array Nat)(i:Nat):Nat:=if i=0 then 0 else place.getD (i-1) 0+1
def PK(P:k_)(w:j_)(h:i_)(a:e_)(es:Array (Int×f_))(c:Nat)(t:bM)(ks ord:List Int)(first:f_)(i:Nat):Prop:=
 (nD w=c_/\(∃f u,first=.int f u)/\bw (ow P w) (xM (w.params.setOrder a c) es).toList ord)\/
 (nD w=d_/\(!t.plain&&decide (es.size > 1))=d_/\nF t.place/\ord=ks/\first=cP (slotAt t.place i))\/
 (nD w=d_/\∃(b:e_)(pl:List Nat),first=.ref b/\IsTup h b (pl.map λj=>cP (j:Nat)).toArray/\ij pl (List.range es.size)/\ord=pl.map λj=>ks.getD j 0)
def wH(P:k_)(w:j_)(h:i_)(it a:e_)(ord:List Int)(i:Nat):Prop:=
 ∃o es b t ks first,h.get? a=a_ o/\o.cls=.type "set"/\o.data=.set es b t/\t.fits es.size=c_/\bw (ow P w) es.toList ks/\t.led=(!nD w)/\ord.length=es.size/\a≠it/\
  h.get? it=a_ {cls:=.type "set_iterator",data:=.fields #[first,cP i,.ref a,cP es.size,cP b]}/\PK P w h a es b t ks ord first i
section
variable{P:k_}{w:j_}{A:h_}{E:f_->g_->Prop}{s:g_}{it a:e_}{ord:List Int}{i:Nat}
def wH.keep(g:wH P w h it a ord i)(k:∀b o,o.cls≠.type "list"->h.get? b=a_ o->h'.get? b=a_ o):wH P w h' it a ord i:=by
 refine mV g λo es p t ks first q c d f u=>qz u λr l n ne e m=>⟨o,es,p,t,ks,first,(k _ _ (by rw[c];simp) q),c,d,f,r,l,n,ne,⟨k _ _ (by simp) e,?_⟩⟩;obtain m|m|⟨v,x,pl,y,⟨z,B,j,C⟩,D⟩:=m
 .exact .inl m
 .exact .inr (.inl m)
 exact .inr (.inr ⟨v,⟨x,pl,y,⟨z,k _ _ (by rw[j];simp) B,j,C⟩,D⟩⟩)
def Lo(r:bw (ow P w) es ks)(b:j<ks.length):∃c t,es[j]?=a_ (c,.int ks[j] t):=by
 induction r generalizing j with
 | nil=>simp at b
 | cons h _ ih=>
  rcases j with _|j
  ·refine oA h λh1 d=>oE d λt h2=>?_
   rename_i e k _ _ _
   obtain⟨f,g⟩:=e;simp only at h2;subst h2;exact wA _ t xz
  exact yD (ih<|by simpa using b) λc t e=>wA _ t (by simpa using e)
def FG(h:Q (nD w) s):bt (bv P w) A setsByText Q E s:=by
 exact ak<|TF<|aP h
def Vt{es:Array (Int×f_)}{b slot c:Nat}{t:bM}{Q:Option (f_×Nat)->g_->Prop}(q:s.heap.get? a=a_ o)(d:o.data=.set es b t)(f:t.fits es.size=c_)(g:nD w=c_)(h:Q (((xM (w.params.setOrder a b) es)[c]?).map λe=>(e.2,slot)) s):bt (bv P w) A (setNext a slot c b) Q E s:=by
 refine ak<|BG q d f<|ak<|FG ?_;rw[g,eT xz,eN (by simp)];refine ak<|ak<|BG q d f<|ak<|FG ?_;rw[g,eT rfl];exact ak<|TF<|aP<|aP h
def UO{es:Array (Int×f_)}{b slot c:Nat}{t:bM}{Q:Option (f_×Nat)->g_->Prop}(q:s.heap.get? a=a_ o)(d:o.data=.set es b t)(f:t.fits es.size=c_)(e:nD w=d_)(g:t.led=c_)(hd:(!t.plain&&decide (es.size > 1))=d_)
  (h:Q (match es[gc t.place slot]?,t.place[gc t.place slot]? with | some (_,x),a_ j=>a_ (x,j+1) | _,_=>b_) s):bt (bv P w) A (setNext a slot c b) Q E s:=by
 refine ak<|BG q d f<|ak<|FG ?_;rw[e,eN dF];show bt _ _ (if (!t.plain&&decide (es.size > 1))=c_ then _ else _) _ _ _;rw[hd,eN dF];refine ak (?_:bt _ _ (if (!t.led&&!es.isEmpty)=c_ then _ else _) _ _ _);rw[g];exact aP<|aP h
def Lw{t:bM}{n:Nat}(f:t.fits n=c_):t.place.size=n:=by
 simp only[bM.fits,iB,gr]at f;exact f.1
def GL{h:i_}{vs:Array f_}{j:Nat}{v:f_}(e:h.get? it=a_ {cls:=.type "set_iterator",data:=.fields vs}):(h.update it<|vf (·.setIfInBounds j v)).get? it=a_ {cls:=.type "set_iterator",data:=.fields (vs.setIfInBounds j v)}:=
 xo _ e xz
def agK{Q:Option f_->g_->Prop}(g:wH P w s.heap it a ord i)(hi:i<ord.length)(k:∀h' t,wH P w h' it a ord (i+1)->gz it s.heap h'->Q (a_<|.int ord[i] t) {s with heap:=h'}):bt (bv P w) A (pyNext<|.ref it) Q E s:=by
 refine mV g λo es B t ks first q c d f F=>qz F λr l n ne e m=>?_;have I:s.TypeIs (.ref _) "set_iterator":=⟨_,e,xz⟩;have V:=zJ r;rw[jS]at V;refine ak<|Fj<|xj (name:=rS "__next__") I SF.slot_next<|rH SF.slot_next I SF.entry_next (?_:bt _ _ (fieldsOf (.ref it) >>= _) _ _ s)<|SF.args_next _;refine ak<|ak<|La e<|aP ?_;refine ak<|To q d f ?_;simp only[bne_self_eq_false,tM,if_false,fH]
 have J:∀(nx:Nat)(u:Tok),PK P w ((s.heap.update it<|vf (·.setIfInBounds 0 (cP (nx:Nat)))).update it<|vf (·.setIfInBounds 1 (cP<|(i:Int)+1))) a es B t ks ord (cP (nx:Nat)) (i+1)->
   bt (bv P w) A.in1 (do setField (.ref it) 0 (cP (nx:Nat));setField (.ref it) 1 (cP<|(i:Int)+1);ret (.int ord[i] u)) (λfin s'=>∃v,fin=Fin.done (Flow.ret v)/\bt (bv P w) A (pure<|a_ v) Q E s') (λe s'=>bt (bv P w) A (do
     let W <-isInstance e (gC "StopIteration")
     if W=c_ then pure b_ else throw e) Q E s') s:=λnx u X=>by
  have K:=GL (j:=0) (v:=cP (nx:Nat)) e;have Y:=GL (j:=1) (v:=cP<|(i:Int)+1) K;refine ak<|xw e xz (by simp)<|ak<|xw K xz (by simp)<|aP<|az _ xz<|aP<|k _ u ?_<|(kA _ it _).gw<|kA _ it _;have p:=(kA s.heap it<|vf (·.setIfInBounds 0 (cP (nx:Nat)))).gw<|kA _ it<|vf (·.setIfInBounds 1 (cP<|(i:Int)+1));exact⟨o,es,B,t,ks,_,((p.2 a ne).gw q),c,d,f,r,l,n,ne,⟨Y,X⟩⟩
 obtain⟨b,⟨f0,u0,rfl⟩,h⟩|⟨b,L,h,rfl,rfl⟩|⟨b,G,pl,rfl,h,H,M⟩:=m
 .refine yD (Lo h hi) λC u x=>ak<|Vt q d f b ?_;have y:(xM (w.params.setOrder a B) es)[i]?=a_ (C,.int ord[i] u):=by rw[<-zB];exact x
  rw[y];exact J _ u<|.inl<|fY b ⟨_,_,xz⟩ h
 .have ps:=Lw f;have N:i<t.place.size:=om;refine yD (Lo r hi) λC u x=>?_
  have O:gc t.place ((slotAt t.place i:Nat):Int).toNat=i:=by
   rw[fH];unfold slotAt
   by_cases z:i=0
   .rw[eT z,z];exact U2 h
   rw[eN z];have:=U3 h (i:=i-1) om;rw[show t.place.getD (i-1) 0=t.place[i-1]' om by simp[xH,show i-1<t.place.size by omega],this];omega
  refine ak<|UO q d f b (by rw[l,b];rfl) L ?_;have y:es[gc t.place ((slotAt t.place i:Nat):Int).toNat]?=a_ (C,.int ord[i] u):=by rw[O,<-zB];exact x
  have Z:t.place[gc t.place ((slotAt t.place i:Nat):Int).toNat]?=a_ (t.place[i]):=by rw[O];exact abo N
  rw[y,Z];refine J _ u<|.inr<|.inl<|⟨b,L,h,xz,?_⟩;unfold slotAt;rw[eN<|Nat.succ_ne_zero _,Nat.add_sub_cancel,show t.place.getD i 0=t.place[i] by simp[xH,N]]
 have pll:pl.length=es.size:=by have:=H.length_eq;simpa using this
 have R:i<pl.length:=om
 have S:pl[i]<ks.length:=by
  have:=H.mem_iff.mp<|pe R;rw[mU]at this;exact wf
 refine a9 (id h) λot D T F=>oE F λn3 U=>ak<|rO D U ?_;have y:((pl.map λj=>cP (j:Nat)).toArray)[i]?=a_ (cP (pl[i]:Nat)):=by simp[R]
 dsimp only;rw[y];refine yD (Lo r S) λC u x=>?_;refine ak<|ak<|BG q d f ?_;dsimp only;rw[eN (by simp),fH,<-zB,x]
 have eo:ord[i]=ks[pl[i]]:=by
  subst M;simp[S]
 refine aP<|ak<|xw e xz (by simp)<|aP<|az _ xz<|aP ?_;have p:=kA s.heap it<|vf (·.setIfInBounds 1 (cP<|(i:Int)+1))
 have ntp:G≠it:=λz=>by
  rw[z,e]at D;cases D;simp at T
 rw[<-eo];exact k _ u ⟨o,es,B,t,ks,_,(p.2 a ne).gw q,c,d,f,r,l,n,ne,GL (j:=1) (v:=cP<|(i:Int)+1) e,.inr<|.inr ⟨b,G,pl,xz,⟨ot,(p.2 G ntp).gw D,T,n3,U⟩,H,M⟩⟩ p
end
section
variable{P:k_}{w:j_}{A:h_}{E:f_->g_->Prop}{s:g_}{it a:e_}{ord:List Int}{i:Nat}
def WS{Q:Option f_->g_->Prop}{R:PySem.Fin->g_->Prop}(c:A.handled=b_)(k:∀h',(∀b o,s.heap.get? b=a_ o->h'.get? b=a_ o)->Q b_ {s with heap:=h'}):
  bt (bv P w) A.in1 (do let e <-newExc (gC "StopIteration") [];raiseNew e) R (λe s'=>bt (bv P w) A (do
     let d <-isInstance e (gC "StopIteration")
     if d=c_ then pure b_ else throw e) Q E s') s:=by
 refine ak ?_;refine ak<|rF (ak<|KH (by first | rfl | (rfl))<|rF ?_<|by size_fits) (by size_fits);refine ak<|wpAny_handled ?_;rw[show A.in1.handled=b_ from c];refine ak<|aP<|wpAny_throw ?_;exact (ak<|BH ⟨_,eU _ xz,xz⟩ TU<|aP<|k _ λb o e=>bU _<|bU _ e)
def agL{Q:Option f_->g_->Prop}(D:A.handled=b_)(g:wH P w s.heap it a ord ord.length)(k:∀h',(∀b o,b≠it->s.heap.get? b=a_ o->h'.get? b=a_ o)->Q b_ {s with heap:=h'}):bt (bv P w) A (pyNext<|.ref it) Q E s:=by
 refine mV g λo es R t ks first q c d f u=>qz u λr l n ne e m=>?_;have F:s.TypeIs (.ref _) "set_iterator":=⟨_,e,xz⟩;have H:=zJ r;rw[jS]at H;refine ak<|Fj<|xj (name:=rS "__next__") F SF.slot_next<|rH SF.slot_next F SF.entry_next (?_:bt _ _ (fieldsOf (.ref it) >>= _) _ _ s)<|SF.args_next _;refine ak<|ak<|La e<|aP ?_;refine ak<|To q d f ?_;simp only[bne_self_eq_false,tM,if_false,fH]
 have G:bt (bv P w) A.in1 (do setField (.ref it) 2 gD;let e <-newExc (gC "StopIteration") [];raiseNew e) (λfin s'=>∃v,fin=Fin.done (Flow.ret v)/\bt (bv P w) A (pure<|a_ v) Q E s') (λe s'=>bt (bv P w) A (do
     let I <-isInstance e (gC "StopIteration")
     if I=c_ then pure b_ else throw e) Q E s') s:=by
  have x:=kA s.heap it<|vf (·.setIfInBounds 2 gD);exact ak<|xw e xz (by simp) (WS D λh' B=>k _ λb o z y=>B b o<|(x.2 b z).gw y)
 obtain⟨p,⟨S,T,rfl⟩,h⟩|⟨p,J,h,rfl,rfl⟩|⟨p,U,pl,rfl,h,V,K⟩:=m
 .refine ak (Vt q d f p ?_);have pl:=zJ h;rw[jS]at pl;rw[Ti li];exact G
 .have ps:=Lw f;refine ak (UO q d f p (by rw[l,p];rfl) J ?_)
  have L:gc t.place (slotAt t.place ord.length)=ord.length:=by
   unfold slotAt
   by_cases z:ord.length=0
   .rw[eT z,z];exact U2 h
   rw[eN z];have:=U3 h (i:=ord.length-1) om;rw[show t.place.getD (ord.length-1) 0=t.place[ord.length-1]' om by simp[xH,show ord.length-1<t.place.size by omega],this];omega
  have C:es[gc t.place (slotAt t.place ord.length)]?=none:=by rw[L];exact Ti li
  simp only[fH];rw[C];exact G
 refine a9 (id h) λW M X u=>oE u λY N=>?_;have O:pl.length=ord.length:=by rw[K,aA]
 refine ak<|rO M N ?_;have C:((pl.map λj=>cP (j:Nat)).toArray)[ord.length]?=none:=Ti (by simp[O]);dsimp only;rw[C];have x:=(kA s.heap _<|vf (·.setIfInBounds 0 (cP 0))).gw<|kA _ it<|vf (·.setIfInBounds 2 gD);exact ak<|xw e xz (by simp)<|ak<|xw (GL (j:=0) (v:=cP 0) e) xz (by simp) (WS D λh' B=>k _ λb o z y=>B b o<|(x.2 b z).gw y)
def agZ(v:A.handled=b_)(m:S≠it)(I:ord.length<=bc):∀(k i:Nat)(s:g_)(d:List f_)(c:Nat),ord.length-i=k->i<=ord.length->wH P w s.heap it a ord i->s.heap.get? S=a_ {cls:=.type "list",data:=.seq d.toArray c}->IntsAre d (ord.take i)->(∀h' f n,(∀b o,b≠it->b≠S->s.heap.get? b=a_ o->h'.get? b=a_ o)->h'.get? S=a_ {cls:=.type "list",data:=.seq f.toArray n}->IntsAre f ord->R (.ok<|.ret res) {s with heap:=h'})->codeAny (bv P w) A (.builtin "list.extend.loop" ⟨[.ref S,.ref it,res],[]⟩) R s:=by
 intro k
 induction k with
 | zero=>
  intro i s d c x hi g h ha j;have B:i=ord.length:=li;subst B;refine(tP F.entry_extend_loop (?_:bt _ _ _ _ _ s));rw[(va F.plain_extend_loop _)];refine(ak (agL v g λh' e=>?_):bt _ A.in1 _ _ _ s);rw[ach]at ha;exact aP<|j _ _ c (λb o z _ y=>e b o z y) (e S _ m h) ha
 | succ k ih=>
  intro i s d c x hi g h ha j;have C:i<ord.length:=li;refine(tP F.entry_extend_loop (?_:bt _ _ _ _ _ s));rw[(va F.plain_extend_loop _)];refine(ak (agK g C λh' t g' p=>?_):bt _ _ _ _ _ s);have l:=(p.2 S m).gw h;have J:d.length=i:=by rw[ha.length,fJ];exact xk
  have q:=kA h' S<|gQ (·.push (ig ord[i] t));refine ak<|zF l xz (aP ⟨ve F.plain_extend_loop _,?_⟩) (by rw[dG];lia) (by rw[Array.size_push,dG];lia)
  have D:(h'.update S<|gQ (·.push (ig ord[i] t))).get? S=a_ {cls:=.type "list",data:=.seq (d++[ig ord[i] t]).toArray (c+1)}:=by
   have:=xo (gQ (·.push (ig ord[i] t))) l rfl;rw[this];simp[gQ]
  refine ih _ _ _ _ li xf (g'.keep λb o z y=>(q.2 b λw=>?_).gw y) D ?_ λh3 f n e G H=>?_
  .rw[w,l]at y;cases y;exact z xz
  .rw[iN,aI _];exact ksk_snoc ha
  refine j _ _ _ (λb o r u y=>e b o r u<|(q.2 b u).gw<|(p.2 b r).gw y) G H
end
def afo(h:xs.size<=1):nF xs:=by
 obtain⟨l⟩:=xs;unfold nF
 match l,h with
 | [],_=>exact .nil
 | [x],_=>exact abv _ _
 | _::_::_,h=>simp at h
def range_getD(ks:List Int):(List.range ks.length).map (λj=>ks.getD j 0)=ks:=by
 apply Kc
 .simp
 intro i h1 h2;simp[h2]
section
variable{P:k_}{w:j_}{A:h_}{E:f_->g_->Prop}{s:g_}{a:e_}{ns:List Int}
def afE(S:kK P w s.heap a ns)(G:ns.length<=bc)(k:∀it ord h' d,ij ord ns->s.heap.objs.size<=it->wH P w h' it a ord 0->(∀b o,s.heap.get? b=a_ o->h'.get? b=a_ o)->Q (.ref it) {s with heap:=h',drawn:=d}):bt (bv P w) A (pyIter<|.ref a) Q E s:=by
 refine BP S λo es g t ks q x d r p H=>gY H λnd f B=>?_;have C:s.TypeIs (.ref a) "set":=⟨o,q,x.1⟩;have h:=zJ r;rw[jS]at h;have I:=bY q
 refine wpAny_pyIter_slot C F.slot_set_iter (rH F.slot_set_iter C SF.ad5 (?_:bt _ _ (do
  let n <-abu a
  let first <-if <-setDrawn a then newTuple ((<-drawOrder n (List.range n)).map λ(i:Nat)=>cP i) else pure (cP 0)
  ret (<-newFields "set_iterator" [first,cP 0,.ref a,cP n,cP<|<-setEpoch a])) _ _ s)<|F.args_set_iter_1 _)
 refine ak<|ak<|To q d f<|aP<|ak<|ak<|BG q d f<|ak<|FG<|aP ?_;show bt _ _ (if (!nD w&&(!t.plain&&decide (es.size > 1)))=c_ then _ else _) _ _ _
 have mk:∀(first:f_)(ord:List Int)(h1:i_)(d1:Drawn),ij ord ks->(∀b o,s.heap.get? b=a_ o->h1.get? b=a_ o)->s.heap.objs.size<=h1.objs.size->(∀h2:i_,(∀b o,h1.get? b=a_ o->h2.get? b=a_ o)->PK P w h2 a es g t ks ord first 0)->
   bt (bv P w) A.in1 (do ret (<-newFields "set_iterator" [first,cP 0,.ref a,cP es.size,cP<|<-setEpoch a])) (λfin s'=>∃v,fin=Fin.done (Flow.ret v)/\∃T f,s'.TypeIs v T/\typeLookup (.type T) "__next__"=pure (a_ f)/\Q v s') E {s with heap:=h1,drawn:=d1}:=λfirst ord h1 d1 po m D J=>by
  refine ak<|wpAny_setEpoch_of (m _ _ q) d f<|ak<|rF<|aP<|az _ xz<|eA ("set_iterator") _ ⟨_,eU _ xz,xz⟩ SF.slot_next.lookup ?_;have kp:∀b o,h1.get? b=a_ o->(h1.push {cls:=.type "set_iterator",data:=.fields [first,cP 0,.ref a,cP es.size,cP g].toArray}).get? b=a_ o:=λb o e=>bU _ e;refine k _ ord _ d1 (po.gw p) D ⟨o,es,g,t,ks,first,kp _ _<|m _ _ q,x.1,d,f,r,B.led,by rw[po.length_eq,h],dW<|ic I D,eU _ xz,J _ kp⟩ λb o e=>kp b o<|m b o e
 by_cases u:nD w=c_
 .refine aD (KD (aeD (w.params.setOrder a g) es) r) λord K L=>?_;rw[eN (by rw[u];simp)];exact ak<|aP (mk (cP 0) ord s.heap s.drawn K (λ_ _ e=>e) (aw _) λh2 _=>.inl<|fY u ⟨_,_,xz⟩ L)
 have y:nD w=false:=by simpa using u
 by_cases hd:(!t.plain&&decide (es.size > 1))=c_
 .rw[eT (by rw[y,hd];rfl)];refine ak (VM es.size (List.range es.size) s (by simp) λys d1 c=>ak<|Fg ?_ ?_)
  .have M:∀h2:i_,(∀b o,(s.heap.push {cls:=.type "tuple",data:=.seq (ys.map λ(i:Nat)=>cP i).toArray}).get? b=a_ o->h2.get? b=a_ o)->IsTup h2 s.heap.objs.size (ys.map λ(i:Nat)=>cP (i:Nat)).toArray:=λh2 z=>⟨_,z _ _<|eU _ xz,xz,_,xz⟩;refine mk (.ref s.heap.objs.size) (ys.map λj=>ks.getD j 0) (s.heap.push {cls:=.type "tuple",data:=.seq (ys.map λ(i:Nat)=>cP i).toArray}) d1 ?_ (λb o e=>bU _ e) (by rw[lO];exact jC _) λh2 z=>.inr<|.inr ⟨y,_,ys,xz,M h2 z,c,xz⟩;have:=c.map λj=>ks.getD j 0;rw[h,range_getD]at this;exact this
  rw[aA,c.length_eq,qi,h,p.length_eq];exact G
 have l:(!t.plain&&decide (es.size > 1))=false:=by simpa using hd
 rw[eN (by rw[l];simp)];refine ak<|aP (mk (cP 0) ks s.heap s.drawn (ij.refl _) (λ_ _ e=>e) (aw _) λh2 _=>.inr<|.inl<|⟨y,l,?_,xz,xz⟩);rcases c:t.plain with _|_
 ·rw[c]at l;refine afo ?_;rw[Lw f];simpa using l
 exact B.asc c
def ado(G:A.handled=b_)(S:kK P w s.heap a ns)(m:ns.length<=bc)(k:∀vs ord h' d,IntsAre vs ord->ij ord ns->(∀b o,s.heap.get? b=a_ o->h'.get? b=a_ o)->Q vs {s with heap:=h',drawn:=d}):bt (bv P w) A (collect<|.ref a) Q E s:=by
 have H:a<s.heap.objs.size:=by
  exact Xi S λo es I t ks q _=>bY q
 refine ak<|wpAny_runValue<|tP F.entry_proto_collect (?_:bt _ _ _ _ _ s);rw[(va F.plain_proto_collect _)];refine(ak<|rF<|aP ⟨ve F.plain_list_iadd _,(tP F.entry_list_iadd ?_)⟩);rw[(va F.plain_list_iadd _)];show bt _ A.in1 (abf (.ref s.heap.objs.size) (.ref a)<|.ref s.heap.objs.size) _ _ _;generalize f:s.heap.push {cls:=.type "list",data:=.seq ([]:List f_).toArray}=H1;have kp:∀b o,s.heap.get? b=a_ o->H1.get? b=a_ o:=λb o e=>by rw[<-f];exact bU _ e
 have J:H1.get? s.heap.objs.size=a_ {cls:=.type "list",data:=.seq ([]:List f_).toArray}:=by rw[<-f];exact eU _ xz
 have n:H1.objs.size=s.heap.objs.size+1:=by rw[<-f];exact lO _ _
 have p:=S.keep λo e=>kp _ _ e
 have r:Ua {s with heap:=H1} (.ref a) "set":=by
  exact lD p λo es I t ks K=>gY K λq x _=>az o q x.1
 refine ak<|Ku r ?_;have L:abt (.ref s.heap.objs.size) (.ref a)=false:=by simp[abt,vi H]
 have g2:(gC "set"==gC "list")=false:=qc;have M:(gC "set"==gC "tuple")=false:=qc;simp only[L,g2,M,Bool.or_false,tM,if_false];refine ak (afE (s:={s with heap:=H1}) p m λit ord h2 u po v g h=>ak<|lP ?_)
 have i:Ua {s with heap:=h2,drawn:=u} (.ref a) "set":=by
  exact aD r λo e c=>az o (h _ _ e) c
 refine ak<|wpAny_specialOf i SF.aiN ?_
 wp_delta
 refine(ak<|BH i (b:=c_) (by rw[isSubtype_type];kernel_rfl) (?_:bt _ A.in1 (typeOf (dA a) >>= _) _ _ _));refine ak<|Ku i<|aP ?_;rw[eT qc];have N:s.heap.objs.size≠it:=λz=>f' v (by rw[<-z,n];exact Nat.not_succ_le_self _);have j:=h _ _ J;have B:=xo (gQ (·.push gD)) j rfl;have C:=(kA h2 s.heap.objs.size<|gQ (·.push gD)).gw<|kA _ s.heap.objs.size<|gQ (·.pop);refine ak<|vn<|ak (?_:bt _ A.in1 (FH s.heap.objs.size (·.push .none) >>= λ_=>FH s.heap.objs.size (·.pop)) _ _ _);refine ak<|zF j xz<|zF B xz<|aP ⟨ve F.plain_extend_loop _,agZ (P:=P) (w:=w) (it:=it) (a:=a) (ord:=ord) G N (by rw[po.length_eq];exact m) (ord.length-0) 0 _ [] 2 xz (bg _) (g.keep λb o z y=>(C.2 b λw=>?_).gw y) (xo (gQ (·.pop)) B rfl) .nil λh3 U c O R T=>?_⟩
 .rw[w,j]at y;cases y;exact z xz
 refine(ak<|La R<|aP ?_)
 have l:∀b o,s.heap.get? b=a_ o->b≠it/\b≠s.heap.objs.size:=λb o e=>by
  have:=bY e;have D:H1.objs.size<=it:=v;rw[n]at D;exact⟨dW<|ic this (dq (jC _) D),dW this⟩
 exact k _ ord h3 u T po λb o e=>O b o (l b o e).1 (l b o e).2<|(C.2 b (l b o e).2).gw<|h b o<|kp b o e
end
noncomputable def Dk(P:k_)(w:j_)(a:e_)(ns:List Int):HO:=.ext λh=>kK P w h a ns
def ahC{P:k_}{w:j_}(S:kK P w h a ns):fj P w H h a (Dk P w a ns):=by
 exact Xi (id S) λo es b t ks q _=>fY S ⟨o,q⟩ λh1 h2 g k=>g.keep k
def Xh(ns:List Int):qE (λi=>ns.getD i 0) ns.length=qF ns:=by
 unfold qE;rw[range_getD]
def Wn(ns:List Int):(qF ns).length<=ns.length:=by
 rw[<-Xh];exact Lp _ _
section
variable{X:Cx}
def Zg(P:k_)(w:j_)(K:u_):List V->Hp->VK->Prop:=λxs H Q=>∃(p:e_)(ns:List Int),xs=[.ref p]/\ag K H p (ns.map V.int)/\ns.length<4000/\∀a,H a=b_->Q (.ref a) (dc H a<|Dk P w a<|qF ns)
def afh(i:X.calm=c_):jt X (.type "set") (Zg X.prog X.w X.K):=by
 refine λp_ s σ H xs us Q I r h=>og h λp ns a j m q=>?_;subst a;refine aD (vals1 r) λu a l=>?_;subst a;cases l;refine a9 (I.list j) λc d pl n=>?_;have e:=d.length;rw[aA]at e;have g:c.toArray.size=c.length:=dG;refine afF (items:=c.toArray) (ns:=ns) (I.ok.hd i) pl.isList (by rw[Tp];exact intsAre_of d) (by rw[g];unfold B';lia) λh' tk S k=>?_;rw[g,<-e,Xh]at S;have hn:=I.aW.fresh<|aw _;have f:=I.jI (b:=s.heap.objs.size) (aw _) hn;have J:df X p_ σ H {s with heap:=h',toks:=tk}:=I.kept k;exact eA (.ref s.heap.objs.size) _ (df.adopt (o:=Dk X.prog X.w s.heap.objs.size<|qF ns) J hn I.sz f.2.1 f.2.2.2.2.1 f.2.2.2.2.2<|ahC S) xz<|q _ hn
def Yj(P:k_)(w:j_):List V->Hp->VK->Prop:=λxs H Q=>∃(a:e_)(ns:List Int),xs=[.ref a]/\H a=a_ (Dk P w a ns)/\ns.length<64/\∀l b,H l=b_->ij b ns->b.Pairwise (· < ·)->Q (.ref l) (dc H l<|.lst<|b.map V.int)
def ac6(G:X.calm=c_):jt X (.builtin "sorted") (Yj X.prog X.w):=by
 refine λp_ s σ H xs us Q I r h=>og h λa ns f ha h64 q=>?_;subst f;refine aD (vals1 r) λu f K=>?_;subst f;cases K;have S:kK X.prog X.w s.heap a ns:=(I.aW a _ ha).1
 have nd:ns.Nodup:=by
  exact BP S λo es D t ks _ _ _ _ _ f=>oA f λnd _=>nd
 refine Lh (H:=H) (ado (I.ok.hd G) S (by rw[gf];exact w5) λvs ord h' d p po k=>?_);have ol:=po.length_eq;have vl:=p.length;have E:=po.nodup_iff.mpr nd;refine oE I.fr λm F=>?_;have J:df X p_ σ H {s with heap:=h',drawn:=d}:=df.regrown (t':=s.toks) I F.ns (let ⟨o,es,D,e,rr⟩:=F.ns;⟨o,es,D,k _ _ e,rr⟩) λb o _ e=>k b o e
 have inj:∀i j,i<vs.length->j<vs.length->ord.getD i 0=ord.getD j 0->i=j:=λi j hi y e=>by
  have L:i<ord.length:=wf;have M:j<ord.length:=wf;have e':ord[i]=ord[j]:=by simpa[L,M]using e
  obtain z|z|z:=tN i j
  .exact f' e' (jR.mp E i j _ _ z)
  .exact z
  exact f' e'.gx (jR.mp E j i _ _ z)
 refine⟨ord.map V.int,⟨λi=>ord.getD i 0,J,Le p,⟨li,inj,λh2=>?_⟩,λl N hn O=>?_⟩⟩
 .refine⟨oneType',λs' kk=>⟨λQ' P=>?_,λi j C hi y ne c=>?_⟩⟩
  .match vs,p,h2 with
   | v1::v2::rest,p,_=>rw[keyKind_ints p];exact aP P
  unfold kas_ask;refine oE (TY p i _<|aI hi) λR A=>oE (TY p j _<|aI y) λT v=>?_;have U:vs.getD i gD=.int (ord.getD i 0) R:=by rw[<-A];simp[hi]
  have g2:vs.getD j gD=.int (ord.getD j 0) T:=by rw[<-v];simp[y]
  rw[U,g2];exact kat_lt_int c
 have W:GY ((ord.map λn=>(n,V.int n)).map (·.2)) (λi=>((ord.map λn=>(n,V.int n)).map (·.1)).getD i 0) N:=by
  rw[i7,i7];have A:(ord.map<|(λx:Int×V=>x.2) ∘ λn=>(n,V.int n))=ord.map V.int:=rfl
  have v:(ord.map<|(λx:Int×V=>x.1) ∘ λn=>(n,V.int n))=ord:=by
   show ord.map (λn=>n)=ord;simp
  rw[A,v];exact O
 refine a9 (Ud W) λqs g Y f=>?_;subst f
 have Z:∀x∈qs,x.2=V.int x.1:=λx B=>by
  refine aD (b8.mp<|g.mem_iff.mp B) λn _ e=>?_;rw[<-e]
 have em:qs.map (·.2)=(qs.map (·.1)).map V.int:=by
  rw[i7];exact Tq λx B=>Z x B
 rw[em];refine q l (qs.map (·.1)) hn ?_ ?_
 .have:=g.map (·.1);rw[i7]at this
  have v:(ord.map<|(λx:Int×V=>x.1) ∘ λn=>(n,V.int n))=ord:=by
   show ord.map (λn=>n)=ord;simp
  rw[v]at this;exact this.gw po
 exact JU.mpr Y
end
end L2
namespace L5
structure Sp where
 set:Option Nat
 kill:Bool
 nx:List Nat
noncomputable def behind(s:Sp)(names:Nat):Nat:=if s.kill=c_ then 0 else match s.set with
 | some m=>names ||| (1 <<< m)
 | none=>names
def Sub(a b:Nat):Prop:=∀k,a.testBit k=c_->b.testBit k=c_
def without:a-(a &&& b)=0↔Sub a b:=by
 have d:a &&& b<=a:=Nat.and_le_left;constructor
 .intro h k c;have e:a &&& b=a:=om;have:(a &&& b).testBit k=true:=by rw[e];exact c
  rw[Nat.testBit_and,iB]at this;exact this.2
 intro h
 have e:a &&& b=a:=by
  apply abF;intro k;rw[Nat.testBit_and];rcases c:a.testBit k with _|_;rfl;rw[h k c];rfl
 omega
def alT(h:¬Sub b a):a<a ||| b:=by
 have c:a<=a ||| b:=Nat.left_le_or
 obtain h1|h1:=JQ c
 .exact h1
 exfalso;apply h;intro k d;rw[h1,TX,d,Bool.or_true]
def Nu:(1 <<< m).testBit k=decide (m=k):=by
 rw[Tz,Nat.testBit_two_pow]
def ad9:(behind s names).testBit k=c_↔s.kill=d_/\(names.testBit k=c_\/s.set=a_ k):=by
 unfold behind;cases a:s.kill with
 | true=>simp
 | false=>
  rcases b:s.set with _|m;simp;show (names ||| 1 <<< m).testBit k=c_↔_;rw[TX,Nu,Bool.or_eq_true,decide_eq_true_eq];simp
noncomputable abbrev kM(row:List Nat)(i:Nat):Nat:=row.getD i 0
def OD(p:List Sp)(m:Nat)(row:List Nat):Prop:=∀(j:Nat)(s:Sp),j<m->p[j]?=a_ s->∀a∈s.nx,Sub (behind s<|kM row j)<|kM row a
def sum_set(ha:a<row.length):(row.set a v).sum+kM row a=row.sum+v:=by
 induction row generalizing a with
 | nil=>simp at ha
 | cons x r ih=>
  rcases a with _|a
  ·simp ;omega
  have:=ih (by simpa using ha);simp only[List.set_cons_succ,List.sum_cons];have e:kM (x::r) (a+1)=kM r a:=by simp 
  rw[e];omega
end L5
namespace L2
def su{J:It}{n:Nat}{g:TG}{f:TS}{D:Ends}{σ:St}{H:Hp}(Pv:Nat->St->Hp->Prop)(j:Pv 0 σ H)(k:∀i σ H,i<n->Pv i σ H->J.go i H)(l:∀σ H,Pv n σ H->J.stop n H)(o:∀i σ H,i<n->Pv i σ H->∀x H',J.we i H x H'->g x σ H' λa b=>f {D with nx:=Pv<|i+1,ct:=Pv<|i+1,bk:=D.nx} a b)(hd:∀σ H,Pv n σ H->D.nx σ H):∃W:Nat->Nat->St->Hp->Prop,(∃m,W 0 m σ H)/\∀i m σ H,W i m σ H->(J.stop i H/\D.nx σ H)\/(J.go i H/\∃N:St->Hp->Prop,(∀c H',N c H'->∃h,h<m/\W (i+1) h c H')/\∀x H',J.we i H x H'->g x σ H' λa b=>f {D with nx:=N,ct:=N,bk:=D.nx} a b):=by
 refine⟨λi m σ H=>m=n-i/\i<=n/\Pv i σ H,⟨n,by simp,bg _,j⟩,?_⟩;refine λi m σ H q=>gY q λr hi p=>?_;subst r
 by_cases d:i<n
 .exact .inr ⟨k i _ H d p,⟨Pv<|i+1,λc H' s=>⟨n-(i+1),om,xz,d,s⟩,o i _ H d p⟩⟩
 have e:i=n:=li;subst e;exact .inl ⟨l _ H p,hd _ H p⟩
end L2
namespace L2
open PySem.SeqAt
noncomputable instance arM:DecidableEq ci:=Classical.typeDecidableEq ci
noncomputable def bZ:Nat->ci->Bool
 | _,.int _=>c_
 | n+1,.tuple xs=>xs.all<|bZ n
 | _,_=>d_
noncomputable def Hi:Nat->ci->Nat
 | n+1,.tuple xs=>(xs.map<|Hi n).sum+1
 | _,_=>1
def jm(h:bZ n d=c_):(∃i,d=.int i)\/∃m xs,n=m+1/\d=.tuple xs/\∀x∈xs,bZ m x=true:=by
 cases d with
 | int i=>exact .inl ⟨i,xz⟩
 | tuple xs=>
  rcases n with _|m;exact nomatch h;exact .inr ⟨m,xs,xz,xz,kZ.mp h⟩
 | _=>cases n <;> cases h
def kD(r:Reads h v (.int i) as):∃t,v=.int i t:=by cases r with | int i t=>exact⟨t,rfl⟩
def lS(r:Reads h v (.tuple xs) as):∃(a:e_)(o:d5)(vs:Array f_)(n:Nat),v=.ref a/\h.get? a=a_ o/\o.cls=.type "tuple"/\o.data=.seq vs n/\Cm h vs.toList xs as:=by
 cases r with
 | tuple e c d r=>exact⟨_,_,_,_,xz,e,c,d,r⟩
theorem lW{vs:List f_}{ds:List ci}{a:List e_}(q:Cm h vs ds a):bw (λv d=>∃bs,Reads h v d bs) vs ds:=by
 induction vs generalizing ds a with
 |nil=>cases q;exact .nil
 |cons u us i=>cases q with|cons r t=>exact .cons ⟨_,r⟩<|i t
def Vo:∀{n m:Nat}{d e:ci}{v:f_}{c bs:List e_},bZ n d=c_->bZ m e=c_->Reads h v d c->Reads h v e bs->d=e:=by
  intro n
  induction n with
  | zero=>
   intro m d e v c bs h1 h2 f r2;obtain⟨i,rfl⟩|⟨k,xs,z,_⟩:=jm h1
   .obtain⟨t,rfl⟩:=kD f;obtain⟨j,rfl⟩|⟨k,ys,rfl,rfl,_⟩:=jm h2
    .obtain⟨u,e⟩:=kD r2;cases e;rfl
    obtain⟨a,o,vs,n,e,_⟩:=lS r2;cases e
   cases z
  | succ k ih=>
   intro m d e v c bs h1 h2 f r2;obtain⟨i,rfl⟩|⟨k',xs,z,rfl,A⟩:=jm h1
   .obtain⟨t,rfl⟩:=kD f;obtain⟨j,rfl⟩|⟨k,ys,rfl,rfl,_⟩:=jm h2
    .obtain⟨u,e⟩:=kD r2;cases e;rfl
    obtain⟨a,o,vs,n,e,_⟩:=lS r2;cases e
   cases z;obtain⟨a,o,vs,n,rfl,B,c1,d1,C⟩:=lS f;obtain⟨j,rfl⟩|⟨D,ys,rfl,rfl,g2⟩:=jm h2
   .obtain⟨u,e⟩:=kD r2;cases e
   obtain⟨J,o',K,L,E,g,M,r,F⟩:=lS r2;cases E;rw[B]at g;cases g;rw[d1]at r;cases r
   have G:∀{l:List f_}{xs ys:List ci},bw (λv d=>∃bs,Reads h v d bs) l xs->bw (λv d=>∃bs,Reads h v d bs) l ys->(∀x∈xs,bZ k x=c_)->(∀y∈ys,bZ D y=c_)->xs=ys:=by
    intro l
    induction l with
    | nil=>intro xs ys p q _ _;cases p;cases q;rfl
    | cons v l il=>
     intro xs ys p q s w;cases p with
     | cons a t=>
      cases q with
      | cons b u=>
       obtain⟨c,a⟩:=a;obtain⟨bs,b⟩:=b;rw[ih (s _ bV) (w _ bV) a b,il t u (λx H=>s x<|cu _ H) λy I=>w y<|cu _ I]
   rw[G (lW C) (lW F) A g2]
def Us(k:∀(b:e_)(o:d5)(vs:Array f_)(n:Nat),h.get? b=a_ o->o.data=.seq vs n->h'.get? b=a_ o):∀{n:Nat}{d:ci}{v:f_}{c:List e_},bZ n d=c_->Reads h v d c->∃bs,Reads h' v d bs:=by
  intro n
  induction n with
  | zero=>
   intro d v c g r;obtain⟨i,rfl⟩|⟨k,xs,z,_⟩:=jm g
   .obtain⟨t,rfl⟩:=kD r;exact⟨_,.int i t⟩
   cases z
  | succ m ih=>
   intro d v c g r;obtain⟨i,rfl⟩|⟨y,xs,z,rfl,f⟩:=jm g
   .obtain⟨t,rfl⟩:=kD r;exact⟨_,.int i t⟩
   cases z;obtain⟨a,o,vs,n,rfl,j,c1,d1,s⟩:=lS r
   have all:∀{l:List f_}{xs:List ci},bw (λv d=>∃bs,Reads h v d bs) l xs->(∀x∈xs,bZ m x=c_)->∃bs,Cm h' l xs bs:=by
    intro l xs p
    induction p with
    | nil=>exact λ_=>⟨_,.nil⟩
    | cons a t it=>
     intro e;obtain⟨c,a⟩:=a;obtain⟨bs,q⟩:=ih (e _ bV) a;obtain⟨cs,u⟩:=it λx w=>e x<|cu _ w;exact⟨_,.cons q u⟩
   obtain⟨bs,q⟩:=all (lW s) f;exact⟨_,.tuple (k _ _ _ _ j d1) c1 d1 q⟩
section
variable{prog:k_}{w:j_}{E:f_->g_->Prop}
def akr:∀{n:Nat}{d:ci}{v:f_}{c:List e_}{A:h_}{s:g_}{Q:Int->g_->Prop},bZ n d=c_->Reads s.heap v d c->A.units+n<cLine->Q (C5 n d) {heap:=s.heap,gens:=s.gens,drawn:=s.drawn,toks:=s.toks+Hi n d,os:=s.os}->bt (bv prog w) A (pyHash v) Q E s:=by
 intro n
 induction n with
 | zero=>
  intro d v c A s Q g r B q;obtain⟨i,rfl⟩|⟨k,xs,z,_⟩:=jm g
  .obtain⟨t,rfl⟩:=kD r;exact TB q
  cases z
 | succ m ih=>
  intro d v c A s Q g r B q;obtain⟨i,rfl⟩|⟨H,xs,z,rfl,C⟩:=jm g
  .obtain⟨t,rfl⟩:=kD r;exact TB q
  cases z;obtain⟨a,o,vs,n,rfl,u,c1,d1,D⟩:=lS r;have ty:=Kz ⟨o,u,c1,n,d1⟩;refine W.pyHash_slot ty F.slot_tuple_hash F.entry_tuple_hash (F.args_tuple_hash_1 _) xz (.inr li) ?_;refine ak (aP ?_);refine ak<|Tr u d1 (ak ?_);rw[<-abV];refine BI _ (λl b s'=>∃done rest,xs=done++rest/\b.toList=done.map (C5 m)/\bw (λv d=>∃bs,Reads s.heap v d bs) l rest/\s'={heap:=s.heap,gens:=s.gens,drawn:=s.drawn,toks:=s.toks+(done.map<|Hi m).sum,os:=s.os}) _ ?_ ?_ _ _ ⟨[],xs,xz,xz,(lW D),xz⟩
  .rintro x rest b s' ⟨y,rs,e,f,p,es⟩;cases p with
   | @cons _ d2 _ ds j t=>
    obtain⟨bs,j⟩:=j;subst es;refine ak<|ih (C _<|by rw[e];simp) j (by lia) ?_;refine aP ⟨y++[d2],ds,by rw[e];simp,by simp[f],t,?_⟩;simp[Nat.add_assoc]
  rintro b s' ⟨y,rs,e,f,p,es⟩;cases p;subst es;rw[nK]at e;subst e;refine jU (wpAny_ret_mkInt (Q:=λv s2=>∃t,v=.int (Td b.toList) t/\Q (reduceHash<|Td b.toList) s2) ⟨_,xz,?_⟩) (λfin s2⟨v,e,t,G,h⟩=>⟨_,t,by rw[e,G],h⟩) λ_ _ x=>x;rw[f];exact q
def ZI:∀{n m:Nat}{d e:ci},bZ n d=c_->bZ m e=c_->d.eqv e=decide (d=e):=by
 intro n
 induction n with
 | zero=>
  intro m d e h1 h2;obtain⟨i,rfl⟩|⟨k,xs,z,_⟩:=jm h1
  .obtain⟨j,rfl⟩|⟨k,ys,rfl,rfl,_⟩:=jm h2
   .rw[lj];by_cases z:i=j
    .subst z;simp
    rw[fT λy=>z (by cases y;rfl)];exact gl.mpr z
   rw[lj,fT (by intro z;cases z)] <;> (intros;simp_all)
  cases z
 | succ k ih=>
  intro m d e h1 h2;obtain⟨i,rfl⟩|⟨k',xs,z,rfl,c⟩:=jm h1
  .obtain⟨j,rfl⟩|⟨k,ys,rfl,rfl,_⟩:=jm h2
   .rw[lj];by_cases z:i=j
    .subst z;simp
    rw[fT λy=>z (by cases y;rfl)];exact gl.mpr z
   rw[lj,fT (by intro z;cases z)] <;> (intros;simp_all)
  cases z;obtain⟨j,rfl⟩|⟨f,ys,rfl,rfl,g2⟩:=jm h2
  .rw[lj,fT (by intro z;cases z)] <;> (intros;simp_all)
  have g:∀{xs ys:List ci},(∀x∈xs,bZ k x=c_)->(∀y∈ys,bZ f y=c_)->tQ xs ys=decide (xs=ys):=by
   intro xs
   induction xs with
   | nil=>intro ys _ _;cases ys <;> rw[tQ] <;> simp
   | cons x xs il=>
    intro ys a b;rcases ys with _|⟨y,ys⟩
    ·rw[tQ] <;> simp
    rw[tQ,ih (a _ bV)<|b _ bV,il (λx h=>a x<|cu _ h) λy l=>b y<|cu _ l]
    by_cases z:x=y <;> by_cases o:xs=ys <;> simp[z,o]
  rw[lj,g c g2]
  by_cases z:xs=ys
  .subst z;simp
  rw[fT z,fT λy=>z (by cases y;rfl)]
def C4:∀{n:Nat}{d:ci},bZ n d=c_->d.canLay0=c_/\d.depth<=n+1:=by
 intro n
 induction n with
 | zero=>
  intro d g;obtain⟨i,rfl⟩|⟨k,xs,z,_⟩:=jm g
  .rw[xx,BM];exact⟨xz,qc⟩
  cases z
 | succ m ih=>
  intro d g;obtain⟨i,rfl⟩|⟨j,xs,z,rfl,f⟩:=jm g
  .rw[xx,BM];exact⟨xz,li⟩
  cases z
  have all:∀{xs:List ci},(∀x∈xs,bZ m x=c_)->rG xs=c_/\vd xs<=m+1:=by
   intro xs
   induction xs with
   | nil=>intro _;rw[rG,vd];exact⟨xz,bg _⟩
   | cons x xs il=>
    intro e;obtain⟨a,b⟩:=ih<|e _ bV;obtain⟨c,d⟩:=il λx h=>e x<|cu _ h;rw[rG,vd,a,c];exact⟨xz,li⟩
  obtain⟨a,b⟩:=all f;rw[xx,BM];exact⟨a,li⟩
def ah4:∀{n:Nat}{d:ci}{v:f_}{e:List e_}{A:h_}{s:g_}{Q:Bool->g_->Prop},bZ n d=c_->Reads s.heap v d e->Q c_ s->bt (bv prog w) A (eqIsQuiet n v) Q E s:=by
 intro n
 induction n with
 | zero=>
  intro d v e A s Q g r q;obtain⟨i,rfl⟩|⟨k,xs,z,_⟩:=jm g
  .obtain⟨t,rfl⟩:=kD r;rw[eqIsQuiet_byValue _ rfl];exact aP q
  cases z
 | succ m ih=>
  intro d v e A s Q g r q;obtain⟨i,rfl⟩|⟨y,xs,z,rfl,j⟩:=jm g
  .obtain⟨t,rfl⟩:=kD r;rw[eqIsQuiet_byValue _ rfl];exact aP q
  cases z;obtain⟨a,o,vs,n,rfl,f,c1,d1,u⟩:=lS r;have ty:=Kz ⟨o,f,c1,n,d1⟩;rw[eqIsQuiet.eq_def];refine ak<|wpAny_specialOf ty F.slot_tuple_eq.lookup (ak<|BH ty abD ?_);refine ak<|rO f d1 (ak ?_);rw[show (a_ vs:Option _).getD #[]=vs from xz,<-abV];refine BI _ (λl b s'=>b=(b_,())/\s'=s/\∃rest,(∀x∈rest,bZ m x=c_)/\bw (λv d=>∃bs,Reads s.heap v d bs) l rest) _ ?_ ?_ _ _ ⟨xz,xz,xs,j,(lW u)⟩
  .rintro x rest b s' ⟨rfl,rfl,rs,h,p⟩;cases p with
   | cons c t=>
    obtain⟨bs,c⟩:=c;exact ak<|ih (h _ bV) c<|aP ⟨xz,xz,_,λx c=>h x<|cu _ c,t⟩
  rintro b s' ⟨rfl,rfl,_⟩;exact aP q
def ZK{f bs:List e_}(h1:bZ n d=c_)(h2:bZ m e=c_)(c:Reads s.heap (.ref a) d f)(r2:Reads s.heap (.ref b) e bs)(g:A.units+n+1<cLine)(q:Q (decide<|d=e) s):bt (bv prog w) A (eqBool (.ref a)<|.ref b) Q E s:=by
 refine lP ?_
 by_cases z:a=b
 .subst z;rw[eT (by simp)];refine ak<|vn<|aP ?_;rw[Vo h1 h2 c r2,fC rfl]at q;exact q
 rw[eN (by simpa using z)];refine ak ?_;refine compareEq_reads c r2 (C4 h1).1 (C4 h2).1 ?_<|qh ?_
 .have:=(C4 h1).2;lia
 rw[ZI h1 h2];exact q
end
noncomputable def YG:ci->Bool
 | .tuple _=>c_
 | _=>d_
def nk(P:k_)(w:j_):HeapKind P w ci where
 is h k a:=YG k=c_/\bZ 8 k=c_/\∃i,Reads h (.ref a) k i
 hash:=C5 8
 draws:=Hi 8
 room A:=A.units+9<cLine
 inj:=λ⟨_,h1,_,c⟩⟨_,h2,_,r2⟩=>Vo h1 h2 c r2
 keeps:=λ⟨t,h1,_,c⟩e d j=>⟨t,h1,Us (λb o vs n f g=>(j.2 b λz=>by subst z;rw[e]at f;cases f;rw[d]at g;cases g).gw f) h1 c⟩
 pyHash:=λl⟨_,h1,_,c⟩q=>akr h1 c li q
 eqBool:=λl⟨_,h1,_,c⟩⟨_,h2,_,r2⟩q=>ZK h1 h2 c r2 li q
 quiet:=λ⟨_,h1,_,c⟩q=>ah4 h1 c q
def Az(K:u_)(H:Hp)(x:ci×e_):Prop:=YG x.1=c_/\bZ 8 x.1=c_/\eM K H (.ref x.2) x.1
def As(K:u_)(H:Hp)(xs:List (ci×e_)):Prop:=∀x∈xs,Az K H x
noncomputable abbrev pL(xs:List (ci×e_)):List (ci×e_×f_):=xs.map λx=>(x.1,x.2,lh c_)
def VC(xs:List (ci×e_)):(pL xs).map (λx=>x.1)=xs.map (·.1):=by unfold pL;rw[i7];rfl
def Xr(xs:List (ci×e_))(d:ci):(atKey (pL xs) d).isSome=decide (d∈xs.map (·.1)):=by
 induction xs with
 | nil=>rfl
 | cons x r ih=>
  unfold pL atKey at ih ⊢;rw[eV,Ke]
  by_cases e:x.1=d
  .simp[e]
  have a:=fT e;have b:¬d=x.1:=λz=>e z.gx;simp only[a];rw[ih];simp[b]
section
variable{X:Cx}{p_:List (e_×d5)}{σ:St}{H:Hp}{s:g_}{a:e_}{xs:List (ci×e_)}{d:ci}{b:e_}
def FD(I:df X p_ σ H s)(k:Az X.K H (d,b)):(nk X.prog X.w).is s.heap d b:=⟨k.1,k.2.1,eM.reads I k.2.2 xz⟩
def Pe(I:df X p_ σ H s)(e:H a=a_ (.dT xs))(ks:As X.K H xs):(a==BU)=d_/\xs.length<=bc/\s.heap.DictOfH (nk X.prog X.w) a (pL xs):=by
 obtain⟨h1,h2,o,es,c,h3,h4,h5,f,g⟩:=I.aW a _ e;refine⟨h1,h2,o,es,c,h3,h4,h5,by rw[f,pL,i7];rfl,λx h=>?_,by rw[VC];exact g⟩;obtain⟨y,i,rfl⟩:=b8.mp h;exact FD I<|ks y i
def Zn{P:k_}{w:j_}(h1:(a==BU)=d_)(h2:xs.length<=bc)(e:h.DictOfH (nk P w) a (pL xs)):fj P w H h a (.dT xs):=by
 obtain⟨o,es,f,h3,h4,h5,g,_,c⟩:=e;rw[VC]at c;exact⟨h1,h2,o,es,f,h3,h4,h5,by rw[g,pL,i7];rfl,c⟩
def Yt(I:df X p_ σ H s)(e:H a=a_ (.dT xs))(h1:(a==BU)=d_)(f:xs.length<bc)(n:d∉xs.map (·.1))(c:Heap.DictOfH (nk X.prog X.w) h' a (storedH (pL xs) d b<|.bool c_))(g:gz a s.heap h'):df X p_ σ (dc H a<|.dT<|xs++[(d,b)]) {s with heap:=h',toks:=t'}:=by
 have es:storedH (pL xs) d b (.bool c_)=pL (xs++[(d,b)]):=by
  unfold storedH;rw[Xr,fT n];simp 
 rw[es]at c;have h:∃q,h'.get? a=a_ q:=let ⟨q,_,_,hq,_⟩:=c;⟨q,hq⟩
 refine I.write (e▸mX) (.inl xz) (λb q i z=>(g.2 b i).gw z) h<|Zn h1 (cQ▸f) c
end
def afz(K:u_)(ty td:TE):TE:=λσ H Q=>ty σ H λy e=>td σ e λx c=>∃a xs b d,x=.ref a/\c a=a_ (.dT xs)/\As K c xs/\y=.ref b/\Az K c (d,b)/\Q (.bl<|!decide (d∈xs.map (·.1))) c
def ajK(K:u_)(td ty tv:TE):TS:=λD σ H=>tv σ H λv e=>td σ e λx f=>ty σ f λy c=>∃a xs b d,v=.bl c_/\x=.ref a/\c a=a_ (.dT xs)/\As K c xs/\y=.ref b/\Az K c (d,b)/\
 xs.length<bc/\d∉xs.map (·.1)/\D.nx σ (dc c a<|.dT<|xs++[(d,b)])
def ajq(K:u_)(ty tv:TE):TE:=λσ H Q=>∀p,H p=b_->ty σ (dc H p<|.dT []) λy c=>tv σ c λv a=>∃b d,v=.bl c_/\a p=a_ (.dT [])/\y=.ref b/\Az K a (d,b)/\Q (.ref p) (dc a p<|.dT [(d,b)])
section
variable{X:Cx}{o i value:c0}{pos pos':Pos}{td ty tv:TE}
def adM(v:X.A.units+10<cLine)(hi:PE X i ty)(e:PE X o td):PC X .NotIn i o (afz X.K ty td):=by
 intro p_ s σ H Q I h;refine aV (hi _ s _ H _ I h) ?_;rintro f s1⟨y,w,j,k,l⟩;refine aV (e _ _ _ _ _ j l) ?_;rintro u s2⟨x,m,c,n,a,xs,b,d,ex,g,ks,p,q,r⟩;subst ex;subst p;obtain rfl:u=dA a:=n;obtain rfl:f=dA b:=k;obtain⟨hd,_,t⟩:=Pe c g ks;refine wpAny_notIn_heap (show X.A.units+1+9<cLine by lia) (FD c q) hd t ?_;rw[Xr];exact⟨.bl _,m,c.tok _,xz,r⟩
def afW(M:X.A.units+10<cLine)(e:PE X o td)(hi:PE X i ty)(f:PE X value tv)(j:FJ value (a_<|.Subscript o i pos') pos.line X.env=pure d_):PS X (.Assign [.Subscript o i pos'] value pos) (ajK X.K td ty tv):=by
 intro p_ s σ H D I h;refine wpAny_Assign_Subscript (aV (f _ s _ H _ I h) ?_) j;rintro r s1⟨v,N,k,l,m⟩;refine aV (e _ _ _ _ _ k m) ?_;rintro u s2⟨x,O,n,p,q⟩;refine aV (hi _ _ _ _ _ n q) ?_;rintro t P⟨y,Q,c,w,a,xs,b,d,z,ex,g,ks,B,C,E,hn,F⟩;subst z;subst ex;subst B;obtain rfl:u=dA a:=p;obtain rfl:t=dA b:=w;obtain rfl:r=lh true:=l;obtain⟨hd,R,G⟩:=Pe c g ks;refine wpAny_setItem_heap (show X.A.units+1+9<cLine by lia) (FD c C) G λh' J L=>⟨σ,_,Yt c g hd E hn J L,F⟩
def afZ(M:X.A.units+10<cLine)(hi:PE X k ty)(c:PE X v tv):PE X (.Dict [a_ k] [v] pos) (ajq X.K ty tv):=by
 intro p_ s σ H Q I q;have hn:=I.aW.fresh<|aw _;have f:BU<s.zS:=Ky qc (I.mod.glob.keeps I.bk).lt
 have j:=I.laid (o:=.dT []) (h':=s.heap.push {cls:=.type "dict",data:=.dict #[]}) (t':=s.toks) (λ_ _ q=>bU _ q) (aw _)
  (Zn (xs:=[]) (gl.mpr<|iT<|dW f) (bg _)<|Heap.DictOfH.new s.heap)
 refine wpAny_Dict_any xz xz (by simp) (show 1<=15 by decide)<|pairTrees_cons_walk<|aV (hi _ _ _ _ _ j<|q _ hn) ?_;rintro u s1⟨y,N,m,n,p⟩;refine aV (c _ _ _ _ _ m p) ?_;rintro r s2⟨x,t,a,w,b,d,z,g,B,C,D⟩;refine pairTrees_nil_walk ?_;subst z;subst B;obtain rfl:u=dA b:=n;obtain rfl:r=lh true:=w;obtain⟨hd,O,E⟩:=Pe a g (λx F=>by cases F);show bt _ _ _ _ _ _;unfold storeAll;refine BI _ (λl _ s'=>(l=[(dA b,lh _)]/\s'=s2)\/(l=[]/\df X p_ σ (dc t s.zS<|.dT<|[]++[(d,b)]) s')) _ ?_ ?_ _ _<|.inl ⟨xz,xz⟩
 .rintro x rest _ s' h;obtain⟨e,rfl⟩|⟨e,_⟩:=h
  .cases e;exact ak (wpAny_dictSet_heap (by show X.A.units+9<cLine;lia) (FD a C) E λh' G J=>aP<|.inr ⟨xz,Yt a g hd qc (by simp) G J⟩)
  cases e
 rintro _ s' h;obtain⟨e,_⟩|⟨_,L⟩:=h
 .cases e
 exact⟨.ref _,_,L,xz,D⟩
end
end L2
namespace L2
open PySem.W PySem.SeqAt
noncomputable def alike:Nat->ci->ci->Bool
 | _,.int _,.int _=>c_
 | n+1,.tuple xs,.tuple ys=>decide (xs.length=ys.length)&&(xs.zip ys).all λp=>alike n p.1 p.2
 | _,_,_=>d_
noncomputable def cY:Nat->ci->List Int
 | _,.int i=>[i]
 | n+1,.tuple xs=>xs.flatMap<|cY n
 | _,_=>[]
def zQ(h:alike n d e=c_):(∃i j,d=.int i/\e=.int j)\/∃m xs ys,n=m+1/\d=.tuple xs/\e=.tuple ys/\bw (λx y=>alike m x y=c_) xs ys:=by
 have a:∀{m:Nat}{xs ys:List ci},xs.length=ys.length->(∀p∈xs.zip ys,alike m p.1 p.2=c_)->bw (λx y=>alike m x y=c_) xs ys:=by
  intro m xs
  induction xs with
  | nil=>intro ys h _;cases ys with
   | nil=>exact .nil
   | cons _ _=>cases h
  | cons x xs ih=>intro ys h k;cases ys with
   | nil=>cases h
   | cons y ys=>exact .cons (k _ bV) (ih (BN h) λp b=>k p<|cu _ b)
 cases d with
 | int i=>cases e with
  | int j=>exact .inl ⟨i,j,xz,xz⟩
  | _=>cases n <;> cases h
 | tuple xs=>cases e with
  | tuple ys=>
   cases n with
   | zero=>exact nomatch h
   | succ m=>
    have h':(decide (xs.length=ys.length)&&(xs.zip ys).all λp=>alike m p.1 p.2)=true:=h;rw[iB]at h';exact .inr ⟨m,xs,ys,xz,xz,xz,a (fi h'.1)<|kZ.mp h'.2⟩
  | _=>cases n <;> cases h
 | _=>cases n <;> cases h
def akR{a c b d:List Int}(h:a.length=c.length):a++b<c++d↔a<c\/(a=c/\b<d):=by
 induction a generalizing c with
 | nil=>cases c with
  | nil=>simp
  | cons _ _=>cases h
 | cons x a ih=>cases c with
  | nil=>cases h
  | cons y c=>
   rw[acp,acp,JL,JL,ih<|BN h]
   by_cases z:x=y
   .subst z;simp 
   simp[z]
def MB:∀{n:Nat}{d e:ci},alike n d e=c_->(cY n d).length=(cY n e).length/\(cY n d=cY n e->d=e):=by
 intro n
 induction n with
 | zero=>
  intro d e h;obtain⟨i,j,rfl,rfl⟩|⟨m,_,_,z,_⟩:=zQ h
  .exact⟨xz,λz=>by rw[(tS z).1]⟩
  cases z
 | succ m ih=>
  intro d e h;obtain⟨i,j,rfl,rfl⟩|⟨g,xs,ys,z,rfl,rfl,p⟩:=zQ h
  .exact⟨xz,λz=>by rw[(tS z).1]⟩
  cases z
  have all:∀{xs ys:List ci},bw (λx y=>alike m x y=c_) xs ys->(xs.flatMap<|cY m).length=(ys.flatMap<|cY m).length/\(xs.flatMap (cY m)=ys.flatMap (cY m)->xs=ys):=by
   intro xs ys p
   induction p with
   | nil=>exact⟨xz,λ_=>rfl⟩
   | cons a t it=>
    obtain⟨l1,b⟩:=ih a;rw[zE,zE,cQ,cQ,l1,it.1];refine⟨xz,λz=>?_⟩;obtain⟨c,f⟩:=List.append_inj z l1;rw[b c,it.2 f]
  obtain⟨l,i⟩:=all p;exact⟨l,λz=>by rw[i z]⟩
def mx(d e:ci):Bool:=decide<|cY 8 d<cY 8 e
section
variable{prog:k_}{w:j_}{E:f_->g_->Prop}
def VO{m:Nat}{x y:ci}{xs ys:List ci}(h:alike m x y=c_):((x::xs).flatMap (cY m)<(y::ys).flatMap (cY m))↔(x≠y/\cY m x<cY m y)\/(x=y/\xs.flatMap (cY m)<ys.flatMap (cY m)):=by
 rw[zE,zE,akR (MB h).1];constructor
 .rintro(z | ⟨z,k⟩)
  .exact .inl ⟨λe=>(List.lt_irrefl _)<|e ▸ z,z⟩
  exact .inr ⟨(MB h).2 z,k⟩
 rintro(⟨_,z⟩ | ⟨rfl,k⟩)
 .exact .inl z
 exact .inr ⟨xz,k⟩
def ZJ{c bs:List e_}(h1:bZ n d=c_)(h2:bZ m e=c_)(f:alike n d e=c_)(b:Reads s.heap u d c)(r2:Reads s.heap v e bs)(g:A.units+n+1<cLine)(q:Q (decide<|d=e) s):bt (bv prog w) A (eqBool u v) Q E s:=by
 obtain⟨i,j,rfl,rfl⟩|⟨k,xs,ys,_,rfl,rfl,_⟩:=zQ f
 .obtain⟨t,rfl⟩:=kD b;obtain⟨t',rfl⟩:=kD r2;refine TC ?_;rw[show (i==j)=decide (nM i=nM j) by by_cases z:i=j <;> simp[z]];exact q
 obtain⟨a,o,vs,n,rfl,_⟩:=lS b;obtain⟨h,o',l,p,rfl,_⟩:=lS r2;exact ZK h1 h2 b r2 g q
def aoQ:∀{n:Nat}{d e:ci}{u v:f_}{M bs:List e_}{A:h_}{s:g_}{Q:f_->g_->Prop},bZ n d=c_->bZ n e=c_->alike n d e=c_->Reads s.heap u d M->Reads s.heap v e bs->A.units+2*n+2<cLine->Q (.bool<|decide<|cY n d<cY n e) s->bt (bv prog w) A (g6 .Lt u v) Q E s:=by
 intro n
 induction n with
 | zero=>
  intro d e u v M bs A s Q R g2 N C r2 Z q;obtain⟨i,j,rfl,rfl⟩|⟨k,xs,ys,z,_⟩:=zQ N
  .obtain⟨t,rfl⟩:=kD C;obtain⟨t',rfl⟩:=kD r2;refine wpAny_lt_int ?_;rw[show decide (i<j)=decide (cY 0 (.int i)<cY 0 (.int j)) by simp[cY,JL]];exact q
  cases z
 | succ m ih=>
  intro d e u v M bs A s Q R g2 N C r2 Z q;obtain⟨i,j,rfl,rfl⟩|⟨m',xs,ys,z,rfl,rfl,p⟩:=zQ N
  .obtain⟨t,rfl⟩:=kD C;obtain⟨t',rfl⟩:=kD r2;refine wpAny_lt_int ?_;rw[show decide (i<j)=decide (cY (m+1) (.int i)<cY (m+1) (.int j)) by simp[cY,JL]];exact q
  cases z;obtain⟨a,o,vs,n1,rfl,S,c1,d1,T⟩:=lS C;obtain⟨b,o',O,n2,rfl,U,c2,V,W⟩:=lS r2;have h1:∀x∈xs,bZ m x=true:=kZ.mp R;have h2:∀x∈ys,bZ m x=true:=kZ.mp g2;have X:s.TypeIs (.ref a) "tuple":=Kz ⟨o,S,c1,n1,d1⟩;have Y:s.TypeIs (.ref b) "tuple":=Kz ⟨o',U,c2,n2,V⟩;show bt _ _ (KI .Lt (.ref a)<|.ref b) _ _ _;refine wpAny_richCompare_same_room X Y F.slot_tuple_lt (rH F.slot_tuple_lt X F.entry_tuple_lt ?_<|F.args_tuple_lt_2 _ _) li;rw[show Builtin.«tuple.__lt__» = Builtin.«tuple.__lt__» from rfl];unfold Builtin.«tuple.__lt__»;refine ak<|aP ?_;refine ak<|BH Y abD ?_;refine ak<|Tr S d1<|ak<|Tr U V<|ak ?_;refine BI _ (λl b s'=>b=(b_,())/\s'=s/\∃us ws c f,l=us.zip ws/\bw (λv d=>∃bs,Reads s.heap v d bs) us c/\bw (λv d=>∃bs,Reads s.heap v d bs) ws f/\bw (λx y=>alike m x y=c_) c f/\(∀x∈c,bZ m x=c_)/\(∀y∈f,bZ m y=c_)/\Q (.bool<|decide<|c.flatMap (cY m)<f.flatMap (cY m)) s) _ ?_ ?_ _ _ ⟨xz,xz,_,_,xs,ys,xz,lW T,lW W,p,h1,h2,q⟩
  .rintro x rest b' s' ⟨rfl,rfl,us,ws,c,f,D,g,r,h,G,H,I⟩;cases h with
   | nil=>cases g;cases D
   | @cons J K c f qe h=>
    cases g with
    | @cons u1 _ us _ B g=>
     cases r with
     | @cons w1 _ ws _ L r=>
      cases D;obtain⟨oG,B⟩:=B;obtain⟨bs1,L⟩:=L;have cf:=VO (xs:=c) (ys:=f) qe;refine ak<|ZJ (G _ bV) (H _ bV) qe B L (by show A.units+1+m+1<cLine;lia) ?_
      by_cases z:J=K
      .rw[fC z];refine aP ⟨xz,xz,us,ws,c,f,xz,g,r,h,λx P=>G x<|cu _ P,λx P=>H x<|cu _ P,?_⟩;rw[show decide (c.flatMap (cY m)<f.flatMap (cY m))=decide ((J::c).flatMap (cY m)<(K::f).flatMap (cY m)) from decide_eq_decide.mpr (by rw[cf];simp[z])];exact I
      rw[fT z];refine ak<|vn<|ak ?_;show bt _ _ (g6 .Lt u1 w1) _ _ _;refine ih (G _ bV) (H _ bV) qe B L (by show A.units+1+2*m+2<cLine;lia) ?_;refine ak<|aP<|aP ?_;refine aP ?_;refine⟨_,xz,⟨λz=>(by cases z),?_⟩⟩;rw[show decide (cY m J<cY m K)=decide ((J::c).flatMap (cY m)<(K::f).flatMap (cY m)) from decide_eq_decide.mpr (by rw[cf];simp[z])];exact I
  rintro b' s' ⟨rfl,rfl,us,ws,c,f,D,g,r,h,G,H,I⟩;have l1:=r_<|lW T;have l2:=r_<|lW W;have l3:=r_ p;refine aP ?_;refine⟨_,xz,⟨λz=>(by cases z),?_⟩⟩;cases g with
  | nil=>
   cases h;have es:vs.size=O.size:=by rw[<-jS,<-jS,l1,l2,l3]
   show Q (.bool<|decide<|vs.size<O.size) s';rw[fT (show ¬vs.size<O.size by lia)];simpa using I
  | cons B g=>
   cases h with
   | cons _ h=>
    cases r with
    | cons _ r=>cases D
end
section
variable{prog:k_}{w:j_}
def amx(o:A.units+2*m+4<cLine):∀{us ws:List f_}{a b:List ci}{i:Nat},bw (λv d=>∃bs,Reads s.heap v d bs) us a->bw (λv d=>∃bs,Reads s.heap v d bs) ws b->bw (λx y=>alike m x y=c_) a b->(∀x∈a,bZ m x=c_)->(∀y∈b,bZ m y=c_)->Q (decide<|a.flatMap (cY m)<b.flatMap (cY m)) s->KatLex prog w A d_ d_ Q (us.zip ws) i s:=by
 intro us ws a b i c h n
 induction n generalizing us ws i with
 | nil=>
  intro _ _ q;cases c;rw[List.zip_nil_left,KatLex.eq_def];simpa using q
 | @cons d e a b qe n ih=>
  intro j k q;cases c with
  | cons f c=>
   cases h with
   | cons g h=>
    obtain⟨oG,f⟩:=f;obtain⟨p,g⟩:=g;have cf:=VO (xs:=a) (ys:=b) qe;rw[Tu];refine kat_cons<|ZJ (j _ bV) (k _ bV) qe f g li ?_
    by_cases z:d=e
    .rw[fC z];refine ih c h (λx l=>j x<|cu _ l) (λx l=>k x<|cu _ l) ?_;rw[show decide (a.flatMap (cY m)<b.flatMap (cY m))=decide ((d::a).flatMap (cY m)<(e::b).flatMap (cY m)) from decide_eq_decide.mpr (by rw[cf];simp[z])];exact q
    rw[fT z];refine kat_no<|kat_one _ _<|aoQ (j _ bV) (k _ bV) qe f g li ?_;show Q _ s;rw[show decide (cY m d<cY m e)=decide ((d::a).flatMap (cY m)<(e::b).flatMap (cY m)) from decide_eq_decide.mpr (by rw[cf];simp[z])];exact q
end
def Xp(d:ci):mx d d=false:=fT<|List.lt_irrefl _
def VA(h1:mx a b=c_)(h2:mx b c=c_):mx a c=true:=fC<|List.lt_trans (fi h1)<|fi h2
def Xo(h:alike 8 a b=c_)(n:a≠b)(h1:mx a b=d_):mx b a=true:=by
 refine fC ?_;have h1:=gd h1;refine tK λz=>n<|(MB h).2<|List.le_antisymm (List.not_lt.mp z)<|List.not_lt.mp h1
def yB(ds:List ci)(d:ci):Nat:=ds.countP λe=>mx e d
theorem WH{l:List ci}(h:∀y∈l,p y=c_->q y=c_)(hx:x∈l)(hp:p x=d_)(hq:q x=c_):l.countP p<l.countP q:=by
 induction l with
 |nil=>cases hx
 |cons y l i=>
  have h':∀y∈l,p y=c_->q y=true:=λz b=>h z<|cu _ b;have le:l.countP p<=l.countP q:=List.countP_mono_left h';rw[aco,aco];obtain e|e:=bK.mp hx
  .subst e;rw[hp,hq];simp;lia
  .have:=i h' e
   by_cases c:p y=c_
   .rw[eT c,eT<|h y bV c];lia
   rw[eN c]
   by_cases a:q y=c_
   .rw[eT a];lia
   rw[eN a];lia
def Zf(hd:d∈ds)(h:mx d e=c_):yB ds d<yB ds e:=WH (λy _ a=>VA a h) hd (Xp d) h
def ajM(hd:d∈ds)(a:e∈ds)(b:alike 8 d e=c_)(n:d≠e):decide ((yB ds d:Int)<yB ds e)=mx d e:=by
 cases h:mx d e with
 | true=>exact fC<|Int.ofNat_lt.mpr<|Zf hd h
 | false=>
  have:=Zf a<|Xo b n h;exact fT li
theorem KC{b c:Type}{F:b->c->Prop}{ys:List b}{ds:List c}{x:b}{d:c}(r:bw F ys ds)(l:List Nat)(h:∀i∈l,i<ds.length):bw F (l.map λi=>ys.getD i x) (l.map λi=>ds.getD i d):=by
 induction l with
 |nil=>exact .nil
 |cons i l j=>
  have hi:i<ys.length:=by rw[r_ r];exact h i bV
  obtain⟨y,h1,h2⟩:=TL.zP r (aI hi);exact .cons (by dsimp only;rw[cH,cH,h1,aI hi];exact h2) (j λj e=>h j<|cu _ e)
section
variable{X:Cx}
def ajO(K:u_):List V->Hp->VK->Prop:=λxs H Q=>∃(p:e_)(vs:List V)(ds:List ci),xs=[.ref p]/\ag K H p vs/\ds.length<64/\bw (eM K H) vs ds/\(∀d∈ds,bZ 8 d=c_/\∃us r,d=.tuple (.tuple us::r))/\
 (∀d∈ds,∀e∈ds,alike 8 d e=c_)/\ds.Nodup/\∀l c es,H l=b_->bw (eM K H) c es->es.Perm ds->es.Pairwise (λa b=>mx a b=c_)->Q (.ref l) (dc H l<|.lst c)
def ac7(hu:X.A.units+30<cLine):jt X (.builtin "sorted") (ajO X.K):=by
 intro p_ s σ H xs us Q I r h;obtain⟨p,vs,ds,rfl,hl,h64,O,hd,P,nd,q⟩:=h;obtain⟨u,rfl,rx⟩:=vals1 r;cases rx;obtain⟨y,R,pl,hz⟩:=I.list hl;have hvd:=r_ O;have hlen:=R.length;refine Lh (H:=H)<|collect_list pl.isList ?_ (by rw[gf];lia)
 have kp:∀b o,s.heap.get? b=a_ o->((s.heap.push<|d8 "list" #[] 0).update s.zS<|gQ (· ++ y.toArray)).get? b=a_ o:=λb o e=>by
  rw[JP _ _ _ _<|dW<|bY e];exact bU _ e
 have nL:∀b o,s.heap.get? b=a_ o->(∃vs n,o.data=.seq vs n)->b≠X.env.locals:=λb o e d z=>by
  obtain⟨m,F⟩:=I.fr;obtain⟨o',es,ep,e',d',_⟩:=F.ns;rw[z,e']at e;cases e;obtain⟨vs,n,d⟩:=d;rw[d']at d;cases d
 have aoZ:∀i,i<ds.length->∃D,Reads s.heap (y.getD i gD) (ds.getD i .none) D:=λi hi=>by
  obtain⟨x,Z⟩:∃x,vs[i]?=a_ x:=⟨vs[i]' li,aI _⟩;obtain⟨u,S,ru⟩:=R.get Z
  have hdx:eM X.K H x (ds.getD i .none):=by
   have:=KC (x:=.aO) (d:=Uy) O [i] (λj f=>by rw[da.mp f];exact hi);cases this with
   | cons a _=>dsimp only at a;rw[cH,Z]at a;exact a
  obtain⟨D,q⟩:=eM.reads I hdx ru;exact⟨D,by rw[show y.getD i gD=u by rw[cH,S];rfl];exact q⟩
 have w:∀i,i<ds.length->ds.getD i .none∈ds:=λi hi=>by simp[hi]
 have neD:∀i j,i<ds.length->j<ds.length->i≠j->ds.getD i .none≠ds.getD j .none:=λi j hi f n e=>by
  have e':ds[i]=ds[j]:=by simpa[hi,f]using e
  obtain z|z:=Tt n
  .exact jR.mp nd i j hi f z e'
  exact jR.mp nd j i f hi z e'.gx
 have L:∀i j,i<ds.length->j<ds.length->i≠j->decide ((yB ds (ds.getD i .none):Int)<yB ds (ds.getD j .none))=mx (ds.getD i .none) (ds.getD j .none):=λi j hi f n=>ajM (w i hi) (w j f) (P _ (w i hi) _<|w j f)<|neD i j hi f n;refine⟨vs,λi=>(yB ds (ds.getD i .none):Int),I.kept kp,R,⟨li,λi j hi f e=>?_,λh2=>?_⟩,λl zs hn so=>?_⟩
 .refine tK λn=>?_;have h1:=L i j li li n;have h2:=L j i li li λz=>n z.gx;rw[e,fT<|Kn _]at h1;rw[e,fT<|Kn _]at h2;have:=Xo (P _ (w i li) _<|w j li) (neD i j li li n) h1.gx;rw[<-h2]at this;cases this
 .have frd:∀{s':g_},(∀b o,b≠X.env.locals->((s.heap.push<|d8 "list" #[] 0).update s.zS<|gQ (· ++ y.toArray)).get? b=a_ o->s'.heap.get? b=a_ o)->∀i,i<ds.length->∃D,Reads s'.heap (y.getD i gD) (ds.getD i .none) D:=λk i hi=>by
   obtain⟨D,q⟩:=aoZ i hi;exact Us (λb o vs n e d=>k b o (nL b o e ⟨vs,n,d⟩)<|kp b o e) (hd _<|w i hi).1 q
  refine⟨tuples' d_,λs' k=>?_⟩;have at':=frd k;constructor
  .intro Q' hQ
   have kt:∀m,m<=ds.length->∃fs:List f_,fs.length=m/\KatTups s'.heap (y.drop<|ds.length-m) fs/\∀v∈fs,∃a items,v=dA a/\IsTup s'.heap a items:=λm=>by
    induction m with
    | zero=>
     intro _;refine⟨[],xz,?_,λv G=>by cases G⟩;rw[abA li];exact .nil
    | succ m ih=>
     intro hm;obtain⟨fs,h1,h2,h3⟩:=ih li;obtain⟨D,q⟩:=at' (ds.length-(m+1)) om;obtain⟨_,us,rr,U⟩:=hd _<|w (ds.length-(m+1)) om;rw[U]at q;obtain⟨a,o,ws,n,V,W,e3,e4,e5⟩:=lS q
     have hdp:y.drop (ds.length-(m+1))=.ref a::y.drop (ds.length-m):=by
      rw[abn om,show ds.length-(m+1)+1=ds.length-m by lia]
      congr 1
      rw[<-V];simp[show ds.length-(m+1)<y.length by omega]
     rw[hdp];have p5:=lW e5;generalize uI:ws.toList=wl at p5;cases p5 with
     | cons Y t=>
      obtain⟨bs,Y⟩:=Y;obtain⟨b,o2,yQ,n2,rfl,f2,f3,f4,_⟩:=lS Y;refine⟨.ref b::fs,by rw[eI,h1],.cons W e3 e4 ?_ h2,λv G=>?_⟩
      .rw[<-zB,uI];rfl
      obtain z|z:=bK.mp G
      .exact⟨b,yQ,z,o2,f2,f3,n2,f4⟩
      exact h3 v z
   obtain⟨fs,h1,h2,h3⟩:=kt ds.length<|aw _;rw[Kx,List.drop_zero]at h2;refine kat_kind (T:=.type "tuple") h2 li (λv G=>?_) qc (by rw[show (gC "tuple" != gC "tuple")=d_ by decide];exact hQ);obtain⟨a,items,e,it⟩:=h3 v G;rw[e];exact λA Q E s' k q=>Ku (by obtain⟨o,e,c,n,d⟩:=it;exact⟨o,k _ _ e,c⟩) q
  intro i j C hi f ne c;have M:i<ds.length:=li;have N:j<ds.length:=li;obtain⟨D,q1⟩:=at' i M;obtain⟨bs,q2⟩:=at' j N;obtain⟨g1,us,rr,U⟩:=hd _<|w i M;obtain⟨g2,us',rr',ed'⟩:=hd _<|w j N;have al:=P _ (w i M) _<|w j N;rw[L i j M N ne]at c;unfold kas_ask;obtain⟨_,_,z,_⟩|⟨m,xs,ys,z,ex,ey,pa⟩:=zQ al
  .rw[U]at z;cases z
  cases z;rw[ex]at q1 g1 c;rw[ey]at q2 g2 c;obtain⟨a,o,Ir,n1,S,V,_,d1,r1⟩:=lS q1;obtain⟨b,o',vs2,n2,ew,W,_,d2,r2⟩:=lS q2;rw[S,ew];refine kat_lt V d1 W d2 ?_;have l1:=r_<|lW r1;have l2:=r_<|lW r2;have l3:=r_ pa;rw[jS]at l1 l2;rw[fT (show ¬Ir.size<vs2.size by lia)];exact amx (by show X.A.units+1+1+2*7+4<cLine;lia) (lW r1) (lW r2) pa (kZ.mp g1) (kZ.mp g2) c
 obtain⟨B,g,ri,rfl⟩:=so;rw[hvd]at g ri;have gp:=Tc.mp g;have arS:=Lq g;have hsz:=g.size
 have hm:∀i∈B.toList,i<ds.length:=λi hi=>by
  have:=gp.mem_iff.mp hi;simpa using this
 refine q l _ (B.toList.map λi=>ds.getD i .none) hn (KC O _ hm) ?_ ?_
 .have:=gp.map λi=>ds.getD i Uy
  rw[show ((List.range ds.length).toArray.toList.map λi=>ds.getD i Uy)=ds by
   apply Kc
   .simp
   intro i h1 h2;simp[h2]]at this
  exact this
 rw[jR];intro i j hi f mJ;rw[aA]at hi f;have:=ri i j mJ li;unfold rk at this;simp only[acm,JM];have e:∀k(J:k<B.size),B.getD k 0=B[k]:=λk J=>by simp[xH,J]
 rw[e i li,e j li]at this;have mi:∀k(J:k<B.size),B[k]<ds.length:=λk J=>hm _<|Array.getElem_mem_toList J;have ne:B[i]≠B[j]:=λz=>by rw[z]at this;exact f' this (Kn _)
 rw[<-L _ _ (mi i li) (mi j li) ne];exact fC this
end
end L2
namespace TL
open PySem.SeqAt L2 L3 L4
variable{P:k_}{w:j_}{K:u_}{mg:d0->Option f_}{gW:i_}
noncomputable def tv(t:Tl):List V:=.str t.1::t.2.map λ(n:Nat)=>V.int (n:Int)
def fg(H:Hp)(v:V)(t:Tl):Prop:=∃a,v=.ref a/\H a=a_ (.tup<|tv t)
def IsPart(H:Hp)(v:V)(p:Pt):Prop:=∃a vs,v=.ref a/\H a=a_ (.tup vs)/\bw (fg H) vs p
def iq(H:Hp)(v:V)(ps:List Pt):Prop:=∃a vs,v=.ref a/\H a=a_ (.tup vs)/\bw (IsPart H) vs ps
def fg.keep(k:∀b xs,H b=a_ (.tup xs)->H' b=a_ (.tup xs))(h:fg H v t):fg H' v t:=by
 exact aD h λa e h=>az a e<|k _ _ h
def IsPart.keep(k:∀b xs,H b=a_ (.tup xs)->H' b=a_ (.tup xs))(h:IsPart H v p):IsPart H' v p:=by
 exact fh h λa vs e h r=>eA a vs e (k _ _ h) (Paired.bp r λ_ _ q=>q.keep k)
def iq.keep(k:∀b xs,H b=a_ (.tup xs)->H' b=a_ (.tup xs))(h:iq H v p):iq H' v p:=by
 exact fh h λa vs e h r=>eA a vs e (k _ _ h) (Paired.bp r λ_ _ q=>q.keep k)
def P6(b:Bool):Sp:=λvs H Q _=>∃a,vs=[.ref a]/\Q (.bl b) H
def ahS:aX hF hF (aM GA):=aZ
def adH:aX hF hF (aM Fx):=aZ
def adj:aX hF hF (aM Fs):=aZ
def Cd(F:aQ K S_ "Step.empties" GA f fd):aG P w K mg gW aF 1 f fd hF (P6 d_):=by
 refine F.ok ahS λaH A _ s H vs Q E c h=>?_;refine aD h λa b k=>?_;clear h;subst b;exact sR (ax<|aR iF) k
def adk(F:aQ K S_ "Swap.empties" Fx f fd):aG P w K mg gW aF 1 f fd hF (P6 c_):=by
 refine F.ok adH λaH A _ s H vs Q E c h=>?_;refine aD h λa b k=>?_;clear h;subst b;exact sR (ax<|aR iF) k
def acZ(F:aQ K S_ "Clear.empties" Fs f fd):aG P w K mg gW aF 1 f fd hF (P6 c_):=by
 refine F.ok adj λaH A _ s H vs Q E c h=>?_;refine aD h λa b k=>?_;clear h;subst b;exact sR (ax<|aR iF) k
structure C6(K:u_)(c:e_)(t:bf)(QU QV QT PV PR PU:Bool):Prop where
 cl:w_ K (.ref c) "__class__"=a_ (a_<|.builtin "object.__class__")
 mr:A_ K c (.type "object")=a_ c_
 aoJ:v_ K (.ref c) (.ref t.kH)=a_ QU
 aoL:v_ K (.ref c) (.ref t.kI)=a_ QV
 aaj:v_ K (.ref c) (.ref t.iX)=a_ QT
 Zk:v_ K (.ref c) (.ref t.jr)=a_ PV
 amb:v_ K (.ref c) (.ref t.jX)=a_ PR
 Pb:v_ K (.ref c) (.ref t.jd)=a_ PU
structure nG where
 (A3 ZF ZH:e_)
 (Qq Ox Oz:ik)
structure yq(K:u_)(mg:d0->Option f_)(t:bf)(u:nG):Prop where
 st:sv K mg t
 Dt:aQ K S_ "Step.empties" GA u.A3 u.Qq
 yL:dL K u.Qq hF []
 aku:aQ K S_ "Swap.empties" Fx u.ZF u.Ox
 PD:dL K u.Ox hF []
 aky:aQ K S_ "Clear.empties" Fs u.ZH u.Oz
 PH:dL K u.Oz hF []
 gt:W.specialIn K (.builtin "object.__class__") "__get__"=a_ (a_<|.builtin "getset_descriptor.__get__")
 tk:W.takesIn K (.builtin "object.__class__")=a_ c_
 amQ:Meth K t.kH S_ u.A3
 amR:Meth K t.kI S_ u.A3
 amP:Meth K t.iX S_ u.A3
 akE:Meth K t.jr S_ u.A3
 akC:Meth K t.jX S_ u.ZF
 ai1:Meth K t.qB S_ u.ZH
 akD:Meth K t.jd S_ u.A3
 Qm:C6 K t.kH t c_ d_ d_ d_ d_ d_
 Qn:C6 K t.kI t d_ c_ d_ d_ d_ d_
 Ql:C6 K t.iX t d_ d_ c_ d_ d_ d_
 Pm:C6 K t.jr t d_ d_ d_ c_ d_ d_
 Pk:C6 K t.jX t d_ d_ d_ d_ c_ d_
 Ov:C6 K t.qB t d_ d_ d_ d_ d_ d_
 Pl:C6 K t.jd t d_ d_ d_ d_ d_ c_
def jG(t:bf)(H:Hp)(v:V)(s:Tl):Prop:=∃z a dx,v=.ref z/\H z=a_ (.ins (cj t s.1) dx<|cR (.ref a) s.1<|s.2.map λ(n:Nat)=>V.int (n:Int))
def jG.keep(k:∀b C dx fs,H b=a_ (.ins C dx fs)->v=.ref b->H' b=a_ (.ins C dx fs))(h:jG t H v s):jG t H' v s:=by
 exact C2 h λz a dx c h=>⟨z,a,dx,c,(k _ _ _ _ h c)⟩
def vC(m:d0)(h:∀f∈(["number",R_,N_,"other",l_,T_]:List d0),m≠f)(v:V)(x:d0)(ps:List V):(cR v x ps).lookup m=none:=by
 have h1:=h "number" (by simp);have h2:=h R_ (by simp);have h3:=h N_ (by simp);have h4:=h "other" (by simp);have h5:=h l_ (by simp);have a:=h T_ (by simp);unfold cR
 repeat (first | (split;(simp only[dw,eN h1,eN h2,eN h3,eN h4,eN h5,eN a];rfl)) | (simp only[dw,eN h1,eN h2,eN h3,eN h4,eN h5,eN a];rfl))
def gH(s:Tl):Bool:=decide (s.1 = I_)||decide (s.1 = M_)
def Cz(t:bf):cj t ac2 = t.kH:=by kernel_rfl
def agG(ns:List Nat):gH (ac2,ns)=false:=by show (decide ((ac2 : d0) = I_)||decide ((ac2 : d0) = M_))=_;decide +kernel
def CA(t:bf):cj t U_ = t.kI:=by kernel_rfl
def agH(ns:List Nat):gH (U_,ns)=false:=by show (decide ((U_ : d0) = I_)||decide ((U_ : d0) = M_))=_;decide +kernel
def vD(t:bf):cj t K_ = t.iX:=by kernel_rfl
def Mr(ns:List Nat):gH (K_,ns)=false:=by show (decide ((K_ : d0) = I_)||decide ((K_ : d0) = M_))=_;decide +kernel
def xO(t:bf):cj t J_ = t.jr:=by kernel_rfl
def ae1(ns:List Nat):gH (J_,ns)=false:=by show (decide ((J_ : d0) = I_)||decide ((J_ : d0) = M_))=_;decide +kernel
def Cf(t:bf):cj t I_ = t.jX:=by kernel_rfl
def aeZ(ns:List Nat):gH (I_,ns)=true:=by show (decide ((I_ : d0) = I_)||decide ((I_ : d0) = M_))=_;decide +kernel
def FE(t:bf):cj t M_ = t.qB:=by kernel_rfl
def ad3(ns:List Nat):gH (M_,ns)=true:=by show (decide ((M_ : d0) = I_)||decide ((M_ : d0) = M_))=_;decide +kernel
def z4(t:bf):cj t O_ = t.jd:=by kernel_rfl
def ae0(ns:List Nat):gH (O_,ns)=false:=by show (decide ((O_ : d0) = I_)||decide ((O_ : d0) = M_))=_;decide +kernel
def YO(T:yq K mg t u){sz:Nat}(g:bu sz s)(b:H z=a_ (.ins (cj t s.1) dx<|cR (.ref a) s.1<|s.2.map λ(n:Nat)=>V.int (n:Int))):∃C f fd pn sp,H z=a_ (.ins C dx<|cR (.ref a) s.1<|s.2.map λ(n:Nat)=>V.int (n:Int))/\di K C/\Meth K C S_ f/\aG P w K mg gW aF 1 f fd pn sp/\dL K fd pn []/\∀(Q:VK)(E:XK),Q (.bl<|gH s) H->sp [.ref z] H Q E:=by
 cases g with
 | put r m h1 h2=>
  rw[agG];have b:H z=a_ (.ins (cj t ac2) dx _):=b;rw[Cz]at b;exact⟨_,_,_,_,_,b,T.st.ue,T.amQ,(Cd T.Dt),T.yL,(λQ E q=>⟨z,xz,q⟩)⟩
 | add r m h1 h2=>
  rw[agH];have b:H z=a_ (.ins (cj t U_) dx _):=b;rw[CA]at b;exact⟨_,_,_,_,_,b,T.st.sE,T.amR,(Cd T.Dt),T.yL,(λQ E q=>⟨z,xz,q⟩)⟩
 | set r m h1 h2=>
  rw[Mr];have b:H z=a_ (.ins (cj t K_) dx _):=b;rw[vD]at b;exact⟨_,_,_,_,_,b,T.st.mj,T.amP,(Cd T.Dt),T.yL,(λQ E q=>⟨z,xz,q⟩)⟩
 | look r m h1 h2=>
  rw[ae1];have b:H z=a_ (.ins (cj t J_) dx _):=b;rw[xO]at b;exact⟨_,_,_,_,_,b,T.st.m8,T.akE,(Cd T.Dt),T.yL,(λQ E q=>⟨z,xz,q⟩)⟩
 | swap r m h1 h2=>
  rw[aeZ];have b:H z=a_ (.ins (cj t I_) dx _):=b;rw[Cf]at b;exact⟨_,_,_,_,_,b,T.st.oh,T.akC,(adk T.aku),T.PD,(λQ E q=>⟨z,xz,q⟩)⟩
 | clear=>
  rw[ad3];have b:H z=a_ (.ins (cj t M_) dx _):=b;rw[FE]at b;exact⟨_,_,_,_,_,b,T.st.xT,T.ai1,(acZ T.aky),T.PH,(λQ E q=>⟨z,xz,q⟩)⟩
 | skip r m h1 h2 h3=>
  rw[ae0];have b:H z=a_ (.ins (cj t O_) dx _):=b;rw[z4]at b;exact⟨_,_,_,_,_,b,T.st.m7,T.akD,(Cd T.Dt),T.yL,(λQ E q=>⟨z,xz,q⟩)⟩
def Ap(T:yq K mg t u){sz:Nat}(g:bu sz s)(b:H z=a_ (.ins (cj t s.1) dx<|cR (.ref a) s.1<|s.2.map λ(n:Nat)=>V.int (n:Int))):∃C:e_,gI K H (.ref z) (.ref C)/\C6 K C t (decide<|s.1 = ac2) (decide<|s.1 = U_) (decide<|s.1 = K_) (decide<|s.1 = J_) (decide<|s.1 = I_) (decide<|s.1 = O_):=by
 cases g with
 | put r m h1 h2=>
  have b:H z=a_ (.ins (cj t ac2) dx _):=b;rw[Cz]at b;exact az _ (gI.ins b T.st.ue T.Qm.cl T.gt T.tk T.Qm.mr) T.Qm
 | add r m h1 h2=>
  have b:H z=a_ (.ins (cj t U_) dx _):=b;rw[CA]at b;exact az _ (gI.ins b T.st.sE T.Qn.cl T.gt T.tk T.Qn.mr) T.Qn
 | set r m h1 h2=>
  have b:H z=a_ (.ins (cj t K_) dx _):=b;rw[vD]at b;exact az _ (gI.ins b T.st.mj T.Ql.cl T.gt T.tk T.Ql.mr) T.Ql
 | look r m h1 h2=>
  have b:H z=a_ (.ins (cj t J_) dx _):=b;rw[xO]at b;exact az _ (gI.ins b T.st.m8 T.Pm.cl T.gt T.tk T.Pm.mr) T.Pm
 | swap r m h1 h2=>
  have b:H z=a_ (.ins (cj t I_) dx _):=b;rw[Cf]at b;exact az _ (gI.ins b T.st.oh T.Pk.cl T.gt T.tk T.Pk.mr) T.Pk
 | clear=>
  have b:H z=a_ (.ins (cj t M_) dx _):=b;rw[FE]at b;exact az _ (gI.ins b T.st.xT T.Ov.cl T.gt T.tk T.Ov.mr) T.Ov
 | skip r m h1 h2 h3=>
  have b:H z=a_ (.ins (cj t O_) dx _):=b;rw[z4]at b;exact az _ (gI.ins b T.st.m7 T.Pl.cl T.gt T.tk T.Pl.mr) T.Pl
structure mq where
 (k:d0) (c n:Nat) (got gave seen:Option Int)
noncomputable def oV:Option Int->V
 | none=>.aO
 | some i=>.int i
def aoV(a:mq):List V:=[.str a.k,.int (a.c:Nat),.int (a.n:Nat),oV a.got,oV a.gave,oV a.seen]
def Dg(H:Hp)(v:V)(a:mq):Prop:=∃p,v=.ref p/\H p=a_ (.tup<|aoV a)
structure Ck where
 (pl ct:Nat) (rg:List Int) (tn:Int) (es:List hO)
structure Mc where
 (kd:d0) (ps:List Pt) (ck:List Ck) (bd:List Int) (ac:List mq) (ov:List (List Int))
structure MA where
 (lt:e_) (ts:List (e_×e_×List e_)) (pg st pl ct rg:e_) (rs:List e_) (ce ac cm:e_) (cs:List e_)
def jn:List d0:=["at_end","may_do","carries","moves","do","do_step","do_set","do_look","do_swap",at6,"come","on_board","settle","ended","where","steps_done","registers","waiting","board","deeds","deeds_done","deed_at","over","twin"]
structure v8(fs:List (d0×V))(A:MA)(S:Mc):Prop where
 fu:fs.lookup ("trays":d0)=a_ (.ref A.lt)
 program:fs.lookup (P_ : d0)=a_ (.ref A.pg)
 kind:fs.lookup (Z_ : d0)=a_ (.str S.kd)
 steps:fs.lookup ("steps":d0)=a_ (.ref A.st)
 places:fs.lookup ("places":d0)=a_ (.ref A.pl)
 counts:fs.lookup ("counts":d0)=a_ (.ref A.ct)
 eB:fs.lookup ("regs":d0)=a_ (.ref A.rg)
 cells:fs.lookup ("cells":d0)=a_ (.ref A.ce)
 iY:fs.lookup ("acts":d0)=a_ (.ref A.ac)
 kE:fs.lookup ("comers":d0)=a_ (.ref A.cm)
 ms:∀m∈jn,fs.lookup m=b_
 qS:fs.length<=20
abbrev Ik(CT:e_)(kd:d0)(H:Hp)(x:e_×e_×List e_)(k:Ck):Prop:=dS H x.1 CT kd k.tn k.es x.2.1 x.2.2
def Aj(t:bf)(H:Hp)(v:V)(p:Pt):Prop:=∃b us,v=.ref b/\H b=a_ (.tup us)/\bw (jG t H) us p
structure bb(t:bf)(C CT:e_)(H:Hp)(m:e_)(A:MA)(S:Mc):Prop where
 obj:∃dx fs,H m=a_ (.ins C dx fs)/\v8 fs A S
 lt:H A.lt=a_ (.lst<|A.ts.map λx=>V.ref x.1)
 ts:bw (Ik CT S.kd H) A.ts S.ck
 pg:iq H (.ref A.pg) S.ps
 st:∃vs,H A.st=a_ (.tup vs)/\bw (Aj t H) vs S.ps
 pl:H A.pl=a_ (.lst<|S.ck.map λk=>V.int (k.pl:Nat))
 ct:H A.ct=a_ (.lst<|S.ck.map λk=>V.int (k.ct:Nat))
 rg:H A.rg=a_ (.lst<|A.rs.map V.ref)
 rs:bw (λa(k:Ck)=>H a=a_ (.lst<|k.rg.map V.int)) A.rs S.ck
 ce:H A.ce=a_ (.lst<|S.bd.map V.int)
 ac:∃vs,H A.ac=a_ (.lst vs)/\bw (Dg H) vs S.ac
 cm:H A.cm=a_ (.lst<|A.cs.map V.ref)
 cs:bw (λa(o:List Int)=>H a=a_ (.lst<|o.map V.int)) A.cs S.ov
structure ke(hD:e_->Nat)(m:e_)(A:MA):Prop where
 m:hD m=2
 lt:hD A.lt=4
 pl:hD A.pl=6
 ct:hD A.ct=8
 rg:hD A.rg=10
 ce:hD A.ce=12
 ac:hD A.ac=14
 cm:hD A.cm=16
 rs:∀i a,A.rs[i]?=a_ a->hD a=24+6*i
 cs:∀i a,A.cs[i]?=a_ a->hD a=26+6*i
 ts:∀i x,A.ts[i]?=a_ x->∀b∈x.1::x.2.1::x.2.2,hD b=28+6*i
inductive cN (m:e_) (A:MA):e_->Prop
 | m:cN m A m
 | lt:cN m A A.lt
 | pl:cN m A A.pl
 | ct:cN m A A.ct
 | rg:cN m A A.rg
 | ce:cN m A A.ce
 | ac:cN m A A.ac
 | cm:cN m A A.cm
 | rs {a:e_}:a∈A.rs->cN m A a
 | cs {a:e_}:a∈A.cs->cN m A a
 | ts {x:e_×e_×List e_} {b:e_}:x∈A.ts->b∈x.1::x.2.1::x.2.2->cN m A b
structure aB(F:e_->Prop)(H H':Hp):Prop where
 k:∀b o,¬F b->(∀ps,o≠.fA ps)->H b=a_ o->H' b=a_ o
 t:∀b,H' b=b_->H b=b_
def aB.of(s:ae H H'):aB F H H':=⟨λb o _ _ e=>s b o e,λb h=>s.free h⟩
def aB.refl(H:Hp):aB F H H:=⟨λ_ _ _ _ e=>e,λ_ h=>h⟩
def aB.gw(a:aB F H H1)(b:aB F H1 H2):aB F H H2:=⟨λc o h1 h2 e=>b.k c o h1 h2<|a.k c o h1 h2 e,λc h=>a.t c<|b.t c h⟩
def aB.mono(a:aB F H H')(h:∀b,F b->G b):aB G H H':=⟨λc o h1 h2 e=>a.k c o (λz=>h1<|h c z) h2 e,a.t⟩
def aB.QY(a:hG F H H')(h:∀b∈F,G b):aB G H H':=⟨λc o h1 h2 e=>a.k c o (λz=>h1<|h c z) h2 e,a.t⟩
def aB.dc(h:F x):aB F H (dc H x o):=⟨λb q n _ e=>by rw[aj λz=>n (by rw[z];exact h)];exact e,λb e=>by
 by_cases z:b=x
 .rw[z,ao]at e;cases e
 .rwa[aj z]at e⟩
def hG.ofA(k:Hq (a::q::qr) H H')(T:dS H' a C kd tn es q qr):hG (a::q::qr) H H':=
 ⟨λc o h1 _ e=>k c o h1 e,λc h=>by
  by_cases z:c∈a::q::qr
  .refine oE (T.there c z) λo e=>?_;rw[e]at h;cases h
  cases e:H c with
  | none=>rfl
  | some o=>rw[k c o z e]at h;cases h⟩
def dE:e_->Prop:=λ_=>False
theorem ie{c d:Type}{F:c->d->Prop}{G:c->d->Prop}{l:List c}{r:List d}(h:bw F l r)(k:∀(i:Nat)a b,l[i]?=a_ a->r[i]?=a_ b->F a b->G a b):bw G l r:=by
 induction h with
 |nil=>exact .nil
 |cons h _ t=>exact .cons (k 0 _ _ xz xz h) (t λi a b e f q=>k (i+1) a b (by simpa using e) (by simpa using f) q)
def Aj.keep(c:∀b xs,H b=a_ (.tup xs)->H' b=a_ (.tup xs))(d:∀b C dx fs,H b=a_ (.ins C dx fs)->(∃x ps v,C=cj t x/\fs=cR v x ps)->H' b=a_ (.ins C dx fs))(h:Aj t H v p):Aj t H' v p:=by
 exact fh h λb us e h1 h2=>eA b _ e (c _ _ h1) (Paired.bp h2 λv s q=>C2 q λz a dx f q=>⟨z,a,dx,f,(d _ _ _ _ q<|wA _ _<|az _ xz xz)⟩)
def Dg.keep(k:∀b xs,H b=a_ (.tup xs)->H' b=a_ (.tup xs))(h:Dg H v a):Dg H' v a:=by
 exact aD h λp e h=>az p e<|k _ _ h
theorem rX{b a:Type}{F:b->a->Prop}{l:List b}{r:List a}{i:Nat}{y:a}(h:bw F l r)(e:r[i]?=a_ y):∃x,l[i]?=a_ x/\F x y:=by
 induction h generalizing i with
 |nil=>simp at e
 |cons h _ t=>cases i with
  |zero=>simp at e;subst e;exact⟨_,xz,h⟩
  |succ i=>exact aD (t (i:=i)<|by simpa using e) λy h1 h2=>az y (by simpa using h1) h2
theorem KG{a b:Type}{F:a->b->Prop}{c:List a}{d:List b}(h':bw F c d){l:List a}{r:List b}(h:bw F l r):bw F (l++c) (r++d):=by
 induction h with
 |nil=>exact h'
 |cons g _ i=>exact .cons g i
theorem rW{a c:Type}{F:a->c->Prop}{l:List a}{m:List c}{b:a}(h:bw F l m)(e:b∈l):∃y,y∈m/\F b y:=by
 induction h with
 |nil=>cases e
 |cons h _ i=>
  obtain z|z:=bK.mp e
  .subst z;exact⟨_,bV,h⟩
  .exact aD (i z) λy d q=>az y (cu _ d) q
def bb.keep(M:bb t C CT H m A S)(k:∀b,cN m A b->∀o,H b=a_ o->H' b=a_ o)(a:∀b xs,H b=a_ (.tup xs)->H' b=a_ (.tup xs))(f:∀b C dx fs,H b=a_ (.ins C dx fs)->H' b=a_ (.ins C dx fs)):bb t C CT H' m A S:=by
 obtain⟨⟨dx,fs,h1,h2⟩,lt,ts,pg,⟨vs,s1,s2⟩,pl,ct,rg,rs,ce,⟨us,g,h⟩,cm,cs⟩:=M;exact⟨⟨dx,fs,k _ .m _ h1,h2⟩,k _ .lt _ lt,ie ts λi x c d _ q=>q.keep (λb j o e=>k b (.ts (a8 d) j) o e) a,pg.keep a,⟨vs,a _ _ s1,Paired.bp s2 λ_ _ q=>q.keep a λb C dx fs e _=>f b C _ _ e⟩,k _ .pl _ pl,k _ .ct _ ct,k _ .rg _ rg,ie rs λi x c d _ q=>k x (.rs<|a8 d) _ q,k _ .ce _ ce,⟨us,k _ .ac _ g,Paired.bp h λ_ _ q=>q.keep a⟩,k _ .cm _ cm,ie cs λi x c d _ q=>k x (.cs<|a8 d) _ q⟩
def bb.amB{F:e_->Prop}(M:bb t C CT H m A S)(k:aB F H H')(d:∀b,F b->¬cN m A b/\∀o,H b=a_ o->∃xs,o=.lst xs):bb t C CT H' m A S:=by
 have f:∀b o,cN m A b->H b=a_ o->∀ps,o≠.fA ps:=by
  intro b o a e ps z;subst z;cases a with
  | m=>obtain⟨dx,fs,h,_⟩:=M.obj;rw[h]at e;cases e
  | lt=>rw[M.lt]at e;cases e
  | pl=>rw[M.pl]at e;cases e
  | ct=>rw[M.ct]at e;cases e
  | rg=>rw[M.rg]at e;cases e
  | ce=>rw[M.ce]at e;cases e
  | ac=>obtain⟨vs,h,_⟩:=M.ac;rw[h]at e;cases e
  | cm=>rw[M.cm]at e;cases e
  | rs h=>
   refine aD (rW M.rs h) λc _ q=>?_;rw[q]at e;cases e
  | cs h=>
   refine aD (rW M.cs h) λc _ q=>?_;rw[q]at e;cases e
  | ts h h2=>
   refine aD (rW M.ts h) λc _ q=>?_;rcases q.kinds _ h2 _ e with ⟨_,_,_,z⟩ | ⟨_,z⟩ <;> cases z
 refine M.keep (λb a o e=>k.k b o (λz=>(d b z).1 a) (f b o a e) e) (λb xs e=>k.k b _ (λz=>?_) (λps z=>by cases z) e) λb C dx fs e=>k.k b _ (λz=>?_) (λps z=>by cases z) e
 .refine oE ((d b z).2 _ e) λys q=>?_;cases q
 .refine oE ((d b z).2 _ e) λys q=>?_;cases q
def bb.same(M:bb t C CT H m A S)(s:ae H H'):bb t C CT H' m A S:=M.keep (λb _ o e=>s b o e) (λb xs e=>s b _ e) λb C dx fs e=>s b _ e
def bb.pE(M:bb t C CT H m A S)(k:aB dE H H'):bb t C CT H' m A S:=M.amB k λb z=>z.elim
structure gX(K:u_)(C:e_):Prop where
 cl:di K C
 fu:bJ K C "trays"
 program:bJ K C P_
 kind:bJ K C Z_
 steps:bJ K C "steps"
 places:bJ K C "places"
 counts:bJ K C "counts"
 eB:bJ K C "regs"
 cells:bJ K C "cells"
 iY:bJ K C "acts"
 kE:bJ K C "comers"
def jq{a:Type}{f:a->V}{r:List a}{c:Nat}{k:a}(h:r[c]?=a_ k):iI (r.map f) (c:Int)=a_ (f k):=cI (by rw[cF,h];rfl)
def BR{l:List (e_×e_×List e_)}{c:Nat}{x:e_×e_×List e_}(h:l[c]?=a_ x):iI (l.map λx=>V.ref x.1) (c:Int)=a_ (.ref x.1):=jq h
structure iu(S:Mc):Prop where
 good:cW S.ps
 len:S.ck.length=S.ps.length
 bd:S.bd.length=12
 ov:S.ov.length=12
 rg:∀k∈S.ck,k.rg.length=4
 pl:∀(c:Nat)k p,S.ck[c]?=a_ k->S.ps[c]?=a_ p->k.pl<=p.length
 ac:S.ac.length<=15000
 es:∀k∈S.ck,k.es.length<=S.ac.length
section
variable{t:bf}{C CT:e_}{H:Hp}{m:e_}{A:MA}{S:Mc}
def bb.ug(M:bb t C CT H m A S){c:Nat}(h:S.ck[c]?=a_ k):∃x,A.ts[c]?=a_ x/\Ik CT S.kd H x k:=rX M.ts h
def bb.eB(M:bb t C CT H m A S){c:Nat}(h:S.ck[c]?=a_ k):∃a,A.rs[c]?=a_ a/\H a=a_ (.lst<|k.rg.map V.int):=rX (F:=λa k=>H a=a_ (.lst<|k.rg.map V.int)) M.rs h
def bb.over(M:bb t C CT H m A S){n:Nat}(h:S.ov[n]?=a_ o):∃a,A.cs[n]?=a_ a/\H a=a_ (.lst<|o.map V.int):=rX (F:=λa o=>H a=a_ (.lst<|o.map V.int)) M.cs h
def bb.part(M:bb t C CT H m A S){c:Nat}(h:S.ps[c]?=a_ p):∃vs b us,H A.st=a_ (.tup vs)/\vs[c]?=a_ (.ref b)/\H b=a_ (.tup us)/\bw (jG t H) us p:=by
 refine aD M.st λvs h1 h2=>aD (rX h2 h) λv d a=>fh a λb us a h3 h4=>?_;subst a;exact⟨vs,b,us,h1,d,h3,h4⟩
end
section
variable{t:bf}{C CT:e_}
def MZ(t:bf)(C CT:e_):Sp:=λvs H Q _=>∃m A S c k p,vs=[.ref m,.int (c:Nat)]/\bb t C CT H m A S/\S.ck[c]?=a_ k/\S.ps[c]?=a_ p/\p.length<=1000/\Q (.bl<|decide<|k.pl=p.length) H
def ahV:aX hU hU (aM Oa):=aZ
def Gp(a b:Nat):decide (V.int (a:Int)=V.int (b:Int))=decide (a=b):=decide_eq_decide.mpr ⟨λz=>by injection z with z;lia,λz=>by rw[z]⟩
def agm(F:aQ K "at_end" "Machine.at_end" Oa f fd)(e:mg "len"=b_)(a:gX K C):aG P w K mg gW aF 1 f fd hU (MZ t C CT):=by
 refine F.ok ahV λaH A _ s H vs Q E l h=>?_
 .refine mV h λm A S c k p d M g i j=>?_;subst d;refine oA j λn q=>sR (ax<|aR<|nU dM (aU bX (a0 (pv 0) xz)<|pv 1) (bC ft xz e q_<|aa (aU dh (a0 (pv 0) xz)<|pv 1) af)<|bR _) (cy (id M.obj) λdx fs hm G=>lE (M.part i) λvs b us h1 h2 d=>oA d λh3 h4=>vF xz hm a.cl a.places G.places<|vr xz<|rL (ag.of M.pl) (jq g)<|vF xz hm a.cl a.steps G.steps<|vr xz<|rT (aq.of h1) (cI h2)<|⟨b,us,xz,(.inr<|aq.of h3),xz,?_⟩);rw[r_ h4,Gp];exact q
def WW(t:bf)(C CT:e_)(g:Ck->Nat):Sp:=λvs H Q _=>∃m A S c k,vs=[.ref m,.int (c:Nat)]/\bb t C CT H m A S/\S.ck[c]?=a_ k/\Q (.int (g k:Nat)) H
def ahH:aX hU hU (aM NL):=aZ
def af6(F:aQ K "where" "Machine.where" NL f fd)(a:gX K C):aG P w K mg gW aF 1 f fd hU (WW t C CT Ck.pl):=by
 refine F.ok ahH λaH A _ s H vs Q E e h=>?_
 .obtain⟨m,A,S,c,k,b,M,d,q⟩:=h;subst b;exact sR (ax<|aR<|aU bX (a0 (pv 0) xz)<|pv 1) (cy (id M.obj) λdx fs hm G=>vF xz hm a.cl a.places G.places<|vr xz<|rL (ag.of M.pl) (jq d) q)
def NC(t:bf)(C CT:e_):Sp:=λvs H Q _=>∃m A S c k,vs=[.ref m,.int (c:Nat)]/\bb t C CT H m A S/\S.ck[c]?=a_ k/\∀l,H l=b_->Q (.ref l) (dc H l<|.lst<|k.rg.map V.int)
def adi:aX hU hU (aM KR):=aZ
def acY(F:aQ K "registers" "Machine.registers" KR f fd)(d:mg "list"=b_)(b:gX K C):aG P w K mg gW aF 1 f fd hU (NC t C CT):=by
 refine F.ok adi λaH A _ s H vs Q E j h=>?_
 .obtain⟨m,A,S,c,k,e,M,g,q⟩:=h;subst e;exact sR (ax<|aR<|fK xB xz d tY<|aa (aU bX (a0 (pv 0) xz)<|pv 1) af) (cy (id M.obj) λdx fs hm G=>aD (M.eB g) λa ha i=>vF xz hm b.cl b.eB G.eB<|vr xz<|rL (ag.of M.rg) (jq ha) ⟨a,⟨_,xz,.inl<|ag.of i,q⟩⟩)
def MY(t:bf)(C CT:e_):Sp:=λvs H Q _=>∃m A S,vs=[.ref m]/\bb t C CT H m A S/\∀l,H l=b_->Q (.ref l) (dc H l<|.lst<|S.bd.map V.int)
def ahU:aX hF hF (aM N9):=aZ
def agl(F:aQ K "board" "Machine.board" N9 f fd)(b:mg "list"=b_)(a:gX K C):aG P w K mg gW aF 1 f fd hF (MY t C CT):=by
 refine F.ok ahU λaH A _ s H vs Q E d h=>?_
 .refine lE h λm A S c M q=>?_;clear h;subst c;exact sR (ax<|aR<|fK xB xz b tY<|aa (a0 (pv 0) xz) af) (cy (id M.obj) λdx fs hm G=>vF xz hm a.cl a.cells G.cells ⟨A.ce,⟨_,xz,.inl<|ag.of M.ce,q⟩⟩)
def Vd(t:bf)(C CT:e_):Sp:=λvs H Q _=>∃m A S c k,vs=[.ref m,.int (c:Nat)]/\bb t C CT H m A S/\S.ck[c]?=a_ k/\k.es.length<64/\∀H' l us,ae H H'->H l=b_->H' l=a_ (.lst us)->bw (GZ H') us k.es->Q (.ref l) H'
def aey:aX hU hU (aM LZ):=aZ
def adP(F:aQ K "waiting" "Machine.waiting" LZ f fd)(e:gX K C)(g:jY K CT)(a:Mt P w K mg gW CT 1 "listed" hF (V0 CT)):aG P w K mg gW aF 2 f fd hU (Vd t C CT):=by
 refine F.ok aey λaH A _ s H vs Q E i h=>?_
 .refine lD h λm A S c k d=>Pc d λd M j l q=>?_;subst d;exact sR (ax<|aR<|FV (aU bX (a0 (pv 0) xz)<|pv 1) g.cl a.m a.G i a.b .nil cX) (cy (id M.obj) λdx fs hm G=>aD (M.ug j) λx n T=>eJ (id T.obj) λr u o v y z p B=>vF xz hm e.cl e.fu G.fu<|vr xz<|rL (ag.of M.lt) (BR n)<|rM o (p _ dk)<|⟨x.1,_,_,_,_,(⟨_,xz,T,l,q⟩)⟩)
end
def hZ{a b c m:Nat}(l:autoParam (a<b) ap):a≠b+m*c:=λh=>lQ a<|ic l<|h ▸ E9 b _
def pX{a b c m:Nat}(l:autoParam (a<b) ap):b+m*c≠a:=λe=>hZ (l:=l) e.gx
def wq{a b i c m:Nat}(l:autoParam (a%m≠b%m) ap):a+m*i≠b+m*c:=λh=>l (by rw[<-abl a m i,h,abl])
def wm(h:autoParam (i≠c) ad):a+(b+1)*i≠a+(b+1)*c:=λe=>h<|Nat.eq_of_mul_eq_mul_left (Kw b)<|Nat.add_left_cancel e
def gh(n:autoParam (a≠b) ap):a≠b:=n
def bP(c:p=a)(d:q=b)(n:a≠b):p≠q:=λh=>n<|c.gx.gw<|h.gw d
def qN(b:p=a)(n:a≠q):p≠q:=λh=>n<|b.gx.gw h
def bN{hD:e_->Nat}(h:hD a≠hD b):a≠b:=λe=>h (by rw[e])
def zM{a b:Type}{f:a->b}{r:List a}{c:Nat}{k k':a}(h:r[c]?=a_ k)(e:f k'=f k):(r.set c k').map f=r.map f:=by
 rw[vk,e];refine oE (b0.mp h) λd g=>?_;rw[<-g]
 exact JW λi=>by
  rw[List.getElem?_set]
  split
  .rename_i hi
   subst hi
   split
   .rw[cF,aI _];rfl
   .rename_i hn;rw[aA]at hn;exact f' d hn
  .rfl
theorem xG{f d:Type}{F:f->d->Prop}{g:d}{l:List f}{r:List d}{c:Nat}{b:d}(h:bw F l r)(e:r[c]?=a_ b)(k:∀a,l[c]?=a_ a->F a b->F a g):bw F l (r.set c g):=by
 induction h generalizing c with
 |nil=>exact .nil
 |cons h t i=>cases c with
  |zero=>simp only[List.getElem?_cons_zero,xu]at e;subst e;exact .cons (k _ xz h) t
  |succ c=>rw[abw]at e;exact .cons h (i e λa ha=>k a<|by simpa using ha)
theorem Fm{g f:Type}{F G:g->f->Prop}{j:f}{l:List g}{r:List f}{c:Nat}(h:bw F l r)(k:∀i a b,i≠c->l[i]?=a_ a->r[i]?=a_ b->F a b->G a b)(k':∀a b,l[c]?=a_ a->r[c]?=a_ b->F a b->G a j):bw G l (r.set c j):=by
 induction h generalizing c with
 |nil=>exact .nil
 |cons h t ih=>cases c with
  |zero=>exact .cons (k' _ _ xz xz h) (ie t λi a b d e q=>k (i+1) a b li (by simpa using d) (by simpa using e) q)
  |succ c=>exact .cons (k 0 _ _ li xz xz h) (ih (λi a b hi d e q=>k (i+1) a b li (by simpa using d) (by simpa using e) q) λa b d e q=>k' a b (by simpa using d) (by simpa using e) q)
def tU:=@KU
section
variable{t:bf}{C CT:e_}{H:Hp}{m:e_}{A:MA}{S:Mc}{hD:e_->Nat}
def Ae(a:H x=a_ (.lst xs)):∀b ys,H b=a_ (.tup ys)->dc H x o b=a_ (.tup ys):=λb ys e=>by rw[aj<|iU e a (by intro z;cases z)];exact e
def Af(a:H x=a_ (.lst xs)):∀b C dx fs,H b=a_ (.ins C dx fs)->dc H x o b=a_ (.ins C dx fs):=λb C dx fs e=>by rw[aj<|iU e a (by intro z;cases z)];exact e
def aiP{PT x:e_}(a:H x=a_ (.lst xs))(h:b9 PT pos q H):b9 PT pos q (dc H x o):=
 BS (F:=[x]) h (λb o' n e=>by rw[aj λz=>n (by rw[z];exact da.mpr xz)];exact e) λb c o' e=>by rw[da.mp c,a]at e;cases e;exact .inr ⟨_,xz⟩
def alv(M:bb t C CT H m A S)(L:ke hD m A){c:Nat}(h:S.ck[c]?=a_ k)(v:Nat):bb t C CT (dc H A.pl<|.lst<|(S.ck.map λk=>V.int (k.pl:Nat)).set c<|.int (v:Nat)) m A {S with ck:=S.ck.set c {k with pl:=v}}:=by
 obtain⟨⟨dx,fs,h1,h2⟩,lt,ts,pg,⟨vs,s1,s2⟩,pl,ct,rg,rs,ce,⟨us,j,l⟩,cm,cs⟩:=M;have d:=L.pl;have f:=Ae (o:=.lst<|(S.ck.map λk=>V.int k.pl).set c<|.int v) pl;have n:=Af (o:=.lst<|(S.ck.map λk=>V.int k.pl).set c<|.int v) pl;have h2:v8 _ A {S with ck:=S.ck.set c {k with pl:=v}}:=⟨h2.fu,h2.program,h2.kind,h2.steps,h2.places,h2.counts,h2.eB,h2.cells,h2.iY,h2.kE,h2.ms,h2.qS⟩
 exact⟨⟨dx,fs,(aj<|bN (hD:=hD)<|bP L.m d gh).gw h1,h2⟩,(aj<|bN (hD:=hD)<|bP L.lt d gh).gw lt,xG (ie ts λi x c g _ q=>dS.keep q (λb p o e=>(aj<|bN (hD:=hD)<|bP (L.ts i x g b p) d pX).gw e) f) h λa _ q=>q,pg.keep f,⟨vs,f _ _ s1,Paired.bp s2 λ_ _ q=>q.keep f λb C dx fs e _=>n b C dx fs e⟩,by
   show dc H _ _ _=a_ _;rw[ao,vk],by
   show dc H _ _ _=a_ _;rw[zM (k':={k with pl:=v}) h rfl];exact(aj<|bN<|bP L.ct d gh).gw ct,(aj<|bN (hD:=hD)<|bP L.rg d gh).gw rg,xG (ie rs λi x c g _ q=>(aj<|bN (hD:=hD)<|bP (L.rs i x g) d pX).gw q) h λa _ q=>q,(aj<|bN (hD:=hD)<|bP L.ce d gh).gw ce,⟨us,(aj<|bN (hD:=hD)<|bP L.ac d gh).gw j,Paired.bp l λ_ _ q=>q.keep f⟩,(aj<|bN (hD:=hD)<|bP L.cm d gh).gw cm,ie cs λi x c g _ q=>(aj<|bN (hD:=hD)<|bP (L.cs i x g) d pX).gw q⟩
def alx(M:bb t C CT H m A S)(L:ke hD m A){c:Nat}(h:S.ck[c]?=a_ k)(v:Nat):bb t C CT (dc H A.ct<|.lst<|(S.ck.map λk=>V.int (k.ct:Nat)).set c<|.int (v:Nat)) m A {S with ck:=S.ck.set c {k with ct:=v}}:=by
 obtain⟨⟨dx,fs,h1,h2⟩,lt,ts,pg,⟨vs,s1,s2⟩,pl,ct,rg,rs,ce,⟨us,j,l⟩,cm,cs⟩:=M;have d:=L.ct;have f:=Ae (o:=.lst<|(S.ck.map λk=>V.int k.ct).set c<|.int v) ct;have n:=Af (o:=.lst<|(S.ck.map λk=>V.int k.ct).set c<|.int v) ct;have h2:v8 _ A {S with ck:=S.ck.set c {k with ct:=v}}:=⟨h2.fu,h2.program,h2.kind,h2.steps,h2.places,h2.counts,h2.eB,h2.cells,h2.iY,h2.kE,h2.ms,h2.qS⟩
 exact⟨⟨dx,fs,(aj<|bN (hD:=hD)<|bP L.m d gh).gw h1,h2⟩,(aj<|bN (hD:=hD)<|bP L.lt d gh).gw lt,xG (ie ts λi x c g _ q=>dS.keep q (λb p o e=>(aj<|bN (hD:=hD)<|bP (L.ts i x g b p) d pX).gw e) f) h λa _ q=>q,pg.keep f,⟨vs,f _ _ s1,Paired.bp s2 λ_ _ q=>q.keep f λb C dx fs e _=>n b C dx fs e⟩,by
   show dc H _ _ _=a_ _;rw[zM (k':={k with ct:=v}) h rfl];exact(aj<|bN<|bP L.pl d gh).gw pl,by
   show dc H _ _ _=a_ _;rw[ao,vk],(aj<|bN (hD:=hD)<|bP L.rg d gh).gw rg,xG (ie rs λi x c g _ q=>(aj<|bN (hD:=hD)<|bP (L.rs i x g) d pX).gw q) h λa _ q=>q,(aj<|bN (hD:=hD)<|bP L.ce d gh).gw ce,⟨us,(aj<|bN (hD:=hD)<|bP L.ac d gh).gw j,Paired.bp l λ_ _ q=>q.keep f⟩,(aj<|bN (hD:=hD)<|bP L.cm d gh).gw cm,ie cs λi x c g _ q=>(aj<|bN (hD:=hD)<|bP (L.cs i x g) d pX).gw q⟩
def G2(M:bb t C CT H m A S)(L:ke hD m A){c:Nat}(h:S.ck[c]?=a_ k)(ha:A.rs[c]?=a_ a)(r:Nat)(v:Int):bb t C CT (dc H a<|.lst<|(k.rg.map V.int).set r<|.int v) m A {S with ck:=S.ck.set c {k with rg:=k.rg.set r v}}:=by
 obtain⟨⟨dx,fs,h1,h2⟩,lt,ts,pg,⟨vs,s1,s2⟩,pl,ct,rg,rs,ce,⟨us,p,s⟩,cm,cs⟩:=M
 have j:H a=a_ (.lst<|k.rg.map V.int):=by
  refine aD (zP rs ha) λy l q=>?_;rw[h]at l;cases l;exact q
 have d:=L.rs c a ha;have g:=Ae (o:=.lst<|(k.rg.map V.int).set r<|.int v) j;have u:=Af (o:=.lst<|(k.rg.map V.int).set r<|.int v) j;have h2:v8 _ A {S with ck:=S.ck.set c {k with rg:=k.rg.set r v}}:=⟨h2.fu,h2.program,h2.kind,h2.steps,h2.places,h2.counts,h2.eB,h2.cells,h2.iY,h2.kE,h2.ms,h2.qS⟩
 exact⟨⟨dx,fs,(aj<|bN (hD:=hD)<|bP L.m d hZ).gw h1,h2⟩,(aj<|bN (hD:=hD)<|bP L.lt d hZ).gw lt,xG (ie ts λi x c f _ q=>dS.keep q (λb n o e=>(aj<|bN (hD:=hD)<|bP (L.ts i x f b n) d wq).gw e) g) h λa _ q=>q,pg.keep g,⟨vs,g _ _ s1,Paired.bp s2 λ_ _ q=>q.keep g λb C dx fs e _=>u b C dx fs e⟩,by
   show dc H _ _ _=a_ _;rw[zM (k':={k with rg:=k.rg.set r v}) h rfl];exact(aj<|bN<|bP L.pl d hZ).gw pl,by
   show dc H _ _ _=a_ _;rw[zM (k':={k with rg:=k.rg.set r v}) h rfl];exact(aj<|bN<|bP L.ct d hZ).gw ct,(aj<|bN (hD:=hD)<|bP L.rg d hZ).gw rg,Fm rs (λi x b hi f _ q=>(aj<|bN (hD:=hD)<|bP (L.rs i x f) d wm).gw q) λx b f n q=>by
   rw[ha]at f;cases f;show dc H a _ a=a_ _;rw[ao,vk],(aj<|bN (hD:=hD)<|bP L.ce d hZ).gw ce,⟨us,(aj<|bN (hD:=hD)<|bP L.ac d hZ).gw p,Paired.bp s λ_ _ q=>q.keep g⟩,(aj<|bN (hD:=hD)<|bP L.cm d hZ).gw cm,ie cs λi x c f _ q=>(aj<|bN (hD:=hD)<|bP (L.cs i x f) d wq).gw q⟩
def aly(M:bb t C CT H m A S)(L:ke hD m A)(n:Nat)(v:Int):bb t C CT (dc H A.ce<|.lst<|(S.bd.map V.int).set n<|.int v) m A {S with bd:=S.bd.set n v}:=by
 obtain⟨⟨dx,fs,h1,h2⟩,lt,ts,pg,⟨vs,s1,s2⟩,pl,ct,rg,rs,ce,⟨us,g,h⟩,cm,cs⟩:=M;have a:=L.ce;have d:=Ae (o:=.lst<|(S.bd.map V.int).set n<|.int v) ce;have j:=Af (o:=.lst<|(S.bd.map V.int).set n<|.int v) ce;have h2:v8 _ A {S with bd:=S.bd.set n v}:=⟨h2.fu,h2.program,h2.kind,h2.steps,h2.places,h2.counts,h2.eB,h2.cells,h2.iY,h2.kE,h2.ms,h2.qS⟩
 exact⟨⟨dx,fs,(aj<|bN (hD:=hD)<|bP L.m a gh).gw h1,h2⟩,(aj<|bN (hD:=hD)<|bP L.lt a gh).gw lt,ie ts λi x c f _ q=>dS.keep q (λb k o e=>(aj<|bN (hD:=hD)<|bP (L.ts i x f b k) a pX).gw e) d,pg.keep d,⟨vs,d _ _ s1,Paired.bp s2 λ_ _ q=>q.keep d λb C dx fs e _=>j b C dx fs e⟩,(aj<|bN (hD:=hD)<|bP L.pl a gh).gw pl,(aj<|bN (hD:=hD)<|bP L.ct a gh).gw ct,(aj<|bN (hD:=hD)<|bP L.rg a gh).gw rg,ie rs λi x c f _ q=>(aj<|bN (hD:=hD)<|bP (L.rs i x f) a pX).gw q,by
   show dc H _ _ _=a_ _;rw[ao,vk],⟨us,(aj<|bN (hD:=hD)<|bP L.ac a gh).gw g,Paired.bp h λ_ _ q=>q.keep d⟩,(aj<|bN (hD:=hD)<|bP L.cm a gh).gw cm,ie cs λi x c f _ q=>(aj<|bN (hD:=hD)<|bP (L.cs i x f) a pX).gw q⟩
def OK(M:bb t C CT H m A S)(L:ke hD m A){ws:List V}(hw:H A.ac=a_ (.lst ws))(f:Dg H x a):bb t C CT (dc H A.ac<|.lst<|ws++[x]) m A {S with ac:=S.ac++[a]}:=by
 obtain⟨⟨dx,fs,h1,h2⟩,lt,ts,pg,⟨vs,s1,s2⟩,pl,ct,rg,rs,ce,⟨us,h,j⟩,cm,cs⟩:=M;obtain rfl:ws=us:=by rw[hw]at h;cases h;rfl
 have d:=L.ac;have g:=Ae (o:=.lst<|ws++[x]) hw;have k:=Af (o:=.lst<|ws++[x]) hw;have h2:v8 _ A {S with ac:=S.ac++[a]}:=⟨h2.fu,h2.program,h2.kind,h2.steps,h2.places,h2.counts,h2.eB,h2.cells,h2.iY,h2.kE,h2.ms,h2.qS⟩;exact⟨⟨dx,fs,(aj<|bN<|bP L.m d gh).gw h1,h2⟩,(aj<|bN<|bP L.lt d gh).gw lt,ie ts λi x c f _ q=>dS.keep q (λb l o e=>(aj<|bN<|bP (L.ts i x f b l) d pX).gw e) g,pg.keep g,⟨vs,g _ _ s1,Paired.bp s2 λ_ _ q=>q.keep g λb C dx fs e _=>k b C _ _ e⟩,(aj<|bN<|bP L.pl d gh).gw pl,(aj<|bN<|bP L.ct d gh).gw ct,(aj<|bN<|bP L.rg d gh).gw rg,ie rs λi x c f _ q=>(aj<|bN<|bP (L.rs i x f) d pX).gw q,(aj<|bN<|bP L.ce d gh).gw ce,⟨ws++[x],ao,tU (Paired.bp j λ_ _ q=>q.keep g)<|f.keep g⟩,(aj<|bN<|bP L.cm d gh).gw cm,ie cs λi x c f _ q=>(aj<|bN<|bP (L.cs i x f) d pX).gw q⟩
def alw(M:bb t C CT H m A S)(L:ke hD m A){n:Nat}(hn:S.ov[n]?=a_ ov)(ha:A.cs[n]?=a_ a)(d:Int):bb t C CT (dc H a<|.lst<|ov.map V.int++[.int d]) m A {S with ov:=S.ov.set n (ov++[d])}:=by
 obtain⟨⟨dx,fs,h1,h2⟩,lt,ts,pg,⟨vs,s1,s2⟩,pl,ct,rg,rs,ce,⟨us,p,r⟩,cm,cs⟩:=M
 have j:H a=a_ (.lst<|ov.map V.int):=by
  refine aD (zP cs ha) λu k q=>?_;rw[hn]at k;cases k;exact q
 have f:=L.cs n a ha;have h:=Ae (o:=.lst<|ov.map V.int++[.int d]) j;have s:=Af (o:=.lst<|ov.map V.int++[.int d]) j;have h2:v8 _ A {S with ov:=S.ov.set n (ov++[d])}:=⟨h2.fu,h2.program,h2.kind,h2.steps,h2.places,h2.counts,h2.eB,h2.cells,h2.iY,h2.kE,h2.ms,h2.qS⟩
 exact⟨⟨dx,fs,(aj<|bN (hD:=hD)<|bP L.m f hZ).gw h1,h2⟩,(aj<|bN (hD:=hD)<|bP L.lt f hZ).gw lt,ie ts λi x c g _ q=>dS.keep q (λb l o e=>(aj<|bN (hD:=hD)<|bP (L.ts i x g b l) f wq).gw e) h,pg.keep h,⟨vs,h _ _ s1,Paired.bp s2 λ_ _ q=>q.keep h λb C dx fs e _=>s b C dx fs e⟩,(aj<|bN (hD:=hD)<|bP L.pl f hZ).gw pl,(aj<|bN (hD:=hD)<|bP L.ct f hZ).gw ct,(aj<|bN (hD:=hD)<|bP L.rg f hZ).gw rg,ie rs λi x c g _ q=>(aj<|bN (hD:=hD)<|bP (L.rs i x g) f wq).gw q,(aj<|bN (hD:=hD)<|bP L.ce f hZ).gw ce,⟨us,(aj<|bN (hD:=hD)<|bP L.ac f hZ).gw p,Paired.bp r λ_ _ q=>q.keep h⟩,(aj<|bN (hD:=hD)<|bP L.cm f hZ).gw cm,Fm cs (λi x b hi g _ q=>(aj<|bN (hD:=hD)<|bP (L.cs i x g) f wm).gw q) λx b g l q=>by
   rw[ha]at g;cases g;rw[ao,dC];rfl⟩
def Y4{c:Nat}{x:e_×e_×List e_}{tn:Int}(M:bb t C CT H m A S)(L:ke hD m A)(l:S.ck[c]?=a_ k)(r:A.ts[c]?=a_ x)(kp:hG (x.1::x.2.1::x.2.2) H H')(T:dS H' x.1 CT S.kd tn es x.2.1 x.2.2):bb t C CT H' m A {S with ck:=S.ck.set c {k with tn:=tn,es:=es}}:=by
 obtain⟨⟨dx,fs,h1,h2⟩,lt,ts,pg,⟨vs,s1,s2⟩,pl,ct,rg,rs,ce,⟨us,E,F⟩,cm,cs⟩:=M;refine aD (zP ts r) λk0 u p=>?_;rw[l]at u;cases u;have G:=L.ts c x r;have d:∀b o,hD b≠28+6*c->(∀ps,o≠.fA ps)->H b=a_ o->H' b=a_ o:=λb o n z e=>kp.k b o (λh=>n<|G b h) z e;have j:∀b ys,H b=a_ _->H' b=a_ (.tup ys):=λb ys e=>kp.k b _ (λh=>by rcases p.kinds b h _ e with ⟨_,_,_,z⟩ | ⟨_,z⟩ <;> cases z) (λps z=>by cases z) e
 have I:∀b C dx fs,H b=a_ (.ins C dx fs)->(∃x ps v,C=cj t x/\fs=cR v x ps)->H' b=a_ (.ins C dx fs):=λb C dx fs e J=>kp.k b _ (λh=>by
  obtain⟨x',ps,v,_,s⟩:=J;subst s;obtain z|z:=bK.mp h
  .refine fh p.obj λQ R e' B _=>?_;rw[z,e']at e;cases e;rw[vC Z_ dk]at B;cases B
  .obtain z|z:=bK.mp z
   .rw[z,p.qs]at e;cases e
   .refine oE (kY z) λi s=>oE s λhi N=>?_;obtain⟨U,e',_⟩:=p.jK i b (by rw[<-N];exact aI _);rw[e']at e;cases e) (λps z=>by cases z) e
 have f:∀ys:List V,∀ps,HO.lst ys≠.fA ps:=λys ps z=>by cases z
 have h2:v8 _ A {S with ck:=S.ck.set c {k with tn:=tn,es:=es}}:=⟨h2.fu,h2.program,h2.kind,h2.steps,h2.places,h2.counts,h2.eB,h2.cells,h2.iY,h2.kE,h2.ms,h2.qS⟩;refine⟨⟨dx,fs,d _ _ (qN L.m hZ) (λps z=>by cases z) h1,h2⟩,d _ _ (qN L.lt hZ) (f _) lt,?_,pg.keep j,⟨vs,j _ _ s1,Paired.bp s2 λ_ _ q=>q.keep j I⟩,?_,?_,d _ _ (qN L.rg hZ) (f _) rg,?_,d _ _ (qN L.ce hZ) (f _) ce,⟨us,d _ _ (qN L.ac hZ) (f _) E,Paired.bp F λ_ _ q=>q.keep j⟩,d _ _ (qN L.cm hZ) (f _) cm,ie cs λi y b g _ q=>d _ _ (qN (L.cs i y g) wq) (f _) q⟩
 .refine Fm ts (λi y b hi g _ q=>dS.keep q (λO D o e=>d _ o (qN (L.ts i y g _ D) wm) (λps z=>?_) e) j) λy b g h q=>?_
  .rcases q.kinds O D _ e with ⟨_,_,_,w⟩ | ⟨_,w⟩ <;> (rw[z]at w;cases w)
  .rw[r]at g;cases g;exact T
 .show H' _=a_ _;rw[zM (k':={k with tn:=tn,es:=es}) l rfl];exact d _ _ (qN L.pl hZ) (f _) pl
 .show H' _=a_ _;rw[zM (k':={k with tn:=tn,es:=es}) l rfl];exact d _ _ (qN L.ct hZ) (f _) ct
 .exact xG (ie rs λi y b g _ q=>d _ _ (qN (L.rs i y g) wq) (f _) q) l λa _ q=>q
end
abbrev Mv:=d0×List Int
noncomputable def qO(mv:Mv):List V:=.str mv.1::mv.2.map V.int
def qM(H:Hp)(v:V)(mv:Mv):Prop:=∃p,v=.ref p/\H p=a_ (.tup<|qO mv)
def qM.keep{mv:Mv}(k:∀b xs,H b=a_ (.tup xs)->H' b=a_ (.tup xs))(h:qM H v mv):qM H' v mv:=by
 exact aD h λp e h=>az p e<|k _ _ h
def aB.tup(k:aB F H H')(h:∀b,F b->∀xs,H b≠a_ (.tup xs)):∀b xs,H b=a_ (.tup xs)->H' b=a_ (.tup xs):=λb xs e=>k.k b _ (λz=>h b z _ e) (λps z=>by cases z) e
def aB.PX(k:aB dE H H'):∀b xs,H b=a_ (.tup xs)->H' b=a_ (.tup xs):=k.tup λb z=>z.elim
def aB.vY(k:aB dE H H')(e:H b=a_ (.lst xs)):H' b=a_ (.lst xs):=k.k b _ (λz=>z) (λps z=>by cases z) e
def pJ(k:Ck)(p:Pt):Bool:=match p[k.pl]? with
 | none=>d_
 | some s=>decide (k.es=[])||!gH s
def Hm(kd:d0)(x:Ck×Nat):List Mv:=(ja kd x.1.es).map λn=>((at6 : d0),[(x.2:Int),n])
def v7(kd:d0)(l:List (Ck×Nat)):List Mv:=l.flatMap<|Hm kd
def Aa(S:Mc):List Mv:=v7 S.kd S.ck.zipIdx
def uk(S:Mc)(c:Nat):Bool:=match S.ck[c]?,S.ps[c]? with
 | some k,a_ p=>pJ k p
 | _,_=>d_
def uo(S:Mc)(n:Nat):List Mv:=((List.range n).filter<|uk S).map λ(c:Nat)=>(("do":d0),[(c:Int)])
def gF(S:Mc):List Mv:=uo S S.ck.length++Aa S
noncomputable def v5(S:Mc)(c:Nat):Bool:=match S.ck[c]?,S.ps[c]? with
 | some k,a_ p=>decide (k.pl=p.length)&&decide (k.es=[])
 | _,_=>d_
def pB(S:Mc):Bool:=(List.range S.ck.length).all<|v5 S
def UQ(kd:d0)(es:List hO):(ja kd es).length<=12:=by
 unfold ja
 split
 .cases es.head? <;> simp
 .unfold lZ;rw[aA];exact dq (o7 _ _)<|qi▸aw _
theorem F8(kd:d0):∀l:List (Ck×Nat),(v7 kd l).length<=12*l.length
 | []=>by simp[v7]
 | x::l=>by
  have h:=F8 kd l;unfold v7 at h ⊢;rw[zE,cQ,eI];have h2:(Hm kd x).length<=12:=by unfold Hm;rw[aA];exact UQ _ _
  lia
section
variable{t:bf}{C CT:e_}{u:nG}
def WY(t:bf)(C CT:e_):Sp:=λvs H Q _=>∃m A S c k p,vs=[.ref m,.int (c:Nat)]/\bb t C CT H m A S/\S.ck[c]?=a_ k/\S.ps[c]?=a_ p/\p.length<=1000/\k.pl<=p.length/\(∀s∈p,∃sz,bu sz s)/\∀H',ae H H'->Q (.bl<|pJ k p) H'
def W8:aX io hU (aM NR):=aZ
def agb(F:aQ K "may_do" "Machine.may_do" NR f fd)(g:gX K C)(J:jY K CT)(O:yq K mg t u)(L:Mt P w K mg gW C 1 "at_end" hU (MZ t C CT))(o:Mt P w K mg gW CT 1 "is_empty" hF (MW CT)):aG P w K mg gW aF 2 f fd hU (WY t C CT):=by
 refine F.ok W8 λaH A _ s H vs Q E r h=>?_
 .refine mV h λm A S c k p j M y D N=>?_;subst j;obtain⟨R,hle,U,q⟩:=N;refine let d:TS:=_;⟨_,au (bz (dg<|jF (pv 0) g.cl L r<|aa (pv 1) af) (ax<|aR iF) bQ)<|pR d<|au (bG (i:=2) W8.nd xz (aL xz)<|aU dh (aU dh (a0 (pv 0) xz)<|pv 1)<|aU bX (a0 (pv 0) xz)<|pv 1)<|ax<|aR<|OZ (FV (aU bX (a0 (pv 0) xz)<|pv 1) J.cl o.m o.G r o.b .nil cX)<|sk<|Od<|Mi (pv 2) r cX,?_⟩;refine cy (id M.obj) λdx fs hm G=>aD (M.ug y) λx W T=>eJ (id T.obj) λky mP X e1 e2 e3 Y el=>lE (M.part D) λvs b us h1 h2 j=>oA j λh3 h4=>vM xz hm (G.ms _ dk)<|vr xz<|⟨m,A,S,c,k,p,xz,M,y,D,R,(tk<|bj (λl=>?_) λl=>?_)⟩
  .have e:pJ k p=false:=by unfold pJ;rw[uZ li]
   have q:=q H<|ae.refl H;rw[e]at q;exact q
  have I:k.pl<p.length:=li;have B:=aI I;refine aD (rX h4 B) λv Z j=>C2 j λz a dz j hz=>?_;subst j;refine oE (U _<|pe I) λsz gs=>az _ xz<|dN m C _ _<|iQ _ xz hm g.cl g.steps G.steps<|vr xz<|rT (aq.of h1) (cI h2)<|vF xz hm g.cl g.places G.places<|vr xz<|rL (ag.of M.pl) (jq y)<|rT (aq.of h3) (cI Z)<|az _ xz<|dN m C _ _<|iQ _ xz hm g.cl g.fu G.fu<|vr xz<|rL (ag.of M.lt) (BR W)<|rM X (Y _ dk)<|⟨x.1,_,_,_,_,(eC _ xz T λH1 s1=>(tk<|bj (λl=>?_) λl=>?_))⟩
  .have e:pJ k p=true:=by unfold pJ;rw[B];show (decide (k.es=[])||_)=c_;rw[fC l];rfl
   have q:=q _ s1;rw[e]at q;exact q
  .have e:pJ k p=!gH p[k.pl]:=by unfold pJ;rw[B];show (decide (k.es=[])||_)=_;rw[fT l];rfl
   have q:=q _ s1;rw[e]at q;have no:=vC S_ dk (.ref a) p[k.pl].1 (p[k.pl].2.map λ(n:Nat)=>V.int n);exact BP (YO O gs<|s1 _ _ hz) λC1 f1 EM pn sp hc cl me G1 bi q1=>az _ xz<|⟨z,C1,dz,_,f1,EM,pn,sp,xz,hc,no,cl,me,G1,⟨bi,(q1 _ _ ⟨_,xz,q⟩)⟩⟩
def Vf(t:bf)(C CT PT:e_):Sp:=λvs H Q _=>∃m A S,vs=[.ref m]/\bb t C CT H m A S/\S.ck.length<=4/\b9 PT LP LQ H/\∀H' l vs,aB dE H H'->b9 PT LP LQ H'->H l=b_->H' l=a_ (.lst vs)->bw (qM H') vs (Aa S)->Q (.ref l) H'
def Fw:aX [Y_,"found",an3,"tray"] hF (aM Mg):=aZ
def amr:([an3,l_]:List d0).Nodup:=dk
def adW{f PT:e_}(F:aQ K "carries" "Machine.carries" Mg f fd)(cM:gX K C)(cT:jY K CT)(jy:mg at5 = b_)(DF:Mt P w K mg gW CT 2 "fronts" hF (LU CT PT)):aG P w K mg gW aF 3 f fd hF (Vf t C CT PT):=by
 refine F.ok Fw λaH A _ s H vs Q E hr h=>?_
 .obtain⟨m,A,S,ab,M,h4,hL,q⟩:=h;subst ab
  refine let a:TS:=_;let d:TS:=_;⟨_,au (bG (i:=1) Fw.nd xz (aL xz)<|eX af) (pR d (au (jV jA xz (qm (b:=c_) xz jy<|aa (a0 (pv 0) xz) af) (lX xz<|ff (bo (i:=2) Fw.nd xz<|pC xz)<|ff (bo (i:=3) Fw.nd xz<|aL xz) lV) (pR a (ax (eE (kG m_ PySem.F.slot_list_extend PySem.F.type_list_extend Vx (pv 1) (aa (dZ (N:=[an3,l_]) (idx:=[2]) xz (cB.of<|by kernel_rfl) (eD<|aw _)
     (lA<|pA (pv 3) cT.cl DF hr) (λ_ _ _ _=>bo (i:=1) amr xz (aL xz)<|.inr xz) (λ_ _ _ _=>eP) λ_ _ _ _=>dR<|aa cq<|aa (pv 0)<|aa (pv 1) af) af))))))
   (ax<|aR<|pv 1))),?_⟩
  refine cy (id M.obj) λdx fs hm G=>⟨qc,λlw nw=>?_⟩;have I:ae H (dc H _<|.lst []):=ay (ae.refl _) nw;have hlen:=r_ M.ts;have Si:(A.ts.map λx=>V.ref x.1).length=A.ts.length:=aA _;refine vF xz (I _ _ hm) cM.cl cM.fu G.fu ⟨A.lt,⟨_,xz,ag.of<|I _ _ M.lt,?_⟩⟩
  let W1:IV:=λi σ H'=>i<=A.ts.length/\∃c y vs,σ=[a_ (.ref m),a_<|.ref lw,c,y]/\aB dE H H'/\b9 PT LP LQ H'/\H' lw=a_ (.lst vs)/\bw (qM H') vs (v7 S.kd<|S.ck.zipIdx.take i)
  refine su (n:=A.ts.length) W1 ⟨bg _,b_,b_,[],xz,aB.of I,iD hL I,ao,.nil⟩ ?_ ?_ ?_ ?_
  .rintro i σ H' hi ⟨_,_,_,_,_,kp,_,_,_⟩;exact gU _ _ (ag.of<|kp.vY M.lt) (by rw[cF,aI hi];rfl)
  .rintro σ H' ⟨_,_,_,_,_,kp,_,_,_⟩;exact az _ (ag.of<|kp.vY M.lt)<|Si▸aw _
  .rintro i σ O hi ⟨_,c,y,vs,rfl,kp,R,hw,B⟩ z H2 ⟨r,x,bE,ez,U,du⟩;subst ez;subst U;have uH:=du _<|ag.of<|kp.vY M.lt;rw[cF,aI hi]at uH;cases uH;have s2:ae _ (dc _ r<|.tup [.int i,.ref A.ts[i].1]):=ay (ae.refl _) bE;have W:=s2 _ _ hw;have aaL:=Paired.bp B λ_ _ q=>qM.keep (λb xs e=>s2 _ _ e) q;have rB:=iD R s2;have El:dc O r _ r=a_ (.tup [.int i,.ref A.ts[i].1]):=ao;generalize dc _ r _=H2 at s2 W aaL rB El ⊢;have X:=kp.gw<|aB.of s2;have M2:=M.pE X;have EA:=wf;refine aD (M2.ug<|aI EA) λx' wN T=>?_;rw[aI hi]at wN;cases wN;refine eJ (id T.obj) λky mP ea e1 e2 e3 em el=>⟨r,⟨_,xz,aq.of El,xz,.int i,[.ref A.ts[i].1],xz,.ref A.ts[i].1,[],xz,xz,vr xz ⟨.inl ⟨xz,_,ag.of W⟩,⟨_,xz,_,ky,mP,xz,ea,em _ dk,_,_,_,_,_,_,xz,T,rB,λH3 lf k3 uX nf J=>?_⟩⟩⟩⟩;have Y:aB dE _ H3:=aB.QY k3 λb hb=>(by cases hb);refine eC _ xz ⟨_,ag.of J⟩ ?_;have Jm:=UQ S.kd S.ck[i].es;refine dX (n:=(ja S.kd S.ck[i].es).length) (λj ys g=>j<=(ja S.kd S.ck[i].es).length/\ae H3 g/\bw (qM g) ys (((ja S.kd S.ck[i].es).take j).map λn=>((at6 : d0),[(i:Int),n]))) (bL<|bq w4) (fY (bg _) (ae.refl _) .nil) ?_ ?_ ?_ ?_ ?_
   .rintro j ys g ⟨_,_,e⟩;rw[r_ e,aA,fJ];exact xl
   .rintro j ys g D ⟨_,l,_⟩;exact gU _ _ (ag.of<|l _ _ J) (by rw[cF,aI D];rfl)
   .rintro ys g ⟨_,l,_⟩;exact az _ (ag.of<|l _ _ J) (by rw[aA];exact aw _)
   .rintro j ys g D ⟨_,l,e⟩ v H5 ⟨U,RK⟩;subst U;have hv:=RK _<|ag.of<|l _ _ J;rw[cF,aI D]at hv;cases hv;refine az _ xz<|vr xz ⟨(sl (n:=3)),(λtp ht=>⟨D,ay l ht,?_⟩)⟩;rw[iN,aI D,dC];exact tU (Paired.bp e λ_ _ q=>q.keep λb xs e=>ay (ae.refl _) ht _ _ e)<|az _ xz ao
   .rintro ys g ⟨_,l,e⟩;rw[jl<|aw _]at e;refine⟨by rw[r_ e,aA];exact bL<|bq li,λrl gZ=>?_⟩;have L:=ay (o:=.lst ys) l gZ;have Z:=L _ _<|Y.vY W;have cl:=F8 S.kd<|S.ck.zipIdx.take i;rw[fJ]at cl;have hvl:=r_ B;refine⟨lw,rl,vs,ys,xz,xz,Z,ao,?_,hi,(wA _ _<|ip _ xz ?_ ?_ ao ?_)⟩
    .rw[hvl,r_ e,aA];exact bL<|bq li
    .have kk:=Y.gw<|aB.of L;refine⟨λb o nb nt p=>?_,λb p=>(X.gw kk).t b ?_⟩
     .have:b≠lw:=bh p nw;rw[aj this];exact(X.gw kk).k b o nb nt p
     .by_cases z:b=lw
      .rw[z,ao]at p;cases p
      .rwa[aj z]at p
    .exact aiP Z (iD uX L)
    .have et:S.ck.zipIdx.take (i+1)=S.ck.zipIdx.take i++[(S.ck[i],i)]:=by
      rw[iN,abJ,aI EA];simp
     rw[et];unfold v7;rw[BE,zE,acn,nK];have IU:∀b xs,dc g rl (.lst ys) b=a_ (.tup xs)->dc (dc g rl<|.lst ys) lw (.lst<|vs++ys) b=a_ (.tup xs):=λb xs e=>by rw[aj<|iU e Z (by intro z;cases z)];exact e
     exact KG (Paired.bp e λ_ _ q=>q.keep λb xs e=>IU b xs<|ay (ae.refl _) gZ _ _ e) (Paired.bp aaL λ_ _ q=>(q.keep Y.PX).keep λb xs e=>IU b xs<|L _ _ e)
  .rintro σ O ⟨_,c,y,vs,rfl,kp,R,hw,B⟩;rw[jl (by rw[Tv];lia)]at B;exact vr xz<|q O lw vs kp R nw hw B
end
def iu.four(w:iu S):S.ck.length<=4:=by rw[w.len];exact w.good.le
def iu.part(w:iu S){c:Nat}(h:S.ck[c]?=a_ k):∃p,S.ps[c]?=a_ p/\p.length<=120/\k.pl<=p.length/\∀s∈p,bu p.length s:=by
 refine oE (b0.mp h) λb _=>?_;have a:S.ps[c]?=a_ (S.ps[c]'(by rw[<-w.len];exact b)):=aI _;exact oA (w.good.part _<|a8 a) λd g2=>⟨_,a,d,(w.pl c k _ h a),g2⟩
def Gk(h:S.ck[c]?=a_ k)(h':S.ps[c]?=a_ p):uk S c=pJ k p:=by unfold uk;rw[h,h']
def XF(h:S.ck[c]?=a_ k)(h':S.ps[c]?=a_ p):v5 S c=(decide (k.pl=p.length)&&decide (k.es=[])):=by unfold v5;rw[h,h']
def WG(S:Mc)(n:Nat):(uo S n).length<=n:=by
 unfold uo;rw[aA];exact dq (o7 _ _) (by rw[qi];exact aw _)
def afe(S:Mc)(n:Nat):uo S (n+1)=uo S n++(if uk S n=c_ then [(("do":d0),[(n:Int)])] else []):=by
 unfold uo;rw[pf,xq,dC]
 congr 1
 cases h:uk S n with
 | true=>simp[List.filter,h]
 | false=>simp[List.filter,h]
def ami:(hU:List d0).Nodup:=dk
def Yr:([Y_,an3,"tray"]:List d0).Nodup:=dk
section
variable{t:bf}{C CT:e_}{u:nG}
def Ge(t:bf)(C CT PT:e_):Sp:=λvs H Q _=>∃m A S,vs=[.ref m]/\bb t C CT H m A S/\iu S/\b9 PT LP LQ H/\∀H' l vs,aB dE H H'->b9 PT LP LQ H'->H l=b_->H' l=a_ (.lst vs)->bw (qM H') vs (gF S)->Q (.ref l) H'
def afM:aX hF hF (aM Nb):=aZ
def aeN{f PT:e_}(F:aQ K "moves" "Machine.moves" Nb f fd)(a:gX K C)(J:mg "len"=b_)(L:mg "range"=b_)(O:Mt P w K mg gW C 2 "may_do" hU (WY t C CT))(R:Mt P w K mg gW C 3 "carries" hF (Vf t C CT PT)):aG P w K mg gW aF 4 f fd hF (Ge t C CT PT):=by
 refine F.ok afM λaH A _ s H vs Q E v h=>?_
 .obtain⟨m,A,S,T,M,W,U,q⟩:=h;subst T;have X:=v.mono (show 2<=3 by decide)
  refine⟨_,ax (aR (aS ajV (dZ (N:=[Y_,an3]) (idx:=[0]) xz (cB.of<|by kernel_rfl) (eD<|aw _) (lu xz L<|aa (bC ft xz J q_<|aa (a0 (pv 0) xz) af) af)
   (λ_ _ _ _=>bo (i:=1) ami xz (aL xz)<|.inr xz) (λ_ _ _ _=>vy<|dg<|jF (pv 0) a.cl O X<|aa (pv 1) af) λ_ _ _ _=>dR<|aa cq<|aa (pv 1) af)
   (pA (pv 0) a.cl R v))),?_⟩
  refine cy (id M.obj) λdx fs hm G=>?_;have hlen:=r_ M.ts;have h4:=W.four;refine vF xz hm a.cl a.fu G.fu ⟨A.lt,⟨_,xz,.inl<|ag.of M.lt,_,xz,by rw[aA];lia,by rw[aA];lia,?_⟩⟩;have Y:(((A.ts.map λx=>V.ref x.1).length:Int)).toNat=S.ck.length:=by rw[aA];lia
  rw[Y];refine dX (n:=S.ck.length) (λi ys H'=>i<=S.ck.length/\ae H H'/\bw (qM H') ys (uo S i)) (bL<|bq w4) (fY (bg _) (ae.refl _) .nil) ?_ ?_ ?_ ?_ ?_
  .rintro i ys H' ⟨_,_,e⟩;rw[r_ e];exact WG S i
  .rintro i ys H' hi _;exact hi
  .rintro ys H' _;exact aw _
  .rintro i ys Z hi ⟨_,s1,e⟩ x H2 ⟨eH,ex⟩;subst eH;subst ex;have k:S.ck[i]?=a_ S.ck[i]:=aI hi;refine cc (W.part k) λp y c9 eR mG=>vM xz (s1 _ _ hm) (G.ms _ dk)<|vr xz<|⟨m,A,S,i,_,p,?_,(M.same s1),k,y,w4,eR,(λs hs=>⟨_,mG s hs⟩),(λc d=>(az _ xz ?_))⟩
   .show [V.ref m,V.int<|0+(i:Int)]=_;rw[BO]
   rw[afe,Gk k y];refine lG (λl=>?_) λl=>?_
   .refine vr xz ⟨(sl (n:=2)),(λtp z=>⟨hi,s1.gw<|ay d z,?_⟩)⟩;rw[l,eT rfl];refine tU (Paired.bp e λ_ _ q=>q.keep λb xs e=>ay d z _ _ e)<|az tp xz ?_;rw[ao];show a_ (HO.tup [.str "do",V.int<|0+(i:Int)])=_;rw[BO];rfl
   .refine fY hi (s1.gw d) ?_;rw[l,eN dF,nK];exact Paired.bp e λ_ _ q=>q.keep λb xs e=>d _ _ e
  .rintro ys Z ⟨_,s1,e⟩;have hd:=WG S S.ck.length;refine⟨by rw[r_ e];exact bL<|bq li,λr B=>?_⟩;have s2:=ay (o:=.lst ys) s1 B;refine vM xz (s2 _ _ hm) (G.ms _ dk)<|⟨m,A,S,xz,(M.same s2),h4,(iD U s2),(λc lc us g uX nc hc D=>?_)⟩;have cl:=F8 S.kd S.ck.zipIdx;rw[Tv]at cl;have wO:=r_ D
   have asp:us.length<=48:=by
    rw[wO];unfold Aa;lia
   refine jT r lc ys us xz xz (g.vY ao) hc ?_ λl3 j=>?_
   .rw[r_ e];exact bL<|bq li
   have k4:aB dE H (dc c l3<|.lst<|ys++us):=((aB.of s2).gw g).gw<|aB.of<|ay (ae.refl _) j;have hn:=((aB.of s2).gw g).t l3 j;refine q _ l3 _ k4 (iD uX<|ay (ae.refl _) j) hn ao ?_;unfold gF;have I:∀b xs,c b=a_ (.tup xs)->dc c l3 (.lst<|ys++us) b=a_ (.tup xs):=λb xs e=>ay (ae.refl _) j _ _ e;exact KG (Paired.bp D λ_ _ q=>q.keep I) (Paired.bp e λ_ _ q=>(q.keep λb xs e=>g.PX _ _<|ay (ae.refl _) B _ _ e).keep I)
end
def KL(H H':Hp):Prop:=∀b o,(∀xs,o≠.lst xs)->H b=a_ o->H' b=a_ o
def KL.gw(a:KL H H1)(b:KL H1 H2):KL H H2:=λc o n e=>b c o n<|a c o n e
def KL.of(s:ae H H'):KL H H':=λb o _ e=>s b o e
def KL.dc(a:H x=a_ (.lst xs)):KL H (dc H x o):=λb q n e=>by
 rw[aj λz=>?_]
 .exact e
 .rw[z,a]at e;cases e;exact n _ xz
def KL.lam(k:KL H H'){PT:e_}(h:b9 PT pos q H):b9 PT pos q H':=by
 refine aD h λps b a=>az _ (k _ _ (λxs z=>by cases z) b) ?_;obtain e|⟨c,e,a⟩:=a
 .exact .inl e
 .exact .inr (az c e<|k _ _ (λxs z=>by unfold A5 at z;cases z) a)
def KL.tup(k:KL H H'):∀b xs,H b=a_ (.tup xs)->H' b=a_ (.tup xs):=λb xs e=>k b _ (λys z=>by cases z) e
noncomputable def qu(S:Mc)(n:Nat)(num d:Int):Mc:={S with bd:=S.bd.set n num,ov:=S.ov.set n (S.ov.getD n []++[d])}
def ng(S:Mc)(c n:Nat):Mc:=match S.ck[c]? with
 | none=>S
 | some k=>match (bH k.es n).head? with
  | none=>S
  | some e=>qu {S with ck:=S.ck.set c {k with es:=nj k.es n}} n e.num e.d
def CP(S:Mc)(n:Nat):List V:=[.int (n:Nat),.int<|S.bd.getD n 0,oV (S.ov.getD n []).getLast?]
def vA{a:Type}{l:List a}{n:Nat}{x d:a}(h:l[n]?=a_ x):l.getD n d=x:=by rw[cH,h];rfl
section
variable{t:bf}{C CT:e_}{u:nG}
def MV(t:bf)(C CT:e_):Sp:=λvs H Q _=>∃m A S,vs=[.ref m]/\bb t C CT H m A S/\iu S/\∀H',ae H H'->Q (.bl<|pB S) H'
def ahQ:aX hF hF (aM N0):=aZ
def agh(F:aQ K "ended" "Machine.ended" N0 f fd)(c:gX K C)(J:jY K CT)(L:mg "all"=b_)(O:mg at5 = b_)(R:Mt P w K mg gW C 1 "at_end" hU (MZ t C CT))(U:Mt P w K mg gW CT 1 "is_empty" hF (MW CT)):aG P w K mg gW aF 2 f fd hF (MV t C CT):=by
 refine F.ok ahQ λaH A _ s H vs Q E j h=>?_
 .obtain⟨m,A,S,X,M,W,q⟩:=h;subst X
  refine⟨_,ax (aR (bC (Ab xz) xz L Cj (aa (dZ (N:=[Y_,an3,"tray"]) (idx:=[0]) xz (cB.of<|by kernel_rfl) (zU (aw _)<|jC _) (qm (b:=c_) xz O<|aa (a0 (pv 0) xz) af)
   (λ_ _ _ _=>lX xz<|ff (bo (i:=1) Yr xz (aL xz)<|.inr xz)<|ff (bo (i:=2) Yr xz (aL xz)<|.inr xz) lV) (λ_ _ _ _=>eP)
   λ_ _ _ _=>sr (jF (pv 0) c.cl R j<|aa (pv 1) af)<|sk<|pA (pv 2) J.cl U j) af))),?_⟩
  refine cy (id M.obj) λdx fs hm G=>?_;have Y:=r_ M.ts;have h4:=W.four;have Z:(A.ts.map λx=>V.ref x.1).length=A.ts.length:=aA _;refine vF xz hm c.cl c.fu G.fu ⟨A.lt,⟨_,xz,ag.of M.lt,?_⟩⟩;refine dX (n:=A.ts.length) (λi ys H'=>i<=A.ts.length/\ae H H'/\ys=((List.range i).map<|v5 S).map V.bl) ?_ ?_ ?_ ?_ ?_ ?_ ?_
  .exact bL (bq w8)
  .exact fY (bg _) (ae.refl _) xz
  .rintro i ys H' ⟨_,_,e⟩;rw[e,aA,aA,qi];exact aw _
  .rintro i ys H' hi ⟨_,s1,_⟩;exact gU _ _ (ag.of<|s1 _ _ M.lt) (by rw[cF,aI hi];rfl)
  .rintro ys H' ⟨_,s1,_⟩;exact az _ (ag.of<|s1 _ _ M.lt)<|Z▸aw _
  .rintro i ys k hi ⟨_,s1,e⟩ z H2 ⟨r,x,d,ez,eH,du⟩;subst ez;subst eH;have l:=du _<|ag.of<|s1 _ _ M.lt;rw[cF,aI hi]at l;cases l;have s2:ae H (dc _ r<|.tup [.int i,.ref A.ts[i].1]):=ay s1 d;have v:dc k r _ r=a_ (.tup [.int i,.ref A.ts[i].1]):=ao;generalize dc _ r _=H2 at s2 v ⊢;have y:=M.same s2;have EA:=wf;have a:=aI EA;refine cc (W.part a) λp B c9 eR mG=>?_;refine aD (y.ug a) λx' D T=>?_;rw[aI hi]at D;cases D;refine eJ (id T.obj) λky mP ea e1 e2 e3 em el=>?_
   have fin:∀b,v5 S i=b->ys++[V.bl b]=((List.range<|i+1).map<|v5 S).map V.bl:=λb hb=>by
    rw[pf,dC,dC,<-e,<-hb];rfl
   have I:=XF a B;refine⟨r,⟨_,xz,aq.of v,xz,.int i,[.ref A.ts[i].1],xz,.ref A.ts[i].1,[],xz,xz,?_⟩⟩;dsimp only[je];rw[eT rfl];refine vM xz (s2 _ _ hm) (G.ms _ dk)<|vr xz<|⟨m,A,S,i,_,p,xz,y,a,B,w4,(tk<|bj (λg=>?_) λg=>?_)⟩
   .refine vM xz ea (em _ dk) (⟨_,_,_,_,_,(eC _ xz T λH3 s3=>(fY hi (s2.gw s3)<|fin _ ?_))⟩);rw[I,fC g,rQ]
   .refine fY hi s2 (fin _ ?_);rw[I,fT g,xy]
  .rintro ys k ⟨_,s1,e⟩;refine⟨by rw[e,aA,aA,qi];exact bL<|bq w8,λr d=>?_⟩;refine eA r _ xz (ag.of<|by rw[ao,e]) ?_;have q:=q _<|ay (o:=.lst ys) s1 d;unfold pB at q;rw[zO,Y];exact q
def NI(t:bf)(C CT:e_):Sp:=λvs H Q _=>∃m A S st n num d hD,vs=[.ref m,.ref st]/\bb t C CT H m A S/\ke hD m A/\H st=a_ (.tup [.int (n:Nat),.int num,.int d])/\n<12/\S.bd.length=12/\S.ov.length=12/\(∀o∈S.ov,o.length<=16000)/\
 ∀H',bb t C CT H' m A (qu S n num d)->aB (cN m A) H H'->KL H H'->Q .aO H'
def Ye:aX [Y_,au4,l_] [Y_,au4] (aM OX):=aZ
def ye(h:j<n):oB n (j:Int)=a_ j:=by
 unfold oB
 first | (rw[eT _];simp;done) | (simp;exact w0)
def ait(F:aQ K "come" "Machine.come" OX f fd)(g:gX K C):aG P w K mg gW aF 1 f fd [Y_,au4] (NI t C CT):=by
 refine F.ok Ye λaH A _ s H vs Q E N h=>?_
 .refine lD h λm A S st n c=>lE c λnum d hD c M r=>?_;subst c;refine qz r λL l hn x O c=>oA c λy q=>?_;refine let b:TS:=_;⟨_,au (bG (i:=2) Ye.nd xz (aL xz)<|aU dh (pv 1) ar)<|pR b<|au (vH (aU dh (pv 1) ar)<|vI (a0 (pv 0) xz) (pv 2) set_list)<|ax<|eE<|kG m_ n_ o_ mY (aU bX (a0 (pv 0) xz)<|pv 2)<|aa (aU dh (pv 1) ar) af,?_⟩;refine cy (id M.obj) λdx fs hm G=>kg (j:=0) xz l xz<|kg (j:=1) xz l xz<|vF xz hm g.cl g.cells G.cells<|vr xz<|⟨A.ce,_,_,n,xz,xz,M.ce,(ye<|by rw[aA,x];exact hn),?_⟩;have e:=aly M L n num;have p:aB (cN m A) H (dc H A.ce<|.lst<|(S.bd.map V.int).set n<|.int num):=aB.dc .ce;have l1:KL H (dc H A.ce<|.lst<|(S.bd.map V.int).set n<|.int num):=KL.dc M.ce;generalize dc H A.ce (.lst<|(S.bd.map V.int).set n<|.int num)=H1 at e p l1 ⊢;refine cy (id e.obj) λz B D I=>?_;have k:S.ov[n]?=a_ (S.ov[n]'wg):=aI wg;refine aD (e.over k) λa ha o=>az _ xz<|dN m C z B<|iQ _ xz D g.cl g.kE I.kE<|vr xz<|rL (v:=.ref a) (ag.of e.cm) (jq ha) ⟨.inl ⟨xz,_,ag.of o⟩,(kg (j:=2) xz ((l1.tup _ _ l)) xz ?_)⟩;have R:=y _<|a8 k;refine wA a _<|ip _ xz xz o (by rw[aA,gf];exact wb) ?_;have J:=alw e L k ha d;refine q _ ?_ (p.gw<|aB.dc<|.cs<|a8 ha)<|l1.gw<|KL.dc o;unfold qu;rw[vA k];exact J
def Lg(t:bf)(C CT:e_):Sp:=λvs H Q _=>∃m A S n,vs=[.ref m,.int (n:Nat)]/\bb t C CT H m A S/\n<12/\S.bd.length=12/\S.ov.length=12/\∀a,H a=b_->Q (.ref a) (dc H a<|.tup<|CP S n)
def Vl:aX [Y_,l_,"comers"] im (aM Ma):=aZ
def adU(F:aQ K "on_board" "Machine.on_board" Ma f fd)(c:gX K C)(x:mg "len"=b_):aG P w K mg gW aF 1 f fd im (Lg t C CT):=by
 refine F.ok Vl λaH A _ s H vs Q E J h=>?_
 .obtain⟨m,A,S,n,y,M,hn,L,N,q⟩:=h;subst y;refine⟨_,au (bG (i:=2) Vl.nd xz (aL xz)<|aU bX (a0 (pv 0) xz)<|pv 1)<|ax<|aR<|dR<|aa (pv 1)<|aa (aU bX (a0 (pv 0) xz)<|pv 1)<|aa (FX (cb dM (bC ft xz x q_<|aa (pv 2) af) ar<|bR _) oa<|aU bX (pv 2)<|Zh XZ ar) af,?_⟩;refine cy (id M.obj) λdx fs hm G=>?_;have g:S.ov[n]?=a_ (S.ov[n]'wg):=aI wg;have p:S.bd[n]?=a_ (S.bd[n]'wg):=aI wg;refine aD (M.over g) λa ha j=>?_
  have k:∀v,oV (S.ov[n]'wg).getLast?=v->∀b,H b=b_->Q (.ref b) (dc H b<|.tup [.int (n:Nat),.int<|S.bd[n]'wg,v]):=λv B b D=>by
   have q:=q b D;unfold CP at q;rw[vA g,vA p,B]at q;exact q
  generalize S.ov[n]'wg=o at g j k;refine vF xz hm c.cl c.kE G.kE<|vr xz<|rL (v:=.ref a) (ag.of M.cm) (jq ha)<|az _ xz<|vF xz hm c.cl c.cells G.cells<|vr xz<|rL (ag.of M.ce) (jq p)<|vr xz ⟨a,⟨_,xz,.inl<|ag.of j,xz,_,xz,bj (λz=>?_) λz=>?_⟩⟩
  .have I:o=[]:=by
    have l:=z;injection l with l
    rw[aA]at l;exact tL.mp om
   subst I;exact⟨(sl (n:=3)),k .aO xz⟩
  .have r:o≠[]:=λe=>z (by rw[e];rfl);obtain⟨o',d,rfl⟩:∃o' d,o=o'++[d]:=⟨o.dropLast,o.getLast r,(List.dropLast_concat_getLast r).gx⟩;refine vr xz<|az _ xz<|rL (v:=.int d) (ag.of j) (by rw[dC];exact WM _ _) ⟨(sl (n:=3)),(k (.int d) ?_)⟩;rw[List.getLast?_append];rfl
end
def iu.bounds(w:iu S){c:Nat}(h:S.ck[c]?=a_ k):k.es.length<=15000:=dq (w.es k<|a8 h) w.ac
def yO(S:Mc):Prop:=∀o∈S.ov,o.length<=16000
def adJ(h:(bH es n).head?=a_ e):e.n=(n:Int):=by
 have hm:=List.mem_of_mem_head? h;unfold bH at hm;have:=(jB.mp hm).2;simpa using this
noncomputable def iH(S:Mc)(a:mq):Mc:={S with ac:=S.ac++[a]}
noncomputable def yo(S:Mc)(c n:Nat)(k:Ck)(g:Int):Mc:={S with ck:=S.ck.set c {k with tn:=k.tn+1,es:=k.es++[⟨k.tn,n,g,S.ac.length⟩]}}
def setM(S:Mc)(c n r:Nat):Mc:=match S.ck[c]? with
 | none=>S
 | some k=>
  let g:=k.rg.getD r 0
  let S':=iH (yo S c n k g) ⟨K_,c,n,b_,a_ g,b_⟩
  if S.kd = H_ then ng S' c n else S'
noncomputable def iG(S:Mc)(c r:Nat)(v:Int):Mc:=match S.ck[c]? with
 | none=>S
 | some k=>{S with ck:=S.ck.set c {k with rg:=k.rg.set r v}}
def dJ(S:Mc)(k:Ck)(n:Nat):Int×Option Int:=match Cw k.es n with
 | some e=>(e.num,a_ e.d)
 | none=>(S.bd.getD n 0,(S.ov.getD n []).getLast?)
def pD(S:Mc)(c r n:Nat):Mc:=match S.ck[c]? with
 | none=>S
 | some k=>iG (iH S ⟨"look",c,n,a_ (dJ S k n).1,b_,(dJ S k n).2⟩) c r (dJ S k n).1
def qC(S:Mc)(c r n:Nat):Mc:=match S.ck[c]? with
 | none=>S
 | some k=>
  let g:=k.rg.getD r 0
  iG (iH (qu S n g S.ac.length) ⟨I_,c,n,a_<|S.bd.getD n 0,a_ g,(S.ov.getD n []).getLast?⟩) c r (S.bd.getD n 0)
section
variable{t:bf}{C CT:e_}{u:nG}
def MX(t:bf)(C CT PT:e_):Sp:=λvs H Q _=>∃m A S c k n hD,vs=[.ref m,.int (c:Nat),.int (n:Nat)]/\bb t C CT H m A S/\ke hD m A/\b9 PT LP LQ H/\S.ck[c]?=a_ k/\(n:Int)∈ja S.kd k.es/\n<12/\S.bd.length=12/\S.ov.length=12/\yO S/\
 ∀H',bb t C CT H' m A (ng S c n)->aB (cN m A) H H'->b9 PT LP LQ H'->Q .aO H'
def ahT:aX jw jw (aM N8):=aZ
def agk{f PT:e_}(F:aQ K at6 "Machine.carry" N8 f fd)(g:gX K C)(B:jY K CT)(i:Mt P w K mg gW CT 3 "take" im (X6 CT PT))(D:Mt P w K mg gW C 1 "come" [Y_,au4] (NI t C CT)):aG P w K mg gW aF 4 f fd jw (MX t C CT PT):=by
 refine F.ok ahT λaH A _ s H vs Q E r h=>?_
 .refine lD h λm A S c k a=>og a λn hD a M L I=>?_;subst a;refine qz I λJ j N hn l a=>gY a λO R q=>?_;have U:=r.mono (show 1<=3 by decide);refine sR (ax<|eE<|jF (pv 0) g.cl D U<|aa (Gj (aU bX (a0 (pv 0) xz)<|pv 1) B.cl i.m i.G r i.b .nil cX<|aa (pv 2) af) af) (cy (id M.obj) λdx fs hm G=>aD (M.ug j) λx o T=>eJ (id T.obj) λky mP V e1 e2 e3 W el=>vM xz hm (G.ms _ dk)<|vF xz hm g.cl g.fu G.fu<|vr xz<|rL (v:=.ref x.1) (ag.of M.lt) (BR o)<|rM V (W _ dk)<|vr xz<|⟨x.1,n,_,_,_,_,(ip _ xz T J N λH1 e st p X y Y z=>?_)⟩);rw[fH]at p;have Z:=adJ p;rw[Z]at z;have M1:=Y4 M L j o y X;refine⟨m,A,_,st,n,e.num,e.d,hD,xz,M1,L,z,hn,l,(fY O R λH2 M2 k2 l2=>q H2 ?_ ((aB.QY y λb l=>.ts (a8 o) l).gw k2)<|l2.lam Y)⟩;unfold ng;rw[j];dsimp only;rw[p];exact M2
def aiX(a:e_)(n r:Nat):cR (.ref a) K_ ([n,r].map λ(n:Nat)=>V.int (n:Int))=aJ R_ (.int (r:Nat)) (aJ l_ (.int (n:Nat))<|aJ N_ (.ref a) []):=by kernel_rfl
def aej{n:Nat}(hn:n<12)(a:e.n=(n:Int)):(n:Int)∈lZ (es++[e]):=by
 refine xJ.mpr (eC n hn xz λz=>?_);rw[Xf,eT a]at z;simp at z
def W3(t:bf)(C CT PT:e_):Sp:=λvs H Q _=>∃m A S c k z b a n r hD,vs=[.ref m,.int (c:Nat),.ref z]/\bb t C CT H m A S/\ke hD m A/\iu S/\yO S/\b9 PT LP LQ H/\S.ck[c]?=a_ k/\H z=a_ (.ins t.iX b<|cR (.ref a) K_<|[n,r].map λ(n:Nat)=>V.int (n:Int))/\n<12/\r<4/\
 ∀H',bb t C CT H' m A (setM S c n r)->aB (cN m A) H H'->b9 PT LP LQ H'->Q .aO H'
def Xb:aX [Y_,an3,au1,"gave"] io (aM N6):=aZ
def agj{f PT:e_}(F:aQ K "do_set" "Machine.do_set" N6 f fd)(l:gX K C)(cT:jY K CT)(oU:mg "len"=b_)(D:sv K mg t)(Z:Mt P w K mg gW CT 1 U_ kR (Zd CT))(DC:Mt P w K mg gW C 4 at6 jw (MX t C CT PT)):aG P w K mg gW aF 5 f fd io (W3 t C CT PT):=by
 refine F.ok Xb λaH A _ s H vs Q E hr h=>?_
 .refine xD h λm A S c k z dz a n r I=>Oh I λhD I M L W bD=>?_;subst I;refine qz bD λmH hL J p hn I=>oA I λkj q=>?_;have cG:=hr.mono (show 1<=4 by decide);refine let d:TS:=_;let j:TS:=_;⟨_,au (bG (i:=3) Xb.nd xz (aL xz)<|aU bX (aU bX (a0 (pv 0) xz)<|pv 1)<|a0 (pv 2) xz)<|pR j<|au (eE<|Gj (aU bX (a0 (pv 0) xz)<|pv 1) cT.cl Z.m Z.G cG Z.b .nil cX<|aa (a0 (pv 2) xz)<|aa (pv 3)<|aa (bC ft xz oU q_<|aa (a0 (pv 0) xz) af) af)<|pR d<|au (eE<|kG m_ n_ o_ mY (a0 (pv 0) xz)<|aa (dR<|aa cq<|aa (pv 1)<|aa (a0 (pv 2) xz)<|aa oa<|aa (pv 3)<|aa oa af) af)<|ax<|bz (cb dM (a0 (pv 0) xz) cq<|bR _) (ax<|eE<|jF (pv 0) l.cl DC hr<|aa (pv 1)<|aa (a0 (pv 2) xz) af) bQ,?_⟩;rw[aiX]at p;refine cy (id M.obj) λdx fs hm G=>aD (M.eB J) λra jh gZ=>aD (M.ug J) λx hx T=>eJ (id T.obj) λky mP ea e1 e2 e3 em el=>aD M.ac λws rA uI=>?_;have tj:=r_ uI;have aa0:=W.ac;have apZ:=W.bounds J;have gj:=W.rg k (a8 J)
  have Rw:∀(nm:d0),(aJ R_ (.int (r:Nat))<|aJ l_ (.int (n:Nat))<|aJ N_ (.ref a) []).lookup nm=if nm = R_ then a_ (.int (r:Nat)) else if nm = l_ then a_ (.int (n:Nat)) else if nm = N_ then a_ (.ref a) else none:=λnm=>by
   rw[dw,dw,dw];rfl
  have lr:(aJ R_ (.int (r:Nat))<|aJ l_ (.int (n:Nat))<|aJ N_ (.ref a) []).lookup (R_ : d0)=a_ (V.int (r:Nat)):=by rw[Rw,eT rfl]
  have ln:(aJ R_ (.int (r:Nat))<|aJ l_ (.int (n:Nat))<|aJ N_ (.ref a) []).lookup (l_ : d0)=a_ (V.int (n:Nat)):=by rw[Rw,eN dk,eT rfl]
  have hg:k.rg[r]?=a_ (k.rg[r]'wg):=aI wg;have eg:k.rg.getD r 0=k.rg[r]'wg:=vA hg;refine vF xz hm l.cl l.eB G.eB<|vr xz<|rL (v:=.ref ra) (ag.of M.rg) (jq jh)<|vF xz p D.mj D.Zp lr<|rL (ag.of gZ) (jq hg) ?_;generalize hgv:k.rg[r]'wg=g at eg;refine az _ xz<|dN m C dx fs<|iQ _ xz hm l.cl l.fu G.fu<|vr xz<|rL (v:=.ref x.1) (ag.of M.lt) (BR hx)<|rM ea (em _ dk)<|vF xz p D.mj D.vQ ln<|vr xz<|vF xz hm l.cl l.iY G.iY<|eA A.ac ws xz (.inl<|ag.of rA)<|⟨x.1,n,g,_,_,_,_,_,(iQ _ xz T li li w4 λN T1 k1=>?_)⟩;have kf:=hG.ofA k1 T1;have O:=Y4 M L J hx kf T1;have ew:((ws.length:Nat):Int)=((S.ac.length:Nat):Int):=by rw[tj]
  rw[ew]at O T1
  have cU:N z=a_ (.ins t.iX dz<|aJ R_ (.int (r:Nat))<|aJ l_ (.int (n:Nat))<|aJ N_ (.ref a) []):=k1 _ _ (λzb=>by
   obtain y|y:=bK.mp zb
   .rw[y,ea]at p;cases p;rw[Rw,eN dk,eN dk,eN dk]at e1;cases e1
   .obtain⟨_,_,_,_⟩|⟨_,y2⟩:=T.kinds z zb _ p
    .obtain y|y:=bK.mp y
     .rw[y,T.qs]at p;cases p
     .refine oE (kY y) λi I=>oE I λhi ez=>?_;obtain⟨jM,e',_⟩:=T.jK i z (by rw[<-ez];exact aI hi);rw[e']at p;cases p
    .cases y2) p
  have rD:=BS hL k1 T.kinds;have kp1:aB (cN m A) H N:=aB.QY kf λb hb=>.ts (a8 hx) hb;refine cy (id O.obj) λkz ko tD G1=>aD O.ac λR U apw=>az _ xz<|dN m C kz ko<|⟨_,xz,tD,l.cl,l.iY,G1.iY,(.inl ⟨xz,_,ag.of U⟩),(az _ xz<|vF xz cU D.mj D.vQ ln<|vr xz ⟨(sl (n:=6)),(λB ht=>?_)⟩)⟩;have s2:=ay (o:=.tup [.str K_,.int (c:Nat),.int (n:Nat),.aO,.int g,.aO]) (ae.refl N) ht;have apy:=r_ apw;refine⟨A.ac,R,(.ref B),xz,xz,(s2 _ _ U),(by rw[apy,gf];show S.ac.length<_;exact wb),?_⟩;have X:=OK (O.same s2) L (s2 _ _ U) (x:=.ref B) (a:=⟨K_,c,n,b_,a_ g,b_⟩) ⟨B,xz,ao⟩;have tf:aB (cN m A) H (dc (dc N B<|.tup [.str K_,.int (c:Nat),.int (n:Nat),.aO,.int g,.aO]) A.ac<|.lst<|R++[.ref B]):=kp1.gw<|(aB.of s2).gw<|aB.dc .ac;have l2:KL N (dc (dc N B<|.tup [.str K_,.int (c:Nat),.int (n:Nat),.aO,.int g,.aO]) A.ac<|.lst<|R++[.ref B]):=(KL.of s2).gw<|KL.dc<|s2 _ _ U;have rB:=l2.lam rD;have lJ:=l2 _ _ (λxs z=>by cases z) cU;generalize dc (dc N B<|.tup [.str K_,.int (c:Nat),.int (n:Nat),.aO,.int g,.aO]) A.ac (.lst<|R++[.ref B])=H2 at X tf l2 rB lJ ⊢;refine cy (id X.obj) λzw qP lK G3=>?_
  have eS:setM S c n r=if S.kd = H_ then ng (iH (yo S c n k g) ⟨K_,c,n,b_,a_ g,b_⟩) c n else iH (yo S c n k g) ⟨K_,c,n,b_,a_ g,b_⟩:=by
   unfold setM;rw[J];dsimp only;rw[eg]
  rw[eS]at q;refine az _ xz<|dN m C zw qP<|iQ _ xz lK l.cl l.kind G3.kind ⟨xz,⟨_,xz,bj (λlL=>?_) λlL=>?_⟩⟩
  .have Y:S.kd = H_:=PZ lL;rw[eT Y]at q;have oY:c<S.ck.length:=(b0.mp J).1;refine vM xz lK (G3.ms _ dk)<|vr xz<|vF xz lJ D.mj D.vQ ln<|⟨m,A,(iH (yo S c n k g) ⟨K_,c,n,b_,a_ g,b_⟩),c,({k with tn:=k.tn+1,es:=k.es++[⟨k.tn,n,g,S.ac.length⟩]}),n,hD,xz,X,L,rB,?_,?_,hn,(⟨W.bd,W.ov,mH,(λH3 M3 k3 uX=>q H3 M3 (tf.gw k3) uX)⟩)⟩
   .show (S.ck.set c _)[c]?=a_ _;rw[gq oY]
   .show (n:Int)∈ja S.kd (k.es++[⟨k.tn,n,g,S.ac.length⟩]);unfold ja;rw[Y,eN dk];exact aej hn xz
  .have Y:¬S.kd = H_:=λe=>lL (by rw[e]);rw[eN Y]at q;exact q H2 X tf rB
end
end TL
namespace L2
open PySem.SeqAt
def agR:oI X (λx y H Q=>∃p xs,∃i:Nat,∃v,x=.ref p/\y=.int (i:Nat)/\H p=a_ (.lst xs)/\xs[i]?=a_ v/\Q v H):=by
 intro p_ s σ H o i ov k Q I c r2 h;obtain⟨p,xs,j,z,a,d⟩:=h;subst a;obtain⟨a,e,b,q⟩:=d;subst a;cases c;refine oE r2 λt a=>?_;clear r2;subst a;refine a9 (I.list<|ag.of e) λl r pl m=>aD (r.get b) λw f g=>?_;have n:=r.length;have hn:=CN;have u:j<xs.length:=(b0.mp b).1;exact wpAny_getItem_list pl.isList li li (by rw[fH];simpa using f) ⟨z,H,I,g,q⟩
end L2
namespace TL
open PySem.SeqAt L2 L3 L4
def aiY(a:e_)(r n:Nat):cR (.ref a) ac2 ([r,n].map λ(n:Nat)=>V.int (n:Int))=aJ "number" (.int (n:Nat)) (aJ R_ (.int (r:Nat))<|aJ N_ (.ref a) []):=by kernel_rfl
def aiZ(a:e_)(r n:Nat):cR (.ref a) U_ ([r,n].map λ(n:Nat)=>V.int (n:Int))=aJ "other" (.int (n:Nat)) (aJ R_ (.int (r:Nat))<|aJ N_ (.ref a) []):=by kernel_rfl
def agW(a:e_)(r n:Nat):cR (.ref a) O_ ([r,n].map λ(n:Nat)=>V.int (n:Int))=aJ T_ (.int (n:Nat)) (aJ R_ (.int (r:Nat))<|aJ N_ (.ref a) []):=by kernel_rfl
def Oo:(aJ x v<|aJ y u<|aJ N_ (.ref a) []).lookup x=a_ v:=by rw[dw,eT rfl]
def GJ(h:y≠x):(aJ x v<|aJ y u<|aJ N_ (.ref a) []).lookup y=a_ u:=by rw[dw,eN h,dw,eT rfl]
def dH(s:Tl)(rg:List Int)(pl:Nat):Nat:=if s.1 = O_/\rg.getD (s.2.getD 0 0) 0=0 then s.2.getD 1 0 else pl+1
def cA(S:Mc)(c:Nat)(s:Tl):Mc:=
 if s.1 = ac2 then iG S c (s.2.getD 0 0) (s.2.getD 1 0:Nat)
 else if s.1 = U_ then (match S.ck[c]? with
  | none=>S
  | some k=>iG S c (s.2.getD 0 0)<|(k.rg.getD (s.2.getD 0 0) 0+k.rg.getD (s.2.getD 1 0) 0)%hV)
 else if s.1 = K_ then setM S c (s.2.getD 0 0) (s.2.getD 1 0)
 else if s.1 = J_ then pD S c (s.2.getD 0 0) (s.2.getD 1 0)
 else if s.1 = I_ then qC S c (s.2.getD 0 0) (s.2.getD 1 0)
 else S
def pM(S:Mc)(c:Nat)(s:Tl):Mc:=match S.ck[c]? with
 | none=>S
 | some k=>{S with ck:=S.ck.set c {k with pl:=dH s k.rg k.pl,ct:=k.ct+1}}
def uD(S:Mc)(c:Nat):Mc:=match S.ck[c]?,S.ps[c]? with
 | some k,a_ p=>(match p[k.pl]? with
  | some s=>pM (cA S c s) c s
  | none=>S)
 | _,_=>S
section
variable{t:bf}{C CT:e_}{H:Hp}{m:e_}{A:MA}{S:Mc}
def bb.ahr(M:bb t C CT H m A S)(b:H z=a_ (.ins cz dz<|cR (.ref a) x ps)):¬cN m A z:=by
 intro f;cases f with
 | m=>
  refine cy M.obj λdx fs h G=>?_;rw[h]at b;cases b;have e:=G.fu;rw[vC "trays" dk]at e;cases e
 | lt=>rw[M.lt]at b;cases b
 | pl=>rw[M.pl]at b;cases b
 | ct=>rw[M.ct]at b;cases b
 | rg=>rw[M.rg]at b;cases b
 | ce=>rw[M.ce]at b;cases b
 | ac=>obtain⟨vs,h,_⟩:=M.ac;rw[h]at b;cases b
 | cm=>rw[M.cm]at b;cases b
 | rs h=>
  refine aD (rW M.rs h) λc _ q=>?_;rw[q]at b;cases b
 | cs h=>
  refine aD (rW M.cs h) λc _ q=>?_;rw[q]at b;cases b
 | ts h h2=>
  refine aD (rW M.ts h) λc _ T=>eJ (id T.obj) λl n g d o p r s=>?_;obtain y|y:=bK.mp h2
  .rw[y,g]at b;cases b;rw[vC _ dk]at d;cases d
  .obtain y|y:=bK.mp y
   .rw[y,T.qs]at b;cases b
   .refine oE (kY y) λi j=>oE j λhi k=>?_;obtain⟨u,e',_⟩:=T.jK i z (by rw[<-k];exact aI hi);rw[e']at b;cases b
end
section
variable{P:k_}{w:j_}{K:u_}{mg:d0->Option f_}{gW:i_}{t:bf}{C CT:e_}{u:nG}
def TZ(t:bf):Sp:=λvs H Q _=>∃z a c s sz b rg,∃pl:Nat,vs=[.ref z,.int (pl:Nat),.ref b]/\H z=a_ (.ins (cj t s.1) c<|cR (.ref a) s.1<|s.2.map λ(n:Nat)=>V.int (n:Int))/\bu sz s/\H b=a_ (.lst<|rg.map V.int)/\rg.length=4/\Q (.int (dH s rg pl:Nat)) H
def acN:aX kw kw (aM Kp):=aZ
def acE(F:aQ K "place_behind" "place_behind" Kp f fd)(O:yq K mg t u):aG P w K mg gW aF 1 f fd kw (TZ t):=by
 refine F.ok acN λaH A _ s H vs Q E y h=>?_
 .refine lD h λz a l s sz d=>lE d λB rg pl d c m=>?_;subst d;obtain⟨g,o,G,q⟩:=m;refine⟨_,au (bz (PW.pt<|pw_and (dg<|bC iP xz O.st.bl.ir iO<|aa (pv 0)<|aa (eW (v:=.ref t.jd) xz O.st.GG xz) af)<|pw_and1<|cb dM (aU bX (pv 2)<|a0 (pv 0) xz) ar<|bR _) (ax<|aR<|a0 (pv 0) xz) bQ)<|ax<|aR<|aS gE (pv 1) ar,?_⟩;refine aD (Ap O g c) λD ty x=>vr xz<|dN _ (.ref t.jd) _ (.ref t.jd)<|ip _ xz ty xz x.Pb<|tk (bj (λb=>?_) λb=>?_)
  .cases g with
   | skip r p h1 h2 h3=>
    have c:H z=a_ (.ins (cj t O_) l<|cR (.ref a) O_<|[r,p].map λ(n:Nat)=>V.int (n:Int)):=c;rw[z4,agW]at c;have j:rg[r]?=a_ (rg[r]'wg):=aI wg;have k:rg.getD r 0=rg[r]'wg:=vA j;refine vr xz<|vF xz c O.st.m7 O.st.Ol (GJ dk)<|rL (ag.of o) (jq j) ⟨xz,⟨_,xz,bj (λi=>?_) λi=>?_⟩⟩
    .have e:dH (O_,[r,p]) rg pl=p:=by
      unfold dH;rw[eT ⟨xz,by show rg.getD r 0=0;rw[k];injection i⟩];rfl
     rw[e]at q;exact vF xz c O.st.m7 O.st.Ao Oo q
    .have e:dH (O_,[r,p]) rg pl=pl+1:=by
      unfold dH;rw[eN λh=>i (by have:=h.2;rw[<-show rg.getD r 0=rg[r]'wg from k];show V.int (rg.getD r 0)=_;rw[show rg.getD r 0=0 from this])]
     rw[e]at q;exact az _ xz ⟨_,⟨_,xz,xz,q⟩⟩
   | put=>exact f' (show ("put":d0)="skip" from b) dk
   | add=>exact f' (show ("add":d0)="skip" from b) dk
   | set=>exact f' (show ("set":d0)="skip" from b) dk
   | look=>exact f' (show ("look":d0)="skip" from b) dk
   | swap=>exact f' (show ("swap":d0)="skip" from b) dk
   | clear=>exact f' (show ("clear":d0)="skip" from b) dk
  .have e:dH s rg pl=pl+1:=by
    unfold dH;rw[eN λh=>b h.1]
   rw[e]at q;exact az _ xz ⟨_,⟨_,xz,xz,q⟩⟩
end
end TL
namespace L2
def fD.aan(h:fD X ss t)(hi:∀D σ H,t' D σ H->t D σ H):fD X ss t':=λp_ s σ H D I q=>h p_ s σ H D I<|hi D σ H q
end L2
namespace TL
open PySem.SeqAt L2 L3 L4
variable{P:k_}{w:j_}{K:u_}{mg:d0->Option f_}{gW:i_}
def WA(a:e_)(r n:Nat):cR (.ref a) J_ ([r,n].map λ(n:Nat)=>V.int (n:Int))=aJ l_ (.int (n:Nat)) (aJ R_ (.int (r:Nat))<|aJ N_ (.ref a) []):=by kernel_rfl
def agV(a:e_)(r n:Nat):cR (.ref a) I_ ([r,n].map λ(n:Nat)=>V.int (n:Int))=aJ l_ (.int (n:Nat)) (aJ R_ (.int (r:Nat))<|aJ N_ (.ref a) []):=by kernel_rfl
def Ah(n r:Nat)(a:e_):(aJ l_ (.int (n:Nat))<|aJ R_ (.int (r:Nat))<|aJ N_ (.ref a) []).lookup (l_ : d0)=a_ (V.int (n:Nat)):=by rw[dw,eT rfl]
def Oq(n r:Nat)(a:e_):(aJ l_ (.int (n:Nat))<|aJ R_ (.int (r:Nat))<|aJ N_ (.ref a) []).lookup (R_ : d0)=a_ (V.int (r:Nat)):=by rw[dw,eN dk,dw,eT rfl]
section
variable{t:bf}{C CT:e_}{u:nG}
def V7(t:bf)(C CT:e_):Sp:=λvs H Q _=>∃m A S c k z b a r n hD,vs=[.ref m,.int (c:Nat),.ref z]/\bb t C CT H m A S/\ke hD m A/\iu S/\S.ck[c]?=a_ k/\H z=a_ (.ins t.jr b<|cR (.ref a) J_<|[r,n].map λ(n:Nat)=>V.int (n:Int))/\r<4/\n<12/\
 ∀H',bb t C CT H' m A (pD S c r n)->aB (cN m A) H H'->KL H H'->Q .aO H'
def LX:aX [Y_,an3,au1,au4] io (aM Ni):=aZ
def aeR(F:aQ K "do_look" "Machine.do_look" Ni f fd)(J:gX K C)(cT:jY K CT)(B:sv K mg t)(V:Mt P w K mg gW CT 1 "latest" im (V1 CT))(DB:Mt P w K mg gW C 1 "on_board" im (Lg t C CT)):aG P w K mg gW aF 2 f fd io (V7 t C CT):=by
 refine F.ok LX λaH A _ s H vs Q E hr h=>?_
 .refine xD h λm A S c k z dz a r n X=>Oh X λhD X M L W bD=>?_;subst X;obtain⟨N,Y,kj,hn,q⟩:=bD;refine let g:TS:=_;let l:TS:=_;⟨_,au (bG (i:=3) LX.nd xz (aL xz)<|Gj (aU bX (a0 (pv 0) xz)<|pv 1) cT.cl V.m V.G hr V.b .nil cX<|aa (a0 (pv 2) xz) af)<|pR l<|au (bz (cb Ym (pv 3) oa<|bR _) (ax<|bG (i:=3) LX.nd xz (aL xz)<|jF (pv 0) J.cl DB hr<|aa (a0 (pv 2) xz) af) bQ)<|fD.aan (t':=λD σ I=>∃st x,σ=[a_ (.ref m),a_<|.int (c:Nat),a_<|.ref z,a_<|.ref st]/\I st=a_ (.tup [x,.int (dJ S k n).1,oV (dJ S k n).2])/\ae H I/\∀Z H',bb t C CT H' m A (pD S c r n)->aB (cN m A) H H'->KL H H'->D.nx Z H') (pR g<|au (eE<|kG m_ n_ o_ mY (a0 (pv 0) xz)<|aa (dR<|aa cq<|aa (pv 1)<|aa (a0 (pv 2) xz)<|aa (aU dh (pv 3) ar)<|aa oa<|aa (aU dh (pv 3) ar) af) af)<|ax<|vH (aU dh (pv 3) ar)<|vI (aU bX (a0 (pv 0) xz)<|pv 1) (a0 (pv 2) xz) set_list) ?tl,?_⟩
  case tl=>
   rintro D σ I ⟨st,x,rfl,O,s1,q⟩;rw[WA]at Y;have M1:=M.same s1;refine cy (id M1.obj) λdx fs hm G=>aD M1.ac λws U uI=>?_;have cU:=s1 _ _ Y;refine vF xz hm J.cl J.iY G.iY ⟨.inl ⟨xz,_,ag.of U⟩,az _ xz<|vF xz cU B.m8 B.xX (Ah n r a)<|kg (j:=1) xz O xz<|kg (j:=2) xz O xz ⟨(sl (n:=6)),(λp ht=>?_)⟩⟩;have s2:=ay (o:=.tup [.str J_,.int (c:Nat),.int (n:Nat),.int (dJ S k n).1,.aO,oV (dJ S k n).2]) (ae.refl I) ht;have tj:=r_ uI;have aa0:=W.ac;refine⟨A.ac,ws,(.ref p),xz,xz,(s2 _ _ U),(by rw[tj,gf];exact wb),?_⟩;have R:=OK (M1.same s2) L (s2 _ _ U) (x:=.ref p) (a:=⟨J_,c,n,a_ (dJ S k n).1,b_,(dJ S k n).2⟩) ⟨p,xz,ao⟩;have tf:aB (cN m A) H (dc (dc I p<|.tup [.str J_,.int (c:Nat),.int (n:Nat),.int (dJ S k n).1,.aO,oV (dJ S k n).2]) A.ac<|.lst<|ws++[.ref p]):=(aB.of s1).gw<|(aB.of s2).gw<|aB.dc .ac;have l2:KL I (dc (dc I p<|.tup [.str J_,.int (c:Nat),.int (n:Nat),.int (dJ S k n).1,.aO,oV (dJ S k n).2]) A.ac<|.lst<|ws++[.ref p]):=(KL.of s2).gw<|KL.dc<|s2 _ _ U;have lJ:=l2 _ _ (λxs z=>by cases z) cU;have AV:=l2.tup _ _ O;generalize dc (dc I p<|.tup [.str J_,.int (c:Nat),.int (n:Nat),.int (dJ S k n).1,.aO,oV (dJ S k n).2]) A.ac (.lst<|ws++[.ref p])=H2 at R tf l2 lJ AV ⊢;refine cy (id R.obj) λzw qP lK G3=>aD (R.eB (k:=k) N) λra jh gZ=>?_;have gj:=W.rg k<|a8 N;refine kg (j:=1) xz AV xz<|vF xz lK J.cl J.eB G3.eB<|vr xz<|rL (v:=.ref ra) (ag.of R.rg) (jq jh)<|vF xz lJ B.m8 B.Yv (Oq n r a)<|⟨ra,_,_,r,xz,xz,gZ,(ye<|by rw[aA,gj];exact kj),?_⟩;have M3:=G2 R L (k:=k) N jh r (dJ S k n).1;refine q _ _ ?_ (tf.gw<|aB.dc<|.rs<|a8 jh)<|(KL.of s1).gw<|l2.gw<|KL.dc gZ
   have e:pD S c r n={ (iH S ⟨J_,c,n,a_ (dJ S k n).1,b_,(dJ S k n).2⟩)with ck:=S.ck.set c {k with rg:=k.rg.set r (dJ S k n).1}}:=by
    unfold pD;rw[N];dsimp only;unfold iG;rw[show (iH S ⟨J_,c,n,a_ (dJ S k n).1,b_,(dJ S k n).2⟩).ck[c]?=a_ k from N];rfl
   rw[e];exact M3
  refine cy (id M.obj) λdx fs hm G=>aD (M.ug N) λx hx T=>eJ (id T.obj) λky mP ea e1 e2 e3 em el=>?_;have apZ:=W.bounds N;have Jc:=Y;rw[WA]at Jc;refine vF xz hm J.cl J.fu G.fu<|vr xz<|rL (v:=.ref x.1) (ag.of M.lt) (BR hx)<|rM ea (em _ dk)<|vF xz Jc B.m8 B.xX (Ah n r a)<|⟨x.1,n,_,_,_,_,(⟨_,xz,T,li,li,w4,(λgn=>?_),(λe st he O=>?_)⟩)⟩
  .rw[fH]at gn;refine az _ xz ⟨xz,⟨_,xz,bj (λ_=>?_) λy=>f' xz y⟩⟩;refine vM xz hm (G.ms _ dk)<|vF xz Jc B.m8 B.xX (Ah n r a) (jT m A S n xz M hn W.bd W.ov λp ht=>?_);have es:dJ S k n=(S.bd.getD n 0,(S.ov.getD n []).getLast?):=by unfold dJ;rw[gn]
   refine⟨p,(.int (n:Nat)),xz,?_,(ay (ae.refl H) ht),(λZ H' h1 h2 h3=>q H' h1 h2 h3)⟩;rw[ao,es];rfl
  .rw[fH]at he;refine az _ xz ⟨xz,⟨_,xz,bj (λy=>by cases y) λ_=>?_⟩⟩;have es:dJ S k n=(e.num,a_ e.d):=by unfold dJ;rw[he]
   exact⟨st,(.int e.n),xz,(by rw[es];exact O),(ae.refl H),(λZ H' h1 h2 h3=>q H' h1 h2 h3)⟩
def V5(t:bf)(C CT:e_):Sp:=λvs H Q _=>∃m A S c k z b a r n hD,vs=[.ref m,.int (c:Nat),.ref z]/\bb t C CT H m A S/\ke hD m A/\iu S/\yO S/\S.ck[c]?=a_ k/\H z=a_ (.ins t.jX b<|cR (.ref a) I_<|[r,n].map λ(n:Nat)=>V.int (n:Int))/\r<4/\n<12/\
 ∀H',bb t C CT H' m A (qC S c r n)->aB (cN m A) H H'->KL H H'->Q .aO H'
def LV:aX [Y_,an3,au1,"gave",au4] io (aM Ng):=aZ
def aeP(F:aQ K "do_swap" "Machine.do_swap" Ng f fd)(p:gX K C)(y:sv K mg t)(oU:mg "len"=b_)(DB:Mt P w K mg gW C 1 "on_board" im (Lg t C CT))(DC:Mt P w K mg gW C 1 "come" [Y_,au4] (NI t C CT)):aG P w K mg gW aF 2 f fd io (V5 t C CT):=by
 refine F.ok LV λaH A _ s H vs Q E hr h=>?_
 .refine xD h λm A S c k z dz a r n U=>Oh U λhD U M L W bD=>?_;subst U;refine qz bD λmH D J kj hn q=>?_;refine let b:TS:=_;let d:TS:=_;let l:TS:=_;⟨_,au (bG (i:=3) LV.nd xz (aL xz)<|aU bX (aU bX (a0 (pv 0) xz)<|pv 1)<|a0 (pv 2) xz)<|pR l<|au (bG (i:=4) LV.nd xz (aL xz)<|jF (pv 0) p.cl DB hr<|aa (a0 (pv 2) xz) af)<|pR d<|au (eE<|jF (pv 0) p.cl DC hr<|aa (dR<|aa (a0 (pv 2) xz)<|aa (pv 3)<|aa (bC ft xz oU q_<|aa (a0 (pv 0) xz) af) af) af)<|pR b<|au (eE<|kG m_ n_ o_ mY (a0 (pv 0) xz)<|aa (dR<|aa cq<|aa (pv 1)<|aa (a0 (pv 2) xz)<|aa (aU dh (pv 4) ar)<|aa (pv 3)<|aa (aU dh (pv 4) ar) af) af)<|ax<|vH (aU dh (pv 4) ar)<|vI (aU bX (a0 (pv 0) xz)<|pv 1) (a0 (pv 2) xz) set_list,?_⟩;rw[agV]at J;refine cy (id M.obj) λdx fs hm G=>aD (M.eB D) λra jh gZ=>?_;have gj:=W.rg k<|a8 D;have hg:k.rg[r]?=a_ (k.rg[r]'wg):=aI wg;have eg:k.rg.getD r 0=k.rg[r]'wg:=vA hg;refine vF xz hm p.cl p.eB G.eB<|vr xz<|rL (v:=.ref ra) (ag.of M.rg) (jq jh)<|vF xz J y.oh y.Oj (Oq n r a)<|rL (ag.of gZ) (jq hg) ?_;generalize k.rg[r]'wg=g at eg;refine vM xz hm (G.ms _ dk)<|vF xz J y.oh y.CM (Ah n r a) (jT m A S n xz M hn W.bd W.ov λst apA=>?_);have s1:=ay (o:=.tup<|CP S n) (ae.refl H) apA;have cZ:dc H st (.tup<|CP S n) st=a_ (.tup [.int (n:Nat),.int<|S.bd.getD n 0,oV (S.ov.getD n []).getLast?]):=ao;have V:=M.same s1;generalize dc H st (.tup<|CP S n)=H1 at s1 cZ V ⊢;refine aD V.ac λws rA uI=>?_;have tj:=r_ uI;have aa0:=W.ac;refine vM xz (s1 _ _ hm) (G.ms _ dk)<|vF xz (s1 _ _ J) y.oh y.CM (Ah n r a)<|vr xz<|vF xz (s1 _ _ hm) p.cl p.iY G.iY<|⟨A.ac,ws,xz,(.inl<|ag.of rA),(sl (n:=3)),(λtp ht=>?_)⟩;have s2:=ay (o:=.tup [.int (n:Nat),.int g,.int (ws.length:Nat)]) (ae.refl H1) ht;refine⟨m,A,S,tp,n,g,(ws.length:Nat),hD,xz,(V.same s2),L,ao,hn,W.bd,(fY W.ov mH λN X k2 l2=>?_)⟩;have Y:=(KL.of s2).gw l2;have lJ:=Y _ _ (λxs z=>by cases z)<|s1 _ _ J;have Z:=Y.tup _ _ cZ;refine cy (id X.obj) λzw qP lK G3=>aD X.ac λO T apv=>?_;have apx:O.length=S.ac.length:=r_ apv;refine az _ xz<|dN m C zw qP<|⟨_,xz,lK,p.cl,p.iY,G3.iY,(.inl ⟨xz,_,ag.of T⟩),(az _ xz<|vF xz lJ y.oh y.CM (Ah n r a)<|kg (j:=1) xz Z xz<|vr xz<|kg (j:=2) xz Z xz ⟨(sl (n:=6)),(λB hq=>?_)⟩)⟩;have I:=ay (o:=.tup [.str I_,.int (c:Nat),.int (n:Nat),.int<|S.bd.getD n 0,.int g,oV (S.ov.getD n []).getLast?]) (ae.refl N) hq;refine⟨A.ac,O,(.ref B),xz,xz,(I _ _ T),(by rw[apx,gf];exact wb),?_⟩;have R:=OK (X.same I) L (I _ _ T) (x:=.ref B) (a:=⟨I_,c,n,a_<|S.bd.getD n 0,a_ g,(S.ov.getD n []).getLast?⟩) ⟨B,xz,ao⟩;have kp3:aB (cN m A) H (dc (dc N B<|.tup [.str I_,.int (c:Nat),.int (n:Nat),.int<|S.bd.getD n 0,.int g,oV (S.ov.getD n []).getLast?]) A.ac<|.lst<|O++[.ref B]):=((aB.of s1).gw<|(aB.of s2).gw k2).gw<|(aB.of I).gw<|aB.dc .ac;have l3:KL N (dc (dc N B<|.tup [.str I_,.int (c:Nat),.int (n:Nat),.int<|S.bd.getD n 0,.int g,oV (S.ov.getD n []).getLast?]) A.ac<|.lst<|O++[.ref B]):=(KL.of I).gw<|KL.dc<|I _ _ T;have Jb:=l3 _ _ (λxs z=>by cases z) lJ;have aaM:=l3.tup _ _ Z;generalize dc (dc N B<|.tup [.str I_,.int (c:Nat),.int (n:Nat),.int<|S.bd.getD n 0,.int g,oV (S.ov.getD n []).getLast?]) A.ac (.lst<|O++[.ref B])=H3 at R kp3 l3 Jb aaM ⊢;refine cy (id R.obj) λdx4 fs4 Ji G4=>aD (R.eB (k:=k) D) λra4 QH aaN=>kg (j:=1) xz aaM xz<|vF xz Ji p.cl p.eB G4.eB<|vr xz<|rL (v:=.ref ra4) (ag.of R.rg) (jq QH)<|vF xz Jb y.oh y.Oj (Oq n r a)<|⟨ra4,_,_,r,xz,xz,aaN,(ye<|by rw[aA,gj];exact kj),?_⟩;have M4:=G2 R L (k:=k) D QH r<|S.bd.getD n 0;refine q _ ?_ (kp3.gw<|aB.dc<|.rs<|a8 QH) ((KL.of s1).gw<|Y.gw<|l3.gw<|KL.dc aaN)
  have e:qC S c r n={ (iH (qu S n g (ws.length:Nat)) ⟨I_,c,n,a_<|S.bd.getD n 0,a_ g,(S.ov.getD n []).getLast?⟩)with ck:=S.ck.set c {k with rg:=k.rg.set r (S.bd.getD n 0)}}:=by
   unfold qC;rw[D];dsimp only;rw[eg,tj];unfold iG;rw[show (iH (qu S n g (S.ac.length:Nat)) ⟨I_,c,n,a_<|S.bd.getD n 0,a_ g,(S.ov.getD n []).getLast?⟩).ck[c]?=a_ k from D];rfl
  rw[e];exact M4
end
section
variable{S:Mc}{c:Nat}{k:Ck}
structure rj(S S':Mc)(c:Nat)(k k':Ck):Prop where
 at':S'.ck[c]?=a_ k'
 pl:k'.pl=k.pl
 ct:k'.ct=k.ct
 rg:k'.rg.length=k.rg.length
def Gi(a:S.ck[c]?=a_ k):rj S (iG S c r v) c k {k with rg:=k.rg.set r v}:=by
 have e:iG S c r v={S with ck:=S.ck.set c {k with rg:=k.rg.set r v}}:=by unfold iG;rw[a]
 rw[e];exact⟨gq (b0.mp a).1,xz,xz,gL⟩
def akF{sz:Nat}(g:bu sz s)(a:S.ck[c]?=a_ k):∃k',rj S (cA S c s) c k k':=by
 have b:c<S.ck.length:=(b0.mp a).1;cases g with
 | put r n h1 h2=>exact⟨_,Gi a⟩
 | add r o h1 h2=>
  have e:cA S c (U_,[r,o])=iG S c r ((k.rg.getD r 0+k.rg.getD o 0)%hV):=by
   unfold cA;rw[eN (show ¬(U_ : d0) = ac2 from dk),eT xz,a];rfl
  rw[e];exact⟨_,Gi a⟩
 | set n r h1 h2=>
  have e:cA S c (K_,[n,r])=setM S c n r:=by kernel_rfl
  rw[e];unfold setM;rw[a];dsimp only
  split
  .unfold ng;rw[show (iH (yo S c n k<|k.rg.getD r 0) ⟨K_,c,n,b_,a_<|k.rg.getD r 0,b_⟩).ck[c]?=a_ {k with tn:=k.tn+1,es:=k.es++[⟨k.tn,n,k.rg.getD r 0,S.ac.length⟩]} from gq b];dsimp only
   split
   .exact⟨_,⟨gq b,xz,xz,xz⟩⟩
   .exact⟨{k with tn:=k.tn+1,es:=nj (k.es++[⟨k.tn,n,k.rg.getD r 0,S.ac.length⟩]) n},⟨gq (by show c<(S.ck.set c _).length;rw[gL];exact b),xz,xz,xz⟩⟩
  .exact⟨_,⟨gq b,xz,xz,xz⟩⟩
 | look r n h1 h2=>
  have e:cA S c (J_,[r,n])=iG (iH S ⟨J_,c,n,a_ (dJ S k n).1,b_,(dJ S k n).2⟩) c r (dJ S k n).1:=by
   unfold cA;rw[eN (show ¬(J_ : d0) = ac2 from dk),eN (show ¬(J_ : d0) = U_ from dk),eN (show ¬(J_ : d0) = K_ from dk),eT rfl];show pD S c r n=_;unfold pD;rw[a]
  rw[e];have r:=Gi (S:=iH S ⟨J_,c,n,a_ (dJ S k n).1,b_,(dJ S k n).2⟩) (r:=r) (v:=(dJ S k n).1) a;exact⟨_,⟨r.at',r.pl,r.ct,r.rg⟩⟩
 | swap r n h1 h2=>
  have e:cA S c (I_,[r,n])=iG (iH (qu S n (k.rg.getD r 0) S.ac.length) ⟨I_,c,n,a_<|S.bd.getD n 0,a_<|k.rg.getD r 0,(S.ov.getD n []).getLast?⟩) c r (S.bd.getD n 0):=by
   unfold cA;rw[eN (show ¬(I_ : d0) = ac2 from dk),eN (show ¬(I_ : d0) = U_ from dk),eN (show ¬(I_ : d0) = K_ from dk),eN (show ¬(I_ : d0) = J_ from dk),eT rfl];show qC S c r n=_;unfold qC;rw[a]
  rw[e];have r:=Gi (S:=iH (qu S n (k.rg.getD r 0) S.ac.length) ⟨I_,c,n,a_<|S.bd.getD n 0,a_<|k.rg.getD r 0,(S.ov.getD n []).getLast?⟩) (r:=r) (v:=(S.bd.getD n 0)) a;exact⟨_,⟨r.at',r.pl,r.ct,r.rg⟩⟩
 | clear=>
  have e:cA S c (M_,[])=S:=by kernel_rfl
  rw[e];exact⟨k,⟨a,xz,xz,xz⟩⟩
 | skip r q h1 h2 h3=>
  have e:cA S c (O_,[r,q])=S:=by kernel_rfl
  rw[e];exact⟨k,⟨a,xz,xz,xz⟩⟩
end
section
variable{t:bf}{C CT:e_}{u:nG}
def V6(t:bf)(C CT PT:e_):Sp:=λvs H Q _=>∃m A S c k p s sz hD,vs=[.ref m,.int (c:Nat)]/\bb t C CT H m A S/\ke hD m A/\iu S/\yO S/\b9 PT LP LQ H/\S.ck[c]?=a_ k/\S.ps[c]?=a_ p/\p[k.pl]?=a_ s/\bu sz s/\
 ∀H',bb t C CT H' m A (uD S c)->aB (cN m A) H H'->b9 PT LP LQ H'->Q .aO H'
def LW:aX [Y_,an3,au1,"regs"] hU (aM Nh):=aZ
def xV(a:S.ck[c]?=a_ k):iG S c r v={S with ck:=S.ck.set c {k with rg:=k.rg.set r v}}:=by unfold iG;rw[a]
def aeQ{f PT:e_}(F:aQ K "do_step" "Machine.do_step" Nh f fd)(cM:gX K C)(O:yq K mg t u)(DP:Dp P w K mg gW 1 "place_behind" kw (TZ t))(DS:Mt P w K mg gW C 5 "do_set" io (W3 t C CT PT))(DL:Mt P w K mg gW C 2 "do_look" io (V7 t C CT))(DW:Mt P w K mg gW C 2 "do_swap" io (V5 t C CT)):aG P w K mg gW aF 6 f fd hU (V6 t C CT PT):=by
 refine aD O.st.cn.top λuT mT rT=>F.ok LW λaH A _ s H vs Q E hr h=>?_
 .refine lD h λm A S c k ab=>CL ab λp st sz hD ab bD=>?_;subst ab;refine qz bD λM L W mH hL ab=>Pc ab λhk hp hs g q=>?_;have cG:=hr.mono (show 1<=5 by decide);have jN:=hr.mono (show 2<=5 by decide);refine aD (M.eB hk) λra jh gZ=>?_;have gj:=W.rg k<|a8 hk;refine lE (M.part hp) λvs b us h1 h2 ab=>oA ab λh3 h4=>aD (rX h4 hs) λv hv ab=>C2 ab λz a dz ab Z=>?_;subst ab;have apI:=M.ahr Z
  have hdo:uD S c=pM (cA S c st) c st:=by
   unfold uD;rw[hk,hp];dsimp only;rw[hs]
  refine let d:TS:=_;let j:TS:=_;let l:TS:=_;let x:TS:=_;let B:TS:=_;let I:TS:=_;let J:TS:=_;let N:TS:=_;let R:TS:=_;let T:TS:=_;let U:TS:=_;let X:TS:=_;let Y:TS:=_;⟨_,au (bG (i:=2) LW.nd xz (aL xz)<|aU dh (aU dh (a0 (pv 0) xz)<|pv 1)<|aU bX (a0 (pv 0) xz)<|pv 1) (pR Y (au (bG (i:=3) LW.nd xz (aL xz)<|aU bX (a0 (pv 0) xz)<|pv 1) (pR X (au (bz (dg<|bC iP xz O.st.bl.ir iO<|aa (pv 2)<|aa (eW (v:=.ref t.kH) xz O.st.Zt xz) af) (pR d<|ax<|vH (a0 (pv 2) xz)<|vI (pv 3) (a0 (pv 2) xz) set_list) (pR R (ax (bz (dg<|bC iP xz O.st.bl.ir iO<|aa (pv 2)<|aa (eW (v:=.ref t.kI) xz O.st.Zu xz) af) (pR j<|ax<|vH (aS eh (aS gE (aU bX (pv 3)<|a0 (pv 2) xz)<|aU bX (pv 3)<|a0 (pv 2) xz)<|eW xz mT rT)<|vI (pv 3) (a0 (pv 2) xz) set_list) (pR N (ax (bz (dg<|bC iP xz O.st.bl.ir iO<|aa (pv 2)<|aa (eW (v:=.ref t.iX) xz O.st.Hh xz) af) (pR l<|ax<|eE<|jF (pv 0) cM.cl DS hr<|aa (pv 1)<|aa (pv 2) af) (pR J (ax (bz (dg<|bC iP xz O.st.bl.ir iO<|aa (pv 2)<|aa (eW (v:=.ref t.jr) xz O.st.Om xz) af) (pR x<|ax<|eE<|jF (pv 0) cM.cl DL jN<|aa (pv 1)<|aa (pv 2) af) (pR I (ax (bz (dg<|bC iP xz O.st.bl.ir iO<|aa (pv 2)<|aa (eW (v:=.ref t.jX) xz O.st.Yz xz) af) (pR B<|ax<|eE<|jF (pv 0) cM.cl DW jN<|aa (pv 1)<|aa (pv 2) af)
         bQ)))))))))))))
   (fD.aan (t':=λD σ H1=>σ=[a_ (.ref m),a_<|.int (c:Nat),a_<|.ref z,a_<|.ref ra]/\bb t C CT H1 m A (cA S c st)/\aB (cN m A) H H1/\b9 PT LP LQ H1/\∀σ' H',bb t C CT H' m A (uD S c)->aB (cN m A) H H'->b9 PT LP LQ H'->D.nx σ' H') (pR U<|au (vH (bA DP cG xz<|aa (pv 2)<|aa (aU bX (a0 (pv 0) xz)<|pv 1)<|aa (pv 3) af)<|vI (a0 (pv 0) xz) (pv 1) set_list)<|pR T<|ax<|ah9 (a0 (pv 0) xz) (pv 1) agR ar YH set_list) ?tl))))),?_⟩
  case tl=>
   rintro D σ H1 ⟨rfl,M1,k1,rD,q⟩;refine oE (akF g hk) λk' ef=>cy (id M1.obj) λdx fs hm G=>?_;have cU:=k1.k z _ apI (λps y=>by cases y) Z;refine aD (M1.eB ef.at') λra' aaO apE=>?_;have era:ra'=ra:=by rw[jh]at aaO;exact(c8 aaO).gx
   subst era;have hc:=(b0.mp ef.at').1;refine vr xz<|vF xz hm cM.cl cM.places G.places<|vr xz<|rL (ag.of M1.pl) (jq ef.at')<|vr xz<|⟨z,a,dz,st,sz,ra',k'.rg,k'.pl,xz,cU,g,apE,(ef.rg▸gj),(vF xz hm cM.cl cM.places G.places<|vr xz<|⟨A.pl,_,_,c,xz,xz,M1.pl,(ye<|by rw[aA];exact hc),?_⟩)⟩;have M2:=alv M1 L ef.at'<|dH st k'.rg k'.pl;have k2:aB (cN m A) _ (dc H1 _<|.lst<|((cA S c st).ck.map λk=>V.int k.pl).set c<|.int (dH st k'.rg k'.pl:Nat)):=aB.dc .pl;have l2:KL _ (dc _ _<|.lst<|((cA S c st).ck.map λk=>V.int k.pl).set c<|.int (dH st k'.rg k'.pl:Nat)):=KL.dc M1.pl;generalize dc _ _ _=H2 at M2 k2 l2 ⊢;refine cy (id M2.obj) λzw qP lK G3=>?_;have e2:((cA S c st).ck.set c {k' with pl:=dH st _ k'.pl})[c]?=a_ {k' with pl:=dH st k'.rg k'.pl}:=gq hc;refine az _ xz<|dN m C _ _<|iQ _ xz lK cM.cl cM.counts G3.counts<|vr xz<|⟨A.ct,_,c,(.int _),xz,xz,M2.ct,(by rw[cF,e2];rfl),⟨_,_,xz,xz,A.ct,_,_,c,xz,xz,M2.ct,ye (by rw[aA,gL];exact hc),?_⟩⟩;have M3:=alx M2 L e2<|k'.ct+1;refine q _ _ ?_ ((k1.gw k2).gw<|aB.dc .ct)<|(l2.gw<|KL.dc M2.ct).lam rD;rw[hdo]
   have e:pM (cA S c st) c st={ (cA S c st)with ck:=((cA S c st).ck.set c {k' with pl:=dH st k'.rg k'.pl}).set c {k' with pl:=dH st k'.rg k'.pl,ct:=k'.ct+1}}:=by
    unfold pM;rw[ef.at',vj]
   rw[e];exact M3
  refine cy (id M.obj) λdx fs hm G=>vF xz hm cM.cl cM.steps G.steps<|vr xz<|⟨A.st,_,_,(.ref b),xz,xz,(aq.of h1),(cI h2),(vF xz hm cM.cl cM.places G.places<|vr xz<|rL (ag.of M.pl) (jq hk)<|⟨b,_,_,(.ref z),xz,xz,(aq.of h3),(cI hv),(az _ xz<|dN m C _ _<|iQ _ xz hm cM.cl cM.eB G.eB<|vr xz<|rL (ag.of M.rg) (jq jh)<|aD (Ap O g Z) λD ty c6=>vr xz<|dN _ _ _ _<|ip _ xz ty xz c6.aoJ<|tk<|bj (λh=>?_) λn1=>?_)⟩)⟩
  .cases g with
   | put r n g1 g2=>
    have Z:=Z;rw[Cz,aiY]at Z;refine vF xz Z O.st.ue O.st.Zq Oo<|vr xz<|vF xz Z O.st.ue O.st.Zs (GJ dk)<|⟨ra,_,_,r,xz,xz,gZ,(ye<|by rw[aA,gj];exact g1),(⟨xz,?_,(aB.dc<|.rs<|a8 jh),((KL.dc gZ).lam hL),(λσ' H' h1 h2 h3=>q _ h1 h2 h3)⟩)⟩;have e:cA S c (ac2,[r,n])=iG S c r n:=rfl;rw[e,xV hk];exact G2 M L hk jh r n
   | add=>exact f' (show ("add":d0)="put" from h) dk
   | set=>exact f' (show ("set":d0)="put" from h) dk
   | look=>exact f' (show ("look":d0)="put" from h) dk
   | swap=>exact f' (show ("swap":d0)="put" from h) dk
   | clear=>exact f' h dk
   | skip=>exact f' (show ("skip":d0)="put" from h) dk
  refine vr xz<|dN _ _ _ _<|ip _ xz ty xz c6.aoL<|tk (bj (λh=>?_) λn2=>?_)
  .cases g with
   | add r o g1 g2=>
    have Z:=Z;rw[CA,aiZ]at Z;have w9:k.rg[r]?=a_ (k.rg[r]'wg):=aI wg;have hg2:=aI wg;have eg1:k.rg.getD r 0=k.rg[r]'wg:=vA w9;have eg2:k.rg.getD o 0=k.rg[o]'wg:=vA hg2;refine vr xz<|vF xz Z O.st.sE O.st.Pg (GJ dk)<|rL (ag.of gZ) (jq w9)<|vr xz<|vF xz Z O.st.sE O.st.Zr Oo<|rL (ag.of gZ) (jq hg2) ⟨_,⟨_,xz,xz,_,_,xz,xz,by show 0<hV;decide +kernel,vr xz<|vF xz Z O.st.sE O.st.Pg (GJ dk)<|⟨ra,_,_,r,xz,xz,gZ,(ye<|by rw[aA,gj];exact g1),(⟨xz,?_,(aB.dc<|.rs<|a8 jh),((KL.dc gZ).lam hL),(λσ' H' h1 h2 h3=>q H' h1 h2 h3)⟩)⟩⟩⟩
    have e:cA S c (U_,[r,o])=iG S c r ((k.rg[r]'wg+k.rg[o]'wg)%hV):=by
     unfold cA;rw[eN (show ¬(U_ : d0) = ac2 from dk),eT xz,hk];show iG S c r ((k.rg.getD r 0+k.rg.getD o 0)%hV)=_;rw[eg1,eg2]
    rw[e,xV hk];exact G2 M L hk jh r _
   | put=>exact f' (show ("put":d0)="add" from h) dk
   | set=>exact f' (show ("set":d0)="add" from h) dk
   | look=>exact f' (show ("look":d0)="add" from h) dk
   | swap=>exact f' (show ("swap":d0)="add" from h) dk
   | clear=>exact f' h dk
   | skip=>exact f' (show ("skip":d0)="add" from h) dk
  refine vr xz<|dN _ _ _ _<|ip _ xz ty xz c6.aaj<|tk (bj (λh=>?_) λn3=>?_)
  .cases g with
   | set n r g1 g2=>
    have Z:=Z;rw[vD]at Z;refine vM xz hm (G.ms _ dk)<|vr xz<|vr xz ⟨m,⟨A,S,c,k,z,dz,a,n,r,hD,xz,M,L,W,mH,hL,hk,Z,g1,g2,λH1 M1 k1 rD=>⟨xz,?_,k1,rD,(λσ' H' h1 h2 h3=>q _ h1 h2 h3)⟩⟩⟩;have e:cA S c (K_,[n,r])=setM S c n r:=by kernel_rfl
    rw[e];exact M1
   | put=>exact f' (show ("put":d0)="set" from h) dk
   | add=>exact f' (show ("add":d0)="set" from h) dk
   | look=>exact f' (show ("look":d0)="set" from h) dk
   | swap=>exact f' (show ("swap":d0)="set" from h) dk
   | clear=>exact f' h dk
   | skip=>exact f' (show ("skip":d0)="set" from h) dk
  refine vr xz<|dN _ _ _ _<|ip _ xz ty xz c6.Zk<|tk (bj (λh=>?_) λn4=>?_)
  .cases g with
   | look r n g1 g2=>
    have Z:=Z;rw[xO]at Z;refine vM xz hm (G.ms _ dk)<|vr xz<|vr xz ⟨m,⟨A,S,c,k,z,dz,a,r,n,hD,xz,M,L,W,hk,Z,g1,g2,λH1 M1 k1 l1=>⟨xz,?_,k1,(l1.lam hL),(λσ' H' h1 h2 h3=>q _ h1 h2 h3)⟩⟩⟩;have e:cA S c (J_,[r,n])=pD S c r n:=by kernel_rfl
    rw[e];exact M1
   | put=>exact f' (show ("put":d0)="look" from h) dk
   | add=>exact f' (show ("add":d0)="look" from h) dk
   | set=>exact f' (show ("set":d0)="look" from h) dk
   | swap=>exact f' (show ("swap":d0)="look" from h) dk
   | clear=>exact f' h dk
   | skip=>exact f' (show ("skip":d0)="look" from h) dk
  refine vr xz<|dN _ _ _ _<|ip _ xz ty xz c6.amb<|tk (bj (λh=>?_) λn5=>?_)
  .cases g with
   | swap r n g1 g2=>
    have Z:=Z;rw[Cf]at Z;refine vM xz hm (G.ms _ dk)<|vr xz<|vr xz ⟨m,⟨A,S,c,k,z,dz,a,r,n,hD,xz,M,L,W,mH,hk,Z,g1,g2,λH1 M1 k1 l1=>⟨xz,?_,k1,(l1.lam hL),(λσ' H' h1 h2 h3=>q _ h1 h2 h3)⟩⟩⟩;have e:cA S c (I_,[r,n])=qC S c r n:=by kernel_rfl
    rw[e];exact M1
   | put=>exact f' (show ("put":d0)="swap" from h) dk
   | add=>exact f' (show ("add":d0)="swap" from h) dk
   | set=>exact f' (show ("set":d0)="swap" from h) dk
   | look=>exact f' (show ("look":d0)="swap" from h) dk
   | clear=>exact f' h dk
   | skip=>exact f' (show ("skip":d0)="swap" from h) dk
  have e:cA S c st=S:=by
   unfold cA;rw[eN n1,eN n2,eN n3,eN n4,eN n5]
  exact⟨xz,(by rw[e];exact M),(aB.refl H),hL,(λσ' H' h1 h2 h3=>q _ h1 h2 h3)⟩
end
def Pq:List V->Bool
 | .str _::r=>r.all uA
 | _=>d_
theorem XS:∀a:List Int,(a.map V.int).all uA=c_
 | []=>rfl
 | i::a=>by rw[eV,zL,XS a];rfl
def aiD(mv:Mv):Pq (qO mv)=true:=XS _
noncomputable def uz(mv:Mv):ci:=.tuple (.str mv.1::mv.2.map nM)
theorem WD(l m:List Int):tQ (l.map nM) (m.map nM)=decide (l=m):=by
 induction l generalizing m with
 |nil=>cases m<;>simp[tQ]
 |cons a l i=>cases m with
  |nil=>simp[tQ]
  |cons b m=>
   rw[eV,eV];simp only[tQ,lj];rw[i m]
   by_cases h1:a=b
   .subst h1
    by_cases h2:l=m
    .subst h2;simp
    .simp[h2]
   .simp[h1]
def akA(a b:Mv):lj (uz a) (uz b)=decide (a=b):=by
 obtain⟨x,c⟩:=a;obtain⟨y,d⟩:=b;unfold uz;simp only[lj,tQ];rw[WD]
 by_cases h1:x=y
 .subst h1
  by_cases h2:c=d
  .subst h2;simp
  .simp 
 .simp[h1]
def akS(l:List Mv)(b:Mv):(l.map uz).any (λd=>lj d<|uz b)=decide (b∈l):=by
 induction l with
 | nil=>simp
 | cons a l ih=>
  rw[eV,vg,ih,akA]
  by_cases h:a=b
  .subst h;simp
  .have h':¬b=a:=λz=>h z.gx;simp[h,h']
def Vv{mv:Mv}(h:Kv mv.1=c_):shaped (uz mv)=true:=by
 unfold uz shaped;rw[iB];refine⟨?_,fC ?_⟩
 .simp only[xx,rG];rw[h,rQ];exact U0 λa _=>rfl
 .have h:=VN (f:=nM) (k:=1) (l:=mv.2) (λa _=>by simp[BM]);simp only[BM,vd];lia
def UY{K:u_}:∀a:List Int,fw K H (a.map V.int)<|a.map nM
 | []=>.nil
 | i::a=>.cons (.int i)<|UY a
def Yw{K:u_}{mv:Mv}(h:H p=a_ (.tup<|qO mv)):eM K H (.ref p) (uz mv):=.tup (aq.of h)<|.cons (.str _)<|UY _
section
variable{t:bf}{C CT:e_}{u:nG}
def X7:Sp:=λvs H Q _=>∃p xs,vs=[.ref p]/\H p=a_ (.tup xs)/\(∀x∈xs,∃T,ek H x=a_ T)/\xs.length<=1000/\∀H',ae H H'->Q (.bl<|Pq xs) H'
def ajH:aX [au2] [au2] (aM OV):=aZ
def mo:(iL:List d0).Nodup:=dk
def aiq(F:aQ K "has_form_of_move" "has_form_of_move" OV f fd)(T:sv K mg t):aG P w K mg gW aF 2 f fd [au2] X7:=by
 have n:aG P w K _ gW _ 1 _ _ _ Gd:=Mj T.Q3 T.bl;refine F.ok ajH λaH A _ s H vs Q E o h=>?_
 .obtain⟨a,xs,p,ha,g,D,k⟩:=h;subst p;have B:=T.bl
  refine let b:TS:=_;⟨_,au (bz (PW.pt<|pw_or (g7<|dg<|bC iP xz B.ir iO<|aa (pv 0)<|aa (nW (v:=.ty W_) xz B.tuple iE xz) af)<|pw_or (cb dM (bC ft xz B.len q_<|aa (pv 0) af) ar<|bR _)<|pw_or1<|g7<|dg<|bC iP xz B.ir iO<|aa (aU dh (pv 0) ar)<|aa (nW (v:=.ty "str") xz B.str boot_str xz) af) (ax<|aR iF) bQ) (pR b (ax (aR (bC (Ab xz) xz B.all Cj (aa (dZ (N:=[X_]) (idx:=[]) xz (cB.of<|by kernel_rfl) (eD<|bg _)
    (nZ<|FU NJ (pv 0) (Ct ar) Nl)
    (λ_ _ _ _=>bo (i:=0) mo xz (aL xz)<|.inr xz)
    (λ_ _ _ _=>eP)
    λ_ _ _ _=>lB n o xz T.mW T.Q3.kp T.bW .nil cX<|aa (pv 0) af) af))))),?_⟩
  have j:=Fp ha;refine vr xz<|dN _ _ _ _<|ip _ xz (pU j) xz (pK j qc)<|az _ xz<|eL ?_;cases xs with
  | nil=>
   refine vr xz<|eA a _ xz (.inr<|aq.of ha) ⟨xz,⟨_,xz,bj (λe=>?_)<|f' xz⟩⟩;exact j'<|k H<|ae.refl H
  | cons y ps=>
   refine vr xz<|eA a _ xz (.inr<|aq.of ha) ⟨xz,⟨_,xz,bj (λe=>?_) λW=>?_⟩⟩
   .injection e with e
    exact f' e (by simp only[eI];lia)
   refine oE (g y bV) λX d=>kg xz ha xz<|dN _ _ _ _<|ip _ xz (pU d) xz (pK d qc)<|az _ xz (Pn (λh1=>?_) λh1=>?_)
   .have e:Pq (y::ps)=false:=by
     cases y with
     | str x=>exact f' ((GN d).mpr ⟨x,xz⟩)<|h1▸dF
     | _=>rfl
    have q:=k H<|ae.refl H;rw[e]at q;exact q
   refine oE ((GN d).mp h1) λY G=>?_;subst G;have k:=k;refine az _ xz<|az 1 xz ⟨a,⟨_,xz,aq.of ha,?_,λq I=>?_⟩⟩
   .intro z;have l:=z.1;rw[Qc]at l;cases l
   rw[oW];have s2:ae H (dc H q<|.tup ps):=ay (ae.refl H) I;have c:dc H q _ q=a_ (.tup ps):=ao;generalize dc H q _=H3 at s2 c ⊢;have Z:ps.length<=1000:=by rw[eI]at D;lia
   refine eC q xz ⟨_,aq.of c⟩<|dX (λi ys H'=>i<=ps.length/\H'=H3/\ys=(ps.take i).map λz=>V.bl<|uA z) (bL<|bq w0) (fY (bg _) xz xz) ?_ ?_ ?_ ?_ ?_
   .rintro i ys H' ⟨_,_,e⟩;rw[e,aA,fJ];exact xl
   .rintro i ys H' hi ⟨_,rfl,_⟩;exact gU _ _ (aq.of c)<|aI hi
   .rintro ys H' ⟨_,rfl,_⟩;exact az _ (aq.of c)<|aw _
   .rintro i ys H' hi ⟨_,rfl,e⟩ z dQ ⟨J,L⟩;subst J;have m:=L _<|aq.of c;refine oE (g z<|cu _<|a8 m) λM O=>?_;have R:=Uq s2 O;dsimp only[je,g8];rw[eT rfl];refine vr xz<|⟨z,M,xz,R,hi,xz,?_⟩;rw[iN,m,dC,<-e];rfl
   .rintro ys H' ⟨_,rfl,e⟩;refine⟨?_,λr S=>?_⟩
    .rw[e,aA,fJ];have:=bq w0;lia
    have U:ys=(ps.map uA).map V.bl:=by
     rw[e,jl<|aw _,i7];rfl
    refine eA r _ xz (ag.of<|by rw[ao,U]) ?_;rw[zO];exact k _<|ay s2 S
end
def cV(S:Mc)(mv:Mv):Mc:=if mv.1="do" then uD S (mv.2.getD 0 0).toNat else ng S (mv.2.getD 0 0).toNat (mv.2.getD 1 0).toNat
def B0{mv:Mv}(h:mv∈gF S):(∃c:Nat,mv=(("do":d0),[(c:Int)])/\c<S.ck.length/\uk S c=c_)\/(∃(c:Nat)(k:Ck)(n:Int),mv=((at6 : d0),[(c:Int),n])/\S.ck[c]?=a_ k/\n∈ja S.kd k.es):=by
 unfold gF at h;obtain h|h:=iC.mp h
 .left
  unfold uo at h;refine aD (b8.mp h) λc b a=>?_;subst a;exact oA (jB.mp b) λh1 h2=>eC c xz (mU.mp h1) h2
 .right
  unfold Aa v7 at h;refine aD (ack.mp h) λa d hm=>?_;obtain⟨k,c⟩:=a;unfold Hm at hm;refine aD (b8.mp hm) λn hn a=>?_;subst a;have b:=List.mem_zipIdx_iff_getElem?.mp d;exact⟨c,k,n,xz,b,hn⟩
def Vy{mv:Mv}(h:mv∈gF S):Kv mv.1=true:=by
 obtain⟨c,rfl,_,_⟩|⟨c,k,n,rfl,_,_⟩:=B0 h
 .show Kv "do"=c_;decide +kernel
 .show Kv at6 = c_;decide +kernel
def Mm(W:iu S)(d:c<S.ck.length)(h:uk S c=c_):∃k p s sz,S.ck[c]?=a_ k/\S.ps[c]?=a_ p/\p[k.pl]?=a_ s/\bu sz s:=by
 have a:=aI d;refine cc (W.part a) λp b _ _ f=>?_;rw[Gk a b]at h;unfold pJ at h;cases e:p[S.ck[c].pl]? with
 | none=>rw[e]at h;cases h
 | some s=>exact⟨_,p,s,_,a,b,e,f s<|a8 e⟩
def akc(mv:Mv):∀x∈qO mv,∃T,ek H x=a_ T:=by
 intro x a;unfold qO at a;obtain e|e:=bK.mp a
 .rw[e];exact⟨_,xz⟩
 .refine aD (b8.mp e) λi _ b=>?_;subst b;exact⟨_,xz⟩
def akd{mv:Mv}(h:mv∈gF S):(qO mv).length<=1000:=by
 rcases B0 h with ⟨c,rfl,_⟩ | ⟨c,k,n,rfl,_⟩ <;> simp[qO]
section
variable{t:bf}{C CT:e_}{u:nG}
def P5(t:bf)(C CT PT:e_):Sp:=λvs H Q _=>∃m A S p mv hD,vs=[.ref m,.ref p]/\bb t C CT H m A S/\ke hD m A/\iu S/\yO S/\b9 PT LP LQ H/\H p=a_ (.tup<|qO mv)/\mv∈gF S/\
 ∀H',bb t C CT H' m A (cV S mv)->aB (cN m A) H H'->b9 PT LP LQ H'->Q .aO H'
def alO:aX [Y_,au2] [Y_,au2] (aM Qb):=aZ
def Ag(r:fz k A):A.units+65<cLine:=by have:=r.un;lia
def ag6{K:u_}(h:bw (qM H) vs l):fw K H vs (l.map uz):=LD (F:=qM H) (λv a q=>by
 obtain⟨p,rfl,q⟩:=q;exact Yw q) h
def aj0{f PT:e_}(F:aQ K "do" "Machine.do" Qb f fd)(B:gX K C)
  (DF:Dp P w K mg gW 2 "has_form_of_move" [au2] X7)
  (DM:Mt P w K mg gW C 4 "moves" hF (Ge t C CT PT))
  (DS:Mt P w K mg gW C 6 "do_step" hU (V6 t C CT PT))
  (DC:Mt P w K mg gW C 4 at6 jw (MX t C CT PT)):aG P w K mg gW aF 7 f fd [Y_,au2] (P5 t C CT PT):=by
 refine F.ok alO λaH A _ s H vs Q E o h=>?_
 .refine mV h λm A S p mv hD e M L W bD=>?_;subst e;obtain⟨U,yx,V,r,q⟩:=bD;have jN:=o.mono (show 2<=6 by decide);have X:=o.mono (show 4<=6 by decide);refine⟨_,au (bz (PW.pt<|pw_or (g7<|dg<|bA DF jN xz<|aa (pv 1) af)<|pw_or1<|cb (Vr<|Ag o) (pv 1) (pA (pv 0) B.cl DM X) xz) vp bQ)<|ax<|bz (cb dM (aU dh (pv 1) ar) cq<|bR _) (ax<|eE<|jF (pv 0) B.cl DS o<|aa (aU dh (pv 1) ar) af)<|ax<|eE<|jF (pv 0) B.cl DC X<|aa (aU dh (pv 1) ar)<|aa (aU dh (pv 1) ar) af,?_⟩;refine vr xz<|⟨p,_,xz,V,(akc _),(akd r),(λH1 s1=>(az _ xz ?_))⟩;rw[aiD];have D:=M.same s1;refine cy (id D.obj) λdx fs hm G=>eL<|vr xz<|vM xz hm (G.ms _ dk)<|⟨m,A,S,xz,D,W,(iD yx s1),(λH2 l vs I Y hn jP y'=>?_)⟩;have j:=I.PX _ _<|s1 _ _ V;refine⟨l,vs,_,(⟨_,xz,(ag.of jP),(ag6 y'),(Yw j),(Vv<|Vy r),(λd hd=>?_),(az _ xz ?_)⟩)⟩
  .refine aD (b8.mp hd) λa ha e=>?_;subst e;exact Vv<|Vy ha
  rw[eT xz,akS];have k02:=(aB.of s1).gw I
  .rw[fC r];refine eL ?_;have J:=D.pE I;refine cy (id J.obj) λzw qP Z G3=>?_;have kk:∀H',aB _ _ _->aB (cN m A) H H':=λH' k=>(k02.mono λb z=>z.elim).gw k;obtain⟨c,rfl,hc,ux⟩|⟨c,k,n,rfl,v,iA⟩:=B0 r
   .refine CL (Mm W hc ux) λk pt st sz v e=>gY e λtx cZ g=>kg xz j xz ⟨xz,⟨_,xz,bj (λ_=>?_)<|f' xz⟩⟩;exact vM xz Z (G3.ms _ dk)<|kg xz j xz<|⟨m,A,S,c,k,pt,st,sz,hD,xz,J,L,W,U,(⟨Y,v,tx,cZ,g,(λH3 N O R=>q _ N (kk _ O) R)⟩)⟩
   .refine aD (M.ug v) λx hx T=>a9 (VD T.wf iA) λi hi e _=>?_;subst e;exact kg xz j xz ⟨xz,⟨_,xz,bj (λy=>f' (show (at6 : d0)="do" from PZ y) dk) λ_=>vM xz Z (G3.ms _ dk)<|kg xz j xz<|kg xz j xz<|⟨m,A,S,c,k,i,hD,xz,J,L,Y,v,iA,hi,(⟨W.bd,W.ov,U,(λH3 N O R=>q _ N (kk _ O) R)⟩)⟩⟩⟩
end
def amY:ee ac2 = a_ [4,hV]:=by kernel_rfl
def amZ:ee U_ = a_ [4,4]:=by kernel_rfl
def amX:ee K_ = a_ [12,4]:=by kernel_rfl
def akP:ee J_ = a_ [4,12]:=by kernel_rfl
def akN:ee I_ = a_ [4,12]:=by kernel_rfl
def aje:ee M_ = a_ []:=by kernel_rfl
def akO:ee O_ = a_ [4,121]:=by kernel_rfl
def Av{a b:Nat}{u v:Int}(e:ee x=a_ [u,v])(h1:(a:Int)<u)(h2:(b:Int)<v):stepOk [.str x,.int a,.int b]=true:=by
 show (match ee x with | none=>d_ | some bs=>decide ([V.int a,V.int b].length=bs.length)&&([V.int a,V.int b].zip _).all λp=>ox _ _)=c_;rw[e];show (decide (2=2)&&((decide (0<=(a:Int))&&decide ((a:Int)<u))&&((decide (0<=(b:Int))&&decide ((b:Int)<v))&&c_)))=c_;rw[fC h1,fC h2,fC<|xt a,fC<|xt b];rfl
def top_lt{m:Nat}(h:m<10^60):(m:Int)<hV:=by
 have e:((10^60:Nat):Int)=hV:=dk;rw[<-e];exact Int.ofNat_lt.mpr h
def xK{sz:Nat}(g:bu sz t):stepOk (tv t)=true:=by
 cases g with
 | put r m h1 h2=>exact Av amY li<|top_lt h2
 | add r m h1 h2=>exact Av amZ om li
 | set r m h1 h2=>exact Av amX li om
 | look r m h1 h2=>exact Av akP om li
 | swap r m h1 h2=>exact Av akN om om
 | clear=>
  show (match ee M_ with | none=>d_ | some bs=>decide (([]:List V).length=bs.length)&&(([]:List V).zip bs).all λp=>ox p.1 p.2)=c_;rw[aje];rfl
 | skip r m h1 h2 h3=>exact Av akO li li
def Wy{sz:Nat}(g:bu sz t):(t.2.map λ(n:Nat)=>V.int (n:Int)).length<=900:=by
 rw[aA];have:=g.len;exact w4
def Xy(l:List Nat):∀y∈l.map λ(n:Nat)=>V.int (n:Int),∃T,ek H y=a_ T:=λy a=>by
 refine aD (b8.mp a) λn _ b=>?_;subst b;exact⟨_,xz⟩
def zV{sz:Nat}(g:bu sz s)(h:s.1 = O_):∃r q:Nat,s=((O_ : d0),[r,q])/\q<=sz:=by
 cases g with
 | skip r q _ h2 _=>exact⟨r,q,xz,h2⟩
 | put r n _ _=>exact f' (show ("put":d0)="skip" from h) dk
 | add r n _ _=>exact f' (show ("add":d0)="skip" from h) dk
 | set r n _ _=>exact f' (show ("set":d0)="skip" from h) dk
 | look r n _ _=>exact f' (show ("look":d0)="skip" from h) dk
 | swap r n _ _=>exact f' (show ("swap":d0)="skip" from h) dk
 | clear=>exact f' h dk
def amD(K:u_)(h:autoParam (X.K=K) am):jt X (.builtin "isinstance") (pu K):=by subst h;exact iP
def Xm:=@mo
def xC:=@zP
def ajg(n:Nat):(dU n c_).all id=true:=by
 induction n with
 | zero=>rfl
 | succ n ih=>rw[xp,zL,ih];rfl
section
variable{t:bf}{u:nG}
def Zb:Sp:=λvs H Q _=>∃v ps,vs=[v]/\iq H v ps/\cW ps/\∀H',ae H H'->Q (.bl c_) H'
def alP:aX hX hX (aM Qd):=aZ
def aj1(F:aQ K "has_clerks" "has_clerks" Qd f fd)(B:Bl mg)(C:∃u,mg "CLERKS"=a_ u/\dn (.int 4) u):aG P w K mg gW aF 1 f fd hX Zb:=by
 refine aD C λR y z=>F.ok alP λaH A _ s H vs Q E S h=>?_
 .refine og h λv ps j l g k=>?_;clear h;subst j;refine fh l λa xs j ha m=>?_;clear l;subst j
  refine let c:TS:=_;⟨_,au (bz (PW.pt<|pw_or (g7<|dg<|bC iP xz B.ir iO<|aa (pv 0)<|aa (nW (v:=.ty W_) xz B.tuple iE xz) af)<|pw_or1<|g7<|afV C0 C0 ar (bC ft xz B.len q_<|aa (pv 0) af)<|eW xz y z)
    vp bQ)
   (pR c (ax (aR (bC (Ab xz) xz B.all Cj (aa (dZ (N:=[X_]) (idx:=[]) xz (cB.of<|by kernel_rfl) (eD<|bg _)
    (nZ<|pv 0) (λ_ _ _ _=>bo (i:=0) Xm xz (aL xz)<|.inr xz) (λ_ _ _ _=>eP)
    λ_ _ _ _=>bC (amD K) xz B.ir iO<|aa (pv 0)<|aa (nW (v:=.ty W_) xz B.tuple iE xz) af) af))))),?_⟩
  have o:=Fp ha;have hi:um W_ W_ = true:=qc;have T:=r_ m;have U:=g.ne;have g2:=g.le;refine vr xz<|dN _ _ _ _<|ip _ xz (pU o) xz (pK o qc)<|az _ xz ?_;rw[hi];refine eL<|vr xz<|eA a xs xz (.inr<|aq.of ha) ⟨_,⟨_,xz,xz,_,xz,bj (λh1=>?_) λh1=>f' (show (1:Int)<=(xs.length:Int) by lia) h1⟩⟩;refine⟨_,⟨_,xz,xz,_,xz,Ay (λh2=>f' (show (xs.length:Int)<=4 by lia) h2) λh2=>az _ xz<|eC a xz ⟨xs,aq.of ha⟩<|dX (n:=xs.length) (λi ys H'=>i<=xs.length/\ae H H'/\ys=(dU i c_).map V.bl) (bL<|bq w8) (fY (bg _) (ae.refl _) xz) ?_ ?_ ?_ ?_ ?_⟩⟩
  .intro i ys H' d;refine gY d λ_ _ e=>?_;rw[e,aA,xn];exact aw _
  .intro i ys H' hi d;exact gY d λ_ s1 _=>gU xs (xs[i]) (aq.of<|s1 _ _ ha)<|aI hi
  .intro ys H' d;exact gY d λ_ s1 _=>az xs (aq.of<|s1 _ _ ha)<|aw _
  .intro i ys H' D d x W G;refine gY d λ_ s1 e=>oA G λI J=>?_;subst I;have L:=J xs<|aq.of<|s1 _ _ ha;refine aD (xC m L) λp _ j=>fh j λb us j M _=>?_;subst j;have q:=Fp<|s1 _ _ M;refine vr xz<|dN _ _ _ _<|⟨_,xz,(pU q),xz,(pK q qc),D,s1,?_⟩;rw[hi,e,abG,dC];rfl
  .intro ys H' d;refine gY d λ_ s1 e=>⟨?_,λr O=>?_⟩
   .rw[e,aA,xn];exact bL<|bq w8
   refine eA r (dU xs.length c_) xz (ag.of<|by rw[ao,e]) ?_;rw[ajg];exact k _<|ay s1 O
def X8:Sp:=λvs H Q _=>∃(v:V)(s:Tl)(p n:Nat),vs=[v,.int (p:Nat),.int (n:Nat)]/\fg H v s/\bu n s/\p<120/\∀H',ae H H'->Q (.bl c_) H'
def Yd:aX [at0,T_,"length",au1] [at0,T_,"length"] (aM OW):=aZ
def air(F:aQ K "fits" "fits" OW f fd)(O:yq K mg t u):aG P w K mg gW aF 5 f fd [at0,T_,"length"] X8:=by
 have T:=O.st;have m:aG P w K mg gW aF 4 t.fO t.qT iv (vv t):=xI T;refine aD T.cn.long λI o rL=>F.ok Yd λaH A _ s H vs Q E x h=>?_
 .obtain⟨v,st,p,n,c,e,g,J,k⟩:=h;subst c;refine let b:TS:=_;⟨_,au (ah8 λpn=>ax<|bG (i:=3) Yd.nd xz (aL xz)<|lB m x xz T.mO T.wB.kp T.bO .nil cX<|aa (pv 0) af)<|pR b<|au (bz (PW.pt<|pw_and (dg<|bC iP xz T.bl.ir iO<|aa (pv 3)<|aa (eW (v:=.ref t.jd) xz T.GG xz) af)<|pw_and1<|cb Hf (a0 (pv 3) xz) (pv 2)<|bR _) vp bQ)<|ax<|aR<|nU vO (pv 1) (eW xz o rL)<|bR _,?_⟩;refine aD e λa c ha=>?_;clear e;subst c;have y:decide ((p:Int)<120)=true:=fC li;refine vr xz<|wA a st.1 (ip _ xz ha (xK g) ⟨Wy g,Xy st.2⟩ λz dx B s1 L j=>?_);have d:=k B s1;rw[<-y]at d;refine aD (Ap O g j) λC ty D=>vr xz<|⟨_,(.ref t.jd),(.ref C),(.ref t.jd),(decide<|st.1 = O_),xz,ty,xz,D.Pb,(tk<|bj (λl=>?_) λl=>eL<|az _ xz ⟨_,⟨_,xz,xz,d⟩⟩)⟩;refine cy (zV g l) λr q c M=>?_;subst c;refine vF (v:=.int (q:Nat)) xz j T.m7 T.Ao xz<|vr xz ⟨_,⟨_,xz,xz,_,xz,bj (λG=>?_) λ_=>⟨_,xz,_,_,xz,xz,d⟩⟩⟩;exact f' G (by show ¬((n:Int)<(q:Int));lia)
def NF:Sp:=λvs H Q _=>∃v ps,vs=[v]/\iq H v ps/\cW ps/\∀H',ae H H'->Q .aO H'
def CG:aX [P_,an3,X_,T_,at0] hX (aM Lm):=aZ
def aim(F:aQ K "look_over" "look_over" Lm f fd)(B:Bl mg)(R:mg at5 = b_)(L:Dp P w K mg gW 1 "has_clerks" hX Zb)(DF:Dp P w K mg gW 5 "fits" [at0,T_,"length"] X8):aG P w K mg gW aF 6 f fd hX NF:=by
 refine F.ok CG λaH A _ s H vs Q E S h=>?_
 .refine og h λv ps D T g k=>?_;clear h;subst D;refine fh T λa xs D ha U=>?_;clear T;subst D
  refine let l:TS:=_;let o:TS:=_;let t:TS:=_;⟨_,au (bz (g7<|dg<|lB L.G (S.mono qc) xz L.m L.k L.b .nil cX<|aa (pv 0) af) vp bQ)
   (pR t<|ax<|jV jA xz (qm (b:=d_) xz R<|aa (pv 0) af) (lX xz<|ff (bo (i:=1) CG.nd xz<|aL xz)<|ff (bo (i:=2) CG.nd xz<|aL xz) lV)<|pR o<|ax<|jV jA xz (qm (b:=d_) xz R<|aa (pv 2) af) (lX xz<|ff (bo (i:=3) CG.nd xz<|aL xz)<|ff (bo (i:=4) CG.nd xz<|aL xz) lV)<|pR l<|ax<|bz (g7<|dg<|bA DF S xz<|aa (pv 4)<|aa (pv 3)<|aa (bC ft xz B.len q_<|aa (pv 2) af) af) vp bQ),?_⟩
  refine vr xz<|⟨(.ref a),ps,xz,⟨a,xs,xz,ha,U⟩,g,(λH1 s1=>(az _ xz<|eL ?_))⟩
  let W1:IV:=λi σ H'=>∃c q p d,σ=[a_ (.ref a),c,q,p,d]/\ae H H'
  refine vr xz<|eA a xs xz (aq.of<|s1 _ _ ha)<|su (n:=xs.length) W1 ⟨b_,b_,b_,b_,xz,s1⟩ ?_ ?_ ?_ ?_
  .intro i σ H' hi C;exact CL C λ_ _ _ _ _ s2=>gU xs (xs[i]) (aq.of<|s2 _ _ ha)<|aI hi
  .intro σ H' C;exact CL C λ_ _ _ _ _ s2=>az xs (aq.of<|s2 _ _ ha)<|aw _
  .intro i σ M hi C z H3 N;obtain⟨c,q,p,d,D,s2⟩:=C;subst D;refine og N λr x bE ez eH du=>?_;subst ez;subst eH;have uH:=du xs<|aq.of<|s2 _ _ ha;refine aD (xC U uH) λpt tx D=>fh D λb us D J V=>?_;subst D;refine oA (g.part pt<|a8 tx) λg3 W=>?_;have wO:=r_ V;rw[<-wO]at g3 W;have X:ae H (dc M r<|.tup [.int i,.ref b]):=ay s2 bE;refine⟨r,([.int i,.ref b]),xz,(aq.of ao),xz,(gU (.int i) ([.ref b]) xz<|eA (.ref b) ([]) xz xz ?_)⟩
   let W2:IV:=λj σ H'=>∃p d,σ=[a_ (.ref a),a_<|.int i,a_<|.ref b,p,d]/\ae H H'
   refine vr xz<|eA b us xz (aq.of<|X _ _ J)<|su (n:=us.length) W2 ⟨p,d,xz,X⟩ ?_ ?_ ?_ ?_
   .intro j σ H' Y C;exact cy C λ_ _ _ I=>gU _ (us[j]) (aq.of<|I _ _ J)<|aI Y
   .intro σ H' C;exact cy C λ_ _ _ I=>az _ (aq.of<|I _ _ J)<|aw _
   .intro j σ Z Y C z' H5 N;refine cy C λp' d' D I=>?_;clear C;subst D;refine og N λr' y wR ez' SQ oN=>?_;subst ez';subst SQ;have hyj:=oN _<|aq.of<|I _ _ J;refine aD (xC V hyj) λst cZ hI=>?_;have O:ae H (dc Z r'<|.tup [.int j,y]):=ay I wR;exact⟨r',([.int j,y]),xz,(aq.of ao),xz,(gU (.int j) ([y]) xz<|eA y ([]) xz xz<|az _ xz<|vr xz<|vr xz ⟨b,⟨_,xz,.inr<|aq.of<|O _ _ J,y,st,j,us.length,xz,hI.keep λb xs e=>O _ _ e,W st<|a8 cZ,wh,λH6 s6=>⟨_,xz,eL ⟨_,_,xz,O.gw s6⟩⟩⟩⟩)⟩
   .intro σ Z C;refine cy C λp' d' D I=>?_;clear C;subst D;exact⟨_,_,_,(az _ xz I)⟩
  .intro σ M C;obtain⟨_,_,_,_,D,s2⟩:=C;subst D;exact k M s2
end
structure hJ(H0:Hp)(m:e_)(H:Hp)(R:e_->Nat->Prop):Prop where
 l:∃hD:e_->Nat,∀a v,R a v->hD a=v
 p:∀a v,R a v->H a≠b_
 f:∀a v,R a v->a=m\/H0 a=b_
 t:∀b,H b=b_->H0 b=b_
section
variable{H0 H H':Hp}{m:e_}{R R':e_->Nat->Prop}
def hJ.keep(h:hJ H0 m H R)(k:∀b,H' b=b_->H b=b_):hJ H0 m H' R:=⟨h.l,λa v r z=>h.p a v r<|k a z,h.f,λb z=>h.t b<|k b z⟩
def hJ.adds(h:hJ H0 m H R)(k:∀b,H' b=b_->H b=b_){B:e_->Prop}{n:Nat}(c:∀b,B b->H b=b_)(d:∀b,B b->H' b≠b_):hJ H0 m H' λa v=>R a v\/(B a/\v=n):=by
 obtain⟨⟨hD,h1⟩,h2,h3,h4⟩:=h
 classical
 refine⟨⟨λa=>if B a then n else hD a,λa v r=>?_⟩,λa v r=>?_,λa v r=>?_,λb z=>h4 b<|k b z⟩
 .obtain r|⟨r,rfl⟩:=r
  .show (if B a then n else hD a)=v;rw[eN λz=>h2 a v r<|c a z];exact h1 a v r
  .show (if B a then v else hD a)=v;rw[eT r]
 .obtain r|⟨r,rfl⟩:=r
  .exact λz=>h2 a v r<|k a z
  .exact d a r
 .obtain r|⟨r,rfl⟩:=r
  .exact h3 a v r
  .exact .inr (h4 a<|c a r)
def hJ.add(h:hJ H0 m H R)(k:∀b,H' b=b_->H b=b_)(d:H b=b_)(e:H' b≠b_):hJ H0 m H' λa v=>R a v\/(a=b/\v=n):=
 h.adds k (B:=λa=>a=b) (λc z=>by rw[z];exact d) (λc z=>by rw[z];exact e)
def qj:∀b,dc H x o b=b_->H b=none:=λb e=>by
 by_cases z:b=x
 .rw[z,ao]at e;cases e
 .rwa[aj z]at e
def hJ.new(h:hJ H0 m H R)(c:H b=b_):hJ H0 m (dc H b o) λa v=>R a v\/(a=b/\v=n):=h.add qj c (by rw[ao];intro z;cases z)
end
structure br(m:e_)(H H':Hp):Prop where
 k:∀b o,b≠m->H b=a_ o->H' b=a_ o
 t:∀b,H' b=b_->H b=b_
def br.of(s:ae H H'):br m H H':=⟨λb o _ e=>s b o e,λb h=>s.free h⟩
def br.gw(a:br m H H1)(b:br m H1 H2):br m H H2:=⟨λc o n e=>b.k c o n<|a.k c o n e,λc h=>a.t c<|b.t c h⟩
def br.dc:br m H (dc H m o):=⟨λb q n e=>by rw[aj n];exact e,qj⟩
section
variable{t:bf}{C CT:e_}{u:nG}
def jG.same(s':ae H H')(h:jG t H v s):jG t H' v s:=h.keep λb C dx fs e _=>s' _ _ e
def Ve(t:bf):Sp:=λvs H Q _=>∃v p,vs=[v]/\IsPart H v p/\p.length<=120/\(∀s∈p,bu p.length s)/\∀H' b us,ae H H'->H b=b_->H' b=a_ (.tup us)->bw (jG t H') us p->Q (.ref b) H'
def aez:aX iL iL (aM L7):=aZ
def Xk:(iv:List d0).Nodup:=dk
theorem Kr{a b:Type}{F:a->b->Prop}{x:a}{y:b}(h:F x y){l:List a}{r:List b}(g:bw F l r):bw F (l++[x]) (r++[y]):=KU g h
def adS(F:aQ K "steps_of" "steps_of" L7 f fd)(T:sv K mg t)(I:mg W_ = b_):aG P w K mg gW aF 5 f fd iL (Ve t):=by
 have J:aG P w K mg gW aF 4 t.fO t.qT iv (vv t):=xI T;refine F.ok aez λaH A _ s H vs Q E L h=>?_
 .refine og h λv p d m g M=>?_;clear h;subst d;refine fh m λa vs d ha x=>?_;clear m;subst d;refine oA M λO k=>?_
  refine⟨_,ax (aR (fK kC xz I iE (aa (dZ (N:=[at0]) (idx:=[]) xz (cB.of<|by kernel_rfl) (eD<|bg _) (nZ<|pv 0)
   (λ_ _ _ _=>bo (i:=0) Xk xz (aL xz)<|.inr xz) (λ_ _ _ _=>eP) λ_ _ _ _=>lB J L xz T.mO T.wB.kp T.bO .nil cX<|aa (pv 0) af) af))),?_⟩
  have hlen:=r_ x;refine az _ xz<|eC a xz ⟨_,aq.of ha⟩<|dX (n:=vs.length) (λi ys H'=>i<=vs.length/\ae H H'/\bw (jG t H') ys (p.take i)) (bL<|bq w8) (fY (bg _) (ae.refl _) .nil) ?_ ?_ ?_ ?_ ?_
  .intro i ys H' c;refine gY c λ_ _ e=>?_;rw[r_ e,fJ];exact xl
  .intro i ys H' hi c;exact gY c λ_ s1 _=>gU _ _ (aq.of<|s1 _ _ ha)<|aI hi
  .intro ys H' c;exact gY c λ_ s1 _=>az _ (aq.of<|s1 _ _ ha)<|aw _
  .intro i ys R hi c z S U;refine gY c λ_ s1 e=>oA U λV W=>?_;subst V;have X:=W _<|aq.of<|s1 _ _ ha;refine aD (xC x X) λst y Y=>?_;have B:=O st<|a8 y;have D:fg S z st:=Y.keep λb xs e=>s1 _ _ e;refine aD D λb d Z=>?_;clear D;subst d;dsimp only[je,g8];rw[eT rfl];refine vr xz<|wA b st.1 (ip _ xz Z (xK B) ⟨Wy B,Xy st.2⟩ λz dx H3 j Jc Jb=>(fY hi (s1.gw j) ?_));rw[iN,y];exact Kr ⟨z,b,dx,xz,Jb⟩ (Paired.bp e λ_ _ q=>q.same j)
  .intro ys R c;refine gY c λ_ s1 e=>?_;have hle:=r_ e;rw[fJ]at hle;refine⟨bL<|bq li,λr G=>⟨r,ys,xz,.inl ⟨ag.of ao,λl g=>?_⟩⟩⟩;have s2:=ay (o:=.lst ys) s1 G;have j:=ay (o:=.tup ys) s2 g;rw[jl li]at e;exact k _ l ys j (s2.free g) ao (Paired.bp e λ_ _ q=>(q.same<|ay (ae.refl _) G).same<|ay (ae.refl _) g)
end
structure uu(K:u_)(x qual:d0)(st:bx)(f:e_)(fd:ik)(d:d0):Prop where
 ex:∃(oc:f_)(od:Option e_)(T:e_)(kV doc pm:f_)(an:Option e_)(aH ct:f_)(iK:Array (Option f_))(c1:f_)(d1:Option e_)(n1:Nat)(oK:Array (Option f_))(tk:Nat),fd=B_ x qual (lC st) (jb st) (aM st) (.ref T) kV doc pm an aH ct/\K.lookup f=a_ ⟨oc,od,.func fd,iK⟩/\W.codeIn K aH qual=c_/\K.lookup T=a_ ⟨c1,d1,.seq #[.str d tk] n1,oK⟩
 kp:x_ K (.ref f)=c_
noncomputable def k0:Ck:=⟨0,0,[0,0,0,0],0,[]⟩
def cg(kd:d0)(ps:List Pt):Mc:=⟨kd,ps,ps.map λ_=>k0,dU 12 0,[],dU 12 []⟩
theorem Ks{a b c:Type}{F:a->b->Prop}{y:b}{l:List a}{r:List c}(h:l.length=r.length)(g:∀x∈l,F x y):bw F l (r.map λ_=>y):=by
 induction l generalizing r with
 |nil=>cases tL.mp h.symm;exact .nil
 |cons x l i=>cases r with
  |nil=>cases h
  |cons z r=>exact .cons (g x<|by simp) (i (by simpa using h) λx d=>g x<|cu _ d)
theorem UJ{a b:Type}{F:a->b->Prop}{y:b}{l:List a}{n:Nat}(h:l.length=n)(g:∀x∈l,F x y):bw F l (dU n y):=by
 subst h;induction l with
 |nil=>exact .nil
 |cons x l i=>exact .cons (g x<|by simp) (i λx c=>g x<|cu _ c)
def amo:([Z_,X_]:List d0).Nodup:=dk
def Hg:=@mo
def amm:=@oe
def zZ{a:Type}{l:List a}{x y:a}{i:Nat}(h:(l++[x])[i]?=a_ y):l[i]?=a_ y\/(i=l.length/\y=x):=by
 by_cases hi:i<l.length
 .left;rwa[zA hi]at h
 .right
  rw[BC li]at h
  by_cases e:i-l.length=0
  .rw[e]at h;simp at h;exact⟨li,h.gx⟩
  .rw[uZ (by simp;lia)]at h;cases h
def hJ.nx(n:Nat)(h:hJ H0 m H R)(d:H b=b_):∃c,hJ H0 m (dc H b o) c/\(∀a v,R a v->c a v)/\c b n:=⟨_,h.new d,λa v z=>.inl z,.inr ⟨xz,xz⟩⟩
def hJ.nw(n:Nat)(h:hJ H0 m H R)(d:H b=b_):∃H' c,H'=dc H b o/\ae H H'/\H' b=a_ o/\hJ H0 m H' c/\(∀a v,R a v->c a v)/\c b n:=a9 (h.nx n d) λc a i r=>⟨_,c,xz,ay (ae.refl _) d,ao,a,i,r⟩
def vX{fs:List (d0×V)}(x:d0)(v:V)(_:h m=a_ (.ins C dx fs))(a:fs.length<=k)(O:hJ H m h R):∃f h',f=aJ x v fs/\h'=dc h m (.ins C dx f)/\f.length<=k+1/\br m h h'/\h' m=a_ (.ins C dx f)/\hJ H m h' R:=⟨_,_,xz,xz,dq (rY x v _)<|BJ a,br.dc,ao,O.keep qj⟩
def hJ.nxs(n:Nat)(B:e_->Prop)(h:hJ H0 m H R)(k:∀b,H' b=b_->H b=b_)(d:∀b,B b->H b=b_)(e:∀b,B b->H' b≠b_):∃c,hJ H0 m H' c/\(∀a v,R a v->c a v)/\∀b,B b->c b n:=⟨_,h.adds k d e,λa v z=>.inl z,λb z=>.inr ⟨z,xz⟩⟩
def br.tup{fs:List (d0×V)}(k:br m H H')(hm:H m=a_ (.ins C dx fs)):∀b xs,H b=a_ (.tup xs)->H' b=a_ (.tup xs):=λb xs e=>k.k b _ (λz=>by rw[z,hm]at e;cases e) e
def br.lst{fs:List (d0×V)}(k:br m H H')(hm:H m=a_ (.ins C dx fs))(e:H b=a_ (.lst xs)):H' b=a_ (.lst xs):=k.k b _ (λz=>by rw[z,hm]at e;cases e) e
def jo{fs a:List (d0×V)}(e:a=aJ x v fs):a.lookup x=a_ v:=by rw[e,dw,eT rfl]
def aE{fs a:List (d0×V)}(h:fs.lookup y=r)(e:a=aJ x v fs)(n:y≠x):a.lookup y=r:=by rw[e,dw,eN n];exact h
def Ww{K:u_}{H h:Hp}{m C dx pg:e_}{fs:List (d0×V)}{c:d0}{d:List V}{ps:List Pt}{D:Ends}{σ:L2.St}{R:e_->Nat->Prop}{k:Nat}(n:Nat)(y:σ[0]?=a_ (a_<|.ref m))(A:σ[1]?=a_ (a_<|.ref pg))(f:h pg=a_ (.tup d))(L:d.length=ps.length)(h4:ps.length<=4)(hm:h m=a_ (.ins C dx fs))(cl:di K C)(B:bJ K C c)(M:fs.length<=k)(N:k<900)(O:hJ H m h R)(q:∀l h' g j,g=aJ c (.ref l) fs->g.length<=k+1->h' m=a_ (.ins C dx g)->h' l=a_ (.lst<|ps.map λ_=>V.int 0)->br m h h'->hJ H m h' j->(∀a v,R a v->j a v)->j l n->D.nx σ h'):Qe K (qJ 0) (OM (pd K<|qJ 1) (g8 0) je (tC<|.int 0) [] 1) c D σ h:=by
 refine⟨_,A,pg,xz,⟨_,aq.of f⟩,dX (n:=d.length) (λi ys H'=>i<=d.length/\H'=h/\ys=(ps.take i).map λ_=>V.int 0) (bL<|bq li) (fY (bg _) xz xz) ?_ ?_ ?_ ?_ ?_⟩
 .intro i ys H' b;obtain⟨_,_,e⟩:=b;rw[e,aA,fJ];lia
 .intro i ys H' hi b;obtain⟨_,rfl,_⟩:=b;exact gU _ _ (aq.of f)<|aI hi
 .intro ys H' b;obtain⟨_,rfl,_⟩:=b;exact az _ (aq.of f)<|aw _
 .intro i ys H' hi b z Q E;obtain⟨_,rfl,e⟩:=b;obtain⟨F,S⟩:=E;subst F;dsimp only[je,g8];rw[eT rfl];refine fY hi xz ?_;rw[iN,aI (show i<ps.length by lia),dC,<-e];rfl
 intro ys H' b;obtain⟨_,G,e⟩:=b;subst G;rw[jl li]at e;subst e;refine⟨by rw[aA];exact bL<|bq li,λl r=>?_⟩;have s1:ae _ (dc _ l<|.lst<|ps.map λ_=>V.int 0):=ay (ae.refl _) r;have s:dc H' l _ l=a_ (.lst<|ps.map λ_=>V.int 0):=ao;obtain⟨T,t,I,J⟩:=O.nx (o:=.lst<|ps.map λ_=>V.int 0) n r;have p:=s1 _ _ hm;generalize dc _ l _=v at s1 s t p ⊢;refine⟨_,y,m,C,dx,fs,xz,p,cl,B,li,?_⟩;have u:br m v (dc v m<|.ins C dx<|aJ c (.ref l) fs):=br.dc;exact q l _ _ _ xz (by have:=rY c (V.ref l) fs;lia) ao (u.lst p s) ((br.of s1).gw u) (t.keep<|qj (x:=m)) I J
section
variable{t:bf}{C CT:e_}{u:nG}
def uu.ok{st:bx}(F:uu K x qual st f fd d)(S:aX N ps (aM st))
  (b:∀(aH:f_)(A:h_)(outer:List Env)(s:g_)(H:Hp)(vs:List V)(Q:VK)(E:XK),fz k (A.deeper<|db qual (aM st) s.zS f aH)->sp vs H Q E->
   ∃t,fD (pO aF P w K mg gW N qual (aM st) f aH A outer s H E).pY (jb st) t/\t {nx:=λ_ H'=>Q .aO H',rt:=Q} (start N vs) H) (len:∀vs H Q E,sp vs H Q E->vs.length=ps.length:=by intro _ _ _ _ h;(repeat obtain⟨_,h⟩:=h);subst_vars;rfl):aG P w K mg gW aF (k+1) f fd ps sp:=by
 refine xD F.ex λoc od T kV doc pm an aH ct iK a=>Fz a λc1 d1 n1 oK tk a lk c _=>?_;subst a;exact yg lk c S len λA outer s H vs Q E e g=>aD (b _ A _ s H _ Q E e g) λt h q=>az t h.pY q
def nn(h:us.length=3):∃a b c,us=[a,b,c]/\True:=by
 cases us with
 | nil=>cases h
 | cons a l=>
  cases l with
  | nil=>cases h
  | cons b l=>exact oE (Th.mp<|BN<|BN h) λc z=>⟨a,b,c,by rw[z],trivial⟩
def aiK(F:uu K Q_ "Machine.__init__" Gy f fd L_):dL K fd jp []:=by
 refine xD F.ex λoc od T kV doc pm an aH ct iK d=>Fz d λc1 d1 n1 oK tk d lk i g=>?_;subst d;intro s us h e;obtain⟨a,b,c,z,_⟩:=(nn<|by rw[nK]at e;exact e);subst z;exact W.binds_K h xz g xz xz xz
def Gf(t:bf)(C CT:e_):Sp:=λvs H Q _=>∃m dx v ps kd,vs=[.ref m,v,.str kd]/\H m=a_ (.ins C dx [])/\iq H v ps/\cW ps/\(kd = L_\/kd = l_\/kd = H_)/\
 ∀H' A hD,bb t C CT H' m A (cg kd ps)->ke hD m A->v=.ref A.pg->br m H H'->(∀b,cN m A b->b=m\/H b=b_)->Q .aO H'
def ahN:aX jp jp (aM Gy):=aZ
def agd{f:e_}{fd:ik}(F:uu K Q_ "Machine.__init__" Gy f fd L_)(r:gX K C)(T:sv K mg t)(kh:mg W_ = b_)(gj:mg "range"=b_)(DK:Dp P w K mg gW 6 "look_over" hX NF)(DT:Dp P w K mg gW 3 "tray_of" [Z_] (VZ CT))(DS:Dp P w K mg gW 5 "steps_of" iL (Ve t)):aG P w K mg gW aF 7 f fd jp (Gf t C CT):=by
 refine aD T.cn.names λuN mN rN=>aD T.cn.eB λuR mR rR=>F.ok ahN λaH A _ s H vs Q E hr h=>?_
 obtain⟨m,dx,v,ps,kd,ab,hm,hP,g,lL,q⟩:=h;subst ab;have oQ:=hr.mono (show 3<=6 by decide);have RQ:=hr.mono (show 5<=6 by decide)
 refine let R1:TS:=_;let R2:TS:=_;let R3:TS:=_;let R4:TS:=_;let R5:TS:=_;let R6:TS:=_;let R7:TS:=_;let R8:TS:=_;let R9:TS:=_;let J:TS:=_;⟨_,au (eE<|bA DK hr xz<|aa (pv 1) af) (pR J (au (dY (pv 0) (dZ (N:=[Z_,X_]) (idx:=[2]) xz (cB.of<|by kernel_rfl) (eD<|aw _) (nZ<|pv 1) (λ_ _ _ _=>bo (i:=1) amo xz (aL xz)<|.inr xz) (λ_ _ _ _=>eP)
    λ_ _ _ _=>bA DT oQ xz<|aa (pv 0) af) xz)
  (pR R9 (au (dY (pv 0) (pv 1) xz) (pR R8 (au (dY (pv 0) (pv 2) xz) (pR R7 (au (dY (pv 0) (fK kC xz kh iE (aa (dZ (N:=[X_]) (idx:=[]) xz (cB.of<|by kernel_rfl) (eD<|bg _) (nZ<|pv 1) (λ_ _ _ _=>bo (i:=0) Hg xz (aL xz)<|.inr xz) (λ_ _ _ _=>eP)
    λ_ _ _ _=>bA DS RQ xz<|aa (pv 0) af) af)) xz)
  (pR R6 (au (dY (pv 0) (dZ (N:=[X_]) (idx:=[]) xz (cB.of<|by kernel_rfl) (eD<|bg _) (nZ<|pv 1) (λ_ _ _ _=>bo (i:=0) Hg xz (aL xz)<|.inr xz) (λ_ _ _ _=>eP) λ_ _ _ _=>ar) xz)
  (pR R5 (au (dY (pv 0) (dZ (N:=[X_]) (idx:=[]) xz (cB.of<|by kernel_rfl) (eD<|bg _) (nZ<|pv 1) (λ_ _ _ _=>bo (i:=0) Hg xz (aL xz)<|.inr xz) (λ_ _ _ _=>eP) λ_ _ _ _=>ar) xz)
  (pR R4 (au (dY (pv 0) (dZ (N:=[X_]) (idx:=[]) xz (cB.of<|by kernel_rfl) (eD<|bg _) (nZ<|pv 1) (λ_ _ _ _=>bo (i:=0) Hg xz (aL xz)<|.inr xz) (λ_ _ _ _=>eP) λ_ _ _ _=>aS Og (eX<|aa ar af)<|eW xz mR rR) xz)
  (pR R3<|au (dY (pv 0) (aS Og (eX<|aa ar af)<|eW xz mN rN) xz)<|pR R2<|au (dY (pv 0) (eX af) xz)<|pR R1<|ax<|dY (pv 0) (dZ (N:=[l_]) (idx:=[]) xz (cB.of<|by kernel_rfl) (eD<|bg _) (lu xz gj<|aa (eW xz mN rN) af) (λ_ _ _ _=>bo (i:=0) amm xz (aL xz)<|.inr xz) (λ_ _ _ _=>eP) λ_ _ _ _=>eX af) xz))))))))))))))),?_⟩
 refine fh (id hP) λpg aT ab X hpp=>?_;subst ab;refine vr xz<|⟨(.ref _),ps,xz,hP,g,(λH1 s1=>?_)⟩;have dm:=r_ hpp;have hle:=g.le;have npm:=iU X hm (by intro z;cases z);have tD:=s1 _ _ hm;obtain⟨R0,o0,r0⟩:∃R,hJ H m H1 R/\R m 2:=⟨λa v=>a=m/\v=2,⟨⟨λ_=>2,λa v z=>z.2.gx⟩,λa v z e=>(by rw[z.1,tD]at e;cases e),λa v z=>.inl z.1,λb z=>s1.free z⟩,xz,xz⟩
 have Dx:V.str kd=.str L_\/V.str kd=.str l_\/V.str kd=.str H_:=by
  obtain e|e|e:=lL
  .exact .inl (by rw[e])
  .exact .inr (.inl<|by rw[e])
  exact .inr (.inr<|by rw[e])
 refine az _ xz<|eC pg xz ⟨_,aq.of<|s1 _ _ X⟩<|dX (n:=aT.length) (λi ys H'=>i<=aT.length/\∃ts:List (e_×e_×List e_),ys=(ts.map λx=>V.ref x.1)/\ts.length=i/\ae H1 H'/\(∀x∈ts,dS H' x.1 CT kd 0 [] x.2.1 x.2.2)/\∃R,hJ H m H' R/\(∀a v,R0 a v->R a v)/\∀j x,ts[j]?=a_ x->∀b∈x.1::x.2.1::x.2.2,R b<|28+6*j) (bL<|bq<|by exact w8) ⟨bg _,⟨[],xz,xz,ae.refl _,λx B=>(by cases B),R0,o0,λ_ _ z=>z,λj x z=>(by simp at z)⟩⟩ ?_ ?_ ?_ ?_ ?_
 .intro i ys H' c;obtain⟨_,ts,rfl,rfl,_⟩:=c;rw[aA];exact aw _
 .intro i ys H' hi c;obtain⟨_,ts,_,_,s2,_⟩:=c;exact gU _ _ (aq.of<|(s1.gw s2) _ _ X)<|aI hi
 .intro ys H' c;obtain⟨_,ts,_,_,s2,_⟩:=c;exact az _ (aq.of<|(s1.gw s2) _ _ X)<|aw _
 .intro i ys H2 hi c z H3 Z;obtain⟨_,ts,rfl,rfl,s2,ht,R,o2,r2,r3⟩:=c;obtain⟨eH,cU⟩:=Z;subst eH;dsimp only[je,g8];rw[eT rfl];refine vr xz (eC _ xz lL λH4 x q' qr T4 k4 iA=>?_);have s4:ae _ H4:=λb o e=>k4 b o (by simp) e
  obtain⟨R',o4,i4,n4⟩:=o2.nxs (28+6*ts.length) (λb=>b∈x::q'::qr) (λb z=>s4.free z) iA (λb D y=>by
   refine oE (T4.there b D) λo e=>?_;rw[e]at y;cases y)
  refine⟨hi,⟨ts++[(x,q',qr)],by rw[dC];rfl,by rw[cQ];rfl,s2.gw s4,λy d=>?_,R',o4,λa v z=>i4 a v<|r2 a v z,λj y d b D=>?_⟩⟩
  .obtain d|d:=iC.mp d
   .exact(ht y d).keep (λb _ o e=>s4 b o e) λb xs e=>s4 b _ e
   rw[da.mp d];exact T4
  obtain d|⟨e1,e2⟩:=zZ d
  .exact i4 _ _ (r3 j y d b D)
  subst e1;subst e2;exact n4 b D
 intro ys H2 c;obtain⟨_,ts,rfl,tw,s2,ht,R1,o2,i1,r1⟩:=c;refine⟨by rw[aA];exact bL<|bq (by exact wu),λlt IM=>eJ (o2.nw (o:=.lst<|ts.map λx=>V.ref x.1) 4 IM) λH3 R2 e s3 cO o3 i2 r2=>?_⟩;rw[<-e];clear e;have lK:=s3 _ _<|s2 _ _ tD;have T3:=λx B=>(ht x B).keep (λb _ o e=>s3 b o e) λb xs e=>s3 b _ e;have K3:br m H H3:=br.of<|s1.gw<|s2.gw s3;refine vr xz<|jT m C _ _ xz lK r.cl r.fu qc (eJ (vX "trays" (V.ref lt) lK (aw 0) o3) λko H4 kx e Bu k4 Ji o4=>?_);rw[<-kx,<-e];clear e;have K4:=K3.gw k4;refine az _ xz<|vr xz<|jT m C _ _ xz Ji r.cl r.program (by exact wb) (eJ (vX P_ (V.ref pg) Ji Bu o4) λmP H5 jQ e xb k5 Bp o5=>?_);rw[<-jQ,<-e];clear e;have K5:=K4.gw k5;refine az _ xz<|vr xz<|jT m C _ _ xz Bp r.cl r.kind (by exact wb) (eJ (vX Z_ (V.str kd) Bp xb o5) λqP H6 jz e Bs k6 Sf o6=>?_);rw[<-jz,<-e];clear e;have K6:=K5.gw k6;have HI:=K6.tup hm _ _ X;refine az _ xz<|eC pg xz ⟨_,aq.of HI⟩<|dX (n:=aT.length) (λi ys H'=>i<=aT.length/\ae H6 H'/\bw (Aj t H') ys (ps.take i)) (bL<|bq<|by exact w8) (fY (bg _) (ae.refl _) .nil) ?_ ?_ ?_ ?_ ?_
 .intro i ys H' c;obtain⟨_,_,e⟩:=c;rw[r_ e,fJ];exact xl
 .intro i ys H' hi c;obtain⟨_,s,_⟩:=c;exact gU _ _ (aq.of<|s _ _ HI)<|aI hi
 .intro ys H' c;obtain⟨_,s,_⟩:=c;exact az _ (aq.of<|s _ _ HI)<|aw _
 .intro i ys H' hi c z dQ Z;obtain⟨_,s7,e⟩:=c;obtain⟨eH,cU⟩:=Z;subst eH;have hz:=cU _<|aq.of<|s7 _ _ HI;refine aD (xC hpp hz) λp hp hI=>oA (g.part p<|a8 hp) λg1 g2=>?_;dsimp only[je,g8];rw[eT rfl];refine vr xz<|⟨z,p,xz,((hI.keep<|K6.tup hm).keep λb xs e=>s7 _ _ e),g1,g2,(λH8 b us Y nb D tm=>⟨hi,s7.gw Y,?_⟩)⟩;rw[iN,hp];exact Kr ⟨b,us,xz,D,tm⟩ (Paired.bp e λ_ _ q=>q.keep (λb xs e=>Y _ _ e) λb C dx fs e _=>Y _ _ e)
 intro ys H7 c;obtain⟨_,s7,e7⟩:=c;have apV:=r_ e7;rw[fJ]at apV;rw[jl li]at e7;refine⟨bL<|bq li,λr7 nr7=>⟨r7,ys,xz,.inl ⟨ag.of ao,λst Bc=>?_⟩⟩⟩;have Y:ae _ (dc _ _<|.tup ys):=ay (ay (ae.refl _) nr7) Bc;have cZ:dc (dc H7 r7<|.lst ys) _ _ st=a_ (.tup ys):=ao;generalize dc _ _ _=H8 at Y cZ ⊢;have hs8:=Paired.bp e7 λ_ _ q=>q.keep (λb xs e=>Y _ _ e) λb C dx fs e _=>Y _ _ e;have ID:=s7.gw Y;have uP:=ID _ _ Sf;have o8:=o6.keep (λb z=>ID.free z);have K8:=K6.gw<|br.of ID;refine vr xz<|jT m C _ _ xz uP r.cl r.steps (by exact wb) (eJ (vX "steps" (V.ref st) uP Bs o8) λfs4 H9 kv e tG k9 hm9 o9=>?_);rw[<-kv,<-e];clear e;have K9:=K8.gw k9;have apH:=K9.tup hm _ _ X;refine Ww 6 xz xz apH dm hle hm9 r.cl r.places tG qc o9 λpl H11 fs5 R3 kr rm aaW SJ k10 o11 i10 r10=>?_;have K11:=K9.gw k10;have anV:=K11.tup hm _ _ X;refine Ww 8 xz xz anV dm hle aaW r.cl r.counts rm qc o11 λct H13 fs6 R4 jk tE aaV hct k12 o13 i12 r12=>?_;have K13:=K11.gw k12;have PN:=K13.tup hm _ _ X;refine az _ xz<|eC pg xz ⟨_,aq.of PN⟩<|dX (n:=aT.length) (λi ys H'=>i<=aT.length/\∃rs:List e_,ys=rs.map V.ref/\rs.length=i/\ae H13 H'/\(∀a∈rs,H' a=a_ (.lst<|([0,0,0,0]:List Int).map V.int))/\∃R,hJ H m H' R/\(∀a v,R4 a v->R a v)/\∀(j:Nat)a,rs[j]?=a_ a->R a (24+6*j)) (bL<|bq<|by exact w8) ⟨bg _,⟨[],xz,xz,ae.refl _,λx B=>(by cases B),R4,o13,λ_ _ z=>z,λj x z=>(by simp at z)⟩⟩ ?_ ?_ ?_ ?_ ?_
 .intro i ys H' c;obtain⟨_,rs,rfl,rfl,_⟩:=c;rw[aA];exact aw _
 .intro i ys H' hi c;obtain⟨_,rs,_,_,s,_⟩:=c;exact gU _ _ (aq.of<|s _ _ PN)<|aI hi
 .intro ys H' c;obtain⟨_,rs,_,_,s,_⟩:=c;exact az _ (aq.of<|s _ _ PN)<|aw _
 .intro i ys H' hi c z dQ Z;obtain⟨_,rs,rfl,rfl,s,oO,R,oR,iR,Ro⟩:=c;obtain⟨eH,cU⟩:=Z;subst eH;dsimp only[je,g8];rw[eT rfl];refine⟨qc,λy ny=>⟨y,4,_,xz,xz,ao,qc,qc,qc,λx nx=>?_⟩⟩;have sy:ae _ (dc _ y<|.lst [.int 0]):=ay (ae.refl _) ny;have oy:=oR.keep (λb z=>sy.free z);refine a9 (oy.nx (o:=.lst<|([0,0,0,0]:List _).map V.int) (24+6*rs.length) nx) λR' o' i' r'=>?_;have sx:ae _ (dc _ x<|.lst<|([0,0,0,0]:List _).map V.int):=ay sy nx;have B:dc (dc dQ y<|.lst [.int 0]) x _ x=a_ (.lst<|([0,0,0,0]:List Int).map V.int):=ao;refine⟨hi,⟨rs++[x],by rw[dC];rfl,by rw[cQ];rfl,s.gw sx,λy d=>?_,R',o',λa v z=>i' a v<|iR a v z,λj y d=>?_⟩⟩
  .obtain d|d:=iC.mp d
   .exact sx _ _ (oO y d)
   rw[da.mp d];exact B
  obtain d|⟨e1,e2⟩:=zZ d
  .exact i' _ _ (Ro j y d)
  subst e1;subst e2;exact r'
 intro ys H14 c;obtain⟨_,rs,rfl,apT,Bb,oO,R5,o14,i14,r14⟩:=c;refine⟨by rw[aA];exact bL<|bq (by exact wu),λrg IL=>eJ (o14.nw (o:=.lst<|rs.map V.ref) 10 IL) λH15 R6 e wK gj o15 i15 r15=>?_⟩;rw[<-e];clear e;have HK:=wK _ _<|Bb _ _ aaV;have apD:=λa ha=>wK _ _<|oO a ha;have K15:=K13.gw<|br.of<|Bb.gw wK;refine vr xz<|jT m C _ _ xz HK r.cl r.eB (by exact wb) (eJ (vX "regs" (V.ref rg) HK tE o15) λfs7 BB W e zg k16 apS o16=>?_);rw[<-W,<-e];clear e;have K16:=K15.gw k16;refine⟨qc,λy ny=>⟨y,12,_,xz,xz,ao,qc,qc,qc,λce nce=>?_⟩⟩;have sy:ae _ (dc _ y<|.lst [.int 0]):=ay (ae.refl _) ny;have oy:=o16.keep (λb z=>sy.free z);refine a9 (oy.nx (o:=.lst<|(dU 12 0).map V.int) 12 nce) λR7 o17 i17 r17=>?_;have IJ:ae _ (dc _ _<|.lst<|(dU 12 0).map V.int):=ay sy nce;have EB:dc (dc BB y<|.lst [.int 0]) _ _ ce=a_ (.lst<|(dU 12 (0:Int)).map V.int):=ao;rw[show (dU (12:Int).toNat [V.int 0]).flatten=(dU 12 (0:Int)).map V.int from rfl];generalize dc (dc BB y<|.lst [.int 0]) ce (.lst<|(dU 12 (0:Int)).map V.int)=H17 at IJ EB o17 ⊢;have QK:=IJ _ _ apS;have K17:=K16.gw<|br.of IJ;refine vr xz<|jT m C dx fs7 xz QK r.cl r.cells (by exact wb) (eJ (vX "cells" (V.ref ce) QK zg o17) λSK H18 U e Sv k18 apR o18=>?_);rw[<-U,<-e];clear e;have K18:=K17.gw k18;refine⟨qc,λac nac=>eJ (o18.nw (o:=.lst []) 14 nac) λH19 R8 e Ri rA o19 i19 r19=>?_⟩;rw[<-e];clear e;have QJ:=Ri _ _ apR;have K19:=K18.gw<|br.of Ri;refine vr xz<|jT m C dx SK xz QJ r.cl r.iY (by exact wb) (eJ (vX "acts" (V.ref ac) QJ Sv o19) λfs9 H20 O e Su k20 apQ o20=>?_);rw[<-O,<-e];clear e;have K20:=K19.gw k20;refine⟨12,xz,qc,qc,?_⟩;rw[show (12:Int).toNat=12 from rfl];refine dX (n:=12) (λi ys H'=>i<=12/\∃rs:List e_,ys=rs.map V.ref/\rs.length=i/\ae H20 H'/\(∀a∈rs,H' a=a_ (.lst<|([]:List Int).map V.int))/\∃R,hJ H m H' R/\(∀a v,R8 a v->R a v)/\∀(j:Nat)a,rs[j]?=a_ a->R a (26+6*j)) (bL<|bq li) ⟨bg _,⟨[],xz,xz,ae.refl _,λx B=>(by cases B),R8,o20,λ_ _ z=>z,λj x z=>(by simp at z)⟩⟩ ?_ ?_ ?_ ?_ ?_
 .intro i ys H' c;obtain⟨_,rs,rfl,rfl,_⟩:=c;rw[aA];exact aw _
 .intro i ys H' hi c;obtain⟨_,rs,_,_,s,_⟩:=c;exact hi
 .intro ys H' c;obtain⟨_,rs,_,_,s,_⟩:=c;exact aw _
 .intro i ys H' hi c z dQ Z;obtain⟨_,rs,rfl,rfl,s,oO,R,oR,iR,Ro⟩:=c;obtain⟨eH,cU⟩:=Z;subst eH;dsimp only[je,g8];rw[eT rfl];refine⟨qc,λx nx=>a9 (oR.nx (o:=.lst<|([]:List Int).map V.int) (26+6*rs.length) nx) λR' o' i' r'=>?_⟩;have sx:ae dQ (dc dQ x<|.lst<|([]:List Int).map V.int):=ay (ae.refl _) nx;have B:dc dQ x (.lst<|([]:List Int).map V.int) x=a_ (.lst<|([]:List Int).map V.int):=ao;refine⟨hi,⟨rs++[x],by rw[dC];rfl,by rw[cQ];rfl,s.gw sx,λy d=>?_,R',o',λa v z=>i' a v<|iR a v z,λj y d=>?_⟩⟩
  .obtain d|d:=iC.mp d
   .exact sx _ _ (oO y d)
   rw[da.mp d];exact B
  obtain d|⟨e1,e2⟩:=zZ d
  .exact i' _ _ (Ro j y d)
  subst e1;subst e2;exact r'
 intro ys H21 c;obtain⟨_,cs,rfl,aaX,Rh,uV,R9,o21,i21,r21⟩:=c;refine⟨by rw[aA];exact bL<|bq (by exact w6),λcm IT=>eJ (o21.nw (o:=.lst<|cs.map V.ref) 16 IT) λH22 J e II hcm o22 i22 r22=>?_⟩;rw[<-e];clear e;have HJ:=II _ _<|Rh _ _ apQ;have ap0:=λa ha=>II _ _<|uV a ha;have K22:=K20.gw<|br.of<|Rh.gw II;refine vr xz<|jT m C dx fs9 xz HJ r.cl r.kE (by exact wb) (eJ (vX "comers" (V.ref cm) HJ Su o22) λaa2 JC G e asB IY apP S=>?_);rw[<-G,<-e];clear e;have K23:=K22.gw IY;have n20:=(br.of (m:=m)<|Rh.gw II).gw IY;have n19:=k20.gw n20;have n18:=(br.of (m:=m) Ri).gw n19;have n17:=k18.gw n18;have n16:=(br.of (m:=m) IJ).gw n17;have Rv:=k16.gw n16;have n13:=(br.of (m:=m)<|Bb.gw wK).gw Rv;have n11:=k12.gw n13;have n9:=k10.gw n11;have n8:=k9.gw n9;have n6:=(br.of (m:=m) ID).gw n8;have n3:=k4.gw<|k5.gw<|k6.gw n6;have j9:=i22;have j8:∀a v,R8 a v->J a v:=λa v z=>j9 _ _<|i21 _ _ z;have j7:∀a v,R7 a v->J a v:=λa v z=>j8 _ _<|i19 _ _ z;have j6:∀a v,R6 a v->J a v:=λa v z=>j7 _ _<|i17 _ _ z;have j5:∀a v,R5 a v->J a v:=λa v z=>j6 _ _<|i15 _ _ z;have j4:∀a v,R4 a v->J a v:=λa v z=>j5 _ _<|i14 _ _ z;have j3:∀a v,R3 a v->J a v:=λa v z=>j4 _ _<|i12 _ _ z;have j2:∀a v,R2 a v->J a v:=λa v z=>j3 _ _<|i10 _ _ z;have j1:∀a v,R1 a v->J a v:=λa v z=>j2 _ _<|i2 _ _ z;have j0:∀a v,R0 a v->J a v:=λa v z=>j1 _ _<|i1 _ _ z;refine oE S.l λhD I=>?_;have lm:=I _ _<|j0 _ _ r0;have tk:=aE (aE (jo kx) jQ dk) jz dk;have apz:ts.length=ps.length:=by exact wo
 have gZ:rs.length=ps.length:=by exact wo
 have no:∀x∈jn,aa2.lookup x=none:=by
  intro x B
  have n:∀y∈(["trays",P_,Z_,"steps","places","counts","regs","cells","acts","comers"]:List d0),x≠y:=by
   intro y d e;subst e
   revert B
   revert x
   decide +kernel
  have hn:([]:List (d0×V)).lookup x=none:=rfl;exact aE (aE (aE (aE (aE (aE (aE (aE (aE (aE hn kx<|n _<|by simp) jQ<|n _<|by simp) jz<|n _<|by simp) kv<|n _<|by simp) kr<|n _<|by simp) jk<|n _<|by simp) W<|n _<|by simp) U<|n _<|by simp) O<|n _<|by simp) G<|n _ (by simp)
 have M:bb t C CT JC m ⟨lt,ts,pg,st,pl,ct,rg,rs,ce,ac,cm,cs⟩ (cg kd ps):=by
  refine⟨⟨dx,aa2,apP,⟨aE (aE (aE (aE (aE (aE (aE (aE (aE (jo kx) jQ dk) jz dk) kv dk) kr dk) jk dk) W dk) U dk) O dk) G dk,aE (aE (aE (aE (aE (aE (aE (aE (jo jQ) jz dk) kv dk) kr dk) jk dk) W dk) U dk) O dk) G dk,aE (aE (aE (aE (aE (aE (aE (jo jz) kv dk) kr dk) jk dk) W dk) U dk) O dk) G dk,aE (aE (aE (aE (aE (aE (jo kv) kr dk) jk dk) W dk) U dk) O dk) G dk,aE (aE (aE (aE (aE (jo kr) jk dk) W dk) U dk) O dk) G dk,aE (aE (aE (aE (jo jk) W dk) U dk) O dk) G dk,aE (aE (aE (jo W) U dk) O dk) G dk,aE (aE (jo U) O dk) G dk,aE (jo O) G dk,jo G,no,by exact w4⟩⟩,n3.lst lK cO,?_,hP.keep<|K23.tup hm,⟨ys,n8.tup uP _ _ cZ,?_⟩,?_,?_,Rv.lst HK gj,?_,n17.lst QK EB,⟨[],n19.lst QJ rA,.nil⟩,IY.lst HJ hcm,?_⟩
  .refine Ks apz λx B=>(T3 x B).keep (λb D o e=>n3.k b o (λz=>?_) e)<|n3.tup lK;refine oE (zC B) λj hj=>?_;have:=I _ _<|j1 _ _<|r1 j x hj b D;rw[z,lm]at this;exact wk
  .refine Paired.bp hs8 λ_ _ q=>q.keep (n8.tup uP) λb C' EV mQ e h=>n8.k b _ (λz=>?_) e;obtain⟨x,us,v,e1,e2⟩:=h;rw[z,uP]at e;cases e;rw[e2,vC "trays" dk]at tk;cases tk
  .have h:=n11.lst aaW SJ;rw[h];show _=a_ (HO.lst<|(ps.map λ_=>k0).map λk=>V.int (k.pl:Nat));rw[i7];rfl
  .have h:=n13.lst aaV hct;rw[h];show _=a_ (HO.lst<|(ps.map λ_=>k0).map λk=>V.int (k.ct:Nat));rw[i7];rfl
  .exact Ks (F:=λa(k:Ck)=>JC a=a_ (.lst<|k.rg.map V.int)) (y:=k0) gZ λa ha=>Rv.lst HK<|apD a ha
  exact UJ (F:=λa(o:List Int)=>JC a=a_ (.lst<|o.map V.int)) (y:=[]) aaX λa ha=>IY.lst HJ<|ap0 a ha
 have L:ke hD m ⟨lt,ts,pg,st,pl,ct,rg,rs,ce,ac,cm,cs⟩:=⟨lm,I _ _<|j2 _ _ r2,I _ _<|j3 _ _ r10,I _ _<|j4 _ _ r12,I _ _<|j6 _ _ r15,I _ _<|j7 _ _ r17,I _ _<|j8 _ _ r19,I _ _ r22,λi a z=>I _ _<|j5 _ _<|r14 i a z,λi a z=>I _ _<|j9 _ _<|r21 i a z,λi x z b D=>I _ _<|j1 _ _<|r1 i x z b D⟩;refine q JC _ hD M L xz K23 λb D=>?_;cases D with
 | m=>exact .inl xz
 | lt=>exact S.f _ _<|j2 _ _ r2
 | pl=>exact S.f _ _<|j3 _ _ r10
 | ct=>exact S.f _ _<|j4 _ _ r12
 | rg=>exact S.f _ _<|j6 _ _ r15
 | ce=>exact S.f _ _<|j7 _ _ r17
 | ac=>exact S.f _ _<|j8 _ _ r19
 | cm=>exact S.f _ _ r22
 | rs h=>
  refine oE (zC h) λj hj=>?_;exact S.f _ _<|j5 _ _<|r14 j _ hj
 | cs h=>
  refine oE (zC h) λj hj=>?_;exact S.f _ _<|j9 _ _<|r21 j _ hj
 | ts h h2=>
  refine oE (zC h) λj hj=>?_;exact S.f _ _<|j1 _ _<|r1 j _ hj _ h2
end
structure kP(n:Nat)(S:Mc):Prop where
 wf:iu S
 ac:S.ac.length<=n
 ov:∀o∈S.ov,o.length<=n
def kP.ovf(W:kP n S)(h:n<=16000):yO S:=λo a=>dq (W.ov o a) h
structure qW(n:Nat)(S S':Mc)(c:Nat)(k k':Ck):Prop where
 ck:S'.ck=S.ck.set c k'
 ps:S'.ps=S.ps
 kd:S'.kd=S.kd
 rg:k'.rg.length=k.rg.length
 bd:S'.bd.length=S.bd.length
 HV:S'.ov.length=S.ov.length
 Ii:S.ac.length<=S'.ac.length
 Ih:S'.ac.length<=S.ac.length+1
 es:k'.es.length<=S'.ac.length
 ov:∀o∈S'.ov,o.length<=n+1
def ah'(W:kP n S)(i:Nat):(S.ov.getD i []).length<=n:=by
 cases h:S.ov[i]? with
 | none=>rw[cH,h];exact bg _
 | some o=>rw[cH,h];exact W.ov o<|a8 h
def Yl(W:kP n S):∀o∈S.ov.set i (S.ov.getD i []++[d]),o.length<=n+1:=by
 intro o a;obtain h|h:=EW a
 .exact tO (W.ov o h)
 rw[h,cQ];exact BJ<|ah' W i
def Pa(W:kP n S):∀o∈S.ov,o.length<=n+1:=λo a=>tO<|W.ov o a
def ag5(es:List hO)(n:Int):(nj es n).length<=es.length:=List.length_eraseP_le
def vo{a:Type}{l:List a}{c:Nat}{k:a}(h:l[c]?=a_ k):l.set c k=l:=by
 refine oE (b0.mp h) λb e=>?_;rw[<-e];exact List.set_getElem_self _
section
variable{S:Mc}{n c:Nat}{k:Ck}
def Wz(W:kP n S)(a:S.ck[c]?=a_ k):qW n S S c k k:=⟨(vo a).gx,xz,xz,xz,xz,xz,aw _,jC _,W.wf.es k<|a8 a,Pa W⟩
def Gn(h:qW n S S' c k k')(a:c<S.ck.length)(r:Nat)(v:Int):qW n S (iG S' c r v) c k {k' with rg:=k'.rg.set r v}:=by
 have e:S'.ck[c]?=a_ k':=by rw[h.ck];exact gq a
 rw[xV e];exact⟨by show S'.ck.set c _=_;rw[h.ck,vj],h.ps,h.kd,by show (k'.rg.set r v).length=_;rw[gL];exact h.rg,h.bd,h.HV,h.Ii,h.Ih,h.es,h.ov⟩
def VF(W:kP n S)(h:qW n S S' c k k')(b:S'.ov=S.ov)(f:c<S.ck.length)(i:Nat):∃a,qW n S (ng S' c i) c k a/\a.pl=k'.pl/\a.ct=k'.ct:=by
 have e:S'.ck[c]?=a_ k':=by rw[h.ck];exact gq f
 unfold ng;rw[e];dsimp only;cases (bH k'.es i).head? with
 | none=>exact⟨k',h,xz,xz⟩
 | some x=>
  refine eC ({k' with es:=nj _ i}) ⟨by show S'.ck.set c _=_;rw[h.ck,vj],h.ps,h.kd,h.rg,?_,?_,h.Ii,h.Ih,dq (ag5 _ _) h.es,?_⟩ xz xz
  .show (S'.bd.set i _).length=_;rw[gL];exact h.bd
  .show (S'.ov.set i<|S'.ov.getD i []++[x.d]).length=_;rw[gL];exact h.HV
  show ∀o∈S'.ov.set i _,o.length<=n+1;rw[b];exact Yl W
def ai2{sz:Nat}(W:kP n S)(g:bu sz s)(a:S.ck[c]?=a_ k):∃k',qW n S (cA S c s) c k k'/\k'.pl=k.pl/\k'.ct=k.ct:=by
 have f:=(b0.mp a).1;have b:=Wz W a;cases g with
 | put r m h1 h2=>exact⟨_,Gn b f _ _,xz,xz⟩
 | add r o h1 h2=>
  have e:cA S c (U_,[r,o])=iG S c r ((k.rg.getD r 0+k.rg.getD o 0)%hV):=by
   unfold cA;rw[eN (show ¬(U_ : d0) = ac2 from dk),eT xz,a];rfl
  rw[e];exact eC _ (Gn b f _ _) xz xz
 | set i r h1 h2=>
  have e:cA S c (K_,[i,r])=setM S c i r:=by kernel_rfl
  rw[e];unfold setM;rw[a];dsimp only
  have d:qW n S (iH (yo S c i k<|k.rg.getD r 0) ⟨K_,c,i,b_,a_<|k.rg.getD r 0,b_⟩) c k {k with tn:=k.tn+1,es:=k.es++[⟨k.tn,i,k.rg.getD r 0,S.ac.length⟩]}:=by
   refine⟨xz,xz,xz,xz,xz,xz,?_,?_,?_,λo h=>Pa W o h⟩
   .show _<=(S.ac++[_]).length;rw[cQ];exact E9 _ _
   .show (S.ac++[_]).length<=_;rw[cQ];exact aw _
   show (k.es++[_]).length<=(S.ac++[_]).length;rw[cQ,cQ];exact BJ<|W.wf.es k<|a8 a
  split
  .refine a9 (VF W d xz f i) λt j l p=>?_;exact eC _ j l p
  exact eC _ d xz xz
 | look r i h1 h2=>
  have e:cA S c (J_,[r,i])=iG (iH S ⟨J_,c,i,a_ (dJ S k i).1,b_,(dJ S k i).2⟩) c r (dJ S k i).1:=by
   unfold cA;rw[eN (show ¬(J_ : d0) = ac2 from dk),eN (show ¬(J_ : d0) = U_ from dk),eN (show ¬(J_ : d0) = K_ from dk),eT rfl];show pD S c r i=_;unfold pD;rw[a]
  rw[e]
  have d:qW n S (iH S ⟨J_,c,i,a_ (dJ S k i).1,b_,(dJ S k i).2⟩) c k k:=by
   refine⟨b.ck,xz,xz,xz,xz,xz,?_,?_,?_,λo h=>Pa W o h⟩
   .show _<=(S.ac++[_]).length;rw[cQ];exact E9 _ _
   .show (S.ac++[_]).length<=_;rw[cQ];exact aw _
   show _<=(S.ac++[_]).length;rw[cQ];exact tO<|W.wf.es k<|a8 a
  exact eC _ (Gn d f _ _) xz xz
 | swap r i h1 h2=>
  have e:cA S c (I_,[r,i])=iG (iH (qu S i (k.rg.getD r 0) S.ac.length) ⟨I_,c,i,a_<|S.bd.getD i 0,a_<|k.rg.getD r 0,(S.ov.getD i []).getLast?⟩) c r (S.bd.getD i 0):=by
   unfold cA;rw[eN (show ¬(I_ : d0) = ac2 from dk),eN (show ¬(I_ : d0) = U_ from dk),eN (show ¬(I_ : d0) = K_ from dk),eN (show ¬(I_ : d0) = J_ from dk),eT rfl];show qC S c r i=_;unfold qC;rw[a]
  rw[e]
  have d:qW n S (iH (qu S i (k.rg.getD r 0) S.ac.length) ⟨I_,c,i,a_<|S.bd.getD i 0,a_<|k.rg.getD r 0,(S.ov.getD i []).getLast?⟩) c k k:=by
   refine⟨b.ck,xz,xz,xz,?_,?_,?_,?_,?_,?_⟩
   .show (S.bd.set i _).length=_;rw[gL]
   .show (S.ov.set i _).length=_;rw[gL]
   .show _<=(S.ac++[_]).length;rw[cQ];exact E9 _ _
   .show (S.ac++[_]).length<=_;rw[cQ];exact aw _
   .show _<=(S.ac++[_]).length;rw[cQ];exact tO<|W.wf.es k<|a8 a
   exact Yl W
  exact eC _ (Gn d f _ _) xz xz
 | clear=>
  have e:cA S c (M_,[])=S:=by kernel_rfl
  rw[e];exact eC k b xz xz
 | skip r q h1 h2 h3=>
  have e:cA S c (O_,[r,q])=S:=by kernel_rfl
  rw[e];exact eC k b xz xz
def YJ(W:kP n S)(hn:n<15000)(h:qW n S S' c k k')(d:S.ck[c]?=a_ k)(f:∀p,S.ps[c]?=a_ p->k'.pl<=p.length):kP (n+1) S':=by
 have j:=W.ac;have h2:=h.Ih;have h1:=h.Ii;have g:=(b0.mp d).1;refine⟨⟨by rw[h.ps];exact W.wf.good,by rw[h.ck,gL,h.ps];exact W.wf.len,by rw[h.bd];exact W.wf.bd,by rw[h.HV];exact W.wf.ov,?_,?_,li,?_⟩,li,h.ov⟩
 .intro x a;rw[h.ck]at a;obtain y|y:=EW a
  .exact W.wf.rg x y
  rw[y,h.rg];exact W.wf.rg k<|a8 d
 .intro i x p a b;rw[h.ps]at b;rw[h.ck]at a
  by_cases e:c=i
  .subst e;rw[gq g]at a;cases a;exact f p b
  rw[nI e]at a;exact W.wf.pl i x p a b
 intro x a;rw[h.ck]at a;obtain y|y:=EW a
 .exact dq (W.wf.es x y) h1
 rw[y];exact h.es
def afn{s:Tl}{rg:List Int}{pl:Nat}{p:Pt}(g:bu p.length s)(h:pl<p.length):dH s rg pl<=p.length:=by
 unfold dH
 split
 .rename_i a
  cases g with
  | skip r q h1 h2 h3=>exact h2
  | put=>exact f' (show ("put":d0)="skip" from a.1) dk
  | add=>exact f' (show ("add":d0)="skip" from a.1) dk
  | set=>exact f' (show ("set":d0)="skip" from a.1) dk
  | look=>exact f' (show ("look":d0)="skip" from a.1) dk
  | swap=>exact f' (show ("swap":d0)="skip" from a.1) dk
  | clear=>exact f' a.1 dk
 exact h
def aiJ{mv:Mv}(W:kP n S)(hn:n<15000)(h:mv∈gF S):kP (n+1) (cV S mv)/\(cV S mv).kd=S.kd/\(cV S mv).ps=S.ps/\(cV S mv).ck.length=S.ck.length:=by
 obtain⟨c,rfl,d,r⟩|⟨c,k,i,rfl,a,A⟩:=B0 h
 .obtain⟨k,p,s,_,a,b,j,_⟩:=Mm W.wf d r;refine cc (W.wf.part a) λt m _ _ u=>?_;have v:t=p:=by rw[b]at m;exact(c8 m).gx
  subst v;have g:=u s<|a8 j;refine a9 (ai2 W g a) λk' f l x=>?_
  have e:cV S ("do",[(c:Int)])=pM (cA S c s) c s:=by
   unfold cV;rw[eT rfl];show uD S ((c:Int)).toNat=_;rw[fH];unfold uD;rw[a,b];dsimp only;rw[j]
  rw[e];have y:(cA S c s).ck[c]?=a_ k':=by rw[f.ck];exact gq d
  have z:=(b0.mp j).1
  have F:qW n S (pM (cA S c s) c s) c k {k' with pl:=dH s k'.rg k'.pl,ct:=k'.ct+1}:=by
   unfold pM;rw[y];exact⟨by show (cA S c s).ck.set c _=_;rw[f.ck,vj],f.ps,f.kd,f.rg,f.bd,f.HV,f.Ii,f.Ih,f.es,f.ov⟩
  refine⟨YJ W hn F a λq o=>?_,F.kd,F.ps,by rw[F.ck,gL]⟩;rw[b]at o;cases o;exact afn g<|l▸z
 have d:=(b0.mp a).1
 have e:cV S (at6,[(c:Int),i])=ng S c i.toNat:=by
  unfold cV;rw[eN (show ¬(at6 : d0)="do" from dk)];show ng S ((c:Int)).toNat _=_;rw[fH];rfl
 rw[e];refine a9 (VF W (Wz W a) xz d i.toNat) λB f l x=>?_;exact⟨YJ W hn f a λp b=>by rw[l];exact W.wf.pl c k p a b,f.kd,f.ps,by rw[f.ck,gL]⟩
end
def Oi(g:cW ps):kP 0 (cg kd ps):=by
 refine⟨⟨g,by show (ps.map _).length=_;rw[aA];rfl,by show (dU 12 0).length=12;rfl,by show (dU 12 _).length=12;rfl,?_,?_,bg _,?_⟩,aw _,?_⟩
 .intro k a;refine aD (b8.mp a) λ_ _ b=>?_;subst b;rfl
 .intro c k p a e;have:k∈(ps.map λ_=>k0):=a8 a;refine aD (b8.mp this) λ_ _ b=>?_;subst b;exact bg _
 .intro k a;refine aD (b8.mp a) λ_ _ b=>?_;subst b;exact aw _
 intro o d;rw[abr d];exact aw _
noncomputable def gG(k:Ck):Nat×List (Int×Int)×List Int:=(k.pl,k.es.map λe=>(e.n,e.num),k.rg)
def bT(S:Mc):List (Nat×List (Int×Int)×List Int)×List Int:=(S.ck.map gG,S.bd)
def jc(L:List Mc)(S:Mc):List Mc:=if bT S∈L.map bT then L else L++[S]
def pN(S:Mc)(L:List Mc)(mvs:List Mv):List Mc:=mvs.foldl (λL mv=>jc L<|cV S mv) L
noncomputable def aN(S0:Mc):Nat->List Mc
 | 0=>[S0]
 | k+1=>match (aN S0 k)[k]? with
  | some S=>pN S (aN S0 k)<|gF S
  | none=>aN S0 k
def afS(L:List Mc)(S:Mc):L <+: jc L S:=by
 unfold jc
 split
 .exact J' _
 exact List.prefix_append _ _
theorem Nt:∀{mvs:List Mv}{L:List Mc},L <+: pN S L mvs
 | [],L=>J' _
 | mv::mvs,L=>(afS L _).gw<|Nt (mvs:=mvs)
def BY(h:(aN S0 k)[k]?=a_ S):aN S0 (k+1)=pN S (aN S0 k) (gF S):=by
 rw[aN,h]
def Fv(h:(aN S0 k).length<=k):aN S0 (k+1)=aN S0 k:=by
 rw[aN,uZ h]
def VU(S0:Mc)(k:Nat):aN S0 k <+: aN S0 (k+1):=by
 cases h:(aN S0 k)[k]? with
 | some S=>rw[BY h];exact Nt
 | none=>rw[Fv<|xg.mp h];exact J' _
theorem Co(S0:Mc)(k:Nat):∀d,aN S0 k <+: aN S0 (k+d)
 | 0=>J' _
 | d+1=>(Co S0 k d).gw<|VU S0<|k+d
def ahj(S0:Mc)(h:j<=k):(aN S0 j).length<=(aN S0 k).length:=by
 have:=(Co S0 j<|k-j).length_le;rwa[Nat.add_sub_cancel' h]at this
theorem U7(h:(aN S0 k).length<=k):∀d,aN S0 (k+d)=aN S0 k
 | 0=>rfl
 | d+1=>by
  have ih:=U7 h d;show aN S0 (k+d+1)=_;rw[Fv (by rw[ih];lia),ih]
theorem XC{Pv:Mc->Prop}{mvs:List Mv}{L:List Mc}(h:∀T∈L,Pv T)(k:∀mv∈mvs,Pv<|cV S mv):∀T∈pN S L mvs,Pv T:=by
 induction mvs generalizing L with
 |nil=>exact h
 |cons mv mvs i=>
  refine i (L:=jc L<|cV S mv) (λT a=>?_) λm hm=>k m<|cu _ hm;unfold jc at a
  split at a
  .exact h T a
  obtain z|z:=iC.mp a
  .exact h T z
  rw[da.mp z];exact k mv bV
theorem LM{Pv:Nat->Mc->Prop}(m:Nat)(a:Pv 0 S0)(hm:∀k S,Pv k S->Pv (k+1) S)(b:∀k S mv,k<m->Pv k S->mv∈gF S->Pv (k+1) (cV S mv))(k:Nat)(hk:k<=m):∀S∈aN S0 k,Pv k S:=by
 induction k with
 |zero=>intro S h;rw[da.mp h];exact a
 |succ k i=>
  intro S h;have ih:=i<|Nat.le_of_succ_le hk;cases e:(aN S0 k)[k]? with
  | some T=>
   rw[BY e]at h;exact XC (λU c=>hm k U<|ih U c) (λmv d=>b k T mv hk (ih T<|a8 e) d) S h
  | none=>
   rw[Fv<|xg.mp e]at h;exact hm k S<|ih S h
def ah6(S:Mc)(h:(L.map bT).Nodup):((jc L S).map bT).Nodup:=by
 unfold jc
 split
 .exact h
 next n=>
 rw[dC,JV];refine⟨h,by simp,λa ha b c e=>n ?_⟩;rw[List.map_singleton,da]at c;rw[<-c,<-e];exact ha
theorem YL:∀{mvs:List Mv}{L:List Mc},(L.map bT).Nodup->((pN S L mvs).map bT).Nodup
 | [],_,h=>h
 | mv::mvs,L,h=>YL (mvs:=mvs)<|ah6 _ h
theorem MQ(S0:Mc):∀k,((aN S0 k).map bT).Nodup
 | 0=>by simp[aN]
 | k+1=>by
  cases h:(aN S0 k)[k]? with
  | some S=>rw[BY h];exact YL<|MQ S0 k
  | none=>rw[Fv<|xg.mp h];exact MQ S0 k
noncomputable def i3(k:Ck):ci:=.tuple<|k.rg.map .int
noncomputable def oj(k:Ck):ci:=.tuple (k.es.map λe=>.tuple [.int e.n,.int e.num])
noncomputable def yJ(S:Mc):ci:=.tuple<|S.bd.map .int
def jf(S:Mc):ci:=.tuple [.tuple (S.ck.map i3),yJ S]
def eQ(S:Mc):ci:=.tuple [.tuple (S.ck.map λk=>.int (k.pl:Nat)),.tuple<|S.ck.map oj,jf S]
def Mw{l a:List Int}(h:l.map nM=a.map nM):l=a:=(List.map_inj_right λx y e=>by cases e;rfl).mp h
def Yg{k k':Ck}(h:i3 k=i3 k'):k.rg=k'.rg:=Mw<|acf h
def afx(h:oj k=oj k'):(k.es.map λe=>(e.n,e.num))=k'.es.map λe=>(e.n,e.num):=by
 have h:=acf h
 have d:∀{l c:List hO},(l.map λe=>BL [.int e.n,.int e.num])=(c.map λe=>BL [.int e.n,.int e.num])->(l.map λe=>(e.n,e.num))=c.map λe=>(e.n,e.num):=by
  intro l
  induction l with
  | nil=>intro c h;cases c with
   | nil=>rfl
   | cons _ _=>cases h
  | cons x l ih=>intro c h;cases c with
   | nil=>cases h
   | cons y c=>
    rw[eV,eV]at h ⊢;obtain⟨h1,h2⟩:=tS h;rw[ih h2];injection h1 with h1
    injection h1 with a b
    injection a with a
    injection b with b _
    injection b with b
    rw[a,b]
 exact d h
theorem pi{e i j k:Type}{f:e->i}{g:e->j}{h:e->k}{l d:List e}(a:l.map f=d.map f)(b:l.map g=d.map g)(c:l.map h=d.map h):(l.map λx=>(f x,g x,h x))=d.map λx=>(f x,g x,h x):=by
 induction l generalizing d with
 |nil=>cases d with
  |nil=>rfl
  |cons=>cases a
 |cons x l q=>cases d with
  |nil=>cases a
  |cons y d=>rw[eV,eV]at a b c ⊢;obtain⟨m,n⟩:=tS a;obtain⟨o,p⟩:=tS b;obtain⟨c1,r⟩:=tS c;rw[q n p r,m,o,c1]
def als{pl wt rg:Ck->ci}{l d:List Ck}(h:(l.map λk=>(nM (k.pl:Nat),oj k,i3 k))=d.map λk=>(nM (k.pl:Nat),oj k,i3 k)):l.map gG=d.map gG:=by
 induction l generalizing d with
 | nil=>cases d with
  | nil=>rfl
  | cons _ _=>cases h
 | cons x l ih=>cases d with
  | nil=>cases h
  | cons y d=>
   rw[eV,eV]at h ⊢;obtain⟨h1,h2⟩:=tS h;rw[ih h2];injection h1 with a b
   injection b with b c
   injection a with a
   unfold gG;rw[Int.ofNat_inj.mp a,afx b,Yg c]
def LO{b:Type}{f:Ck->b}(c:∀k k',gG k=gG k'->f k=f k'){l a:List Ck}(h:l.map gG=a.map gG):l.map f=a.map f:=by
 induction l generalizing a with
 | nil=>cases a with
  | nil=>rfl
  | cons _ _=>cases h
 | cons x l ih=>cases a with
  | nil=>cases h
  | cons y a=>
   rw[eV,eV]at h ⊢;obtain⟨h1,h2⟩:=tS h;rw[c _ _ h1,ih h2]
def OJ(h:gG k=gG k'):k.pl=k'.pl/\oj k=oj k'/\i3 k=i3 k':=by
 injection h with a b
 injection b with b c
 unfold oj i3;rw[c,show (k.es.map λe=>BL [.int _,.int _])=(k.es.map λe=>(e.n,e.num)).map λp=>BL [.int p.1,.int p.2] by rw[i7];rfl,b,i7];exact⟨a,xz,xz⟩
def UB{S S':Mc}:eQ S=eQ S'↔bT S=bT S':=by
 constructor
 .intro h;injection h with h
  injection h with h1 h
  injection h with h2 h
  injection h with h3 _
  injection h1 with h1
  injection h2 with h2
  injection h3 with h3
  injection h3 with h3 h4
  injection h3 with h3
  injection h4 with h4 _
  injection h4 with h4
  unfold bT;rw[als (pl:=i3) (wt:=i3) (rg:=i3)<|pi h1 h2 h3,Mw h4]
 intro h;injection h with h1 h2
 unfold eQ jf yJ;rw[h2,LO (f:=λk=>nM (k.pl:Nat)) (λk k' e=>by rw[(OJ e).1]) h1,LO (f:=oj) (λk k' e=>(OJ e).2.1) h1,LO (f:=i3) (λk k' e=>(OJ e).2.2) h1]
def Ax(n:Nat)(l:List Int):bZ (n+1) (.tuple<|l.map .int)=true:=kZ.mpr λx a=>by
 obtain⟨i,_,rfl⟩:=b8.mp a;cases n <;> rfl
def Dq(h:∀x∈l,bZ n x=c_):bZ (n+1) (.tuple l)=true:=kZ.mpr h
def Dr{a:Type}{n:Nat}{f:a->ci}{l:List a}(h:∀x,bZ n (f x)=c_):bZ (n+1) (.tuple<|l.map f)=true:=Dq λx b=>by
 obtain⟨i,_,rfl⟩:=b8.mp b;exact h i
def YE(n:Nat)(k:Ck):bZ (n+2) (oj k)=true:=Dr λe=>Ax n [e.n,e.num]
def Aw(n:Nat)(S:Mc):bZ (n+3) (jf S)=true:=Dq λx a=>by
 obtain z|z:=bK.mp a
 .rw[z];exact Dr λk=>Ax n _
 rw[da.mp z];exact Ax _ _
def xR(S:Mc):bZ 8 (eQ S)=true:=Dq λx a=>by
 obtain z|z:=bK.mp a
 .rw[z];exact Dr λk=>rfl
 obtain z|z:=bK.mp z
 .rw[z];exact Dr (YE 4)
 rw[da.mp z];exact Aw 4 S
def fv(L:List Mc):List ci:=(L.filter pB).map jf
def MG(W:iu S)(h:pB S=c_):∀(c:Nat)(k:Ck)(p:Pt),S.ck[c]?=a_ k->S.ps[c]?=a_ p->k.pl=p.length/\k.es=[]:=by
 intro c k p a b;have:=kZ.mp h c<|mU.mpr (b0.mp a).1;unfold v5 at this;rw[a,b]at this;simpa using this
def ag3{S S':Mc}(W:iu S)(f:iu S')(ps:S.ps=S'.ps)(h:pB S=c_)(h':pB S'=c_)(e:jf S=jf S'):bT S=bT S':=by
 injection e with e
 injection e with h1 h2
 injection h1 with h1
 injection h2 with h2 _
 injection h2 with h2
 unfold bT;rw[Mw h2];have g:S.ck.length=S'.ck.length:=by have:=gv KO h1;simpa using this
 refine gv (·,S'.bd) (JW λc=>?_);rw[cF,cF];rcases a:S.ck[c]? with _|k;rw[uZ (by rw[<-g];exact xg.mp a)]
 have i:=(b0.mp a).1;obtain⟨k',b⟩:∃k',S'.ck[c]?=a_ k':=⟨_,aI li⟩;obtain⟨p,d⟩:∃p,S.ps[c]?=a_ p:=⟨_,aI<|by rw[<-W.len];exact i⟩;obtain⟨j,l⟩:=MG W h c k p a d;obtain⟨m,n⟩:=MG f h' c k' p b (by rw[<-ps];exact d)
 have o:i3 k=i3 k':=by
  have:=gv (·[c]?) h1;simpa[a,b]using this
 rw[b];show a_ _=a_ _;unfold gG;rw[j,l,m,n,Yg o]
structure mz(kd:d0)(ps:List Pt)(n:Nat)(S:Mc):Prop where
 W:kP n S
 kd:S.kd=kd
 ps:S.ps=ps
def mz.up{kd:d0}{ps:List Pt}{n:Nat}{S:Mc}(h:mz kd ps n S):mz kd ps (n+1) S:=⟨⟨h.W.wf,tO h.W.ac,λo a=>tO<|h.W.ov o a⟩,h.kd,h.ps⟩
def mz.mv{kd:d0}{ps:List Pt}{n:Nat}{S:Mc}(h:mz kd ps n S)(hn:n<15000){mv:Mv}(hm:mv∈gF S):mz kd ps (n+1) (cV S mv):=by
 obtain⟨a,b,c,_⟩:=aiJ h.W hn hm;exact⟨a,b.gw h.kd,c.gw h.ps⟩
def FN{kd:d0}{ps:List Pt}(g:cW ps){k:Nat}(a:k<=15000):∀S∈aN (cg kd ps) k,mz kd ps k S:=
 LM 15000 ⟨Oi g,xz,xz⟩ (λ_ _ h=>h.up) (λ_ _ _ h b hm=>b.mv h hm) k a
theorem XD{L:List Mc}(h:(L.map bT).Nodup)(f:∀S∈L,mz kd ps n S):(fv L).Nodup:=by
 induction L with
 |nil=>exact List.nodup_nil
 |cons S L i=>
  rw[eV,zI]at h;have ih:=i h.2 λT a=>f T<|cu _ a;unfold fv at ih ⊢;rw[rK]
  by_cases e:pB S=c_
  .rw[eT e,eV,zI];refine⟨λz=>?_,ih⟩;obtain⟨T,a,d⟩:=b8.mp z;obtain⟨b,g⟩:=jB.mp a;have fS:=f S bV;have c:=f T<|cu _ b;exact h.1<|b8.mpr ⟨T,b,ag3 c.W.wf fS.W.wf (c.ps.gw fS.ps.gx) g e d⟩
  rw[eN e];exact ih
def U4(n:Nat){l c:List Int}(h:l.length=c.length):alike (n+1) (.tuple<|l.map .int) (.tuple<|c.map .int)=true:=by
 show (decide _&&List.all _ _)=c_;rw[iB];refine⟨fC (by simpa using h),kZ.mpr λp d=>?_⟩;obtain⟨a,b⟩:=p;have h1:=Fc d;obtain⟨i,_,rfl⟩:=b8.mp h1.1;obtain⟨j,_,rfl⟩:=b8.mp h1.2;cases n <;> rfl
def ad6{S S':Mc}(W:iu S)(c:iu S')(h:S.ck.length=S'.ck.length):alike 8 (jf S) (jf S')=true:=by
 show (decide (2=2)&&(alike 7 _ _&&(alike 7 _ _&&c_)))=c_;rw[Bool.and_true,iB,iB];refine⟨xz,?_,U4 6<|by rw[W.bd,c.bd]⟩;show (decide _&&List.all _ _)=c_;rw[iB];refine⟨fC (by simpa using h),kZ.mpr λp d=>?_⟩;obtain⟨a,b⟩:=p;have h1:=Fc d;obtain⟨k,e,rfl⟩:=b8.mp h1.1;obtain⟨k',f,rfl⟩:=b8.mp h1.2;exact U4 5 (by rw[W.rg k e,c.rg k' f])
def ajv{K:u_}(k:∀b o,(∃ys,o=.tup ys)\/(∃ob ys,o=.jL ob (.tup ys))->H b=a_ o->H' b=a_ o)(h:aq K H a xs):aq K H' a xs:=by
 obtain (h|⟨o,h⟩)|h:=h
 .exact .inl (.inl<|k _ _ (.inl ⟨_,xz⟩) h)
 .exact .inl (.inr ⟨o,k _ _ (.inr ⟨_,_,xz⟩) h⟩)
 exact .inr h
def TK(H H':Hp):Prop:=∀b o,(∃ys,o=.tup ys)\/(∃ob ys,o=.jL ob (.tup ys))->H b=a_ o->H' b=a_ o
def TK.of(s:ae H H'):TK H H':=λb o _ e=>s b o e
def TK.DQ(k:aB dE H H'):TK H H':=λb o h e=>k.k b o (λz=>z) (λps z=>by subst z;rcases h with ⟨_,h⟩ | ⟨_,_,h⟩ <;> cases h) e
def ajn(h:H a=a_ o)(n:¬((∃ys,o=.tup ys)\/(∃ob ys,o=.jL ob (.tup ys)))):TK H (dc H a u):=λb o' h' e=>by
 rw[aj λz=>?_]
 .exact e
 subst z;rw[h]at e;cases e;exact n h'
def qk{K:u_}(k:TK H H'):∀{n:Nat}{d:ci}{v:V},bZ n d=c_->eM K H v d->eM K H' v d:=by
 intro n
 induction n with
 | zero=>
  intro d v g h;obtain⟨i,rfl⟩|⟨m,xs,z,_⟩:=jm g
  .cases h;exact .int i
  cases z
 | succ m ih=>
  intro d v g h;obtain⟨i,rfl⟩|⟨f,xs,z,rfl,e⟩:=jm g
  .cases h;exact .int i
  cases z;cases h with
  | tup h1 h2=>
   refine .tup (ajv k h1) ?_
   have all:∀{vs:List V}{ds:List ci},(∀d∈ds,bZ m d=c_)->fw K H vs ds->fw K H' vs ds:=by
    intro vs
    induction vs with
    | nil=>intro ds _ h;cases h;exact .nil
    | cons v vs il=>
     intro ds c h;cases h with
     | cons a b=>exact .cons (ih (c _ bV) a)<|il (λd hd=>c d<|cu _ hd) b
   exact all e h2
theorem nO{K:u_}(k:TK H H'){vs:List V}{ds:List ci}(g:∀d∈ds,bZ n d=c_)(h:fw K H vs ds):fw K H' vs ds:=by
 induction h using fw.ind with
 |a=>exact .nil
 |b a _ i=>exact .cons (qk k (g _ bV) a)<|i λd hd=>g d<|cu _ hd
theorem MH{K:u_}{vs:List V}{ds:List ci}(h:fw K H vs ds)(e:eM K H v d):fw K H (vs++[v]) (ds++[d]):=by
 induction h using fw.ind with
 |a=>exact .cons e .nil
 |b a _ i=>exact .cons a i
theorem vx{K:u_}{vs:List V}{ds:List ci}(h:fw K H vs ds):vs.length=ds.length:=by
 induction h using fw.ind with
 |a=>rfl
 |b _ _ i=>exact gv (· + 1) i
def Du:=@UY
def OL(K:u_)(h:autoParam (X.K=K) am):jt X (.type W_) (λxs H Q=>∃p ys,xs=[.ref p]/\((ag K H p ys/\∀l,H l=b_->Q (.ref l) (dc H l<|.tup ys))\/(aq K H p ys/\Q (.ref p) H))):=by subst h;exact kC
def F5{K:u_}(c:n=ds.length)(e:n<=1000)(g:∀d∈ds,bZ k d=c_)(f:∀(i:Nat)d a(Q:VK),ds[i]?=a_ d->ae H a->(∀y b,ae a b->eM K b y d->Q y b)->te (σ0.set j<|a_<|.int (i:Nat)) a Q)(fin:∀ys a,ae H a->fw K a ys ds->Kf ys a):Df (yP 0 n) (g8 j) je te σ0 H Kf:=by
 subst c;refine dX (n:=ds.length) (λi ys a=>i<=ds.length/\ae H a/\fw K a ys (ds.take i)) (bL<|bq e) ⟨bg _,ae.refl _,.nil⟩ ?_ ?_ ?_ ?_ ?_
 .rintro i ys a ⟨hi,_,r⟩;rw[vx r,fJ];exact xl
 .exact λi ys a hi _=>hi
 .exact λys a _=>aw _
 .rintro i ys a hi ⟨_,s1,r⟩ x b ⟨h,ex⟩;subst h;subst ex;have hd:=aI hi;dsimp only[g8,je];rw[eT xz,BO];refine f i _ _ _ hd s1 λy m s2 l=>⟨hi,s1.gw s2,?_⟩;rw[iN,hd];exact MH (nO (TK.of s2) (λd hd=>g d<|List.mem_of_mem_take hd) r) l
 rintro ys a ⟨_,s1,r⟩;rw[jl<|aw _]at r;exact fin _ _ s1 r
def GH{a:Type}{f:a->ci}{l:List a}{i:Nat}(h:(l.map f)[i]?=a_ d):∃k,l[i]?=a_ k/\d=f k:=by
 rw[cF]at h;obtain⟨k,h1,h2⟩:=uY.mp h;exact⟨k,h1,h2.gx⟩
section
variable{t:bf}{C CT:e_}
structure Bw(mg:d0->Option f_):Prop where
 tuple:mg W_ = b_
 range:mg "range"=b_
 len:mg "len"=b_
 sorted:mg "sorted"=b_
def xU(K:u_)(t:bf)(C CT:e_)(f:Mc->ci):Sp:=λvs H Q _=>∃m A S,vs=[.ref m]/\bb t C CT H m A S/\iu S/\(∀k∈S.ck,k.es.length<64)/\∀H' p,ae H H'->eM K H' (.ref p) (f S)->Q (.ref p) H'
def afL:aX ii ii (aM M8):=aZ
def Pf:([at7,an3]:List d0).Nodup:=dk
def Wk(h:iq H v ps):∃a vs,v=.ref a/\H a=a_ (.tup vs)/\vs.length=ps.length:=by
 obtain⟨a,vs,e,ha,r⟩:=h;exact⟨a,vs,e,ha,r_ r⟩
def aeM(F:aQ K "registers_of" "registers_of" M8 f fd)(B:Bw mg)(e:gX K C)(n:Mt P w K mg gW C 1 "registers" hU (NC t C CT)):aG P w K mg gW aF 2 f fd ii (xU K t C CT λS=>.tuple<|S.ck.map i3):=by
 refine F.ok afL λaH A _ s H vs Q E u h=>?_
 obtain⟨m,A,S,rfl,M,W,_,q⟩:=h
 refine⟨_,ax (aR (fK kC xz B.tuple iE (aa (dZ (N:=[at7,an3]) (idx:=[0]) xz (cB.of<|by kernel_rfl) (eD<|aw _) (lu xz B.range<|aa (bC ft xz B.len q_<|aa (a0 (pv 0) xz) af) af)
  (λ_ _ _ _=>bo (i:=1) Pf xz (aL xz)<|.inr xz) (λ_ _ _ _=>eP) λ_ _ _ _=>fK (OL K) xz B.tuple iE<|aa (jF (pv 0) e.cl n u<|aa (pv 1) af) af) af))),?_⟩
 obtain⟨dx,fs,hm,G⟩:=id M.obj;obtain⟨pg,g,v,a,b⟩:=Wk M.pg;have h4:=W.four;have D:=W.len;cases v;have hn:(g.length:Int).toNat=(S.ck.map i3).length:=by rw[aA,fH];lia
 have j:∀{l:List _}{d:ci},d∈l.map i3->bZ 5 d=true:=λh=>by obtain⟨k,_,rfl⟩:=b8.mp h;exact Ax 4 _
 refine vF xz hm e.cl e.program G.program ⟨A.pg,g,xz,.inr<|aq.of a,_,xz,li,li,F5 (K:=K) hn li (λd hd=>j hd) (λi d x Q hd s1 c=>?_) λys x s1 r=>?_⟩
 .obtain⟨k,y,rfl⟩:=GH hd;exact vM xz (s1 _ _ hm) (G.ms _ dk)<|vr xz ⟨m,A,S,i,k,xz,M.same s1,y,λl b=>⟨l,_,xz,.inl ⟨ag.of ao,λp a=>c _ _ (ay (ay (ae.refl _) b) a)<|.tup (aq.of ao)<|Du _⟩⟩⟩
 have b:=vx r;rw[aA]at b;refine⟨by rw[gf];lia,λl z=>⟨l,ys,xz,.inl ⟨ag.of ao,λp a=>?_⟩⟩⟩;have s2:=ay (o:=.tup ys) (ay (ae.refl _) z) a;exact q _ p (s1.gw s2)<|.tup (aq.of ao)<|nO (TK.of s2) (λd hd=>j hd) r
def ahR:aX ii ii (aM N2):=aZ
def agi(F:aQ K "end_of" "end_of" N2 f fd)(B:Bw mg)(e:gX K C)(g:Dp P w K mg gW 2 "registers_of" ii (xU K t C CT λS=>.tuple<|S.ck.map i3))(i:Mt P w K mg gW C 1 "board" hF (MY t C CT)):aG P w K mg gW aF 3 f fd ii (xU K t C CT jf):=by
 refine F.ok ahR λaH A _ s H vs Q E c h=>?_;obtain⟨m,A,S,rfl,M,W,j,q⟩:=h;refine⟨_,ax<|aR<|dR<|aa (bA g c xz<|aa (pv 0) af)<|aa (fK kC xz B.tuple iE<|aa (pA (pv 0) e.cl i<|c.mono qc) af) af,?_⟩;obtain⟨dx,fs,hm,G⟩:=id M.obj;refine vr xz ⟨m,A,S,xz,M,W,j,λo p s1 u=>vM xz (s1 _ _ hm) (G.ms _ dk) ⟨m,A,S,xz,M.same s1,λl v=>⟨l,_,xz,.inl ⟨ag.of ao,λb x=>⟨sl (n:=2),λr d=>?_⟩⟩⟩⟩⟩;have s2:ae _ (dc _ b<|.tup<|S.bd.map V.int):=ay (ay (ae.refl _) v) x;have g2:dc (dc o l<|.lst<|S.bd.map V.int) b _ b=a_ (.tup<|S.bd.map V.int):=ao;generalize dc _ b _=H2 at s2 g2 d ⊢;have a:ae _ (dc _ r<|.tup [.ref p,.ref b]):=ay (ae.refl _) d;exact q _ r (s1.gw<|s2.gw a)<|.tup (aq.of ao)<|.cons (qk (TK.of<|s2.gw a) (Dr λk=>Ax 5 _) u)<|.cons (.tup (aq.of<|a _ _ g2)<|Du _) .nil
def Lj:aX [at7,"places","waiting"] ii (aM L8):=aZ
def af0{K:u_}(r:bw (GZ H) us es):fw K H us (es.map λe=>.tuple [.int e.n,.int e.num]):=LD (λv e h=>by obtain⟨p,rfl,a⟩:=h;exact .tup (aq.of a)<|.cons (.int _)<|.cons (.int _) .nil) r
def adT(F:aQ K "stand_of" "stand_of" L8 f fd)(B:Bw mg)(o:gX K C)(Y:Dp P w K mg gW 3 "end_of" ii (xU K t C CT jf))(Z:Mt P w K mg gW C 1 "where" hU (WW t C CT λk=>k.pl))(DT:Mt P w K mg gW C 2 "waiting" hU (Vd t C CT)):aG P w K mg gW aF 4 f fd ii (xU K t C CT eQ):=by
 refine F.ok Lj λaH A _ s H vs Q E y h=>?_
 obtain⟨m,A,S,rfl,M,W,T,q⟩:=h;have jN:=y.mono (show 2<=3 by decide)
 refine let a:TS:=_;let b:TS:=_;⟨_,au (bG (i:=1) Lj.nd xz (aL xz) (fK kC xz B.tuple iE (aa (dZ (N:=[at7,an3]) (idx:=[0]) xz (cB.of<|by kernel_rfl) (eD<|aw _) (lu xz B.range<|aa (bC ft xz B.len q_<|aa (a0 (pv 0) xz) af) af)
  (λ_ _ _ _=>bo (i:=1) Pf xz (aL xz)<|.inr xz) (λ_ _ _ _=>eP) λ_ _ _ _=>jF (pv 0) o.cl Z (y.mono (show 1<=3 by decide))<|aa (pv 1) af) af)))
  (pR b (au (bG (i:=2) Lj.nd xz (aL xz) (fK kC xz B.tuple iE (aa (dZ (N:=[at7,an3]) (idx:=[0]) xz (cB.of<|by kernel_rfl) (eD<|aw _) (lu xz B.range<|aa (bC ft xz B.len q_<|aa (a0 (pv 0) xz) af) af)
  (λ_ _ _ _=>bo (i:=1) Pf xz (aL xz)<|.inr xz) (λ_ _ _ _=>eP) λ_ _ _ _=>fK (OL K) xz B.tuple iE<|aa (jF (pv 0) o.cl DT jN<|aa (pv 1) af) af) af)))
  (pR a<|ax<|aR<|dR<|aa (pv 1)<|aa (pv 2)<|aa (bA Y y xz<|aa (pv 0) af) af))),?_⟩
 obtain⟨dx,fs,hm,G⟩:=id M.obj;obtain⟨pg,D,e1,g,U⟩:=Wk M.pg;have h4:=W.four;have hlen:=W.len;cases e1;have hn:∀f:Ck->ci,(D.length:Int).toNat=(S.ck.map f).length:=λf=>by rw[aA,fH];lia
 have I:∀d∈S.ck.map λk=>nM k.pl,bZ 5 d=true:=λd h=>by obtain⟨k,_,rfl⟩:=b8.mp h;rfl
 have J:∀d∈S.ck.map oj,bZ 5 d=true:=λd h=>by obtain⟨k,_,rfl⟩:=b8.mp h;exact YE 3 k
 refine vF xz hm o.cl o.program G.program ⟨A.pg,D,xz,.inr<|aq.of g,_,xz,li,li,F5 (K:=K) (hn λk=>.int _) li I (λi d H1 Q hd s1 c=>?_) λys H1 s1 r=>?_⟩
 .obtain⟨k,u,rfl⟩:=GH hd;exact vM xz (s1 _ _ hm) (G.ms _ dk)<|vr xz ⟨m,A,S,i,k,xz,M.same s1,u,c _ _ (ae.refl _)<|.int _⟩
 have L:=vx r;rw[aA]at L;refine⟨by rw[gf];lia,λl O=>⟨l,ys,xz,.inl ⟨ag.of ao,λp1 c9=>?_⟩⟩⟩;have s2:ae _ (dc _ _<|.tup ys):=ay (ay (ae.refl _) O) c9;have d1:eM K _ _ _:=.tup (aq.of ao)<|nO (TK.of s2) I r;have j:=s1.gw s2;generalize dc _ _ _=H2 at j d1 ⊢;refine vF xz (j _ _ hm) o.cl o.program G.program ⟨A.pg,D,xz,.inr<|aq.of<|j _ _ g,_,xz,li,li,F5 (K:=K) (hn _) li J (λi d H3 Q hd s1 c=>?_) λV H3 s1 r=>?_⟩
 .obtain⟨k,u,rfl⟩:=GH hd;exact vM xz (s1 _ _<|j _ _ hm) (G.ms _ dk)<|vr xz ⟨m,A,S,i,k,xz,M.same<|j.gw s1,u,T k<|a8 u,λH4 l us s4 _ U hu=>⟨l,us,xz,.inl ⟨ag.of U,λp g=>c _ _ (ay s4 g)<|.tup (aq.of ao)<|af0<|Paired.bp hu λ_ _ z=>by obtain⟨p,e,h⟩:=z;exact⟨p,e,(ay (ae.refl _) g) _ _ h⟩⟩⟩⟩
 have L:=vx r;rw[aA]at L;refine⟨by rw[gf];lia,λl O=>⟨l,V,xz,.inl ⟨ag.of ao,λp2 eR=>?_⟩⟩⟩;have s2:ae _ (dc _ _<|.tup V):=ay (ay (ae.refl _) O) eR;have X:eM K _ _ _:=.tup (aq.of ao)<|nO (TK.of s2) J r;have v:=s1.gw s2;generalize dc _ _ _=H4 at v X ⊢;refine az _ xz<|vr xz<|vr xz ⟨m,A,S,xz,M.same<|j.gw v,W,T,λH5 p R g=>?_⟩;refine⟨sl (n:=3),λr bE=>?_⟩;have x:ae _ (dc _ r<|.tup [.ref p1,.ref p2,.ref p]):=ay (ae.refl _) bE;exact q _ r (j.gw<|v.gw<|R.gw x)<|.tup (aq.of ao)<|.cons (qk (TK.of<|v.gw<|R.gw x) (Dq I) d1)<|.cons (qk (TK.of<|R.gw x) (Dq J) X)<|.cons (qk (TK.of x) (Aw 3 S) g) .nil
end
def agr:(["tray"]:List d0).Nodup:=dk
def agv:(["regs"]:List d0).Nodup:=dk
def adY:(["comers"]:List d0).Nodup:=dk
def agP:cW [[]]:=⟨qc,qc,λp a=>by
 rw[da.mp a];exact⟨qc,λt z=>by cases z⟩⟩
def br.sJ:=@br.lst
def Ga{K:u_}{fs f:List (d0×V)}(n:Nat)(r:σ[0]?=a_ (a_<|.ref m))(s:σ[1]?=a_ (a_<|.ref x))(hm:h m=a_ (.ins C dx fs))(cl:di K C)(e:bJ K C fld)(lk:fs.lookup fld=a_ (.ref a))(ha:h a=a_ (.lst xs))(t:h x=a_ (.ins C c7 f))(y:f.length<=20)(O:hJ H x h R)(z:f.lookup fld=a_ u)(q:∀l h' b c,b=aJ fld (.ref l) f->b.length<=20->h' x=a_ (.ins C c7 b)->h' l=a_ (.lst xs)->br x h h'->hJ H x h' c->(∀a v,R a v->c a v)->c l n->D.nx σ h'):Qe K (qJ 1) (QW (λxs H Q=>∃p ys,xs=[.ref p]/\(ag K H p ys\/aq K H p ys)/\∀l,H l=b_->Q (.ref l) (dc H l<|.lst ys))<|Y7 (Hw K (qJ 0) fld) Hu) fld D σ h:=by
 refine⟨_,r,m,C,dx,fs,_,xz,hm,cl,e,lk,a,xs,xz,.inl<|ag.of ha,λl g=>?_⟩;have s1:ae h (dc h l<|.lst xs):=ay (ae.refl _) g;have i:dc h l (.lst xs) l=a_ (.lst xs):=ao;obtain⟨A,j,B,E⟩:=O.nx (o:=.lst xs) n g;have d:=s1 _ _ t;generalize dc h l (.lst xs)=v at s1 i j d ⊢;refine⟨_,s,x,C,c7,f,xz,d,cl,e,li,?_⟩;have k:br x v (dc v x<|.ins C c7<|aJ fld (.ref l) f):=br.dc;exact q l _ _ A xz (by rw[tV z];exact y) ao (k.sJ d i) ((br.of s1).gw k) (j.keep<|qj (H:=v) (x:=x)) B E
section
variable{t:bf}{C CT:e_}
def X5(t:bf)(C CT:e_):Sp:=λvs H Q _=>∃m A S,vs=[.ref m]/\bb t C CT H m A S/\(S.kd = L_\/S.kd = l_\/S.kd = H_)/\S.ck.length<=4/\S.ov.length<=12/\
 ∀H' x a hD,bb t C CT H' x a S->ke hD x a->ae H H'->(∀b,cN x a b->H b=b_)->Q (.ref x) H'
def W9:aX [Y_,"other"] hF (aM NT):=aZ
def agc(F:aQ K "twin" "Machine.twin" NT f fd)(L:gX K C)(cT:jY K CT)(iz:mg "list"=b_)(mk:Mk K C fI)(GI:aG P w K mg gW aF 7 fI dI jp (Gf t C CT))(Dh:mg "Machine"=a_ (.ref C))(b3:dL K dI jp [])(DT:Mt P w K mg gW CT 3 "twin" hF (WX CT)):aG P w K mg gW aF 9 f fd hF (X5 t C CT):=by
 refine F.ok W9 λaH A _ s H vs Q E hr h=>?_
 obtain⟨m,A,S,ab,M,lL,h4,h12,q⟩:=h;subst ab;have oQ:=hr.mono (show 3<=8 by decide)
 refine let c:TS:=_;let d:TS:=_;let g:TS:=_;let p:TS:=_;let r:TS:=_;let u:TS:=_;let B:TS:=_;let D:TS:=_;let I:TS:=_;⟨_,au (bG (i:=1) W9.nd xz (aL xz)<|pk mk GI hr xz Dh b3 .nil cX<|aa (dR<|aa (dR af) af)<|aa (a0 (pv 0) xz) af) (pR I (au (dY (pv 1) (a0 (pv 0) xz) xz) (pR D (au (dY (pv 1) (a0 (pv 0) xz) xz) (pR B (au (dY (pv 1) (dZ (N:=["tray"]) (idx:=[]) xz (cB.of<|by kernel_rfl) (eD<|bg _) (lA<|a0 (pv 0) xz) (λ_ _ _ _=>bo (i:=0) agr xz (aL xz)<|.inr xz) (λ_ _ _ _=>eP) λ_ _ _ _=>pA (pv 0) cT.cl DT oQ) xz)
  (pR u (au (dY (pv 1) (fK xB xz iz tY<|aa (a0 (pv 0) xz) af) xz) (pR r (au (dY (pv 1) (fK xB xz iz tY<|aa (a0 (pv 0) xz) af) xz) (pR p (au (dY (pv 1) (dZ (N:=["regs"]) (idx:=[]) xz (cB.of<|by kernel_rfl) (eD<|bg _) (lA<|a0 (pv 0) xz) (λ_ _ _ _=>bo (i:=0) agv xz (aL xz)<|.inr xz) (λ_ _ _ _=>eP) λ_ _ _ _=>fK (Ph K) xz iz tY<|aa (pv 0) af) xz)
  (pR g (au (dY (pv 1) (fK xB xz iz tY<|aa (a0 (pv 0) xz) af) xz) (pR d (au (dY (pv 1) (fK xB xz iz tY<|aa (a0 (pv 0) xz) af) xz) (pR c (au (dY (pv 1) (dZ (N:=["comers"]) (idx:=[]) xz (cB.of<|by kernel_rfl) (eD<|bg _) (lA<|a0 (pv 0) xz) (λ_ _ _ _=>bo (i:=0) adY xz (aL xz)<|.inr xz) (λ_ _ _ _=>eP) λ_ _ _ _=>fK (Ph K) xz iz tY<|aa (pv 0) af) xz)
  (ax<|aR<|pv 1))))))))))))))))))),?_⟩
 refine cy (id M.obj) λdx fs hm G=>⟨qc,λp0 n0=>⟨by show 1<=bc;decide,λp1 n1=>?_⟩⟩;have s1:ae H (dc (dc H p0<|.tup []) p1<|.tup [.ref p0]):=ay (ay (ae.refl _) n0) n1;have c9:dc (dc H p0<|.tup []) p1 (.tup [.ref p0]) p1=a_ (.tup [.ref p0]):=ao;have wV:dc (dc H p0<|.tup []) p1 (.tup [.ref p0]) p0=a_ (.tup []):=ay (ae.refl _) n1 _ _ ao;generalize dc (dc H p0<|.tup []) p1 (.tup [.ref p0])=H1 at s1 c9 wV ⊢;refine vF xz (s1 _ _ hm) L.cl L.kind G.kind λx kz nx fE ne=>?_;have sb:ae H1 (dc (dc H1 kz<|.own x) x<|.ins C kz []):=ay (ay (ae.refl _) fE) (by rw[aj ne.gx];exact nx);have Ed:dc (dc H1 kz<|.own x) x (.ins C kz []) x=a_ (.ins C kz []):=ao;refine⟨x,kz,(.ref p1),([[]]),S.kd,xz,Ed,⟨p1,[.ref p0],xz,sb _ _ c9,.cons ⟨p0,[],xz,sb _ _ wV,.nil⟩ .nil⟩,agP,lL,(λW A2 ao6 M2 L2' ev k2 fr2=>⟨xz,?_⟩)⟩;have p8:H x=none:=s1.free nx;have S0:ae H W:=λb o e=>k2.k b o (bh e p8)<|sb _ _<|s1 b o e;refine cy (id M2.obj) λJ f0 Eh G0=>?_;obtain⟨R0,O0,r0⟩:∃R,hJ H x W R/\R x 2:=⟨λa v=>a=x/\v=2,⟨⟨λ_=>2,λa v z=>z.2.gx⟩,λa v z e=>(by rw[z.1,Eh]at e;cases e),λa v z=>.inl z.1,λb z=>S0.free z⟩,xz,xz⟩;have Ez:=G0.qS;have K0:br x W W:=⟨λb o _ e=>e,λb z=>z⟩;refine az _ xz<|dN m C dx fs<|iQ _ xz (S0 _ _ hm) L.cl L.program G.program<|vr xz<|jT x C J f0 xz Eh L.cl L.program wb ?_;obtain⟨f1,X⟩:∃f,f=aJ P_ (.ref A.pg:V) f0:=⟨_,xz⟩;have Bu:f1.length<=20:=by rw[X,tV<|G0.program];exact Ez
 rw[<-X];have RC:br x W (dc W x<|.ins C J f1):=br.dc;have du:dc W x (.ins C J f1) x=a_ (.ins C J f1):=ao;have O1:=O0.keep<|qj (H:=W) (x:=x) (o:=.ins C J f1);obtain⟨R1,O1,j1⟩:∃R,hJ H x (dc W x<|.ins C J f1) R/\∀a v,R0 a v->R a v:=⟨_,O1,λ_ _ z=>z⟩;have K1:br x W (dc W x<|.ins C J f1):=K0.gw RC;generalize dc W x (.ins C J f1)=h1 at RC du O1 K1 ⊢;have S1:ae H h1:=λb o e=>K1.k b o (bh e p8)<|S0 b o e;refine az _ xz<|dN m C dx fs<|iQ _ xz (S1 _ _ hm) L.cl L.steps G.steps<|vr xz<|jT x C J f1 xz du L.cl L.steps wb ?_;obtain⟨f2,Y⟩:∃f,f=aJ "steps" (.ref A.st:V) f1:=⟨_,xz⟩;have xb:f2.length<=20:=by rw[Y,tV<|aE (G0.steps) X dk];exact Bu
 rw[<-Y];have RB:br x h1 (dc h1 x<|.ins C J f2):=br.dc;have kT:dc h1 x (.ins C J f2) x=a_ (.ins C J f2):=ao;have O2:=O1.keep<|qj (H:=h1) (x:=x) (o:=.ins C J f2);obtain⟨R2,O2,j2⟩:∃R,hJ H x (dc h1 x<|.ins C J f2) R/\∀a v,R1 a v->R a v:=⟨_,O2,λ_ _ z=>z⟩;have K2:br x W (dc h1 x<|.ins C J f2):=K1.gw RB;generalize dc h1 x (.ins C J f2)=h2 at RB kT O2 K2 ⊢;have S2:ae H h2:=λb o e=>K2.k b o (bh e p8)<|S0 b o e;have htl:=r_ M.ts;refine az _ xz<|dN m C dx fs<|iQ _ xz (S2 _ _ hm) L.cl L.fu G.fu<|eC A.lt xz ⟨_,ag.of<|S2 _ _ M.lt⟩<|dX (n:=A.ts.length) (λi ys H'=>i<=A.ts.length/\∃ts:List (e_×e_×List e_),ys=(ts.map λx=>V.ref x.1)/\ts.length=i/\ae h2 H'/\bw (Ik CT S.kd H') ts (S.ck.take i)/\∃R,hJ H x H' R/\(∀a v,R2 a v->R a v)/\∀j y,ts[j]?=a_ y->∀b∈y.1::y.2.1::y.2.2,R b<|28+6*j) ?_ ?_ ?_ ?_ ?_ ?_ ?_
 .exact bL (bq w8)
 .exact⟨bg _,⟨[],xz,xz,ae.refl _,.nil,R2,O2,λ_ _ z=>z,λj y z=>(by simp at z)⟩⟩
 .rintro i ys H' ⟨_,ts,rfl,rfl,_⟩;rw[aA];exact aw _
 .rintro i ys H' hi ⟨_,ts,_,_,U,_⟩;exact gU _ _ (ag.of<|U _ _<|S2 _ _ M.lt)<|aI (by rw[aA];exact hi)
 .rintro ys H' ⟨_,ts,_,_,U,_⟩;exact az _ (ag.of<|U _ _<|S2 _ _ M.lt) (by rw[aA];exact aw _)
 .rintro i ys H' hi ⟨_,ts,rfl,rfl,U,tw,R,oR,iR,rR⟩ z dQ ⟨eH,cU⟩;subst eH;have hz:=cU _<|ag.of<|U _ _<|S2 _ _ M.lt;have hk:S.ck[ts.length]?=a_ (S.ck[ts.length]'wf):=aI wf;refine aD (M.ug hk) λy O T=>?_;rw[cF,O]at hz;have ix:z=V.ref y.1:=(c8 hz).gx;subst ix;have sT:ae H dQ:=S2.gw U;have T2:Ik CT S.kd dQ y S.ck[ts.length]:=T.keep (λb _ o e=>sT b o e) λb xs e=>sT b _ e;refine eJ (id T2.obj) λdy fy hay _ _ _ hmy _=>?_;dsimp only[je,g8];rw[eT rfl];refine vr xz (⟨y.1,dy,fy,xz,hay,(hmy _ dk),(⟨y.1,S.kd,_,_,y.2.1,y.2.2,xz,T2,(λH4 z q' qr T4 s4 fr4=>?_)⟩)⟩)
  obtain⟨R',o4,i4,n4⟩:=oR.nxs (28+6*ts.length) (λb=>b∈z::q'::qr) (λb z=>s4.free z) fr4 (λb hb y=>by
   refine oE (T4.there b hb) λo e=>?_;rw[e]at y;cases y)
  refine⟨hi,⟨ts++[(z,q',qr)],by rw[dC];rfl,by rw[cQ];rfl,U.gw s4,?_,R',o4,λa v z=>i4 a v<|iR a v z,λj y O b hb=>?_⟩⟩
  .rw[iN,hk];exact tU (Paired.bp tw λ_ _ q=>q.keep (λb _ o e=>s4 b o e) λb xs e=>s4 b _ e) T4
  obtain O|⟨e1,e2⟩:=zZ O
  .exact i4 _ _ (rR j y O b hb)
  subst e1;subst e2;exact n4 b hb
 rintro ys Jq ⟨_,ts,rfl,tw,IC,kh,Rc3,Oc3,ic3,Rm⟩;rw[jl li]at kh;refine⟨by rw[aA];exact bL<|bq wu,λlt IM=>?_⟩;have t3:ae Jq (dc Jq lt<|.lst<|ts.map λx=>V.ref x.1):=ay (ae.refl _) IM;have glt:dc Jq lt (.lst<|ts.map λx=>V.ref x.1) lt=a_ (.lst<|ts.map λx=>V.ref x.1):=ao;refine a9 (Oc3.nx (o:=.lst<|ts.map λx=>V.ref x.1) 4 IM) λRv3 Ov3 iv3 yU=>?_;generalize dc Jq lt (.lst<|ts.map λx=>V.ref x.1)=v3 at t3 glt Ov3 ⊢;refine vr xz<|jT x C J f2 xz (t3 _ _<|IC _ _ kT) L.cl L.fu wb ?_;obtain⟨f3,Z⟩:∃f,f=aJ "trays" (.ref lt:V) f2:=⟨_,xz⟩;have Bs:f3.length<=20:=by rw[Z,tV<|aE (aE (G0.fu) X dk) Y dk];exact xb
 rw[<-Z];have RA:br x v3 (dc v3 x<|.ins C J f3):=br.dc;have hx3:dc v3 x (.ins C J f3) x=a_ (.ins C J f3):=ao;obtain⟨R3,O3,j3,q3,Rp⟩:∃R,hJ H x (dc v3 x<|.ins C J f3) R/\(∀a v,R2 a v->R a v)/\(∀a v,Rv3 a v->R a v)/\(∀a v,Rc3 a v->R a v):=⟨_,Ov3.keep<|qj (H:=v3) (x:=x) (o:=.ins C J f3),λ_ _ z=>iv3 _ _<|ic3 _ _ z,λ_ _ z=>z,λ_ _ z=>iv3 _ _ z⟩;have K3:br x W (dc v3 x<|.ins C J f3):=K2.gw<|(br.of<|IC.gw t3).gw RA;generalize dc v3 x (.ins C J f3)=h3 at RA hx3 O3 K3 ⊢;have S3:ae H h3:=λb o e=>K3.k b o (bh e p8)<|S0 b o e;refine Ga 6 xz xz (S3 _ _ hm) L.cl L.places G.places (S3 _ _ M.pl) hx3 Bs O3 (aE (aE (aE (G0.places) X dk) Y dk) Z dk) λpl h4 f4 R4 kv tG Eg SJ k4 O4 j4 q4=>?_;have K4:=K3.gw k4;have S4:ae H h4:=λb o e=>K4.k b o (bh e p8)<|S0 b o e;refine Ga 8 xz xz (S4 _ _ hm) L.cl L.counts G.counts (S4 _ _ M.ct) Eg tG O4 (aE (aE (aE (aE (G0.counts) X dk) Y dk) Z dk) kv dk) λct h5 f5 R5 kr rm Ef gct k5 O5 j5 q5=>?_;have K5:=K4.gw k5;have S5:ae H h5:=λb o e=>K5.k b o (bh e p8)<|S0 b o e;have apT:=r_ M.rs;refine az _ xz<|dN m C dx fs<|iQ _ xz (S5 _ _ hm) L.cl L.eB G.eB<|eC A.rg xz ⟨_,ag.of<|S5 _ _ M.rg⟩<|dX (n:=A.rs.length) (λi ys H'=>i<=A.rs.length/\∃rs:List e_,ys=rs.map V.ref/\rs.length=i/\ae h5 H'/\bw (λa(k:Ck)=>H' a=a_ (.lst<|k.rg.map V.int)) rs (S.ck.take i)/\∃R,hJ H x H' R/\(∀a v,R5 a v->R a v)/\∀(j:Nat)a,rs[j]?=a_ a->R a (24+6*j)) ?_ ?_ ?_ ?_ ?_ ?_ ?_
 .exact bL (bq w8)
 .exact⟨bg _,⟨[],xz,xz,ae.refl _,.nil,R5,O5,λ_ _ z=>z,λj y z=>(by simp at z)⟩⟩
 .rintro i ys H' ⟨_,rs,rfl,rfl,_⟩;rw[aA];exact aw _
 .rintro i ys H' hi ⟨_,rs,_,_,U,_⟩;exact gU _ _ (ag.of<|U _ _<|S5 _ _ M.rg)<|aI (by rw[aA];exact hi)
 .rintro ys H' ⟨_,rs,_,_,U,_⟩;exact az _ (ag.of<|U _ _<|S5 _ _ M.rg) (by rw[aA];exact aw _)
 .rintro i ys H' hi ⟨_,rs,rfl,rfl,U,oO,R,oR,iR,rR⟩ z dQ ⟨eH,cU⟩;subst eH;have hz:=cU _<|ag.of<|U _ _<|S5 _ _ M.rg;have hk:S.ck[rs.length]?=a_ (S.ck[rs.length]'wf):=aI wf;refine aD (rX M.rs hk) λy O Eb=>?_;rw[cF,O]at hz;have ix:z=V.ref y:=(c8 hz).gx;subst ix;dsimp only[je,g8];rw[eT rfl];refine vr xz ⟨y,⟨_,xz,.inl<|ag.of<|U _ _<|S5 _ _ Eb,λl nl=>?_⟩⟩;generalize S.ck[rs.length]'wf=k at hk Eb;have s4:=ay (o:=.lst<|k.rg.map V.int) (ae.refl dQ) nl;refine a9 (oR.nx (o:=.lst<|k.rg.map V.int) (24+6*rs.length) nl) λR' o4 i4 n4=>⟨hi,⟨rs++[l],by rw[dC];rfl,by rw[cQ];rfl,U.gw s4,?_,R',o4,λa v z=>i4 a v<|iR a v z,λj y O=>?_⟩⟩
  .rw[iN,hk];exact tU (Paired.bp oO λ_ _ q=>s4 _ _ q) ao
  obtain O|⟨e1,e2⟩:=zZ O
  .exact i4 _ _ (rR j y O)
  subst e1;subst e2;exact n4
 rintro ys Jp ⟨_,yV,rfl,arR,IB,aaR,Rc6,Oc6,ic6,rc6⟩;rw[jl li]at aaR;refine⟨by rw[aA];exact bL<|bq wu,λrg IL=>?_⟩;have t6:ae Jp (dc Jp rg<|.lst<|yV.map V.ref):=ay (ae.refl _) IL;have grg:dc Jp rg (.lst<|yV.map V.ref) rg=a_ (.lst<|yV.map V.ref):=ao;refine a9 (Oc6.nx (o:=.lst<|yV.map V.ref) 10 IL) λRv6 Ov6 iv6 rv6=>?_;generalize dc Jp rg (.lst<|yV.map V.ref)=v6 at t6 grg Ov6 ⊢;refine vr xz<|jT x C J f5 xz (t6 _ _<|IB _ _ Ef) L.cl L.eB wb ?_;obtain⟨f6,jk⟩:∃f,f=aJ "regs" (.ref rg:V) f5:=⟨_,xz⟩;have tE:f6.length<=20:=by rw[jk,tV<|aE (aE (aE (aE (aE (G0.eB) X dk) Y dk) Z dk) kv dk) kr dk];exact rm
 rw[<-jk];have Rz:br x v6 (dc v6 x<|.ins C J f6):=br.dc;have Ee:dc v6 x (.ins C J f6) x=a_ (.ins C J f6):=ao;obtain⟨R6,O6,j6,q6,qc6⟩:∃R,hJ H x (dc v6 x<|.ins C J f6) R/\(∀a v,R5 a v->R a v)/\(∀a v,Rv6 a v->R a v)/\(∀a v,Rc6 a v->R a v):=⟨_,Ov6.keep<|qj (H:=v6) (x:=x) (o:=.ins C J f6),λ_ _ z=>iv6 _ _<|ic6 _ _ z,λ_ _ z=>z,λ_ _ z=>iv6 _ _ z⟩;have K6:br x W (dc v6 x<|.ins C J f6):=K5.gw<|(br.of<|IB.gw t6).gw Rz;generalize dc v6 x (.ins C J f6)=h6 at Rz Ee O6 K6 ⊢;have S6:ae H h6:=λb o e=>K6.k b o (bh e p8)<|S0 b o e;refine Ga 12 xz xz (S6 _ _ hm) L.cl L.cells G.cells (S6 _ _ M.ce) Ee tE O6 (aE (aE (aE (aE (aE (aE (G0.cells) X dk) Y dk) Z dk) kv dk) kr dk) jk dk) λce h7 f7 R7 jj zg hx7 gce k7 O7 j7 q7=>?_;have K7:=K6.gw k7;have S7:ae H h7:=λb o e=>K7.k b o (bh e p8)<|S0 b o e;refine aD (id M.ac) λacs ap7 ap8=>Ga 14 xz xz (S7 _ _ hm) L.cl L.iY G.iY (S7 _ _ ap7) hx7 zg O7 (aE (aE (aE (aE (aE (aE (aE (G0.iY) X dk) Y dk) Z dk) kv dk) kr dk) jk dk) jj dk) λac h8 f8 R8 i6 Sv RH gac k8 O8 j8 q8=>?_;have K8:=K7.gw k8;have S8:ae H h8:=λb o e=>K8.k b o (bh e p8)<|S0 b o e;have aaX:=r_ M.cs;refine az _ xz<|dN m C dx fs<|iQ _ xz (S8 _ _ hm) L.cl L.kE G.kE<|eC A.cm xz ⟨_,ag.of<|S8 _ _ M.cm⟩<|dX (n:=A.cs.length) (λi ys H'=>i<=A.cs.length/\∃rs:List e_,ys=rs.map V.ref/\rs.length=i/\ae h8 H'/\bw (λa(k:List Int)=>H' a=a_ (.lst<|k.map V.int)) rs (S.ov.take i)/\∃R,hJ H x H' R/\(∀a v,R8 a v->R a v)/\∀(j:Nat)a,rs[j]?=a_ a->R a (26+6*j)) ?_ ?_ ?_ ?_ ?_ ?_ ?_
 .exact bL (bq w8)
 .exact⟨bg _,⟨[],xz,xz,ae.refl _,.nil,R8,O8,λ_ _ z=>z,λj y z=>(by simp at z)⟩⟩
 .rintro i ys H' ⟨_,rs,rfl,rfl,_⟩;rw[aA];exact aw _
 .rintro i ys H' hi ⟨_,rs,_,_,U,_⟩;exact gU _ _ (ag.of<|U _ _<|S8 _ _ M.cm)<|aI (by rw[aA];exact hi)
 .rintro ys H' ⟨_,rs,_,_,U,_⟩;exact az _ (ag.of<|U _ _<|S8 _ _ M.cm) (by rw[aA];exact aw _)
 .rintro i ys H' hi ⟨_,rs,rfl,rfl,U,oO,R,oR,iR,rR⟩ z dQ ⟨eH,cU⟩;subst eH;have hz:=cU _<|ag.of<|U _ _<|S8 _ _ M.cm;have hk:S.ov[rs.length]?=a_ (S.ov[rs.length]'wf):=aI wf;refine aD (rX M.cs hk) λy O Eb=>?_;rw[cF,O]at hz;have ix:z=V.ref y:=(c8 hz).gx;subst ix;dsimp only[je,g8];rw[eT rfl];refine vr xz ⟨y,⟨_,xz,.inl<|ag.of<|U _ _<|S8 _ _ Eb,λl nl=>?_⟩⟩;generalize S.ov[rs.length]'wf=k at hk Eb;have s4:=ay (o:=.lst<|k.map V.int) (ae.refl dQ) nl;refine a9 (oR.nx (o:=.lst<|k.map V.int) (26+6*rs.length) nl) λR' o4 i4 n4=>⟨hi,⟨rs++[l],by rw[dC];rfl,by rw[cQ];rfl,U.gw s4,?_,R',o4,λa v z=>i4 a v<|iR a v z,λj y O=>?_⟩⟩
  .rw[iN,hk];exact tU (Paired.bp oO λ_ _ q=>s4 _ _ q) ao
  obtain O|⟨e1,e2⟩:=zZ O
  .exact i4 _ _ (rR j y O)
  subst e1;subst e2;exact n4
 rintro ys Jo ⟨_,zx,rfl,arT,IA,aaT,Rc9,Oc9,ic9,rc9⟩;rw[jl li]at aaT;refine⟨by rw[aA];exact bL<|bq wu,λcm IT=>?_⟩;have t9:ae Jo (dc Jo cm<|.lst<|zx.map V.ref):=ay (ae.refl _) IT;have gcm:dc Jo cm (.lst<|zx.map V.ref) cm=a_ (.lst<|zx.map V.ref):=ao;refine a9 (Oc9.nx (o:=.lst<|zx.map V.ref) 16 IT) λRv9 Ov9 iv9 rv9=>?_;generalize dc Jo cm (.lst<|zx.map V.ref)=v9 at t9 gcm Ov9 ⊢;refine vr xz<|jT x C J f8 xz (t9 _ _<|IA _ _ RH) L.cl L.kE wb ?_;obtain⟨f9,ib⟩:∃f,f=aJ "comers" (.ref cm:V) f8:=⟨_,xz⟩;have Su:f9.length<=20:=by rw[ib,tV<|aE (aE (aE (aE (aE (aE (aE (aE (G0.kE) X dk) Y dk) Z dk) kv dk) kr dk) jk dk) jj dk) i6 dk];exact Sv
 rw[<-ib];have Ry:br x v9 (dc v9 x<|.ins C J f9):=br.dc;have hx9:dc v9 x (.ins C J f9) x=a_ (.ins C J f9):=ao;obtain⟨R9,O9,j9,q9,qc9⟩:∃R,hJ H x (dc v9 x<|.ins C J f9) R/\(∀a v,R8 a v->R a v)/\(∀a v,Rv9 a v->R a v)/\(∀a v,Rc9 a v->R a v):=⟨_,Ov9.keep<|qj (H:=v9) (x:=x) (o:=.ins C J f9),λ_ _ z=>iv9 _ _<|ic9 _ _ z,λ_ _ z=>z,λ_ _ z=>iv9 _ _ z⟩;have K9:br x W (dc v9 x<|.ins C J f9):=K8.gw<|(br.of<|IA.gw t9).gw Ry;generalize dc v9 x (.ins C J f9)=h9 at Ry hx9 O9 K9 ⊢;have S9:ae H h9:=λb o e=>K9.k b o (bh e p8)<|S0 b o e;refine vr xz ?_;have n9:br x h9 h9:=⟨λb o _ e=>e,λb z=>z⟩;have J9:∀a v,R9 a v->R9 a v:=λ_ _ z=>z;have m9:br x v9 h9:=Ry.gw n9;have y9:=(IA.gw t9) _ _ RH;have n8:br x h8 h9:=(br.of<|IA.gw t9).gw m9;have J8:∀a v,R8 a v->R9 a v:=λa v z=>J9 a v<|j9 a v z;have n7:=k8.gw n8;have J7:∀a v,R7 a v->R9 a v:=λa v z=>J8 a v<|j8 a v z;have J6:∀a v,R6 a v->R9 a v:=λa v z=>J7 a v<|j7 a v z;have m6:br x v6 h9:=Rz.gw<|k7.gw n7;have y6:=(IB.gw t6) _ _ Ef;have n5:br x h5 h9:=(br.of<|IB.gw t6).gw m6;have J5:∀a v,R5 a v->R9 a v:=λa v z=>J6 a v<|j6 a v z;have n4:=k5.gw n5;have J4:∀a v,R4 a v->R9 a v:=λa v z=>J5 a v<|j5 a v z;have J3:∀a v,R3 a v->R9 a v:=λa v z=>J4 a v<|j4 a v z;have m3:br x v3 h9:=RA.gw<|k4.gw n4;have y3:=(IC.gw t3) _ _ kT;have n2:br x h2 h9:=(br.of<|IC.gw t3).gw m3;have J2:∀a v,R2 a v->R9 a v:=λa v z=>J3 a v<|j3 a v z;have n1:br x h1 h9:=RB.gw n2;have J1:∀a v,R1 a v->R9 a v:=λa v z=>J2 a v<|j2 a v z;have n0:br x W h9:=RC.gw n1;have J0:∀a v,R0 a v->R9 a v:=λa v z=>J1 a v<|j1 a v z;have nn1:∀y∈jn,y≠(P_ : d0):=by decide +kernel
 have nn2:∀y∈jn,y≠("steps":d0):=by decide +kernel
 have nn3:∀y∈jn,y≠("trays":d0):=by decide +kernel
 have nn4:∀y∈jn,y≠("places":d0):=by decide +kernel
 have nn5:∀y∈jn,y≠("counts":d0):=by decide +kernel
 have nn6:∀y∈jn,y≠("regs":d0):=by decide +kernel
 have nn7:∀y∈jn,y≠("cells":d0):=by decide +kernel
 have nn8:∀y∈jn,y≠("acts":d0):=by decide +kernel
 have nn9:∀y∈jn,y≠("comers":d0):=by decide +kernel
 refine oE O9.l λhD hY=>?_;have lx:=hY _ _<|J0 _ _ r0;refine aD (id M.st) λiJ Bk wQ=>?_;have kt:∀b xs,H b=a_ (.tup xs)->h9 b=a_ (.tup xs):=λb xs e=>S9 _ _ e
 have M9:bb t C CT h9 x ⟨lt,ts,A.pg,A.st,pl,ct,rg,yV,ce,ac,cm,zx⟩ S:=by
  refine⟨⟨J,f9,hx9,?_⟩,m3.sJ y3 glt,?_,M.pg.keep kt,⟨iJ,kt _ _ Bk,Paired.bp wQ λ_ _ q=>q.keep kt λb C dx fs e _=>S9 _ _ e⟩,n4.sJ Eg SJ,n5.sJ Ef gct,m6.sJ y6 grg,Paired.bp aaR λa k q=>m6.sJ y6<|t6 _ _ q,n7.sJ hx7 gce,⟨acs,n8.sJ RH gac,Paired.bp ap8 λ_ _ q=>q.keep kt⟩,m9.sJ y9 gcm,Paired.bp aaT λa k q=>m9.sJ y9<|t9 _ _ q⟩
  .exact⟨aE (aE (aE (aE (aE (aE (jo Z) kv dk) kr dk) jk dk) jj dk) i6 dk) ib dk,aE (aE (aE (aE (aE (aE (aE (aE (jo X) Y dk) Z dk) kv dk) kr dk) jk dk) jj dk) i6 dk) ib dk,aE (aE (aE (aE (aE (aE (aE (aE (aE (G0.kind) X dk) Y dk) Z dk) kv dk) kr dk) jk dk) jj dk) i6 dk) ib dk,aE (aE (aE (aE (aE (aE (aE (jo Y) Z dk) kv dk) kr dk) jk dk) jj dk) i6 dk) ib dk,aE (aE (aE (aE (aE (jo kv) kr dk) jk dk) jj dk) i6 dk) ib dk,aE (aE (aE (aE (jo kr) jk dk) jj dk) i6 dk) ib dk,aE (aE (aE (jo jk) jj dk) i6 dk) ib dk,aE (aE (jo jj) i6 dk) ib dk,aE (jo i6) ib dk,jo ib,λy O=>aE (aE (aE (aE (aE (aE (aE (aE (aE (G0.ms y O) X<|nn1 y O) Y<|nn2 y O) Z<|nn3 y O) kv<|nn4 y O) kr<|nn5 y O) jk<|nn6 y O) jj<|nn7 y O) i6<|nn8 y O) ib<|nn9 y O,Su⟩
  refine ie kh λj y k O _ T=>T.keep (λb hb o e=>m3.k b o (λz=>?_)<|t3 _ _ e) λb xs e=>m3.tup y3 _ _<|t3 _ _ e;have:=hY _ _<|J3 _ _<|Rp _ _<|Rm j y O b hb;rw[z,lx]at this;exact wk
 have L9:ke hD x ⟨lt,ts,A.pg,A.st,pl,ct,rg,yV,ce,ac,cm,zx⟩:=⟨lx,hY _ _<|J3 _ _<|q3 _ _ yU,hY _ _<|J4 _ _<|q4,hY _ _<|J5 _ _<|q5,hY _ _<|J6 _ _<|q6 _ _ rv6,hY _ _<|J7 _ _<|q7,hY _ _<|J8 _ _<|q8,hY _ _<|q9 _ _ rv9,λi a z=>hY _ _<|J6 _ _<|qc6 _ _<|rc6 i a z,λi a z=>hY _ _<|qc9 _ _<|rc9 i a z,λi y z b hb=>hY _ _<|J3 _ _<|Rp _ _<|Rm i y z b hb⟩
 have fr:∀a v,R9 a v->H a=none:=λa v z=>by
  obtain e|e:=O9.f a v z
  .rw[e];exact p8
  exact e
 refine q h9 x _ hD M9 L9 S9 λb hb=>?_;cases hb with
 | m=>exact p8
 | lt=>exact fr _ _<|J3 _ _<|q3 _ _ yU
 | pl=>exact fr _ _<|J4 _ _<|q4
 | ct=>exact fr _ _<|J5 _ _<|q5
 | rg=>exact fr _ _<|J6 _ _<|q6 _ _ rv6
 | ce=>exact fr _ _<|J7 _ _<|q7
 | ac=>exact fr _ _<|J8 _ _<|q8
 | cm=>exact fr _ _<|q9 _ _ rv9
 | rs h=>
  exact oE (zC h) λj hj=>fr _ _<|J6 _ _<|qc6 _ _<|rc6 j _ hj
 | cs h=>
  exact oE (zC h) λj hj=>fr _ _<|qc9 _ _<|rc9 j _ hj
 | ts h h2=>
  exact oE (zC h) λj hj=>fr _ _<|J3 _ _<|Rp _ _<|Rm j _ hj _ h2
end
def akL(s:ae H H1)(fr:∀b,cN x A b->H b=b_)(k:aB (cN x A) H1 H2):aB dE H H2:=
 ⟨λb o _ hn e=>k.k b o (λz=>by rw[fr b z]at e;cases e) hn<|s b o e,λb z=>s.free<|k.t b z⟩
section
variable{t:bf}{C CT PT:e_}
def kindS(kd:d0):Prop:=kd = L_\/kd = l_\/kd = H_
def V9(t:bf)(C CT PT:e_):Sp:=λvs H Q _=>∃m A S p mv,vs=[.ref m,.ref p]/\bb t C CT H m A S/\iu S/\yO S/\kindS S.kd/\b9 PT LP LQ H/\H p=a_ (.tup<|qO mv)/\mv∈gF S/\
 ∀H' x a,bb t C CT H' x a (cV S mv)->(∀b,cN x a b->H b=b_)->aB dE H H'->b9 PT LP LQ H'->Q (.ref x) H'
def Wg:aX [at7,au2,"other"] [at7,au2] (aM KA):=aZ
def aeS(F:aQ K "behind_move" "behind_move" KA f fd)(b:gX K C)(e:Mt P w K mg gW C 9 "twin" hF (X5 t C CT))(g:Mt P w K mg gW C 7 "do" [Y_,au2] (P5 t C CT PT)):
  aG P w K mg gW aF 10 f fd [at7,au2] (V9 t C CT PT):=by
 refine F.ok Wg λaH A _ s H vs Q E c h=>?_;obtain⟨m,A,S,p,mv,rfl,M,W,ov,kd,lam,j,k,q⟩:=h;refine let a:TS:=_;⟨_,au (bG (i:=2) Wg.nd xz (aL xz)<|pA (pv 0) b.cl e c)<|pR a<|au (eE<|jF (pv 2) b.cl g (c.mono qc)<|aa (pv 1) af)<|ax<|aR<|pv 2,?_⟩;obtain⟨dx,fs,hm,G⟩:=id M.obj;refine vM xz hm (G.ms _ dk) ⟨m,A,S,xz,M,kd,W.four,rV W.ov,λy x l hD d n s1 fr=>?_⟩;obtain⟨z,B,o,r⟩:=id d.obj;refine vM xz o (r.ms _ dk)<|vr xz ⟨x,l,S,p,mv,hD,xz,d,n,W,ov,iD lam s1,s1 _ _ j,k,λD u v l2=>?_⟩;exact vr xz<|q _ x _ u fr (akL s1 fr v) l2
end
def bb.Pj(M:bb t C CT H m A S)(a:cN m A b):∃o,H b=a_ o/\((∃C dx fs,o=.ins C dx fs)\/∃xs,o=.lst xs):=by
 cases a with
 | m=>obtain⟨dx,fs,h,_⟩:=M.obj;exact⟨_,h,.inl ⟨_,_,_,xz⟩⟩
 | lt=>exact⟨_,M.lt,.inr ⟨_,xz⟩⟩
 | pl=>exact⟨_,M.pl,.inr ⟨_,xz⟩⟩
 | ct=>exact⟨_,M.ct,.inr ⟨_,xz⟩⟩
 | rg=>exact⟨_,M.rg,.inr ⟨_,xz⟩⟩
 | ce=>exact⟨_,M.ce,.inr ⟨_,xz⟩⟩
 | ac=>obtain⟨vs,h,_⟩:=M.ac;exact⟨_,h,.inr ⟨_,xz⟩⟩
 | cm=>exact⟨_,M.cm,.inr ⟨_,xz⟩⟩
 | rs h=>obtain⟨c,_,q⟩:=rW M.rs h;exact⟨_,q,.inr ⟨_,xz⟩⟩
 | cs h=>obtain⟨c,_,q⟩:=rW M.cs h;exact⟨_,q,.inr ⟨_,xz⟩⟩
 | ts h h2=>
  exact aD (rW M.ts h) λc _ q=>oE (q.there _ h2) λo e=>⟨o,e,q.kinds _ h2 _ e⟩
def jv(t:bf)(C CT lm dy fd:e_)(H:Hp)(v:V)(S:Mc):Prop:=∃m A,v=.ref m/\bb t C CT H m A S/\∀b,cN m A b->b≠lm/\b≠dy/\b≠fd
def bb.up(M:bb t C CT H m A S)(a:H p=a_ o)(c:(∃xs,o=.lst xs)\/∃ks,o=.dT ks)(n:¬cN m A p):bb t C CT (dc H p u) m A S:=by
 have d:∀b xs,H b=a_ (.tup xs)->b≠p:=λb xs e z=>by
  subst z;rw[a]at e;cases e;rcases c with ⟨_,z⟩ | ⟨_,z⟩ <;> cases z
 have f:∀b C dx fs,H b=a_ (.ins C dx fs)->b≠p:=λb C dx fs e z=>by
  subst z;rw[a]at e;cases e;rcases c with ⟨_,z⟩ | ⟨_,z⟩ <;> cases z
 exact M.keep (λb g o e=>by rw[aj λz=>n (by rw[<-z];exact g)];exact e) (λb xs e=>by rw[aj<|d b _ e];exact e) λb C dx fs e=>by rw[aj<|f b C _ _ e];exact e
def GK{PT p:e_}(h:b9 PT LP LQ H)(d:H p=a_ o)(f:(∃xs,o=.lst xs)\/∃ks,o=.dT ks):b9 PT LP LQ (dc H p u):=by
 obtain⟨ps,h1,h2⟩:=h
 have n:∀b o',H b=a_ o'->(∀xs,o'≠.lst xs)->(∀ks,o'≠.dT ks)->b≠p:=λb o' e n1 g z=>by
  subst z;rw[d]at e;cases e;obtain⟨_,z⟩|⟨_,z⟩:=f
  .exact n1 _ z
  exact g _ z
 refine⟨ps,by rw[aj (n _ _ h1 (λxs z=>by cases z) λks z=>by cases z)];exact h1,?_⟩;obtain e|⟨c,e,a⟩:=h2
 .exact .inl e
 exact .inr ⟨c,e,by rw[aj (n _ _ a (λxs z=>by cases z) λks z=>by cases z)];exact a⟩
def aiT(k:aB dE H0 H)(n:H0 p=b_):aB dE H0 (dc H p u):=
 ⟨λb o h1 h2 e=>by rw[aj (λz=>by rw[z,n]at e;cases e)];exact k.k b o h1 h2 e,λb e=>k.t b<|qj b e⟩
def Gu(a:H p=a_ o)(b:(∃xs,o=.lst xs)\/∃ks,o=.dT ks):TK H (dc H p u):=ajn a λz=>by
 rcases b with ⟨_,e⟩ | ⟨_,e⟩ <;> rcases z with ⟨_,z⟩ | ⟨_,_,z⟩ <;> rw[e]at z <;> cases z
structure BF(K:u_)(t:bf)(C CT PT:e_)(H:Hp)(lm dy fd:e_)(L:List Mc)(G Fd:List ci):Prop where
 lst:∃ms,H lm=a_ (.lst ms)/\bw (jv t C CT lm dy fd H) ms L
 yG:∃ks,H dy=a_ (.dT ks)/\As K H ks/\ks.map (·.1)=G
 Q0:∃fs,H fd=a_ (.lst fs)/\fw K H fs Fd/\∀d∈Fd,bZ 8 d=c_
 lam:b9 PT LP LQ H
 ne:lm≠dy/\lm≠fd/\dy≠fd
def FC{K:u_}(k:TK H H')(h:As K H ks):As K H' ks:=λx a=>⟨(h x a).1,(h x a).2.1,qk k (h x a).2.1 (h x a).2.2⟩
section
variable{K:u_}{t:bf}{C CT PT:e_}{H H':Hp}{lm dy fd:e_}{L:List Mc}{G Fd:List ci}
def BF.keep(h:BF K t C CT PT H lm dy fd L G Fd)(k:aB dE H H')(l:b9 PT LP LQ H'):BF K t C CT PT H' lm dy fd L G Fd:=by
 obtain⟨⟨ms,b,c⟩,⟨ks,d,g,i⟩,⟨fs,c1,j,a⟩,_,n⟩:=h;have tk:=TK.DQ k;refine⟨⟨ms,k.vY b,Paired.bp c ?_⟩,⟨ks,k.k _ _ (λz=>z) (λps z=>by cases z) d,FC tk g,i⟩,⟨fs,k.vY c1,nO tk a j,a⟩,l,n⟩;rintro v S⟨m,A,e,M,f⟩;exact⟨m,A,e,M.pE k,f⟩
def BF.same(h:BF K t C CT PT H lm dy fd L G Fd)(s:ae H H'):BF K t C CT PT H' lm dy fd L G Fd:=h.keep (aB.of s)<|iD h.lam s
def BF.put(h:BF K t C CT PT H lm dy fd L G Fd)(e:H dy=a_ (.dT ks))(a:Az K H (d,b)):BF K t C CT PT (dc H dy<|.dT<|ks++[(d,b)]) lm dy fd L (G++[d]) Fd:=by
 obtain⟨⟨ms,i,j⟩,⟨r,c,k,l⟩,⟨fs,c1,o,g⟩,lam,n⟩:=h;rw[e]at c;cases c;have tk:TK H (dc H _<|.dT<|ks++[(d,b)]):=Gu e<|.inr ⟨_,xz⟩;refine⟨⟨ms,by rw[aj n.1];exact i,Paired.bp j λv S⟨m,A,p,M,f⟩=>⟨m,A,p,M.up e (.inr ⟨_,xz⟩) λz=>(f _ z).2.1 xz,f⟩⟩,⟨_,ao,λx q=>?_,by rw[dC,l];rfl⟩,⟨fs,by rw[aj n.2.2.gx];exact c1,nO tk g o,g⟩,GK lam e<|.inr ⟨_,xz⟩,n⟩;obtain z|z:=iC.mp q
 .exact FC tk k x z
 rw[da.mp z];exact⟨a.1,a.2.1,qk tk a.2.1 a.2.2⟩
def BF.app(h:BF K t C CT PT H lm dy fd L G Fd)(e:H lm=a_ (.lst ms))(m:jv t C CT lm dy fd H v S):BF K t C CT PT (dc H lm<|.lst<|ms++[v]) lm dy fd (L++[S]) G Fd:=by
 obtain⟨⟨o,b,g⟩,⟨ks,i,j,k⟩,⟨fs,c1,l,c⟩,lam,n⟩:=h;rw[e]at b;cases b;have tk:TK H (dc H _<|.lst<|ms++[v]):=Gu e<|.inl ⟨_,xz⟩;have up:∀v S,jv t C CT lm dy fd H v S->jv t C CT _ _ _ (dc H _<|.lst<|ms++[v]) v S:=λv S⟨m,A,a,M,f⟩=>⟨m,A,a,M.up e (.inl ⟨_,xz⟩) λz=>(f _ z).1 xz,f⟩;have d:∀u S,jv t C CT lm dy fd H u S->jv t C CT _ _ _ (dc H _<|.lst<|ms++[v]) u S:=λv S⟨m,A,a,M,f⟩=>⟨m,A,a,M.up e (.inl ⟨_,xz⟩) λz=>(f _ z).1 xz,f⟩;exact⟨⟨_,ao,Paired.snoc (Paired.bp g d)<|d v S m⟩,⟨ks,by rw[aj n.1.gx];exact i,FC tk j,k⟩,⟨fs,by rw[aj n.2.1.gx];exact c1,nO tk c l,c⟩,GK lam e<|.inl ⟨_,xz⟩,n⟩
def BF.found(h:BF K t C CT PT H lm dy fd L G Fd){fs:List V}(e:H fd=a_ (.lst fs))(g:bZ 8 d=c_)(hd:eM K H v d):BF K t C CT PT (dc H fd<|.lst<|fs++[v]) lm dy fd L G (Fd++[d]):=by
 obtain⟨⟨ms,b,c⟩,⟨ks,i,j,k⟩,⟨q,c1,l,a⟩,lam,n⟩:=h;rw[e]at c1;cases c1;have tk:TK H (dc H _<|.lst<|fs++[v]):=Gu e<|.inl ⟨_,xz⟩;refine⟨⟨ms,by rw[aj n.2.1];exact b,Paired.bp c λv S⟨m,A,o,M,f⟩=>⟨m,A,o,M.up e (.inl ⟨_,xz⟩) λz=>(f _ z).2.2 xz,f⟩⟩,⟨ks,by rw[aj n.2.2];exact i,FC tk j,k⟩,⟨_,ao,MH (nO tk a l)<|qk tk g hd,λx p=>?_⟩,GK lam e<|.inl ⟨_,xz⟩,n⟩;obtain z|z:=iC.mp p
 .exact a x z
 rw[da.mp z];exact g
def BF.at(h:BF K t C CT PT H lm dy fd L G Fd){i:Nat}(e:L[i]?=a_ S):∃ms v m A,H lm=a_ (.lst ms)/\ms.length=L.length/\ms[i]?=a_ v/\v=.ref m/\bb t C CT H m A S/\∀b,cN m A b->b≠lm/\b≠dy/\b≠fd:=by
 obtain⟨ms,c,a⟩:=h.lst;obtain⟨v,d,m,A,g,M,f⟩:=rX a e;exact⟨ms,v,m,A,c,r_ a,d,g,M,f⟩
end
noncomputable def alr:bx->List bx
 | .While _ b _ _=>b
 | _=>[]
noncomputable def fBody:bx->List bx
 | .For _ _ b _ _=>b
 | _=>[]
abbrev Q4:List bx:=alr<|(jb ud).getD 4<|.Pass ⟨0,0,0,0⟩
def ag0{S:Mc}{L:List Mc}{mvs:List Mv}{i:Nat}{mv:Mv}(h:mvs[i]?=a_ mv):pN S L (mvs.take<|i+1)=jc (pN S L<|mvs.take i) (cV S mv):=by
 unfold pN;rw[iN,h,ab7];rfl
def Xn{κ:Mc->ci}(a:∀{S S'},κ S=κ S'↔bT S=bT S'){L:List Mc}:κ S∈L.map κ↔bT S∈L.map bT:=by
 rw[b8,b8];refine⟨?_,λ⟨T,h,e⟩=>⟨T,h,a.mpr e⟩⟩;rintro ⟨T,h,e⟩;exact⟨T,h,a.mp e⟩
def ah7{κ:Mc->ci}(a:∀{S S'},κ S=κ S'↔bT S=bT S'){L:List Mc}(h:κ S∈L.map κ):jc L S=L:=by
 unfold jc;rw[eT<|(Xn a).mp h]
def afT{κ:Mc->ci}(a:∀{S S'},κ S=κ S'↔bT S=bT S'){L:List Mc}(h:κ S∉L.map κ):jc L S=L++[S]:=by
 unfold jc;rw[eN λz=>h<|(Xn a).mpr z]
theorem XA{mvs:List Mv}{L:List Mc}:(pN S L mvs).length<=L.length+mvs.length:=by
 induction mvs generalizing L with
 |nil=>exact aw _
 |cons mv mvs i=>
  have h:=i (L:=jc L<|cV S mv)
  have h2:(jc L<|cV S mv).length<=L.length+1:=by
   unfold jc
   split
   .exact jC _
   rw[cQ];exact aw _
  rw[eI];show (pN S (jc L<|cV S mv) mvs).length<=_;lia
def aeT(W:iu S):(gF S).length<=60:=by
 unfold gF uo;rw[cQ,aA];have h1:=o7 (uk S)<|List.range S.ck.length;rw[qi]at h1;have h2:(Aa S).length<=12*S.ck.zipIdx.length:=F8 _ _;rw[Tv]at h2;have h4:=W.four;lia
def Au(S0:Mc)(n j:Nat):Prop:=(∀i,i<j->i<(aN S0 i).length/\(aN S0 i).length<=n)/\¬(j<(aN S0 j).length/\(aN S0 j).length<=n)
def Au.le(h:Au S0 n j):j<=n/\(j<=(aN S0 j).length):=by
 cases j with
 | zero=>exact⟨bg _,bg _⟩
 | succ i=>
  obtain⟨a,b⟩:=h.1 i<|vc i;exact⟨li,dq a<|ahj _<|jC i⟩
def ako(a:aB dE H H1)(hm:H m=b_)(k:br m H1 H2):aB dE H H2:=⟨λb o n hn e=>k.k b o (λz=>by rw[z,hm]at e;cases e)<|a.k b o n hn e,λb h=>a.t b<|k.t b h⟩
def YC{PT m C dx:e_}{fs:List (d0×V)}(k:br m H H')(hm:H m=a_ (.ins C dx fs))(h:b9 PT LP LQ H):b9 PT LP LQ H':=
 BS (F:=[m]) h (λb o n e=>k.k b o (λz=>n<|by rw[z];exact da.mpr xz) e) λb a o e=>by rw[da.mp a,hm]at e;cases e;exact .inl ⟨_,_,_,xz⟩
theorem LC{K:u_}{vs:List V}{ds:List ci}(h:fw K H vs ds):bw (eM K H) vs ds:=by
 induction h using fw.ind with
 |a=>exact .nil
 |b a _ i=>exact .cons a i
theorem Vq{K:u_}{vs:List V}{ds:List ci}(g:∀d∈ds,bZ 8 d=c_)(k:TK H H')(h:bw (eM K H) vs ds):fw K H' vs ds:=by
 induction h with
 |nil=>exact .nil
 |cons a _ i=>exact .cons (qk k (g _ bV) a)<|i λd hd=>g d<|cu _ hd
section
variable{t:bf}{C CT PT:e_}
def Ho(K:u_)(S0:Mc)(n j:Nat)(H H':Hp)(p:e_):Prop:=
 if n<(aN S0 j).length then H' p=a_ (.tup [.str "more"])
 else ∃l c es,H' p=a_ (.tup [.str "ends",.ref l])/\H l=b_/\H' l=a_ (.lst c)/\fw K H' c es/\es.Perm (fv<|aN S0 j)/\es.Pairwise λa b=>mx a b=c_
def sG(S:Mc):Prop:=∀c∈S.ck,c.es.length<64
def X9(K:u_)(PT:e_):Sp:=λvs H Q _=>∃v ps kd n,vs=[v,.str kd,.int (n:Nat)]/\iq H v ps/\cW ps/\kindS kd/\n<=2000/\b9 PT LP LQ H/\
 (∀k,k<=n->(aN (cg kd ps) k).length<=n->∀S∈aN (cg kd ps) k,sG S/\∀mv∈gF S,sG<|cV S mv)/\(∀k,k<=n->(aN (cg kd ps) k).length<=n->(fv<|aN (cg kd ps) k).length<64)/\
 ∀j H' p,Au (cg kd ps) n j->aB dE H H'->b9 PT LP LQ H'->Ho K (cg kd ps) n j H H' p->Q (.ref p) H'
abbrev DU:List d0:=[P_,Z_,"most","machines","known","found",T_,at7,au2,"other","stand"]
def si:aX DU [P_,Z_,"most"] (aM ud):=aZ
def VL(h:(aN S0 k)[k]?=a_ S):fv ((aN S0<|k+1).take<|k+1)=fv ((aN S0 k).take k)++if pB S=c_ then [jf S] else []:=by
 have a:=(b0.mp h).1;obtain⟨r,b⟩:=VU _ k;rw[<-b,List.take_append_of_le_length a,iN,h];unfold fv;rw[xq,dC]
 congr 1
 by_cases e:pB S=c_
 .rw[eT e];simp[e]
 rw[eN e];simp[e]
structure FI(K:u_)(t:bf)(C CT PT:e_)(κ:Mc->ci)(H0 H:Hp)(lm dy fd m:e_)(S:Mc)(L:List Mc)(Fd:List ci):Prop where
 b:BF K t C CT PT H lm dy fd L (L.map κ) Fd
 m:jv t C CT lm dy fd H (.ref m) S
 k:aB (λb=>b=lm\/b=dy) H0 H
def jv.keep(h:jv t C CT lm dy fd H v S)(k:aB dE H H'):jv t C CT lm dy fd H' v S:=by
 obtain⟨m,A,e,M,f⟩:=h;exact⟨m,A,e,M.pE k,f⟩
def aB.amg(k:aB F H0 H)(k':aB dE H H'):aB F H0 H':=k.gw (k'.mono λb z=>z.elim)
def ais{f fI:e_}{fd dI:ik}(F:aQ K "ends" "ends" ud f fd)(B:Bw mg)(cM:gX K C)(mk:Mk K C fI)(GI:aG P w K mg gW aF 7 fI dI jp (Gf t C CT))(Dh:mg "Machine"=a_ (.ref C))(b3:dL K dI jp [])(DS:Dp P w K mg gW 4 "stand_of" ii (xU K t C CT eQ))(DE:Dp P w K mg gW 3 "end_of" ii (xU K t C CT jf))(DN:Mt P w K mg gW C 2 "ended" hF (MV t C CT))(DM:Mt P w K mg gW C 4 "moves" hF (Ge t C CT PT))(DB:Dp P w K mg gW 10 "behind_move" [at7,au2] (V9 t C CT PT)):aG P w K mg gW aF 11 f fd [P_,Z_,"most"] (X9 K PT):=by
 refine F.ok si λaH A outer s H vs Q E hr h=>?_
 obtain⟨v,ps,kd,n,rfl,hP,hg,hk,hn,lam,hW,hE,q⟩:=h;have hu:=nJ (EZ (show 10<=65 by decide) _)<|Ag hr;have hu3:=nJ (EZ (show 30<=65 by decide) _)<|Ag hr;have kj:=hr.mono (show 4<=10 by decide);have oQ:=hr.mono (show 3<=10 by decide);have jN:=hr.mono (show 2<=10 by decide);have Em:=hr.mono (show 8<=10 by decide)
 obtain⟨tF,pF,uF⟩:∃tF,fD (pO aF P w K mg gW DU "ends" (aM ud) f aH A outer s H E).pY (fBody<|Q4.getD 2<|.Pass ⟨0,0,0,0⟩) tF/\∀(D:Ends)(σ:L2.St)(O H2:Hp)(lm dy fd m p:e_)(k:Nat)(R U:Option V)(S:Mc)(L:List Mc)(Fd:List ci)(mv:Mv),σ=[a_ v,a_<|.str kd,a_<|.int (n:Nat),a_<|.ref lm,a_<|.ref dy,a_<|.ref fd,a_<|.int (k:Nat),a_<|.ref m,a_<|.ref p,R,U]->FI K t C CT PT eQ O H2 lm dy fd m S L Fd->mz kd ps k S->k<14000->L.length<=15000->H2 p=a_ (.tup<|qO mv)->mv∈gF S->sG (cV S mv)->
   (∀H3 X Y,FI K t C CT PT eQ O H3 lm dy fd m S (jc L<|cV S mv) Fd->D.nx [a_ v,a_<|.str kd,a_<|.int (n:Nat),a_<|.ref lm,a_<|.ref dy,a_<|.ref fd,a_<|.int (k:Nat),a_<|.ref m,a_<|.ref p,X,Y] H3)->tF D σ H2:=by
  refine let a:TS:=_;let c:TS:=_;⟨_,au (bG (i:=9) si.nd xz (aL xz)<|bA DB hr xz<|aa (pv 7)<|aa (pv 8) af)<|pR c<|au (bG (i:=10) si.nd xz (aL xz)<|bA DS kj xz<|aa (pv 9) af)<|ax<|bz (An<|adM hu (pv 10)<|pv 4) (pR a<|au (afW hu (pv 4) (pv 10) iF xz)<|ax<|eE<|kG m_ n_ o_ mY (pv 3)<|aa (pv 9) af) bQ,?_⟩;rintro D σ O H2 lm dy fd m p k R U S L Fd mv rfl I oZ asA hL hp fq EN nx;obtain⟨m',A,e,M,fM⟩:=I.m;cases e;refine vr xz<|vr xz ⟨m,A,S,p,mv,xz,M,oZ.W.wf,oZ.W.ovf li,by rw[oZ.kd];exact hk,I.b.lam,hp,fq,λH3 x A' M3 fr k3 l3=>?_⟩;have aqv:=oZ.mv li fq;refine vr xz ⟨x,A',cV S mv,xz,M3,aqv.W.wf,EN,λH4 sp s4 hd=>?_⟩;have k4:=k3.gw<|aB.of s4;have B4:=I.b.keep k4<|iD l3 s4;have m4:jv t C CT lm dy fd H4 (.ref m) S:=jv.keep ⟨m,A,xz,M,fM⟩ k4;have kp4:=aB.amg I.k k4;obtain⟨ks,d1,d2,d3⟩:=B4.yG;refine az _ xz<|az _ xz ?_;refine⟨dy,ks,sp,eQ<|cV S mv,xz,d1,d2,xz,⟨xz,xR _,hd⟩,_,xz,Ay (λwW=>?_) λhi=>?_⟩
  .rw[d3]at wW;obtain⟨ms,a1,a2⟩:=B4.lst;have la:=r_ a2;have lk:ks.length=L.length:=by have:=gv KO d3;simpa using this
   refine⟨_,xz,_,xz,dy,ks,sp,eQ<|cV S mv,xz,xz,d1,d2,xz,⟨xz,xR _,hd⟩,by rw[gf];lia,by rw[d3];exact wW,?_⟩;have B5:=B4.put d1 (d:=eQ<|cV S mv) (b:=sp) ⟨xz,xR _,hd⟩;have up5:∀v T,jv t C CT lm dy fd H4 v T->jv t C CT lm dy fd (dc H4 dy<|.dT<|ks++[(eQ<|cV S mv,sp)]) v T:=λv T⟨m,A,e1,M,f⟩=>⟨m,A,e1,M.up d1 (.inr ⟨_,xz⟩) λz=>(f _ z).2.1 xz,f⟩;have kp5:aB (λb=>b=lm\/b=dy) O (dc H4 dy<|.dT<|ks++[(eQ<|cV S mv,sp)]):=kp4.gw<|aB.dc<|.inr xz;have a5:dc H4 dy (.dT<|ks++[(eQ<|cV S mv,sp)]) lm=a_ (.lst ms):=by rw[aj B4.ne.1];exact a1
   have nw:jv t C CT lm dy fd H4 (.ref x) (cV S mv):=⟨x,A',xz,M3.same s4,λb hb=>by
    have zo:=fr b hb;obtain⟨ms0,c1,_⟩:=I.b.lst;obtain⟨ks0,c2,_⟩:=I.b.yG;obtain⟨fs0,c3,_⟩:=I.b.Q0;exact⟨λz=>(by rw[z,c1]at zo;cases zo),λz=>(by rw[z,c2]at zo;cases zo),λz=>(by rw[z,c3]at zo;cases zo)⟩⟩
   have nw5:=up5 _ _ nw;have m5:=up5 _ _ m4;generalize dc H4 dy (.dT<|ks++[(eQ<|cV S mv,sp)])=H5 at B5 kp5 a5 nw5 m5 ⊢;refine eC _ xz (.inl ⟨xz,_,ag.of a5⟩)<|vr xz<|⟨lm,ms,(.ref x),xz,xz,a5,(by rw[gf];lia),?_⟩;refine nx _ _ _ ⟨?_,?_,kp5.gw<|aB.dc<|.inl xz⟩
   .rw[afT UB wW,dC];exact B5.app a5 nw5
   obtain⟨m',A,e1,M,f⟩:=m5;exact⟨m',A,e1,M.up a5 (.inl ⟨_,xz⟩) λz=>(f _ z).1 xz,f⟩
  rw[d3]at hi;refine nx _ _ _ ⟨?_,m4,kp4⟩;rw[ah7 UB hi];exact B4
 generalize EF:cg kd ps=S0 at *
 obtain⟨tR,pT,uR⟩:∃tR,fD (pO aF P w K mg gW DU "ends" (aM ud) f aH A outer s H E).pY (Q4.drop 2) tR/\∀(D:Ends)(σ:L2.St)(O:Hp)(lm dy fd m:e_)(k:Nat)(Z R U:Option V)(S:Mc)(Fd:List ci),σ=[a_ v,a_<|.str kd,a_<|.int (n:Nat),a_<|.ref lm,a_<|.ref dy,a_<|.ref fd,a_<|.int (k:Nat),a_<|.ref m,Z,R,U]->BF K t C CT PT O lm dy fd (aN S0 k) ((aN S0 k).map eQ) Fd->jv t C CT lm dy fd O (.ref m) S->(aN S0 k)[k]?=a_ S->mz kd ps k S->(aN S0 k).length<=n->(∀mv∈gF S,sG<|cV S mv)->
   (∀H3 y8 X Y,BF K t C CT PT H3 lm dy fd (aN S0<|k+1) ((aN S0<|k+1).map eQ) Fd->aB (λb=>b=lm\/b=dy) O H3->D.nx [a_ v,a_<|.str kd,a_<|.int (n:Nat),a_<|.ref lm,a_<|.ref dy,a_<|.ref fd,a_<|.int ((k+1:Nat):Int),a_<|.ref m,y8,X,Y] H3)->tR D σ O:=by
  refine⟨_,au (jV jA xz (lA<|pA (pv 7) cM.cl DM kj) (bo (i:=8) si.nd xz<|aL xz) pF)<|ax<|ajQ (i:=6) si.nd xz (aL xz) ar YH,?_⟩;rintro D σ O lm dy fd m k Z R U S Fd rfl B1 m1 hS oZ hL EN nx;obtain⟨m',A1,e,M,fM⟩:=id m1;cases e;have hkl:=(b0.mp hS).1;obtain⟨dx,fs,hm,G⟩:=id M.obj;refine vM xz hm (G.ms _ dk) ⟨m,A1,S,xz,M,oZ.W.wf,B1.lam,λH2 l us k2 l2 nl hl Bo=>⟨l,xz,⟨_,ag.of hl⟩,?_⟩⟩;have B2:=B1.keep k2 l2;have m2:=jv.keep m1 k2;obtain⟨ms1,a1,_⟩:=B1.lst;obtain⟨ks1,b1,_⟩:=B1.yG;have D9:l≠lm:=λz=>by rw[z,a1]at nl;cases nl
  have IP:l≠dy:=λz=>by rw[z,b1]at nl;cases nl
  have hlen:=r_ Bo;have ml:=aeT oZ.W.wf;refine Mz (xs:=us) (λi σ H'=>∃y8 X Y,σ=[a_ v,a_<|.str kd,a_<|.int (n:Nat),a_<|.ref lm,a_<|.ref dy,a_<|.ref fd,a_<|.int (k:Nat),a_<|.ref m,y8,X,Y]/\FI K t C CT PT eQ H2 H' lm dy fd m S (pN S (aN S0 k)<|(gF S).take i) Fd) ⟨Z,R,U,xz,B2,m2,aB.refl _⟩ ?_ ?_ ?_
  .rintro i σ H' _ ⟨_,_,_,_,I⟩;exact ag.of<|I.k.k _ _ (λz=>z.elim D9 IP) (λps z=>by cases z) hl
  .rintro i x σ H' hx ⟨y8,X,Y,rfl,I⟩;obtain⟨mv,hmi,p,rfl,hp⟩:=zP Bo hx;have fq:=a8 hmi
   have gm:H' p=a_ (.tup<|qO mv):=I.k.tup (λb z xs e=>by
    obtain z|z:=z
    .rw[z,k2.vY a1]at e;cases e
    rw[z,k2.k _ _ (λz=>z) (λps z=>by cases z) b1]at e;cases e) _ _ hp
   refine uF _ _ H2 H' lm dy fd m p k X Y S _ Fd mv xz I oZ li (by have h5:=XA (S:=S) (mvs:=(gF S).take i) (L:=aN S0 k);rw[fJ]at h5;lia) gm fq (EN mv fq) λH3 u9 u10 I3=>?_;rw[<-ag0 hmi]at I3;exact⟨_,_,_,xz,I3⟩
  rintro σ H' ⟨y8,X,Y,rfl,I⟩;rw[hlen,jl<|aw _,<-BY hS]at I;refine⟨_,xz,(k:Int),1,xz,xz,?_⟩;exact nx H' y8 X Y I.b<|(k2.mono λb z=>z.elim).gw I.k
 obtain⟨tW,pW,uW⟩:∃tW,fD (pO aF P w K mg gW DU "ends" (aM ud) f aH A outer s H E).pY Q4 tW/\∀(D:Ends)(σ:L2.St)(O:Hp)(lm dy fd:e_)(k:Nat)(z7 Z R U:Option V)(S:Mc),σ=[a_ v,a_<|.str kd,a_<|.int (n:Nat),a_<|.ref lm,a_<|.ref dy,a_<|.ref fd,a_<|.int (k:Nat),z7,Z,R,U]->BF K t C CT PT O lm dy fd (aN S0 k) ((aN S0 k).map eQ) (fv<|(aN S0 k).take k)->(aN S0 k)[k]?=a_ S->mz kd ps k S->(aN S0 k).length<=n->sG S->(∀mv∈gF S,sG<|cV S mv)->
   (∀H3 y7 y8 X Y,BF K t C CT PT H3 lm dy fd (aN S0<|k+1) ((aN S0<|k+1).map eQ) (fv<|(aN S0<|k+1).take<|k+1)->aB (λb=>b=lm\/b=dy\/b=fd) O H3->D.nx [a_ v,a_<|.str kd,a_<|.int (n:Nat),a_<|.ref lm,a_<|.ref dy,a_<|.ref fd,a_<|.int ((k+1:Nat):Int),y7,y8,X,Y] H3)->tW D σ O:=by
  refine let g:TS:=_;⟨_,au (bG (i:=7) si.nd xz (aL xz)<|aU bX (pv 3)<|pv 6)<|pR g<|au (bz (dg<|pA (pv 7) cM.cl DN jN) (ax<|eE<|kG m_ n_ o_ mY (pv 5)<|aa (bA DE oQ xz<|aa (pv 7) af) af) bQ) pT,?_⟩;rintro D σ O lm dy fd k z7 Z R U S rfl B1 hS oZ hL EN aa4 nx;have hkl:=(b0.mp hS).1;obtain⟨ms,v0,m,A1,a1,al,av,rfl,M,fM⟩:=B1.at hS;obtain⟨dx,fs,hm,G⟩:=id M.obj;have m1:jv t C CT lm dy fd O (.ref m) S:=⟨m,A1,xz,M,fM⟩;refine vr xz<|vr xz<|rL (v:=.ref m) (ag.of a1) (cI av) ?_;refine vM xz hm (G.ms _ dk) ⟨m,A1,S,xz,M,oZ.W.wf,λH2 s2=>⟨_,xz,lG (λhe=>?_) λhe=>?_⟩⟩
  .obtain⟨mP,c1,c2,c3⟩:=(B1.same s2).Q0;refine eC _ xz (.inl ⟨xz,_,ag.of c1⟩)<|vr xz ⟨m,A1,S,xz,M.same s2,oZ.W.wf,EN,λH3 p s3 hd=>?_⟩;have B3:=B1.same<|s2.gw s3;have SS:=s3 _ _ c1;have Jm:=vx c2
   have hel:(fv<|(aN S0 k).take k).length<=k:=by
    unfold fv;rw[aA];exact dq (o7 _ _) (by rw[fJ];exact TQ _ _)
   refine⟨fd,mP,(.ref p),xz,xz,SS,(by rw[gf];lia),?_⟩;have B4:=B3.found SS (Aw 5 S) hd;have m4:jv t C CT lm dy fd (dc H3 fd<|.lst<|mP++[.ref p]) (.ref m) S:=⟨m,A1,xz,(M.same<|s2.gw s3).up SS (.inl ⟨_,xz⟩) λz=>(fM _ z).2.2 xz,fM⟩;have k4:aB (λb=>b=lm\/b=dy\/b=fd) O (dc H3 fd<|.lst<|mP++[.ref p]):=(aB.of<|s2.gw s3).gw<|aB.dc<|.inr<|.inr xz;refine uR _ _ _ lm dy fd m k Z R U S _ xz B4 m4 hS oZ hL aa4 λH5 y8 X Y B5 k5=>?_;refine nx H5 _ y8 X Y ?_<|k4.gw (k5.mono λb z=>z.imp id .inl);rw[VL hS,eT he];exact B5
  refine uR _ _ _ lm dy fd m k Z R U S _ xz (B1.same s2) (jv.keep m1<|aB.of s2) hS oZ hL aa4 λH5 y8 X Y B5 k5=>?_;refine nx H5 _ y8 X Y ?_<|(aB.of s2).gw (k5.mono λb z=>z.imp id .inl);rw[VL hS,eN (by rw[he];decide),nK];exact B5
 obtain⟨t5,p5,u5⟩:∃t5,fD (pO aF P w K mg gW DU "ends" (aM ud) f aH A outer s H E).pY ((jb ud).drop 5) t5/\∀(D:Ends)(σ:L2.St)(O:Hp)(lm dy fd:e_)(k:Nat)(z7 Z R U:Option V),σ=[a_ v,a_<|.str kd,a_<|.int (n:Nat),a_<|.ref lm,a_<|.ref dy,a_<|.ref fd,a_<|.int (k:Nat),z7,Z,R,U]->BF K t C CT PT O lm dy fd (aN S0 k) ((aN S0 k).map eQ) (fv<|(aN S0 k).take k)->Au S0 n k->aB dE H O->D.rt=Q->t5 D σ O:=by
  refine⟨_,ax<|aR<|FX (cb Hf (bC ft xz B.len q_<|aa (pv 3) af) (pv 2)<|bR _) (dR<|aa cq af)<|dR<|aa cq<|aa (bC (ac7 hu3) xz B.sorted boot_sorted<|aa (pv 5) af) af,?_⟩;rintro D σ O lm dy fd k z7 Z R U rfl B1 he k1 rfl;obtain⟨ms,a1,a2⟩:=B1.lst;have al:=r_ a2;refine vr xz<|eA lm ms xz (.inl<|ag.of a1)<|az _ xz ⟨_,_,xz,xz,_,xz,bj (λh1=>?_) λh1=>?_⟩
  .refine⟨sl (n:=1),λp hp=>?_⟩;have s2:ae O (dc O p<|.tup [.str "more"]):=ay (ae.refl _) hp;refine q k _ p he (k1.gw<|aB.of s2) (iD B1.lam s2) ?_;unfold Ho;rw[eT li];exact ao
  have hkn:=he.le;have yy:(aN S0 k).take k=aN S0 k:=jl (by have:=he.2;lia);obtain⟨fs,c1,c2,c3⟩:=B1.Q0;rw[yy]at c2 c3;have hf:=FN hg (kd:=kd) (k:=k) li;rw[EF]at hf;have e64:=hE k hkn.1 li
  have mem:∀d∈fv (aN S0 k),∃S∈aN S0 k,d=jf S:=λd hd=>by
   obtain⟨S,h1,h2⟩:=b8.mp hd;exact⟨S,(jB.mp h1).1,h2.gx⟩
  refine vr xz ⟨fd,fs,fv<|aN S0 k,xz,ag.of c1,e64,LC c2,λd hd=>?_,λd hd e zh=>?_,XD (MQ S0 k) hf,λl zs es hl hz pm pw=>⟨sl (n:=2),λp hp=>?_⟩⟩
  .obtain⟨S,_,rfl⟩:=mem d hd;exact⟨Aw 5 S,_,_,xz⟩
  .obtain⟨S,hS,rfl⟩:=mem d hd;obtain⟨T,hT,rfl⟩:=mem e zh;have f1:=hf S hS;have f2:=hf T hT;exact ad6 f1.W.wf f2.W.wf (by rw[f1.W.wf.len,f2.W.wf.len,f1.ps,f2.ps])
  have s2:ae O (dc O l<|.lst zs):=ay (ae.refl _) hl;have g2:dc O l (.lst zs) l=a_ (.lst zs):=ao;generalize dc O l (.lst zs)=H2 at s2 g2 hp ⊢;have s3:ae H2 (dc H2 p<|.tup [.str "ends",.ref l]):=ay (ae.refl _) hp;refine q k _ p he (k1.gw<|aB.of<|s2.gw s3) (iD B1.lam<|s2.gw s3) ?_;unfold Ho;rw[eN li];refine⟨l,zs,es,ao,k1.t l hl,s3 _ _ g2,Vq (λd hd=>?_) (TK.of<|s2.gw s3) hz,pm,pw⟩;obtain⟨S,_,rfl⟩:=mem d<|pm.mem_iff.mp hd;exact Aw 5 S
 refine let j:TS:=_;let r:TS:=_;let J:TS:=_;let N:TS:=_;⟨_,au (bG (i:=3) si.nd xz (aL xz)<|eX<|aa (pk mk GI Em xz Dh b3 .nil cX<|aa (pv 0)<|aa (pv 1) af) af)<|pR N<|au (bG (i:=4) si.nd xz (aL xz)<|afZ hu (bA DS kj xz<|aa (aU bX (pv 3) ar) af) iF)<|pR J<|au (bG (i:=5) si.nd xz (aL xz)<|eX af)<|pR r<|au (bG (i:=6) si.nd xz (aL xz) ar)<|pR j<|au (Wj jA (PW.pt<|pw_and (cb vO (pv 6) (bC ft xz B.len q_<|aa (pv 3) af)<|bR _)<|pw_and1<|cb C0 (bC ft xz B.len q_<|aa (pv 3) af) (pv 2)<|bR _) pW) p5,?_⟩;refine az _ xz (vr xz λx dx nx fE ne=>?_);have sb:ae H (dc (dc H dx<|.own x) x<|.ins C dx []):=ay (ay (ae.refl _) fE) (by rw[aj ne.gx];exact nx);have Ed:dc (dc H dx<|.own x) x (.ins C dx []) x=a_ (.ins C dx []):=ao;generalize dc (dc H dx<|.own x) x (.ins C dx [])=Hb at sb Ed ⊢;refine⟨x,dx,v,ps,kd,xz,Ed,(hP.keep λb xs e=>sb b _ e),hg,hk,(λh0 A2 ao6 M2 L2' ev k2 fr2=>⟨xz,sl (n:=1),λlm D9=>?_⟩)⟩;rw[EF]at M2;have k0:aB dE H h0:=ako (aB.of sb) nx k2;have l0:=YC k2 Ed<|iD lam sb;have s1:ae h0 (dc h0 lm<|.lst [.ref x]):=ay (ae.refl _) D9;have g1:dc h0 lm (.lst [.ref x]) lm=a_ (.lst [.ref x]):=ao;have asl:=k0.t _ D9
 have fx:∀b,cN x A2 b->b≠lm:=λb hb z=>by
  obtain⟨o,e,_⟩:=M2.Pj hb;rw[z,D9]at e;cases e
 generalize dc h0 lm (.lst [.ref x])=h1 at s1 g1 ⊢;have M3:=M2.same s1;have k1:=k0.gw<|aB.of s1;have l1:=iD l0 s1;refine λdy IS=>?_;have s2:ae h1 (dc h1 dy<|.dT []):=ay (ae.refl _) IS;have g2:dc h1 dy (.dT []) dy=a_ (.dT []):=ao;have ao2:=k1.t _ IS
 have fx2:∀b,cN x A2 b->b≠dy:=λb hb z=>by
  obtain⟨o,e,_⟩:=M3.Pj hb;rw[z,IS]at e;cases e
 have nkm:lm≠dy:=bh g1 IS;generalize dc h1 dy (.dT [])=h2 at s2 g2 ⊢;have w0:=FN hg (kd:=kd) (k:=0) li (cg kd ps) (by rw[aN];exact da.mpr xz)
 have z0:sG S0:=by
  rw[<-EF];intro x hx;obtain⟨_,_,rfl⟩:=b8.mp hx;exact Nat.zero_lt_succ 63
 rw[EF]at w0;refine vr xz<|rL (v:=.ref x) (ag.of<|s2 _ _ g1) xz ⟨x,A2,S0,xz,M3.same s2,w0.W.wf,z0,λh3 p s3 hd=>⟨p,eQ S0,xz,s3 _ _ g2,xz,⟨xz,xR _,hd⟩,?_⟩⟩;have QN:=s3 _ _ g2;have p7:=s2.gw s3;have tk:TK h3 (dc h3 dy<|.dT [(eQ S0,p)]):=Gu QN<|.inr ⟨_,xz⟩;have k4:aB dE H (dc h3 dy<|.dT [(eQ S0,p)]):=aiT (k1.gw<|aB.of p7) ao2;have l4:b9 PT LP LQ (dc h3 dy<|.dT [(eQ S0,p)]):=GK (iD l1 p7) QN<|.inr ⟨_,xz⟩;have M4:=(M3.same p7).up (u:=.dT [(eQ S0,p)]) QN (.inr ⟨_,xz⟩) λz=>fx2 _ z rfl;have g4:dc h3 dy (.dT [(eQ S0,p)]) dy=a_ (.dT [(eQ S0,p)]):=ao;have a4:dc h3 dy (.dT [(eQ S0,p)]) lm=a_ (.lst [.ref x]):=by rw[aj nkm];exact p7 _ _ g1
 have d4:=qk tk (xR S0) hd;generalize dc h3 dy (.dT [(eQ S0,p)])=h4 at k4 l4 M4 g4 a4 d4 ⊢;refine⟨qc,λfd D'=>?_⟩;have s5:ae h4 (dc h4 fd<|.lst []):=ay (ae.refl _) D';have g5:dc h4 fd (.lst []) fd=a_ (.lst []):=ao;have asm:=k4.t _ D'
 have fx3:∀b,cN x A2 b->b≠fd:=λb hb z=>by
  obtain⟨o,e,_⟩:=M4.Pj hb;rw[z,D']at e;cases e
 have n1:lm≠fd:=bh a4 D';have n2:dy≠fd:=bh g4 D';generalize dc h4 fd (.lst [])=h5 at s5 g5 ⊢;have B5:BF K t C CT PT h5 lm dy fd (aN S0 0) ((aN S0 0).map eQ) (fv<|(aN S0 0).take 0):=⟨⟨_,s5 _ _ a4,.cons ⟨x,A2,xz,M4.same s5,λb hb=>⟨fx b hb,fx2 b hb,fx3 b hb⟩⟩ .nil⟩,⟨_,s5 _ _ g4,λy hy=>(by rw[da.mp hy];exact⟨xz,xR _,qk (TK.of s5) (xR S0) d4⟩),xz⟩,⟨[],g5,.nil,λd hd=>by cases hd⟩,iD l4 s5,nkm,n1,n2⟩;have k5:=k4.gw<|aB.of s5;refine⟨λμ σ H'=>∃k z7 Z R U,μ=n+1-k/\σ=[a_ v,a_<|.str kd,a_<|.int (n:Nat),a_<|.ref lm,a_<|.ref dy,a_<|.ref fd,a_<|.int (k:Nat),z7,Z,R,U]/\(∀i,i<k->i<(aN S0 i).length/\(aN S0 i).length<=n)/\BF K t C CT PT H' lm dy fd (aN S0 k) ((aN S0 k).map eQ) (fv<|(aN S0 k).take k)/\aB dE H H',⟨_,0,b_,b_,b_,b_,xz,xz,(λi h=>f' h<|zH _),B5,k5⟩,?_⟩;rintro μ σ H6 ⟨k,z7,Z,R,U,rfl,rfl,hI,B6,k6⟩;obtain⟨ms,a1,a2⟩:=B6.lst;have al:=r_ a2;have fin:¬(k<(aN S0 k).length/\(aN S0 k).length<=n)->Au S0 n k:=λh=>⟨hI,h⟩;refine az _ xz<|vr xz<|eA lm ms xz (.inl<|ag.of a1) ⟨_,_,xz,xz,_,xz,bj (λh1=>?_) λh1=>?_⟩
 .refine vr xz (eA lm ms xz (.inl<|ag.of a1)<|az _ xz ⟨_,_,xz,xz,_,xz,bj (λh2=>?_) λh2=>?_⟩)
  .have hk1:k<(aN S0 k).length:=li;have hS:(aN S0 k)[k]?=a_ ((aN S0 k)[k]'hk1):=aI hk1;have Se:=pe hk1;generalize (aN S0 k)[k]'hk1=S at hS Se;have hf:=FN hg (kd:=kd) (k:=k) li;rw[EF]at hf;have zW:=hW k li li S Se;refine⟨_,λσ' H' z=>z,uW _ _ H6 lm dy fd k z7 Z R U S xz B6 hS (hf S Se) li zW.1 zW.2 λH7 y7 y8 X Y B7 k7=>⟨n+1-(k+1),li,k+1,y7,y8,X,Y,xz,xz,λi hi=>?_,B7,?_⟩⟩
   .by_cases z:i=k
    .subst z;exact⟨hk1,li⟩
    exact hI i li
   exact⟨λb o h1 h2 e=>k7.k b o (λz=>by rcases z with z | z | z <;> rw[z]at e <;> simp_all) h2<|k6.k b o h1 h2 e,λb e=>k6.t b<|k7.t b e⟩
  exact u5 _ _ H6 lm dy fd k z7 Z R U xz B6 (fin li) k6 xz
 exact eL<|u5 _ _ H6 lm dy fd k z7 Z R U xz B6 (fin li) k6 xz
end
abbrev Es:=List<|Int×Int
abbrev Cv:=Nat×Es×List Int
abbrev Vw:=List Cv×List Int
noncomputable def gJ(es:List hO):Es:=es.map λe=>(e.n,e.num)
noncomputable def jg(n:Nat)(e:Int×Int):Bool:=decide<|e.1=(n:Int)
def CV(es:Es)(bd:List Int)(n:Nat):Int:=((es.filter<|jg n).getLast?.map (·.2)).getD<|bd.getD n 0
def mm(s:Tl)(es:Es)(bd:List Int):Int:=if s.1 = J_ then CV es bd (s.2.getD 1 0) else bd.getD (s.2.getD 1 0) 0
def fk(s:Tl)(rg:List Int)(v:Int):List Int:=
 if s.1 = ac2 then rg.set (s.2.getD 0 0) (s.2.getD 1 0:Nat)
 else if s.1 = U_ then rg.set (s.2.getD 0 0) ((rg.getD (s.2.getD 0 0) 0+rg.getD (s.2.getD 1 0) 0)%hV)
 else if s.1 = J_ then rg.set (s.2.getD 0 0) v
 else if s.1 = I_ then rg.set (s.2.getD 0 0) v else rg
def fZ(kd:d0)(s:Tl)(es:Es)(rg:List Int):Es:=if s.1 = K_ then (if kd = H_ then es else es++[(((s.2.getD 0 0:Nat):Int),rg.getD (s.2.getD 1 0) 0)]) else es
def dr(kd:d0)(s:Tl)(rg bd:List Int):List Int:=if s.1 = K_ then (if kd = H_ then bd.set (s.2.getD 0 0) (rg.getD (s.2.getD 1 0) 0) else bd) else if s.1 = I_ then bd.set (s.2.getD 1 0) (rg.getD (s.2.getD 0 0) 0) else bd
def cD(kd:d0)(s:Tl)(x:Cv)(bd:List Int):Cv:=(dH s (fk s x.2.2<|mm s x.2.1 bd) x.1,fZ kd s x.2.1 x.2.2,fk s x.2.2<|mm s x.2.1 bd)
def vw{sz:Nat}(g:bu sz s):(s.1 = K_->∃n r:Nat,s=((K_ : d0),[n,r])/\n<12)/\(s.1 = J_->∃r n:Nat,s=((J_ : d0),[r,n])/\n<12)/\(s.1 = I_->∃r n:Nat,s=((I_ : d0),[r,n])/\n<12):=by
 have no:∀{x y:d0}{p:Prop},decide (x=y)=d_->x=y->p:=λh e=>f' e<|gd h;cases g with
 | set n r h=>exact⟨λ_=>⟨n,r,xz,h⟩,no (by kernel_rfl),no<|by kernel_rfl⟩
 | look r n _ h=>exact⟨no (by kernel_rfl),λ_=>⟨r,n,xz,h⟩,no<|by kernel_rfl⟩
 | swap r n _ h=>exact⟨no (by kernel_rfl),no (by kernel_rfl),λ_=>⟨r,n,xz,h⟩⟩
 | _=>exact⟨no (by kernel_rfl),no (by kernel_rfl),no<|by kernel_rfl⟩
def Lx(es:List hO)(n:Nat):(gJ es).filter (jg n)=gJ (bH es n):=by
 unfold gJ bH;rw[List.filter_map];rfl
def ahE(S:Mc)(k:Ck)(n:Nat):(dJ S k n).1=CV (gJ k.es) S.bd n:=by
 unfold dJ CV Cw;rw[Lx];unfold gJ;rw[List.getLast?_map];cases (bH k.es n).getLast? <;> rfl
section
variable{S:Mc}{c:Nat}{k:Ck}{s:Tl}
def aks(a:c<S.ck.length)(h:X.ck=S.ck.set c k'):pM X c s={X with ck:=S.ck.set c {k' with pl:=dH s k'.rg k'.pl,ct:=k'.ct+1}}:=by
 unfold pM;rw[h,gq a];dsimp only;rw[vj]
def ag4{sz:Nat}(g:bu sz s)(a:S.ck[c]?=a_ k)(hn:S.kd = H_->k.es=[]):bT (pM (cA S c s) c s)=((S.ck.map gG).set c<|cD S.kd s (gG k) S.bd,dr S.kd s k.rg S.bd):=by
 have f:=(b0.mp a).1
 have b:∀{X:Mc}{d:Ck},cA S c s=X->X.ck=S.ck.set c d->d.pl=k.pl->d.rg=fk s k.rg (mm s (gJ k.es) S.bd)->gJ d.es=fZ S.kd s (gJ k.es) k.rg->X.bd=dr S.kd s k.rg S.bd->bT (pM (cA S c s) c s)=((S.ck.map gG).set c<|cD S.kd s (gG k) S.bd,dr S.kd s k.rg S.bd):=λ{X d}h h1 j l n p=>by
  rw[h,aks f h1];show ((S.ck.set c _).map _,X.bd)=_;rw[vk,p]
  congr 2
  show (dH s _ _,gJ _,d.rg)=_;rw[j,l,n];rfl
 have z:S={S with ck:=S.ck.set c k}:=by rw[vo a]
 cases g with
 | put r m h1 h2=>exact b ((show _=iG S c r m by kernel_rfl).gw<|xV a) xz xz (by kernel_rfl) (by kernel_rfl) (by kernel_rfl)
 | add r o h1 h2=>
  have e:cA S c (U_,[r,o])=iG S c r ((k.rg.getD r 0+k.rg.getD o 0)%hV):=by
   unfold cA;rw[eN (show ¬(U_ : d0) = ac2 from dk),eT xz,a];rfl
  exact b (e.gw<|xV a) xz xz (by kernel_rfl) (by kernel_rfl) (by kernel_rfl)
 | set i r h1 h2=>
  have e:cA S c (K_,[i,r])=setM S c i r:=by kernel_rfl
  unfold setM at e;rw[a]at e;dsimp only at e
  by_cases kd:S.kd = H_
  .rw[eT kd]at e;unfold ng at e;rw[show (iH (yo S c i k<|k.rg.getD r 0) ⟨K_,c,i,b_,a_<|k.rg.getD r 0,b_⟩).ck[c]?=_ from gq f]at e;dsimp only at e;rw[hn kd,show (bH ([]++[⟨k.tn,i,k.rg.getD r 0,S.ac.length⟩]) i).head?=a_ ⟨k.tn,i,k.rg.getD r 0,S.ac.length⟩ by simp[bH],show nj ([]++[⟨k.tn,i,k.rg.getD r 0,S.ac.length⟩]) i=[] by simp[nj]]at e;refine b e (vj ..) xz (by kernel_rfl) ?_ ?_
   .show _=if (K_ : d0) = K_ then _ else _
    rw[eT xz,eT kd,hn kd]
   show S.bd.set i _=if (K_ : d0) = K_ then _ else _
   rw[eT xz,eT kd];rfl
  rw[eN kd]at e;refine b e xz xz (by kernel_rfl) ?_ ?_
  .show (k.es++[_]).map _=if (K_ : d0) = K_ then _ else _
   rw[eT xz,eN kd,dC];rfl
  show S.bd=if (K_ : d0) = K_ then _ else _
  rw[eT xz,eN kd]
 | look r i h1 h2=>
  have e:cA S c (J_,[r,i])=pD S c r i:=by kernel_rfl
  unfold pD at e;rw[a]at e;refine b (e.gw<|xV a) xz xz ?_ (by kernel_rfl) (by kernel_rfl);show k.rg.set r (dJ S k i).1=_;rw[ahE]
  kernel_rfl
 | swap r i h1 h2=>
  have e:cA S c (I_,[r,i])=qC S c r i:=by kernel_rfl
  unfold qC at e;rw[a]at e;exact b (e.gw<|xV a) xz xz (by kernel_rfl) (by kernel_rfl) (by kernel_rfl)
 | clear=>exact b ((show _=S by kernel_rfl).gw z) xz xz (by kernel_rfl) (by kernel_rfl) (by kernel_rfl)
 | skip r q h1 h2 h3=>exact b ((show _=S by kernel_rfl).gw z) xz xz (by kernel_rfl) (by kernel_rfl) (by kernel_rfl)
def ad8(a:S.ck[c]?=a_ k)(h:(gJ k.es).find? (jg n)=a_ ((n:Int),num)):bT (ng S c n)=((S.ck.map gG).set c (k.pl,(gJ k.es).eraseP<|jg n,k.rg),S.bd.set n num):=by
 have h2:(gJ<|bH k.es n).head?=a_ ((n:Int),num):=by rw[<-Lx,ab6];exact h
 unfold ng;rw[a];dsimp only;unfold gJ at h2;rw[List.head?_map]at h2;cases e:(bH k.es n).head? with
 | none=>rw[e]at h2;cases h2
 | some x=>
  rw[e]at h2;injection h2 with h2
  injection h2 with h3 h4
  show ((S.ck.set c _).map _,S.bd.set n _)=_;rw[vk,h4]
  congr 2
  show (k.pl,gJ<|nj _ n,k.rg)=_
  congr 2
  unfold gJ nj;rw[List.eraseP_map];rfl
end
inductive p4 (kd:d0) (ps:List Pt) (V:Vw):Vw->Prop
 | act {c:Nat} {x:Cv} {p:Pt} {s:Tl}:V.1[c]?=a_ x->ps[c]?=a_ p->p[x.1]?=a_ s->(gH s=c_->x.2.1=[])->p4 kd ps V (V.1.set c (cD kd s x V.2),dr kd s x.2.2 V.2)
 | oC {c n:Nat} {x:Cv} {num:Int}:V.1[c]?=a_ x->x.2.1.find? (jg n)=a_ ((n:Int),num)->n<12->(kd="row"->x.2.1.head?=a_ ((n:Int),num))->p4 kd ps V (V.1.set c (x.1,x.2.1.eraseP (jg n),x.2.2),V.2.set n num)
def YA:bH es n≠[]↔∃num,(gJ es).find? (jg n)=a_ ((n:Int),num):=by
 have h:(gJ es).find? (jg n)=(gJ<|bH es n).head?:=by rw[<-Lx,ab6]
 rw[h];cases e:bH es n with
 | nil=>exact⟨f' xz,λ⟨_,z⟩=>by cases z⟩
 | cons x l=>
  refine⟨λ_=>⟨x.num,?_⟩,λ_ z=>by cases z⟩;have a:x∈bH es n:=by rw[e];exact bV
  have hn:=fi (jB.mp a).2;show a_ (x.n,x.num)=_;rw[hn]
def MR{c:Nat}{x:Cv}(h:(bT S).1[c]?=a_ x):∃k,S.ck[c]?=a_ k/\x=gG k:=by
 unfold bT at h;rw[cF]at h;obtain⟨k,h1,h2⟩:=uY.mp h;exact⟨k,h1,h2.gx⟩
structure qV(kd:d0)(V:Vw):Prop where
 nm:∀x∈V.1,∀e∈x.2.1,∃m:Nat,m<12/\e.1=(m:Int)
 no:kd = H_->∀x∈V.1,x.2.1=[]
def WO{n c:Nat}(W:kP n S)(O:qV S.kd (bT S))(a:S.ck[c]?=a_ k)(b:S.ps[c]?=a_ p)(d:p[k.pl]?=a_ s):bT (cV S ("do",[(c:Int)]))=((bT S).1.set c<|cD S.kd s (gG k) S.bd,dr S.kd s k.rg S.bd):=by
 obtain⟨g,f,_,_,h⟩:=W.wf.part a;have i:g=p:=by rw[b]at f;exact(c8 f).gx
 subst i
 have e:cV S ("do",[(c:Int)])=pM (cA S c s) c s:=by
  unfold cV;rw[eT rfl];show uD S ((c:Int)).toNat=_;rw[fH];unfold uD;rw[a,b];dsimp only;rw[d]
 rw[e];exact ag4 (h s<|a8 d) a λz=>JN.mp<|O.no z _<|b8.mpr ⟨k,a8 a,xz⟩
def LR{c n:Nat}{num:Int}(a:S.ck[c]?=a_ k)(h:(gJ k.es).find? (jg n)=a_ ((n:Int),num)):bT (cV S (at6,[(c:Int),(n:Int)]))=((bT S).1.set c (k.pl,(gJ k.es).eraseP<|jg n,k.rg),S.bd.set n num):=by
 have e:cV S (at6,[(c:Int),(n:Int)])=ng S c n:=by
  unfold cV;rw[eN (show ¬(at6 : d0)="do" from dk)];rfl
 rw[e,ad8 a h];rfl
def Gr{c:Nat}(a:S.ck[c]?=a_ k):(bT S).1[c]?=a_ (gG k):=by unfold bT;rw[cF,a];rfl
def Vz{n:Nat}{mv:Mv}(W:kP n S)(O:qV S.kd (bT S))(h:mv∈gF S):p4 S.kd S.ps (bT S) (bT<|cV S mv):=by
 obtain⟨c,rfl,v,d⟩|⟨c,k,i,rfl,b,f⟩:=B0 h
 .obtain⟨k,p,s,_,b,t,u,_⟩:=Mm W.wf v d;rw[WO W O b t u];rw[Gk b t]at d;unfold pJ at d;rw[u]at d;refine .act (Gr b) t u λz=>?_;have h2:(decide (k.es=[])||!gH s)=true:=d;rw[z]at h2;have h3:k.es=[]:=by simpa using h2
  show gJ _=[];rw[h3];rfl
 unfold ja at f
 split at f
 .next hr=>
  obtain⟨e,r,rfl⟩:=b8.mp (show i∈(k.es.head?.toList.map (·.n)) by cases h:k.es.head? <;> rw[h]at f <;> simpa using f);rcases g:k.es with _|⟨a,l⟩
  ·rw[g]at r;cases r
  rw[g]at r;have x:e=a:=by simpa using r
  subst x;obtain⟨m,hm,j⟩:=O.nm (gG k) (b8.mpr ⟨k,a8 b,xz⟩) (e.n,e.num) (by show _∈k.es.map _;rw[g];exact bV);have j:e.n=(m:Int):=j;have y:(gJ k.es).head?=a_ ((m:Int),e.num):=by unfold gJ;rw[g,<-j];rfl
  have o:(gJ k.es).find? (jg m)=a_ ((m:Int),e.num):=by
   unfold gJ;rw[g,eV,Ke,j,show jg m _=c_ from fC rfl]
  rw[j,LR b o];exact .oC (Gr b) o hm λ_=>y
 next nr=>
 obtain⟨n,hn,rfl,q⟩:=xJ.mp f;obtain⟨num,o⟩:=YA.mp q;rw[LR b o];exact .oC (Gr b) o hn λz=>f' z nr
def aki(a:c<S.ck.length)(h:uk S c=c_):(("do":d0),[(c:Int)])∈gF S:=qg _<|b8.mpr ⟨c,jB.mpr ⟨mU.mpr a,h⟩,xz⟩
def akH{c:Nat}{n:Int}(a:S.ck[c]?=a_ k)(h:n∈ja S.kd k.es):((at6 : d0),[(c:Int),n])∈gF S:=by
 refine gu _ ?_;exact ack.mpr ⟨(k,c),a8 (by rw[abJ,a];simp),b8.mpr ⟨n,h,xz⟩⟩
def aek{n:Nat}{V:Vw}(W:kP n S)(O:qV S.kd (bT S))(h:p4 S.kd S.ps (bT S) V):∃mv∈gF S,bT (cV S mv)=V:=by
 cases h with
 | @act c x p s h1 hp hs qa=>
  obtain⟨k,b,rfl⟩:=MR h1;refine⟨_,aki (b0.mp b).1 ?_,WO W O b hp hs⟩;rw[Gk b hp];unfold pJ;rw[show p[k.pl]?=a_ s from hs];show (decide (k.es=[])||!gH s)=c_;rcases e:gH s with _|_;simp;have:=JN.mp (qa e);rw[this];rfl
 | @oC c m x num h1 hf hn hr=>
  obtain⟨k,b,rfl⟩:=MR h1;refine⟨_,akH b ?_,LR b hf⟩;unfold ja
  split
  .next z=>
   have h2:(gJ k.es).head?=a_ ((m:Int),num):=hr z;unfold gJ at h2;rw[List.head?_map]at h2;rcases e:k.es.head? with _|a
   ·rw[e]at h2;cases h2
   rw[e]at h2;injection h2 with h2
   injection h2 with h3 h4
   show (m:Int)∈[a.n];rw[h3];exact bV
  exact xJ.mpr ⟨m,hn,xz,YA.mpr ⟨num,hf⟩⟩
noncomputable def uj(ps:List Pt):Vw:=(ps.map λ_=>(0,[],[0,0,0,0]),dU 12 0)
def LN(kd:d0)(ps:List Pt):bT (cg kd ps)=uj ps:=by
 show ((ps.map λ_=>k0).map _,_)=_;rw[i7];rfl
inductive eG (kd:d0) (ps:List Pt):Vw->Prop
 | new:eG kd ps (uj ps)
 | st {V V':Vw}:eG kd ps V->p4 kd ps V V'->eG kd ps V'
def Cq{b:Type}{l:List b}{c:Nat}{a x:b}(h:x∈l.set c a):x∈l\/x=a:=EW h
def qV.st{V V':Vw}(g:cW ps)(O:qV kd V)(h:p4 kd ps V V'):qV kd V':=by
 cases h with
 | @act c x p s h1 hp hs qa=>
  have a:=a8 h1;have j:=(g.part p<|a8 hp).2 s<|a8 hs
  have f:(∀e∈(cD kd s x V.2).2.1,∃m:Nat,m<12/\e.1=(m:Int))/\(kd = H_->(cD kd s x V.2).2.1=x.2.1):=by
   show (∀e∈fZ _ s _ _,_)/\(kd = H_->fZ _ s _ _=x.2.1);unfold fZ
   by_cases z:s.1 = K_
   .rw[eT z]
    by_cases y:kd = H_
    .rw[eT y];exact⟨O.nm x a,λ_=>rfl⟩
    rw[eN y];refine⟨λe d=>?_,λq=>f' q y⟩;obtain h|h:=iC.mp d
    .exact O.nm x a e h
    rw[da.mp h];refine⟨s.2.getD 0 0,?_,xz⟩;obtain⟨n,r,e,h⟩:=(vw j).1 z;rw[e];exact h
   rw[eN z];exact⟨O.nm x a,λ_=>rfl⟩
  refine⟨λy b=>?_,λz y b=>?_⟩
  .obtain h|h:=Cq b
   .exact O.nm y h
   rw[h];exact f.1
  obtain h|h:=Cq b
  .exact O.no z y h
  rw[h,f.2 z];exact O.no z x a
 | @oC c n x num h1 i hn hr=>
  have a:=a8 h1;refine⟨λy b=>?_,λz y b=>?_⟩
  .obtain h|h:=Cq b
   .exact O.nm y h
   rw[h];exact λe d=>O.nm x a e<|JJ d
  rw[O.no z x a]at i;cases i
def qV.new(kd:d0)(ps:List Pt):qV kd (uj ps):=by
 refine⟨λx a e b=>?_,λ_ x a=>?_⟩
 .obtain⟨_,_,rfl⟩:=b8.mp a;cases b
 obtain⟨_,_,rfl⟩:=b8.mp a;rfl
def eG.ok{V:Vw}(g:cW ps)(h:eG kd ps V):qV kd V:=by
 induction h with
 | new=>exact qV.new _ _
 | st _ s ih=>exact ih.st g s
def MP(g:cW ps):∀k,k<=14000->∀S∈aN (cg kd ps) k,mz kd ps k S/\eG kd ps (bT S):=
 LM (Pv:=λk S=>mz kd ps k S/\eG kd ps (bT S)) 14000 ⟨⟨Oi g,xz,xz⟩,by rw[LN];exact .new⟩ (λ_ _ h=>⟨h.1.up,h.2⟩) λk S mv a h hm=>by
  obtain⟨f,r⟩:=h;have s:=Vz f.W (f.kd▸r.ok g) hm;rw[f.kd,f.ps]at s;exact⟨f.mv li hm,r.st s⟩
def afU(L:List Mc)(S:Mc):bT S∈(jc L S).map bT:=by
 unfold jc
 split
 .assumption
 rw[dC];exact gu _ bV
theorem XB{mvs:List Mv}{L:List Mc}{mv:Mv}(h:mv∈mvs):bT (cV S mv)∈(pN S L mvs).map bT:=by
 induction mvs generalizing L with
 |nil=>cases h
 |cons m mvs i=>
  obtain rfl|h:=bK.mp h
  .exact(ab8 bT<|Nt (mvs:=mvs) (L:=jc L<|cV S _)).subset (afU L _)
  exact i (L:=jc L<|cV S m) h
def afw(g:cW ps)(b:k<=14000)(l:i<k)(e:(aN (cg kd ps) k)[i]?=a_ S)(s:p4 kd ps (bT S) V'):V'∈(aN (cg kd ps) k).map bT:=by
 obtain⟨hi,e⟩:=b0.mp e
 have c:i<(aN (cg kd ps) i).length:=tK λz=>by
  have st:=U7 (S0:=cg kd ps) (k:=i) li<|k-i;rw[show i+(k-i)=k by lia]at st;rw[st]at hi;exact z hi
 obtain⟨f,d⟩:=MP g k b S<|e ▸ pe hi;obtain⟨mv,hm,h⟩:=aek f.W (by rw[f.kd];exact d.ok g) (V:=V') (by rw[f.kd,f.ps];exact s)
 have j:(aN (cg kd ps) i)[i]?=a_ S:=by
  obtain⟨t,a⟩:=Co _ i<|k-i;rw[show i+(k-i)=k by lia]at a;have:(aN (cg kd ps) k)[i]?=a_ S:=by rw[aI hi,e]
  rw[<-a,zA c]at this;exact this
 have h2:V'∈(aN (cg kd ps)<|i+1).map bT:=by
  rw[BY j,<-h];exact XB hm
 have h3:=Co (cg kd ps) (i+1)<|k-(i+1);rw[show i+1+(k-(i+1))=k by lia]at h3;exact(ab8 _ h3).subset h2
def ah1(g:cW ps)(a:k<=14000)(b:(aN (cg kd ps) k).length<=k){V:Vw}(h:eG kd ps V):V∈(aN (cg kd ps) k).map bT:=by
 induction h with
 | new=>
  rw[<-LN _ _];have:=(Co (cg kd ps) 0 k).subset<|da.mpr xz;rw[Nat.zero_add]at this;exact b8.mpr ⟨_,this,xz⟩
 | @st V V' r s ih=>
  obtain⟨S,c,rfl⟩:=b8.mp ih;obtain⟨i,hi,e⟩:=kY c;exact afw g a (ic hi b) (by rw[aI hi,e]) s
def Ig(ps:List Pt)(V:Vw):Prop:=∀(c:Nat)(x:Cv)(p:Pt),V.1[c]?=a_ x->ps[c]?=a_ p->x.1=p.length/\x.2.1=[]
noncomputable def AL(V:Vw):ci:=.tuple [.tuple (V.1.map λx=>.tuple<|x.2.2.map .int),.tuple<|V.2.map .int]
def LB(S:Mc):jf S=AL (bT S):=by
 unfold jf AL yJ bT;rw[i7];rfl
def KY(W:iu S):pB S=c_↔Ig S.ps (bT S):=by
 constructor
 .intro h c x p g d;obtain⟨k,e,rfl⟩:=MR g;obtain⟨a,b⟩:=MG W h c k p e d;exact⟨a,by show k.es.map _=[];rw[b];rfl⟩
 intro h;refine kZ.mpr λc i=>?_;have f:=mU.mp i;have e:=aI f;obtain⟨p,d⟩:∃p,S.ps[c]?=a_ p:=⟨_,aI<|by rw[<-W.len];exact f⟩;obtain⟨a,b⟩:=h c _ p (Gr e) d;rw[XF e d,fC (show S.ck[c].pl=p.length from a),fC<|JN.mp b];rfl
def qt(g:cW ps)(b:k<=14000)(c:(aN (cg kd ps) k).length<=k):d∈fv (aN (cg kd ps) k)↔∃V,eG kd ps V/\Ig ps V/\d=AL V:=by
 constructor
 .intro h;obtain⟨S,h1,rfl⟩:=b8.mp h;obtain⟨h1,h2⟩:=jB.mp h1;obtain⟨f,r⟩:=MP g k b S h1;exact⟨bT S,r,by rw[<-f.ps];exact(KY f.W.wf).mp h2,LB S⟩
 rintro⟨V,r,a,rfl⟩;obtain⟨S,h1,rfl⟩:=b8.mp<|ah1 g b c r;obtain⟨f,_⟩:=MP g k b S h1;exact b8.mpr ⟨S,jB.mpr ⟨h1,(KY f.W.wf).mpr<|by rw[f.ps];exact a⟩,LB S⟩
def Nn(g:cW ps){V:Vw}(h:eG H_ ps V):eG L_ ps V:=by
 induction h with
 | new=>exact .new
 | @st V V' r s ih=>
  have O:=r.ok g;cases s with
  | @act c x p s h1 hp hs qa=>
   have i:=O.no xz x<|a8 h1
   by_cases z:s.1 = K_
   .have a:=ih.st<|.act h1 hp hs qa;have k:=(g.part p<|a8 hp).2 s (a8 hs)
    have hn:s.2.getD 0 0<12:=by
     obtain⟨n,r,e,h⟩:=(vw k).1 z;rw[e];exact h
    have d:fZ L_ s x.2.1 x.2.2=[(((s.2.getD 0 0:Nat):Int),x.2.2.getD (s.2.getD 1 0) 0)]:=by
     unfold fZ;rw[eT z,eN dk,i];rfl
    have f:fZ H_ s x.2.1 x.2.2=[]:=by unfold fZ;rw[eT z,eT xz,i]
    have b:=a.st (.oC (kd:=L_) (c:=c) (n:=s.2.getD 0 0) (num:=x.2.2.getD (s.2.getD 1 0) 0) (x:=cD L_ s x V.2) (gq<|(b0.mp h1).1) (by
     show (fZ _ s _ _).find? _=_;rw[d,Ke,show jg _ _=c_ from fC rfl]) hn λ_=>by
     show (fZ _ s _ _).head?=_;rw[d];rfl)
    have e:(((V.1.set c<|cD L_ s x V.2,dr L_ s x.2.2 V.2):Vw).1.set c ((cD L_ s x V.2).1,(cD L_ s x V.2).2.1.eraseP<|jg<|s.2.getD 0 0,(cD L_ s x V.2).2.2),((V.1.set c<|cD L_ s x V.2,dr L_ s x.2.2 V.2):Vw).2.set (s.2.getD 0 0)<|x.2.2.getD (s.2.getD 1 0) 0)=((V.1.set c<|cD H_ s x V.2,dr H_ s x.2.2 V.2):Vw):=by
     show ((V.1.set c _).set c (_,(fZ L_ s x.2.1 x.2.2).eraseP _,_),(dr L_ s x.2.2 V.2).set _ _)=(V.1.set c (_,fZ H_ s x.2.1 x.2.2,_),dr H_ s x.2.2 V.2);rw[vj,d,f];unfold dr;rw[eT z,eN dk,eT z,eT xz,TH,show jg (s.2.getD 0 0) (((s.2.getD 0 0:Nat):Int),x.2.2.getD (s.2.getD 1 0) 0)=c_ from fC rfl];rfl
    rw[e]at b;exact b
   have d:cD H_ s x V.2=cD L_ s x V.2:=by
    unfold cD fZ;rw[eN z,eN z]
   have f:dr H_ s x.2.2 V.2=dr L_ s x.2.2 V.2:=by
    unfold dr;rw[eN z,eN z]
   rw[d,f];exact ih.st<|.act h1 hp hs qa
  | @oC c n x num h1 j hn hr=>
   rw[O.no xz x<|a8 h1]at j;cases j
def Wh{V:Vw}(h:eG L_ ps V):eG l_ ps V:=by
 induction h with
 | new=>exact .new
 | @st V V' r s ih=>
  refine ih.st ?_;rcases s with ⟨h1,a,b,c⟩|⟨h1,d,hn,g⟩
  ·have e:∀s x bd,cD L_ s x bd=cD l_ s x bd:=λs x bd=>by
    unfold cD fZ;rw[eN (show ¬(L_ : d0) = H_ from dk),eN (show ¬(l_ : d0) = H_ from dk)]
   have f:∀s rg bd,dr L_ s rg bd=dr l_ s rg bd:=λs rg bd=>by
    unfold dr;rw[eN (show ¬(L_ : d0) = H_ from dk),eN (show ¬(l_ : d0) = H_ from dk)]
   rw[e,f];exact .act h1 a b c
  exact .oC h1 d hn λz=>f' z dk
def Sh(ps:List Pt)(c n:Nat):Prop:=∃(d:Nat)(p:Pt)(s:Tl),d≠c/\ps[d]?=a_ p/\s∈p/\(s.1 = K_/\s.2.getD 0 0=n\/s.1 = I_/\s.2.getD 1 0=n)
structure yp(kd:d0)(ps:List Pt)(R:Nat->Nat->Nat->Prop):Prop where
 cl:∀(c:Nat)(p:Pt)(i:Nat)(s:Tl)(rg:List Int)(m:Nat),ps[c]?=a_ p->p[i]?=a_ s->(s.1 = K_/\s.2.getD 0 0=m\/gH s=d_/\R c i m)->R c (dH s rg i) m
 lk:∀(c:Nat)(p:Pt)(i:Nat)(s:Tl)(m:Nat),ps[c]?=a_ p->p[i]?=a_ s->s.1 = J_->Sh ps c (s.2.getD 1 0)->R c i m->m=s.2.getD 1 0
 st:kd = l_->∀(c:Nat)(p:Pt)(i:Nat)(s:Tl)(m:Nat),ps[c]?=a_ p->p[i]?=a_ s->s.1 = K_->R c i m->m=s.2.getD 0 0
inductive gi (un:Nat->Prop) (p:Pt):Option Nat->List Int->Nat×List Int->Es->Nat×List Int->Prop
 | nil {o:Option Nat} {bd:List Int} {g:Nat×List Int}:gi un p o bd g [] g
 | AG {n:Nat} {bd:List Int} {g:Nat×List Int} {es:Es} {g':Nat×List Int} {s:Tl}:p[g.1]?=a_ s->s.1 ≠ "set"->gH s=d_->(s.1="look"->s.2.getD 1 0=n\/un (s.2.getD 1 0))->gi un p (a_ n) bd (dH s (fk s g.2 (bd.getD (s.2.getD 1 0) 0)) g.1,fk s g.2 (bd.getD (s.2.getD 1 0) 0)) es g'->gi un p (a_ n) bd g es g'
 | set {o:Option Nat} {bd:List Int} {g:Nat×List Int} {es:Es} {g':Nat×List Int} {s:Tl}:p[g.1]?=a_ s->s.1="set"->gi un p (a_ (s.2.getD 0 0)) (bd.set (s.2.getD 0 0) (g.2.getD (s.2.getD 1 0) 0)) (g.1+1,g.2) es g'->gi un p o bd g ((((s.2.getD 0 0:Nat):Int),g.2.getD (s.2.getD 1 0) 0)::es) g'
def Xd{s:Tl}(h:s.1 ≠ J_)(k:gH s=d_)(rg:List Int)(v w:Int):fk s rg v=fk s rg w:=by
 unfold fk;rw[eN h,eN h];have h2:s.1 ≠ I_:=λz=>by unfold gH at k;rw[fC z]at k;cases k
 rw[eN h2,eN h2]
def My{l:List Int}{n m:Nat}{v:Int}(hn:n<l.length):(l.set n v).getD m 0=if n=m then v else l.getD m 0:=by
 rw[cH,cH]
 by_cases e:n=m
 .subst e;rw[gq hn,eT rfl];rfl
 rw[nI e,eN e]
def Vh{l a:List Int}{n m:Nat}{v:Int}(h:l.length=a.length)(k:n=m\/l.getD m 0=a.getD m 0):(l.set n v).getD m 0=(a.set n v).getD m 0:=by
 by_cases hn:n<l.length
 .rw[My hn,My (by rw[<-h];exact hn)]
  split
  .rfl
  next z=>exact k.resolve_left z
 rw[abq li,abq li];obtain rfl|k:=k
 .rw[cH,cH,uZ li,uZ li]
 exact k
def gi.frame{un:Nat->Prop}{p:Pt}{o:Option Nat}{bd:List Int}{g g':Nat×List Int}{es:Es}(h:gi un p o bd g es g'):∀{a:List Int},bd.length=a.length->(∀m,un m->bd.getD m 0=a.getD m 0)->(∀n,o=a_ n->bd.getD n 0=a.getD n 0)->gi un p o a g es g':=by
 induction h with
 | nil=>exact λ_ _ _=>.nil
 | @AG n bd g es g' s h1 h2 h3 h4 _ ih=>
  intro a b c d
  have e:fk s g.2 (bd.getD (s.2.getD 1 0) 0)=fk s g.2 (a.getD (s.2.getD 1 0) 0):=by
   by_cases z:s.1 = J_
   .obtain y|y:=h4 z
    .rw[y,d n rfl]
    rw[c _ y]
   exact Xd z h3 _ _ _
  refine .AG h1 h2 h3 h4 ?_;rw[<-e];exact ih b c d
 | @set o bd g es g' s h1 h2 _ ih=>
  intro a b c _;refine .set h1 h2 (ih (by rw[gL,gL];exact b) (λm hm=>Vh b<|.inr<|c m hm) λn e=>?_);injection e with e
  exact Vh b<|.inl e
noncomputable def ui(bd:List Int)(es:Es):List Int:=es.foldl (λb e=>b.set e.1.toNat e.2) bd
noncomputable def yd(o:Option Nat)(es:Es):Option Nat:=(es.getLast?.map λe=>e.1.toNat).or o
def ad2(o:Option Nat)(n:Nat)(v:Int)(es:Es):yd o (((n:Int),v)::es)=yd (a_ n) es:=by
 unfold yd;rw[abU];cases es.getLast? <;> rfl
def gi.gw{un:Nat->Prop}(h:gi un p o bd g es g'):∀{a:Es}{g2:Nat×List Int},gi un p (yd o es) (ui bd es) g' a g2->gi un p o bd g (es++a) g2:=by
 induction h with
 | nil=>exact λh=>h
 | AG h1 h2 h3 h4 _ ih=>exact λh=>.AG h1 h2 h3 h4<|ih h
 | @set o bd g es g' s h1 h2 _ ih=>
  intro a g2 h;rw[ad2]at h;exact .set h1 h2<|ih h
theorem Wi{m:Nat}(hm:m<12){es:Es}{bd:List Int}(hl:bd.length=12)(h:∀e∈es,∃n:Nat,n<12/\e.1=(n:Int)):(ui bd es).getD m 0=CV es bd m:=by
 induction es generalizing bd with
 |nil=>rfl
 |cons e es i=>
  obtain⟨n,hn,a⟩:=h e bV;show (ui (bd.set e.1.toNat e.2) es).getD m 0=_;rw[(i (bd:=bd.set e.1.toNat e.2) (by rw[gL];exact hl) λx b=>h x<|cu _ b)];unfold CV;rw[a,fH,My li,rK];unfold jg;rw[a]
  by_cases z:n=m
  .rw[eT z,eT (by rw[z];exact fC xz),abU];cases (es.filter λe=>decide<|e.1=(m:Int)).getLast? <;> rfl
  rw[eN z,eN (by simp;lia)]
def gi.Wq{un:Nat->Prop}(h:gi un p b_ bd g [] g'):g=g':=by
 cases h;rfl
def gi.commit{un:Nat->Prop}(d:ps[c]?=a_ p)(h:gi un p o bd g es g'):∀{cs:List Cv},o≠b_->cs[c]?=a_ (g.1,[],g.2)->eG H_ ps (cs,bd)->∃g2,eG H_ ps (cs.set c (g2.1,[],g2.2),bd)/\gi un p b_ bd g2 es g':=by
 induction h with
 | @nil o bd g=>
  intro cs _ b r;exact⟨g,by rw[vo b];exact r,.nil⟩
 | @AG n bd g es g' s h1 h2 h3 h4 _ ih=>
  intro cs _ b r;have f:s.1 ≠ I_:=λz=>by unfold gH at h3;rw[fC z]at h3;cases h3
  have a:=r.st (.act b d h1 λz=>rfl)
  have i:cD H_ s (g.1,[],g.2) bd=(dH s (fk s g.2<|bd.getD (s.2.getD 1 0) 0) g.1,[],fk s g.2<|bd.getD (s.2.getD 1 0) 0):=by
   have e:mm s [] bd=bd.getD (s.2.getD 1 0) 0:=by unfold mm;split <;> rfl
   unfold cD fZ;rw[eN h2];rw[e]
  have j:dr H_ s g.2 bd=bd:=by
   unfold dr;rw[eN h2,eN f]
  have a:=a;rw[i,j]at a;obtain⟨g2,r2,l2⟩:=ih (λz=>by cases z) (gq (b0.mp b).1) a;rw[vj]at r2;exact⟨g2,r2,l2⟩
 | @set o bd g es g' s h1 h2 hl _=>
  intro cs _ b r;exact⟨g,by rw[vo b];exact r,.set h1 h2 hl⟩
abbrev Un(ps:List Pt)(c:Nat)(n:Nat):Prop:=¬Sh ps c n
structure uE(ps:List Pt)(V N:Vw):Prop where
 bd:N.2=V.2
 ln:N.1.length=V.1.length
 ck:∀(c:Nat)(x:Cv),V.1[c]?=a_ x->∃g p,N.1[c]?=a_ (g.1,[],g.2)/\ps[c]?=a_ p/\gi (Un ps c) p b_ V.2 g x.2.1 (x.1,x.2.2)
structure Hv(kd:d0)(R:Nat->Nat->Nat->Prop)(V:Vw):Prop where
 bd:V.2.length=12
 r:∀(c:Nat)(x:Cv),V.1[c]?=a_ x->∀e∈x.2.1,∃m:Nat,m<12/\e.1=(m:Int)/\R c x.1 m
 one:kd = l_->∀x∈V.1,∀e∈x.2.1,∀e'∈x.2.1,e.1=e'.1
def ajd(kd:d0)(s:Tl)(rg bd:List Int):(dr kd s rg bd).length=bd.length:=by
 unfold dr
 split
 .split
  .exact gL ..
  rfl
 split
 .exact gL ..
 rfl
def Wc{sz:Nat}(g:bu sz s)(z:s.1 = K_):s.2.getD 0 0<12/\gH s=false:=by
 obtain⟨n,r,rfl,h⟩:=(vw g).1 z;exact⟨h,Mr _⟩
def aeV{sz:Nat}(g:bu sz s)(z:s.1 = J_):s.2.getD 1 0<12:=by
 obtain⟨r,n,rfl,h⟩:=(vw g).2.1 z;exact h
section
variable{kd:d0}{ps:List Pt}{R:Nat->Nat->Nat->Prop}{V V' N:Vw}
def Hv.st(g:cW ps)(F:yp kd ps R)(h:Hv kd R V)(s:p4 kd ps V V'):Hv kd R V':=by
 cases s with
 | @act c x p s h1 hp hs qa=>
  have o:=a8 h1;have u:=(g.part p<|a8 hp).2 s<|a8 hs
  have i:∀e∈x.2.1,∃m:Nat,m<12/\e.1=(m:Int)/\R c (cD kd s x V.2).1 m:=λe b=>by
   obtain⟨m,hm,j,f⟩:=h.r c x h1 e b;refine⟨m,hm,j,F.cl c p _ s _ m hp hs<|.inr ⟨?_,f⟩⟩;rcases z:gH s with _|_;rfl;rw[qa z]at b;cases b
  have t:(∀e∈(cD kd s x V.2).2.1,∃m:Nat,m<12/\e.1=(m:Int)/\R c (cD kd s x V.2).1 m)/\(kd = l_->∀e∈(cD kd s x V.2).2.1,∀e'∈(cD kd s x V.2).2.1,e.1=e'.1):=by
   show (∀e∈fZ _ s _ _,_)/\(kd = l_->∀e∈fZ _ s _ _,∀e'∈fZ _ s _ _,_);unfold fZ
   by_cases z:s.1 = K_
   .rw[eT z]
    by_cases y:kd = H_
    .rw[eT y];exact⟨i,λq=>h.one q x o⟩
    rw[eN y];refine⟨λe b=>?_,λq=>?_⟩
    .obtain k|k:=iC.mp b
     .exact i e k
     rw[da.mp k];exact⟨_,(Wc u z).1,xz,F.cl c p _ s _ _ hp hs<|.inl ⟨z,xz⟩⟩
    have all:∀e∈x.2.1++[(((s.2.getD 0 0:Nat):Int),x.2.2.getD (s.2.getD 1 0) 0)],e.1=((s.2.getD 0 0:Nat):Int):=λe b=>by
     obtain k|k:=iC.mp b
     .obtain⟨m,_,j,f⟩:=h.r c x h1 e k;rw[j,F.st q c p x.1 s m hp hs z f]
     rw[da.mp k]
    exact λe b e' l=>(all e b).gw (all _ l).gx
   rw[eN z];exact⟨i,λq=>h.one q x o⟩
  refine⟨(ajd ..).gw h.bd,λd y a=>?_,λq y a=>?_⟩
  .by_cases e:c=d
   .subst e;have a:=a;rw[gq (b0.mp h1).1]at a;cases a;exact t.1
   have a:=a;rw[nI e]at a;exact h.r d y a
  obtain k|k:=Cq a
  .exact h.one q y k
  rw[k];exact t.2 q
 | @oC c n x num h1 hf hn f=>
  refine⟨(gL ..).gw h.bd,λd y a=>?_,λq y a=>?_⟩
  .by_cases e:c=d
   .subst e;have a:=a;rw[gq (b0.mp h1).1]at a;cases a;exact λe b=>h.r c x h1 e<|JJ b
   have a:=a;rw[nI e]at a;exact h.r d y a
  obtain k|k:=Cq a
  .exact h.one q y k
  rw[k];exact λe b e' l=>h.one q x (a8 h1) e (JJ b) _<|JJ l
def Hv.new:Hv kd R (uj ps):=by
 refine⟨xn ..,λc x a e b=>?_,λ_ x a e b=>?_⟩
 .obtain⟨_,_,rfl⟩:=b8.mp<|a8 a;cases b
 obtain⟨_,_,rfl⟩:=b8.mp a;cases b
def gi.inv{un:Nat->Prop}(h:gi un p b_ bd g l g'):l=[]\/∃s es,p[g.1]?=a_ s/\s.1 = K_/\l=(((s.2.getD 0 0:Nat):Int),g.2.getD (s.2.getD 1 0) 0)::es/\gi un p (a_<|s.2.getD 0 0) (bd.set (s.2.getD 0 0)<|g.2.getD (s.2.getD 1 0) 0) (g.1+1,g.2) es g':=by
 cases h with
 | nil=>exact .inl xz
 | set h1 h2 h3=>exact .inr ⟨_,_,h1,h2,xz,h3⟩
def gi.other(h:gi (Un ps d) p b_ bd g es g')(hn:Sh ps d n):gi (Un ps d) p b_ (bd.set n v) g es g':=
 h.frame (gL ..).gx (λm hm=>by
  rw[cH,cH,nI (show n≠m from λe=>hm<|by rw[<-e];exact hn)]) λn z=>by cases z
def uE.st(g:cW ps)(T:kd = L_\/kd = l_)(F:yp kd ps R)(G:Hv kd R V)(S:uE ps V N)(r:eG H_ ps N)(s:p4 kd ps V V'):∃U,eG H_ ps U/\uE ps V' U:=by
 have W:kd ≠ H_:=by rcases T with rfl | rfl <;> decide +kernel
 have put:∀{c:Nat}{x x':Cv}{g2:Nat×List Int}{p:Pt}{bd:List Int},V.1[c]?=a_ x->ps[c]?=a_ p->gi (Un ps c) p b_ bd g2 x'.2.1 (x'.1,x'.2.2)->(∀(d:Nat)(y:Cv)(q:Pt)(g:Nat×List Int),d≠c->gi (Un ps d) q b_ V.2 g y.2.1 (y.1,y.2.2)->gi (Un ps d) q b_ bd g y.2.1 (y.1,y.2.2))->uE ps (V.1.set c x',bd) (N.1.set c (g2.1,[],g2.2),bd):=λ{c x x' g2 p bd}h1 b f ho=>by
  have X:=(b0.mp h1).1;refine⟨xz,by rw[gL,gL,S.ln],λd y o=>?_⟩;have o:=o
  by_cases e:c=d
  .subst e;rw[gq X]at o;cases o;exact⟨g2,p,gq<|S.ln▸X,b,f⟩
  rw[nI e]at o;obtain⟨Y,q,h3,h4,h5⟩:=S.ck d y o;exact⟨Y,q,by rw[nI e];exact h3,h4,ho d y q Y (λz=>e z.gx) h5⟩
 have Z:N=(N.1,V.2):=by rw[<-S.bd]
 cases s with
 | @act c x p s h1 b j qa=>
  obtain⟨i,L,t,gm,f⟩:=S.ck c x h1;have ep:L=p:=by rw[b]at gm;exact(c8 gm).gx
  subst ep;have gs:=(g.part _<|a8 b).2 s<|a8 j
  by_cases z:s.1 = K_
  .have A:dr kd s x.2.2 V.2=V.2:=by unfold dr;rw[eT z,eN W]
   have B:∀v,fk s x.2.2 v=x.2.2:=λv=>by
    unfold fk;rw[eN (by rw[z];decide +kernel),eN (by rw[z];decide +kernel),eN (by rw[z];decide +kernel),eN (by rw[z];decide +kernel)]
   have C:cD kd s x V.2=(x.1+1,x.2.1++[(((s.2.getD 0 0:Nat):Int),x.2.2.getD (s.2.getD 1 0) 0)],x.2.2):=by
    unfold cD fZ dH;rw[B,eT z,eN W,eN λy=>f' (z.gx.gw y.1) dk]
   rw[A,C];exact⟨(N.1.set c _,V.2),by rw[vo t,<-Z];exact r,put h1 b (f.gw<|.set j z .nil) λd y q g _ h=>h⟩
  by_cases k:x.2.1=[]
  .rw[k]at f;have eg:=f.Wq
   have H:cD H_ s (x.1,[],x.2.2) V.2=cD kd s x V.2:=by
    unfold cD fZ;rw[eN z,eN z,k]
   have M:dr H_ s x.2.2 V.2=dr kd s x.2.2 V.2:=by unfold dr;rw[eN z,eN z]
   have I:(cD kd s x V.2).2.1=[]:=by
    show fZ _ s _ _=[];unfold fZ;rw[eN z,k]
   have a:=r.st (.act t b (by rw[eg];exact j) λ_=>rfl);rw[S.bd,eg]at a;have a:=a;rw[H,M]at a;refine⟨_,by rw[show cD _ s x _=((cD _ s x _).1,[],(cD _ s x _).2.2) by rw[<-I]]at a;exact a,put (g2:=((cD kd s x V.2).1,(cD kd s x V.2).2.2)) h1 b (by rw[I];exact .nil) λd y q g hd h=>?_⟩;unfold dr;rw[eN z]
   split
   .next w=>exact h.other ⟨c,L,s,λe=>hd e.gx,b,a8 j,.inr ⟨w,xz⟩⟩
   exact h
  have D:gH s=false:=by
   rcases y:gH s with _|_;rfl;exact f' (qa y) k
  have Ek:s.1 ≠ I_:=λz=>by unfold gH at D;rw[fC z]at D;cases D
  have A:dr kd s x.2.2 V.2=V.2:=by unfold dr;rw[eN z,eN Ek]
  have I:fZ kd s x.2.1 x.2.2=x.2.1:=by unfold fZ;rw[eN z]
  have nm:=λe he=>(show ∃n:Nat,n<12/\e.1=(n:Int) from (G.r c x h1 e he).imp λm h=>⟨h.1,h.2.1⟩)
  obtain⟨J,jy⟩:∃J,x.2.1.getLast?=a_ J:=by
   rcases e:x.2.1.getLast? with _|y;exact f' (List.getLast?_eq_none_iff.mp e) k;exact⟨y,xz⟩
  have an6:yd b_ x.2.1=a_ J.1.toNat:=by unfold yd;rw[jy];rfl
  have ev:fk s x.2.2 (mm s x.2.1 V.2)=fk s x.2.2 ((ui V.2 x.2.1).getD (s.2.getD 1 0) 0):=by
   by_cases w:s.1 = J_
   .unfold mm;rw[eT w,Wi (aeV gs w) G.bd nm]
   exact Xd w D _ _ _
  have C:cD kd s x V.2=(dH s (fk s x.2.2<|(ui V.2 x.2.1).getD (s.2.getD 1 0) 0) x.1,x.2.1,fk s x.2.2<|(ui V.2 x.2.1).getD (s.2.getD 1 0) 0):=by
   unfold cD;rw[I,ev]
  rw[A,C];refine⟨(N.1.set c _,V.2),by rw[vo t,<-Z];exact r,put h1 b ?_ λd y q g _ h=>h⟩
  have t2:gi (Un ps c) L (yd b_ x.2.1) (ui V.2 x.2.1) (x.1,x.2.2) [] (dH s (fk s x.2.2<|(ui V.2 x.2.1).getD (s.2.getD 1 0) 0) x.1,fk s x.2.2<|(ui V.2 x.2.1).getD (s.2.getD 1 0) 0):=by
   rw[an6];refine .AG j z D (λw=>?_) .nil
   by_cases sh:Sh ps c (s.2.getD 1 0)
   .obtain⟨m,_,em,O⟩:=G.r c x h1 J<|List.mem_of_getLast? jy;exact .inl (by rw[em,fH];exact(F.lk c _ _ s m b j w sh O).gx)
   exact .inr sh
  have:=f.gw t2;rw[nK]at this;exact this
 | @oC c n x num h1 u hn O=>
  obtain⟨i,p,t,b,f⟩:=S.ck c x h1
  obtain⟨rest,k⟩:∃rest,x.2.1=((n:Int),num)::rest:=by
   rcases e:x.2.1 with _|⟨a,l⟩
   ·rw[e]at u;cases u
   rw[e]at u;refine⟨l,gv (· :: l) ?_⟩;obtain q|q:=T
   .have h2:=O q;rw[e]at h2;exact c8 h2
   have h2:=G.one q x (a8 h1) a (e▸bV) _ (e▸List.mem_of_find?_eq_some u);rw[Ke,show jg n a=c_ from fC h2]at u;exact c8 u
  rw[k]at f;have B:x.2.1.eraseP (jg n)=rest:=by rw[k,TH,show jg n _=c_ from fC rfl];rfl
  rw[B];obtain⟨s,es,j,z,Q,f⟩:=f.inv.resolve_left λw=>by cases w
  injection Q with Q M
  injection Q with E H
  have E:=Int.ofNat_inj.mp E;subst M;rw[<-E,<-H]at f
  have C:cD H_ s (i.1,[],i.2) V.2=(i.1+1,[],i.2):=by
   have B:∀v,fk s i.2 v=i.2:=λv=>by
    unfold fk;rw[eN (by rw[z];decide +kernel),eN (by rw[z];decide +kernel),eN (by rw[z];decide +kernel),eN (by rw[z];decide +kernel)]
   unfold cD fZ dH;rw[B,eT z,eT xz,eN λy=>f' (z.gx.gw y.1) dk]
  have A:dr H_ s i.2 V.2=V.2.set n num:=by unfold dr;rw[eT z,eT xz,<-E,<-H]
  have a:=r.st (.act (kd:=H_) t b j λ_=>rfl);rw[S.bd]at a;have a:eG H_ ps (N.1.set c<|cD H_ s (i.1,[],i.2) V.2,dr H_ s i.2 V.2):=a;rw[C,A]at a;obtain⟨g2,r2,l2⟩:=f.commit b (λw=>by cases w) (gq (b0.mp t).1) a;rw[vj]at r2;exact⟨_,r2,put (x':=(x.1,rest,x.2.2)) h1 b l2 λd y q g hd h=>h.other ⟨c,p,s,λe=>hd e.gx,b,a8 j,.inl ⟨z,E.gx⟩⟩⟩
def uE.new:uE ps (uj ps) (uj ps):=by
 refine⟨xz,xz,λc x a=>?_⟩;have b:(ps.map λ_=>((0,[],[0,0,0,0]):Cv))[c]?=a_ x:=a;rw[cF]at b;obtain⟨p,d,rfl⟩:=uY.mp b;exact⟨(0,[0,0,0,0]),p,a,d,.nil⟩
def ahy(g:cW ps)(a:kd = L_\/kd = l_)(F:yp kd ps R)(h:eG kd ps V):Hv kd R V/\∃N,eG H_ ps N/\uE ps V N:=by
 induction h with
 | new=>exact⟨Hv.new,_,.new,uE.new⟩
 | st r s ih=>
  obtain⟨h,N,rN,S⟩:=ih;exact⟨h.st g F s,uE.st g a F h S rN s⟩
def Vn(g:cW ps)(f:kd = L_\/kd = l_)(F:yp kd ps R)(h:eG kd ps V)(a:∀x∈V.1,x.2.1=[]):eG H_ ps V:=by
 obtain⟨_,N,r,S⟩:=ahy g f F h
 have e:N=V:=by
  refine Prod.ext (JW λc=>?_) S.bd;rcases b:V.1[c]? with _|x;rw[uZ (S.ln▸xg.mp b)];obtain⟨j,p,i,_,d⟩:=S.ck c x b;have ex:=a x<|a8 b;rw[ex]at d;rw[i,d.Wq,<-ex]
 rw[<-e];exact r
end
end TL
namespace L2
def ku(H:Hp)(l:e_)(xs:List V):Prop:=H l=a_ (.lst xs)\/H l=a_ (.tup xs)
def ku.same(h:ku H l xs)(s:ae H H'):ku H' l xs:=h.imp (s _ _)<|s _ _
def py(K:u_):R2:=λx y H Q=>AF K x y H Q\/AE K x y H Q
def Ow(K:u_)(h:autoParam (X.K=K) am):A7 X (py K):=by
 subst h;intro d e p_ s σ H x y v u Q I a b h c;obtain h|h:=h
 .exact bX _ _ _ s _ H x y v u Q I a b h c
 exact dh _ _ _ s _ H x y v u Q I a b h c
def NK{K:u_}(h:ku H l xs)(e:iI xs i=a_ v)(q:Q v H):py K (.ref l) (.int i) H Q:=
 h.elim (λh=>.inl ⟨l,_,_,_,xz,xz,ag.of h,e,q⟩) λh=>.inr ⟨l,_,_,_,xz,xz,aq.of h,e,q⟩
end L2
namespace TL
open PySem.SeqAt L2 L3 L4
variable{P:k_}{w:j_}{K:u_}{mg:d0->Option f_}{gW:i_}
def fg.same(s:ae H H')(h:fg H v t):fg H' v t:=h.keep λ_ _ e=>s _ _ e
def IsPart.same(s:ae H H')(h:IsPart H v p):IsPart H' v p:=h.keep λ_ _ e=>s _ _ e
def iq.same(s:ae H H')(h:iq H v p):iq H' v p:=h.keep λ_ _ e=>s _ _ e
def Paired.at':=@zP
def xN:=@Vm
def afk:vh K_ = a_ (.type K_):=dk
def ajx(P:k_)(w:j_)(K:u_)(a:X.calm=c_)(h1:autoParam (X.prog=P) am)(h2:autoParam (X.w=w) am)(h3:autoParam (X.K=K) am):jt X (.type K_) (Zg P w K):=by subst h1 h2 h3;exact afh a
def ahw(P:k_)(w:j_)(a:X.calm=c_)(h1:autoParam (X.prog=P) am)(h2:autoParam (X.w=w) am):jt X (.builtin "sorted") (Yj P w):=by subst h1 h2;exact ac6 a
def ahu:Sp:=λvs H Q _=>∃a p,vs=[.ref a,.int p]/\∀l,H l=b_->Q (.ref l) (dc H l<|.lst [.int (p+1)])
def aht(K:u_):Sp:=λvs H Q _=>∃a C dx fs p q,vs=[.ref a,.int p]/\H a=a_ (.ins C dx fs)/\di K C/\bJ K C T_/\fs.lookup (T_ : d0)=a_ (.int q)/\
 ∀H' l b,ae H H'->H l=b_->H' l=a_ (.lst<|b.map V.int)->ij b (qF [p+1,q])->Q (.ref l) H'
def adh:aX iM iM (aM Fq):=aZ
def acX(F:aQ K as1 "Skip.nexts" Fq f fd)(g:mg "sorted"=b_)(i:mg K_ = b_):aG P w K mg gW aF 1 f fd iM (aht K):=by
 refine F.ok adh λaH A _ s H vs Q E r h=>?_
 obtain⟨a,C,dx,fs,p,q,rfl,ha,cl,j,m,k⟩:=h;refine⟨_,ax<|aR<|bC (ahw P w xz) xz g boot_sorted<|aa (fK (ajx P w K xz) xz i afk<|aa (eX<|aa (aS gE (pv 1) ar)<|aa (a0 (pv 0) xz) af) af) af,⟨_,xz,_,_,xz,xz,_,xz,a,C,dx,fs,_,xz,ha,cl,j,m,by show 2<=bc;decide,λl0 c=>⟨l0,[p+1,q],xz,ag.of ao,by show 2<4000;decide,λb d=>⟨b,_,xz,ao,?_,λl n e o=>?_⟩⟩⟩⟩
 .have:=Wn [p+1,q];simp only[eI,List.length_nil]at this;omega
 have s1:ae H (dc _ l<|.lst<|n.map V.int):=ay (ay (ay (ae.refl _) c) d) e;exact λ_=>k _ l _ s1 ((ay (ay (ae.refl _) c) d).free e) ao o
def ahM:aX iM iM (aM Gg):=aZ
def aga(F:aQ K as1 "Step.nexts" Gg f fd):aG P w K mg gW aF 1 f fd iM ahu:=by
 refine F.ok ahM λaH A _ s H vs Q E c h=>?_;obtain⟨a,p,rfl,k⟩:=h;exact⟨_,ax<|aR<|eX<|aa (aS gE (pv 1) ar) af,_,xz,_,_,xz,xz,by show 1<=bc;decide,λl b=>k l b⟩
def alK:Sp:=λvs H Q _=>∃a,vs=[.ref a]/\Q .aO H
def ajA:aX hF hF (aM G9):=aZ
def Cu(F:aQ K at4 "Step.sets" G9 f fd):aG P w K mg gW aF 1 f fd hF alK:=by
 refine F.ok ajA λaH A _ s H vs Q E b h=>?_;obtain⟨a,rfl,k⟩:=h;exact⟨_,ax<|aR oa,k⟩
def Zc(K:u_)(nm:d0):Sp:=λvs H Q _=>∃a C dx fs v,vs=[.ref a]/\H a=a_ (.ins C dx fs)/\di K C/\bJ K C nm/\fs.lookup nm=a_ v/\Q v H
def ajB:aX hF hF (aM G'):=aZ
def aie(F:aQ K at4 "Set.sets" G' f fd):aG P w K mg gW aF 1 f fd hF (Zc K l_):=by
 refine F.ok ajB λaH A _ s H vs Q E d h=>?_;obtain⟨a,C,dx,fs,v,rfl,ha,cl,b,c,k⟩:=h;exact⟨_,ax<|aR<|a0 (pv 0) xz,_,xz,a,C,dx,fs,v,xz,ha,cl,b,c,k⟩
def ahJ:aX hF hF (aM Gv):=aZ
def af5(F:aQ K at4 "Swap.sets" Gv f fd):aG P w K mg gW aF 1 f fd hF (Zc K l_):=by
 refine F.ok ahJ λaH A _ s H vs Q E d h=>?_;obtain⟨a,C,dx,fs,v,rfl,ha,cl,b,c,k⟩:=h;exact⟨_,ax<|aR<|a0 (pv 0) xz,_,xz,a,C,dx,fs,v,xz,ha,cl,b,c,k⟩
structure A8 where
 (a6:nG)
 (wC ZG A0 aas aar:e_)
 (Qp Oy Qo Pu Pr:ik)
structure kc(K:u_)(mg:d0->Option f_)(t:bf)(u:A8):Prop where
 ob:yq K mg t u.a6
 sorted:mg "sorted"=b_
 set:mg K_ = b_
 aoT:aQ K as1 "Step.nexts" Gg u.wC u.Qp
 Q7:dL K u.Qp iM []
 akw:aQ K as1 "Skip.nexts" Fq u.ZG u.Oy
 PF:dL K u.Oy iM []
 ame:Meth K t.kH as1 u.wC
 amf:Meth K t.kI as1 u.wC
 amd:Meth K t.iX as1 u.wC
 aj4:Meth K t.jr as1 u.wC
 aj2:Meth K t.jX as1 u.wC
 aiy:Meth K t.qB as1 u.wC
 aj3:Meth K t.jd as1 u.ZG
 Ds:aQ K at4 "Step.sets" G9 u.A0 u.Qo
 yK:dL K u.Qo hF []
 amM:aQ K at4 "Set.sets" G' u.aas u.Pu
 Qw:dL K u.Pu hF []
 amK:aQ K at4 "Swap.sets" Gv u.aar u.Pr
 Qv:dL K u.Pr hF []
 alI:Meth K t.kH at4 u.A0
 alJ:Meth K t.kI at4 u.A0
 alH:Meth K t.iX at4 u.aas
 aju:Meth K t.jr at4 u.A0
 ajs:Meth K t.jX at4 u.aar
 ahs:Meth K t.qB at4 u.A0
 ajt:Meth K t.jd at4 u.A0
def kc.st{K:u_}{mg:d0->Option f_}(T:kc K mg t u):sv K mg t:=T.ob.st
def setB(s:Tl):Option Nat:=if s.1 = K_ then s.2.head? else b_
def oz(s:Tl)(i:Nat):List Nat:=if s.1 = O_ then [i+1,s.2.getD 1 0] else [i+1]
def mf(s:Tl):Option Nat:=if s.1 = J_ then s.2[1]? else b_
def oq(s:Tl):Option Nat:=if s.1 = K_ then s.2.head? else if s.1 = I_ then s.2[1]? else b_
def Dz(i:Nat)(s:Tl):L5.Sp:=⟨setB s,gH s,oz s i⟩
def Cp(ns:List Nat):setB (ac2,ns)=none:=by kernel_rfl
def Cr(ns:List Nat):setB (U_,ns)=none:=by kernel_rfl
def set_set(ns:List Nat):setB (K_,ns)=ns.head?:=by kernel_rfl
def Cc(ns:List Nat):setB (J_,ns)=none:=by kernel_rfl
def Ca(ns:List Nat):setB (I_,ns)=none:=by kernel_rfl
def BZ(ns:List Nat):setB (M_,ns)=none:=by kernel_rfl
def Cb(ns:List Nat):setB (O_,ns)=none:=by kernel_rfl
def Mo(ns:List Nat):mf (ac2,ns)=none:=by kernel_rfl
def afB(ns:List Nat):oq (ac2,ns)=none:=by kernel_rfl
def Mq(ns:List Nat):mf (U_,ns)=none:=by kernel_rfl
def afC(ns:List Nat):oq (U_,ns)=none:=by kernel_rfl
def Mn(ns:List Nat):mf (K_,ns)=none:=by kernel_rfl
def Wa(ns:List Nat):oq (K_,ns)=ns.head?:=by kernel_rfl
def FA(ns:List Nat):mf (J_,ns)=ns[1]?:=by kernel_rfl
def aev(ns:List Nat):oq (J_,ns)=none:=by kernel_rfl
def Ls(ns:List Nat):mf (I_,ns)=none:=by kernel_rfl
def Vg(ns:List Nat):oq (I_,ns)=ns[1]?:=by kernel_rfl
def KW(ns:List Nat):mf (M_,ns)=none:=by kernel_rfl
def adG(ns:List Nat):oq (M_,ns)=none:=by kernel_rfl
def Lu(ns:List Nat):mf (O_,ns)=none:=by kernel_rfl
def aeu(ns:List Nat):oq (O_,ns)=none:=by kernel_rfl
noncomputable abbrev nV(n:Nat):V:=.int (n:Int)
noncomputable def natOf:V->Nat
 | .int i=>i.toNat
 | _=>0
def afY{L:List Int}{a:List V}(h:a.Perm (L.map V.int))(g:∀x∈L,0<=x):∃ks:List Nat,a=ks.map nV/\(∀c:Nat,c∈ks↔(c:Int)∈L)/\ks.length=L.length:=by
 have b:∀v∈a,∃x∈L,0<=x/\v=V.int x:=λv b=>by
  obtain⟨x,f,e⟩:=b8.mp<|h.mem_iff.mp b;exact⟨x,f,g x f,e.gx⟩
 refine⟨a.map natOf,?_,λc=>⟨λd=>?_,λd=>b8.mpr ⟨V.int c,h.mem_iff.mpr<|b8.mpr ⟨_,d,xz⟩,by show ((c:Int)).toNat=c;omega⟩⟩,by rw[aA,h.length_eq,aA]⟩
 .rw[i7];refine((Tq λv h1=>?_).gw<|List.map_id _).gx;obtain⟨x,_,h2,rfl⟩:=b v h1;show V.int ((x.toNat:Nat):Int)=V.int x;rw[E1 h2]
 obtain⟨v,h1,e⟩:=b8.mp d;obtain⟨x,h2,h3,rfl⟩:=b v h1;have e:x.toNat=c:=e;rw[<-e,E1 h3];exact h2
noncomputable def Dn:Option Nat->V
 | none=>.aO
 | some n=>.int (n:Int)
def Xx(T:kc K mg t u){sz:Nat}(g:bu sz s)(b:H z=a_ (.ins (cj t s.1) dx<|cR (.ref a) s.1<|s.2.map λ(n:Nat)=>V.int (n:Int))):∃C:e_,gI K H (.ref z) (.ref C)/\v_ K (.ref C) (.ref t.iX)=a_ (setB s).isSome:=by
 refine aD (Ap T.ob g b) λC ty c=>⟨C,ty,?_⟩;rw[c.aaj];cases g <;> kernel_rfl
def agM(T:kc K mg t u){sz:Nat}(g:bu sz s)(b:H z=a_ (.ins (cj t s.1) dx<|cR (.ref a) s.1<|s.2.map λ(n:Nat)=>V.int (n:Int))):∃C:e_,gI K H (.ref z) (.ref C)/\v_ K (.ref C) (.ref t.jr)=a_ (mf s).isSome:=by
 refine aD (Ap T.ob g b) λC ty c=>⟨C,ty,?_⟩;rw[c.Zk];cases g <;> kernel_rfl
def agp{t:bf}{u:A8}(T:kc K mg t u){z a dx:e_}{H:Hp}{s:Tl}{sz:Nat}(i:Nat)(g:bu sz s)(d:H z=a_ (.ins (cj t s.1) dx<|cR (.ref a) s.1<|s.2.map λ(n:Nat)=>V.int (n:Int))):∃C f fd pn sp,H z=a_ (.ins C dx<|cR (.ref a) s.1<|s.2.map λ(n:Nat)=>V.int (n:Int))/\di K C/\Meth K C as1 f/\aG P w K mg gW aF 1 f fd pn sp/\dL K fd pn []/\∀(Q:VK)(E:XK),(∀l H'(b:List Nat),ae H H'->H l=b_->H' l=a_ (.lst<|b.map nV)->(∀c,c∈b↔c∈oz s i)->b.length<=2->Q (.ref l) H')->sp [.ref z,.int (i:Int)] H Q E:=by
 have one:∀{C:e_},cj t s.1=C->di K C->Meth K C as1 u.wC->oz s i=[i+1]->∃C f fd pn sp,H z=a_ (.ins C dx<|cR (.ref a) s.1<|s.2.map λ(n:Nat)=>V.int (n:Int))/\di K C/\Meth K C as1 f/\aG P w K mg gW aF 1 f fd pn sp/\dL K fd pn []/\∀(Q:VK)(E:XK),(∀l H'(b:List Nat),ae H H'->H l=b_->H' l=a_ (.lst<|b.map nV)->(∀c,c∈b↔c∈oz s i)->b.length<=2->Q (.ref l) H')->sp [.ref z,.int (i:Int)] H Q E:=λ{C}e c m j=>
  ⟨C,_,_,_,_,e ▸ d,c,m,aga T.aoT,T.Q7,λQ E q=>⟨z,(i:Int),xz,λl h=>q l _ [i+1] (ay (ae.refl H) h) h ao (λc=>by rw[j]) (jC 1)⟩⟩
 cases g with
 | put=>exact one (Cz _) T.st.ue T.ame (by kernel_rfl)
 | add=>exact one (CA _) T.st.sE T.amf (by kernel_rfl)
 | set=>exact one (vD _) T.st.mj T.amd (by kernel_rfl)
 | look=>exact one (xO _) T.st.m8 T.aj4 (by kernel_rfl)
 | swap=>exact one (Cf _) T.st.oh T.aj2 (by kernel_rfl)
 | clear=>exact one (FE _) T.st.xT T.aiy (by kernel_rfl)
 | skip r m h1 h2 h3=>
  have d:=d;rw[z4]at d;refine⟨_,_,_,_,_,d,T.st.m7,T.aj3,acX T.akw T.sorted T.set,T.PF,λQ E q=>⟨z,_,dx,_,i,m,xz,d,T.st.m7,T.st.Ao,?_,λH' l b s1 h h4 k=>?_⟩⟩
  .show (cR _ _ [V.int r,V.int m]).lookup _=a_ _
   kernel_rfl
  have hm:∀x,x∈qF [i+1,m]↔x=i+1\/x=m:=λx=>by rw[af4];simp
  obtain⟨ks,o,p,v⟩:=afY (k.map V.int) λx y=>by rcases(hm x).mp y with e | e <;> omega
  refine q l _ _ s1 h (o ▸ h4) (λc=>?_) (v▸Wn _);rw[p,hm,show oz _ i=[i+1,m] by kernel_rfl,bK,da];omega
def ahz(T:kc K mg t u){sz:Nat}(g:bu sz s)(b:H z=a_ (.ins (cj t s.1) dx<|cR (.ref a) s.1<|s.2.map λ(n:Nat)=>V.int (n:Int))):∃C f fd pn sp,H z=a_ (.ins C dx<|cR (.ref a) s.1<|s.2.map λ(n:Nat)=>V.int (n:Int))/\di K C/\Meth K C at4 f/\aG P w K mg gW aF 1 f fd pn sp/\dL K fd pn []/\∀(Q:VK)(E:XK),Q (Dn<|oq s) H->sp [.ref z] H Q E:=by
 cases g with
 | put r m h1 h2=>
  rw[afB];have b:=b;rw[Cz]at b;exact⟨_,_,_,_,_,b,T.st.ue,T.alI,Cu T.Ds,T.yK,λQ E q=>⟨z,xz,q⟩⟩
 | add r m h1 h2=>
  rw[afC];have b:=b;rw[CA]at b;exact⟨_,_,_,_,_,b,T.st.sE,T.alJ,Cu T.Ds,T.yK,λQ E q=>⟨z,xz,q⟩⟩
 | set r m h1 h2=>
  rw[Wa];have b:=b;rw[vD]at b;refine⟨_,_,_,_,_,b,T.st.mj,T.alH,aie T.amM,T.Qw,λQ E q=>⟨z,_,dx,_,.int r,xz,b,T.st.mj,T.st.vQ,?_,q⟩⟩;show (aJ R_ (V.int (m:Int))<|aJ l_ (V.int (r:Int))<|aJ N_ (.ref a) []).lookup (l_ : d0)=a_ (V.int (r:Int));rw[dw,eN dk,dw,eT rfl]
 | look r m h1 h2=>
  rw[aev];have b:=b;rw[xO]at b;exact⟨_,_,_,_,_,b,T.st.m8,T.aju,Cu T.Ds,T.yK,λQ E q=>⟨z,xz,q⟩⟩
 | swap r m h1 h2=>
  rw[Vg];have b:=b;rw[Cf]at b;refine⟨_,_,_,_,_,b,T.st.oh,T.ajs,af5 T.amK,T.Qv,λQ E q=>⟨z,_,dx,_,.int m,xz,b,T.st.oh,T.st.CM,?_,q⟩⟩;show (aJ l_ (V.int (m:Int))<|aJ R_ (V.int (r:Int))<|aJ N_ (.ref a) []).lookup (l_ : d0)=a_ (V.int (m:Int));rw[dw,eT rfl]
 | clear=>
  rw[adG];have b:=b;rw[FE]at b;exact⟨_,_,_,_,_,b,T.st.xT,T.ahs,Cu T.Ds,T.yK,λQ E q=>⟨z,xz,q⟩⟩
 | skip r m h1 h2 h3=>
  rw[aeu];have b:=b;rw[z4]at b;exact⟨_,_,_,_,_,b,T.st.m7,T.ajt,Cu T.Ds,T.yK,λQ E q=>⟨z,xz,q⟩⟩
def Mp{t:bf}:(cR (.ref a) J_ [V.int (r:Int),V.int (m:Int)]).lookup (l_ : d0)=a_ (V.int (m:Int)):=by
 show (aJ l_ (V.int (m:Int))<|aJ R_ (V.int (r:Int))<|aJ N_ (.ref a) []).lookup (l_ : d0)=a_ (V.int (m:Int));rw[dw,eT rfl]
def W6{t:bf}:(cR (.ref a) K_ [V.int (r:Int),V.int (m:Int)]).lookup (l_ : d0)=a_ (V.int (r:Int)):=by
 show (aJ R_ (V.int (m:Int))<|aJ l_ (V.int (r:Int))<|aJ N_ (.ref a) []).lookup (l_ : d0)=a_ (V.int (r:Int));rw[dw,eN dk,dw,eT rfl]
def XO(a b:Nat):Ko (a:Int) (b:Int)=((a ||| b:Nat):Int):=by
 rw[bitOr_and,bitAnd_pp (xt a)<|xt b,fH,fH];have:=nat_or_add_and a b;omega
def WL(a b:Nat):Fi (a:Int) (b:Int)=((a &&& b:Nat):Int):=by
 rw[bitAnd_pp (xt a)<|xt b,fH,fH]
def W5(m:Nat):(1:Int)*(2:Int)^(m:Int).toNat=((1 <<< m:Nat):Int):=by
 rw[fH,Tz,Int.one_mul];simp
def kJ(s:Tl)(a:Nat):Nat:=L5.behind ⟨setB s,gH s,[]⟩ a
def NB:Sp:=λvs H Q _=>∃a m:Nat,vs=[nV a,nV m]/\m<12/\Q (nV<|a ||| (1 <<< m)) H
def ajy:aX i5 i5 (aM OP):=aZ
def aih(F:aQ K "with_name" "with_name" OP f fd):aG P w K mg gW aF 1 f fd i5 NB:=by
 refine F.ok ajy λaH A _ s H vs Q E b h=>?_;obtain⟨a,m,rfl,hm,k⟩:=h;refine⟨_,ax<|aR<|aS Zi (pv 0)<|aS Of ar<|pv 1,⟨_,xz,_,xz,_,_,xz,xz,⟨om,om,qc⟩,_,_,xz,xz,?_⟩⟩;show Q (V.int<|Ko (a:Int)<|(1:Int)*(2:Int)^(m:Int).toNat) H;rw[W5,XO];exact k
def Lf:Sp:=λvs H Q _=>∃a b:Nat,vs=[nV a,nV b]/\Q (nV<|a-(a &&& b)) H
def aex:aX ki ki (aM LY):=aZ
def adO(F:aQ K "without_all" "without_all" LY f fd):aG P w K mg gW aF 1 f fd ki Lf:=by
 refine F.ok aex λaH A _ s H vs Q E c h=>?_;obtain⟨a,b,rfl,k⟩:=h;refine⟨_,ax<|aR<|aS Oe (pv 0)<|aS Yo (pv 0)<|pv 1,⟨_,xz,_,xz,_,xz,_,_,xz,xz,_,_,xz,xz,?_⟩⟩;have d:a &&& b<=a:=Nat.and_le_left;have e:(a:Int)-((a &&& b:Nat):Int)=((a-(a &&& b):Nat):Int):=om;show Q (V.int<|(a:Int)-Fi (a:Int) (b:Int)) H;rw[WL,e];exact k
def ND(t:bf):Sp:=λvs H Q _=>∃(v:V)(s:Tl)(sz a:Nat),vs=[v,nV a]/\jG t H v s/\bu sz s/\Q (nV<|kJ s a) H
def ajE:aX [au1,au0] [au1,au0] (aM OS):=aZ
def ail(T:kc K mg t u)(F:aQ K "names_behind" "names_behind" OS f fd)(o:Dp P w K mg gW 1 "with_name" i5 NB):aG P w K mg gW aF 2 f fd [au1,au0] (ND t):=by
 refine F.ok ajE λaH A _ s H vs Q E j h=>?_
 obtain⟨v,st,sz,n,rfl,⟨z,a,dx,rfl,d⟩,g,k⟩:=h;refine let b:TS:=_;⟨_,au (bz (dg<|Mi (pv 0) j cX) (ax<|aR ar) bQ)<|pR b<|au (bz (dg<|bC iP xz T.st.bl.ir iO<|aa (pv 0)<|aa (eW (v:=.ref _) xz T.st.Hh xz) af) (ax<|aR<|bA o j xz<|aa (pv 1)<|aa (a0 (pv 0) xz) af) bQ)<|ax<|aR<|pv 1,?_⟩;obtain⟨D,ty,one⟩:=Xx T g d;obtain⟨C,p,x,pn,sp,y,cl,B,G,bi,q⟩:=YO (P:=P) (w:=w) (gW:=gW) (mg:=mg) T.ob g d;refine⟨_,xz,z,C,dx,_,p,x,pn,sp,xz,y,vC S_ dk (.ref a) st.1 (st.2.map λ(n:Nat)=>V.int n),cl,B,G,bi,q _ _ ?_⟩
 refine⟨_,xz,lG (λi=>?_) λi=>?_⟩
 .have e:kJ st n=0:=by unfold kJ L5.behind;rw[eT i]
  rw[e]at k;exact k
 refine⟨_,xz,_,_,_,_,_,xz,ty,xz,one,_,xz,lG (λc=>?_) λc=>?_⟩
 .cases g with
  | set nm r h1 h2=>
   have l:H z=a_ (.ins (cj t K_) dx<|cR (.ref a) K_ [V.int (nm:Int),V.int (r:Int)]):=d;rw[vD]at l;refine⟨_,xz,_,xz,z,_,dx,_,.int _,xz,l,T.st.mj,T.st.vQ,?_,n,nm,xz,h1,?_⟩
   .unfold cR;rw[eN dk,eN dk,eT xz,dw,eN dk,dw,eT rfl];rfl
   have e:kJ (K_,[nm,r]) n=n ||| (1 <<< nm):=by unfold kJ L5.behind;rw[Mr,set_set];rfl
   rw[e]at k;exact k
  | put=>rw[Cp]at c;cases c
  | add=>rw[Cr]at c;cases c
  | look=>rw[Cc]at c;cases c
  | swap=>rw[Ca]at c;cases c
  | clear=>rw[BZ]at c;cases c
  | skip=>rw[Cb]at c;cases c
 have e:kJ st n=n:=by
  unfold kJ L5.behind;rw[i]
  have:setB st=none:=by cases h:setB st with
   | none=>rfl
   | some m=>rw[h]at c;cases c
  rw[this];rfl
 rw[e]at k;exact⟨_,xz,k⟩
def NG(t:bf):Sp:=λvs H Q _=>∃(v:V)(s:Tl)(sz i:Nat)(l:e_)(row:List Nat),vs=[v,nV i,.ref l]/\jG t H v s/\bu sz s/\ku H l (row.map nV)/\i<row.length/\(∀a∈oz s i,a<row.length)/\
 ∀(b:e_)(H':Hp)(ks:List Nat),ae H H'->H b=b_->H' b=a_ (.lst<|ks.map nV)->(∀c,c∈ks↔c∈oz s i/\kJ s (row.getD i 0)-(kJ s (row.getD i 0) &&& row.getD c 0)≠0)->Q (.ref b) H'
def Yc:aX [au1,T_,L_,"behind"] lb (aM Mb):=aZ
def aj9:(["behind",L_,"after"]:List d0).Nodup:=dk
def vK{row:List Nat}{i:Nat}(h:i<row.length):iI (row.map nV) (i:Int)=a_ (nV<|row.getD i 0):=by
 refine cI ?_;rw[cF,aI h,cH,aI h];rfl
def ain(T:kc K mg t u)(F:aQ K "places_lacking" "places_lacking" Mb f fd)(L:Dp P w K mg gW 2 "names_behind" [au1,au0] (ND t))(M:Dp P w K mg gW 1 "without_all" ki Lf):aG P w K mg gW aF 3 f fd lb (NG t):=by
 refine F.ok Yc λaH A _ s H vs Q E o h=>?_
 obtain⟨v,st,sz,i,l,row,rfl,g,p,y,hi,O,k⟩:=h;have B:=o.mono (show 1<=2 by decide)
 refine let d:TS:=_;⟨_,au (bG (i:=3) Yc.nd xz (pC xz)<|bA L o xz<|aa (pv 0)<|aa (aU (Ow K) (pv 2)<|pv 1) af) (pR d (ax (aR (dZ (N:=["behind",L_,"after"]) (idx:=[3,2]) xz (cB.of<|by kernel_rfl) (eD<|aw _)
   (lA<|aeF (k:=1) (CX:=aF) (E:=E0) (P:=P) (w:=w) (K:=K) (mg:=mg) (gW:=gW) (pv 0) B cX<|aa (pv 1) af)
   (λ_ _ _ _=>bo (i:=2) aj9 xz (aL xz)<|.inr xz)
   (λ_ _ _ _=>vy<|cb CZ (bA M B xz<|aa (pv 0)<|aa (aU (Ow K) (pv 1)<|pv 2) af) ar<|bR _)
   λ_ _ _ _=>pv 2)))),?_⟩
 refine⟨_,xz,_,xz,_,xz,NK y (vK hi) ⟨_,st,sz,_,xz,g,p,?_⟩⟩;obtain⟨z,a,dx,rfl,R⟩:=g;generalize S:kJ _ _=b;obtain⟨C,U,W,pn,sp,X,cl,Y,G,bi,q⟩:=agp (P:=P) (w:=w) (gW:=gW) (mg:=mg) T i p R;refine⟨_,xz,z,C,dx,_,U,W,pn,sp,xz,X,vC as1 dk (.ref a) st.1 (st.2.map λ(n:Nat)=>V.int n),cl,Y,G,bi,_,xz,q _ _ λZ H1 ns s1 n1 h1 D jP=>⟨Z,xz,⟨_,ag.of h1⟩,?_⟩⟩;have QF:=y.same s1
 let ok:Nat->Bool:=λa=>decide<|b-(b &&& row.getD a 0)≠0
 refine dX (n:=(ns.map nV).length) (λm ys H'=>H'=H1/\ys=((ns.take m).filter ok).map nV) (bL<|bq<|by rw[aA];omega) ⟨xz,xz⟩ ?_ ?_ ?_ ?_ ?_
 .rintro m ys H' ⟨_,e⟩;rw[e,aA];have:=o7 ok<|ns.take m;rw[fJ]at this;omega
 .rintro m ys H' j ⟨rfl,_⟩;exact⟨_,_,ag.of h1,aI j⟩
 .rintro ys H' ⟨rfl,_⟩;exact⟨_,ag.of h1,aw _⟩
 .rintro m ys H' j ⟨rfl,e⟩ x dQ ⟨eH,du⟩;subst eH;have I:=du _<|ag.of h1;rw[aA]at j;rw[cF,aI j]at I;cases I;have cO:=O _<|(D _).mp<|pe j;refine⟨_,xz,_,xz,_,xz,NK QF (vK cO) ⟨b,_,xz,xz,_,xz,?_⟩⟩;have et:ns.take (m+1)=ns.take m++[ns[m]]:=by rw[iN,aI _];rfl
  rw[et,xq,dC];refine Ay (λh=>?_) λh=>?_
  .have g:ok ns[m]=true:=fC λz=>h (by rw[z];rfl);refine⟨_,xz,xz,?_⟩;rw[e,EX g];rfl
  have g:ok ns[m]=false:=fT λz=>z (by
   injection h with h
   omega)
  refine⟨xz,?_⟩;rw[e,EY<|g▸dF];simp
 rintro ys H' ⟨rfl,e⟩;rw[aA,jl<|aw _]at e;have Jm:=o7 ok ns;refine⟨by rw[e,aA];exact bL<|bq om,λr J=>k r _ (ns.filter ok) (ay s1 J) (s1.free J) (by rw[ao,e]) λc=>?_⟩;rw[jB,D c,S];exact and_congr_right λ_=>decide_eq_true_iff
def Pd{sz i:Nat}(g:bu sz s)(hi:i<sz):∀a∈oz s i,a<=sz:=λa ha=>by
 unfold oz at ha
 split at ha
 .rename_i h
  cases g with
  | skip r m h1 h2 h3=>
   obtain e|e:=bK.mp ha
   .omega
   rw[da.mp e];exact h2
  | put=>exact f' (show ("put":d0)="skip" from h) dk
  | add=>exact f' (show ("add":d0)="skip" from h) dk
  | set=>exact f' (show ("set":d0)="skip" from h) dk
  | look=>exact f' (show ("look":d0)="skip" from h) dk
  | swap=>exact f' (show ("swap":d0)="skip" from h) dk
  | clear=>exact f' h dk
 .have:=da.mp ha;omega
def Xv:=@ye
def oo(part:Pt):List L5.Sp:=part.mapIdx Dz
def FR(part:Pt):(oo part).length=part.length:=by unfold oo;simp
def WV{part:Pt}:(oo part)[i]?=part[i]?.map (Dz i):=by unfold oo;rw[List.getElem?_mapIdx]
def ajc(s:Tl)(i a:Nat):L5.behind (Dz i s) a=kJ s a:=rfl
def aiw(h:jG t H v s)(b:H l=a_ (.lst xs)):jG t (dc H l o) v s:=by
 obtain⟨z,a,dx,e,h⟩:=h;refine⟨z,a,dx,e,?_⟩;rw[aj λq=>by rw[q,b]at h;cases h];exact h
def Vu(row:List Nat):(row.map nV).map natOf=row:=by
 rw[i7];have:(natOf ∘ nV)=id:=by funext n;rfl
 rw[this,List.map_id]
def HZ(lr:e_)(B:Nat)(σ:L2.St)(H:Hp):Nat:=match (σ[3]? : Option (Option V)),H lr with
 | some (a_ (V.bl c_)),a_ (HO.lst vs)=>1+B-(vs.map natOf).sum
 | _,_=>0
structure sW(t:bf)(part:Pt)(H0 H:Hp)(ls lr:e_)(iJ:List V)(row:List Nat):Prop where
 same:ae H0 H
 new:H0 lr=b_
 steps:H ls=a_ (.lst iJ)
 objs:bw (jG t H) iJ part
 row:H lr=a_ (.lst<|row.map nV)
 ne:ls≠lr
def sW.grow{part:Pt}{row:List Nat}(s:sW t part H0 H ls lr iJ row)(e:ae H H'):sW t part H0 H' ls lr iJ row:=
 ⟨s.same.gw e,s.new,e _ _ s.steps,Paired.bp s.objs λ_ _ q=>q.same e,e _ _ s.row,s.ne⟩
def sW.set{part:Pt}{row:List Nat}(s:sW t part H0 H ls lr iJ row)(a:List Nat):sW t part H0 (dc H lr<|.lst<|a.map nV) ls lr iJ a:=
 ⟨xN s.same s.new,s.new,by rw[aj s.ne];exact s.steps,Paired.bp s.objs λ_ _ q=>aiw q s.row,ao,s.ne⟩
structure sX(n:Nat)(row:List Nat):Prop where
 len:row.length=n+1
 lt:∀x∈row,x<2^12
def sX.at'(s:sX n row)(i:Nat):row.getD i 0<2^12:=by
 rw[cH];rcases e:row[i]? with _|x;exact(by decide:0<2^12);exact s.lt x<|a8 e
def sX.set(s:sX n row)(a:b<2^12):sX n (row.set c<|L5.kM row c ||| b):=by
 refine⟨by rw[gL];exact s.len,λx d=>?_⟩;obtain q|q:=EW d
 .exact s.lt x q
 rw[q];exact ab3 (s.at' c) a
def sX.sum(s:sX n row):row.sum<=(n+1)*4096:=by
 have:∀(l:List Nat),(∀x∈l,x<2^12)->l.sum<=l.length*4096:=by
  intro l
  induction l with
  | nil=>simp
  | cons x l ih=>
   intro h;have h1:=h x (by simp);have h2:=ih λy a=>h y<|cu _ a;rw[List.sum_cons,eI,Ul];omega
 have:=this _ s.lt;rw[s.len]at this;exact this
def akM{sz a:Nat}(g:bu sz s)(h:a<2^12):kJ s a<2^12:=by
 unfold kJ L5.behind
 split
 .decide
 cases g with
 | set n r h1 h2=>
  rw[set_set];refine ab3 h ?_;rw[Tz];exact Nat.pow_lt_pow_right qc h1
 | put=>rw[Cp];exact h
 | add=>rw[Cr];exact h
 | look=>rw[Cc];exact h
 | swap=>rw[Ca];exact h
 | clear=>rw[BZ];exact h
 | skip=>rw[Cb];exact h
def HC(row:List Nat)(p:Pt):Prop:=row.length=p.length+1/\L5.OD (oo p) p.length row/\∀x∈row,x<2^12
def Z2:Sp:=λvs H Q _=>∃(v:V)(part:Pt),vs=[v]/\IsPart H v part/\part.length<=120/\(∀t∈part,bu part.length t)/\∀(b:V)(row:List Nat)(H':Hp),ae H H'->(∃a,b=.ref a/\H' a=a_ (.tup<|row.map nV))->HC row part->Q b H'
def qK:aX [X_,"steps",L_,"grown",T_,au1,"behind","lacking","after"] iL (aM Na):=aZ
def ah0(n:Nat):(dU n ([V.int 0]:List V)).flatten=(dU n 0).map nV:=by
 induction n with
 | zero=>rfl
 | succ n ih=>rw[xp,E7,ih,xp];rfl
def al0{u:A8}(T:kc K mg t u)(F:aQ K "marks_of_part" "marks_of_part" Na f fd)(jy:mg at5 = b_)(DB:Dp P w K mg gW 2 "names_behind" [au1,au0] (ND t))(DL:Dp P w K mg gW 3 "places_lacking" lb (NG t)):aG P w K mg gW aF 5 f fd iL Z2:=by
 have GO:aG P w K _ gW _ 4 _ _ _ _:=xI T.st;refine F.ok qK λaH A _ s H vs Q E hr h=>?_
 obtain⟨v,part,rfl,⟨a,U,rfl,ha,yj⟩,hlen,hg,k⟩:=h;have oQ:=hr.mono (show 3<=4 by decide);have dm:=r_ yj
 refine let l:TS:=_;let p:TS:=_;let C:TS:=_;let D:TS:=_;let G:TS:=_;let I:TS:=_;let J:TS:=_;let L:TS:=_;let M:TS:=_;let O:TS:=_;⟨_,au (BQ (i:=1) (N:=[at0]) (idx:=[]) qK.nd xz xz xz (cB.of<|by kernel_rfl) (eD<|bg _) (nZ<|pv 0) (λ_ _ _ _=>bo (i:=0) Xk xz (aL xz)<|.inr xz) (λ_ _ _ _=>eP)
   λ_ _ _ _=>lB GO hr xz T.st.mO T.st.wB.kp T.st.bO .nil cX<|aa (pv 0) af)
  (pR O<|au (bG (i:=2) qK.nd xz (aL xz)<|aS Og (eX<|aa ar af)<|aS gE (bC ft xz T.st.bl.len q_<|aa (pv 0) af) ar)<|pR M<|au (bG (i:=3) qK.nd xz (aL xz) iF)<|pR L<|au (Wj jA (dg<|pv 3)<|pR I<|au (bG (i:=3) qK.nd xz (aL xz) iF)<|pR G<|ax<|jV jA xz (qm (b:=c_) xz jy<|aa (pv 1) af) (lX xz<|ff (bo (i:=4) qK.nd xz<|aL xz)<|ff (bo (i:=5) qK.nd xz<|aL xz) lV)<|pR D<|au (bG (i:=6) qK.nd xz (aL xz)<|bA DB (hr.mono (show 2<=4 by decide)) xz<|aa (pv 5)<|aa (aU bX (pv 2)<|pv 4) af)<|pR C<|au (bG (i:=7) qK.nd xz (aL xz)<|bA DL oQ xz<|aa (pv 5)<|aa (pv 4)<|aa (pv 2) af)<|pR p<|ax<|jV jA xz (lA<|pv 7) (bo (i:=8) qK.nd xz<|aL xz)<|pR l<|au (vH (aS Zi (aU bX (pv 2)<|pv 8)<|pv 6)<|vI (pv 2) (pv 8) set_list)<|ax<|bG (i:=3) qK.nd xz (aL xz) iF)<|pR J<|ax<|aR<|fK kC xz T.st.bl.tuple iE<|aa (pv 2) af),?_⟩
 refine⟨_,xz,a,xz,⟨_,aq.of ha⟩,dX (n:=U.length) (λi ys H'=>i<=U.length/\ae H H'/\bw (jG t H') ys (part.take i)) (bL<|bq om) ⟨bg _,ae.refl _,.nil⟩ ?_ ?_ ?_ ?_ ?_⟩
 .rintro i ys H' ⟨_,_,e⟩;rw[r_ e,fJ];omega
 .rintro i ys H' hi ⟨_,s1,_⟩;exact⟨_,U[i],aq.of<|s1 _ _ ha,aI _⟩
 .rintro ys H' ⟨_,s1,_⟩;exact⟨_,aq.of<|s1 _ _ ha,aw _⟩
 .rintro i ys H' hi ⟨_,s1,e⟩ x dQ ⟨eH,du⟩;subst eH;obtain⟨td,kU,b,rfl,hb⟩:=Paired.at' yj<|du _<|aq.of<|s1 _ _ ha;have gt:=hg _<|a8 kU;refine⟨_,xz,b,td.1,td.2.map λ(n:Nat)=>V.int n,xz,s1 _ _ hb,xK gt,⟨by rw[aA];have:=gt.len;omega,λy hy=>?_⟩,λz dx H2 s2 _ hz=>⟨hi,s1.gw s2,?_⟩⟩
  .obtain⟨n,_,rfl⟩:=b8.mp hy;exact⟨_,xz⟩
  rw[iN,kU];exact Paired.snoc (Paired.bp e λ_ _ q=>q.same s2) ⟨z,b,dx,xz,hz⟩
 rintro iJ H1 ⟨_,s1,yw⟩;rw[dm,jl<|aw _]at yw;have hsl:=r_ yw;refine⟨by rw[hsl];exact bL<|bq om,λls iz=>?_⟩;have e1:=ay (o:=.lst iJ) (ae.refl _) iz;refine⟨qc,λl0 hl0=>?_⟩;have X:=ay (o:=.lst [.int 0]) (ae.refl _) hl0;refine⟨_,xz,a,U,xz,.inr<|aq.of<|((s1.gw e1).gw X) _ _ ha,_,_,xz,xz,l0,_,_,xz,xz,ao,om,om,?_,λlr Sg=>?_⟩
 .rw[show ([V.int 0]:List V).length=1 from xz,gf];omega
 have elr:((U.length:Int)+1).toNat=(oo part).length+1:=by rw[FR];omega
 have e3:=ay (o:=.lst (dU ((U.length:Int)+1).toNat [V.int 0]).flatten) (ae.refl _) Sg
 have st0:sW t part H (dc (dc (dc H1 ls<|.lst iJ) l0<|.lst [.int 0]) lr<|.lst (dU ((U.length:Int)+1).toNat [V.int 0]).flatten) ls lr iJ (dU ((oo part).length+1) 0):=by
  refine⟨((s1.gw e1).gw X).gw e3,((s1.gw e1).gw X).free Sg,e3 _ _<|X _ _ ao,Paired.bp yw λ_ _ q=>q.same<|(e1.gw X).gw e3,?_,?_⟩
  .rw[ao,ah0,elr]
  exact bh (X _ _ ao) Sg
 generalize dc _ _ _=H2 at st0
 let B:Nat:=((oo part).length+1)*4096
 refine afv (λσ H'=>∃(row:List Nat)(g:Bool)(Y Z x6 x7 x8:Option V),σ=[a_ (.ref a),a_<|.ref ls,a_<|.ref lr,a_<|.bl g,Y,Z,x6,x7,x8]/\sW t part H H' ls lr iJ row/\sX part.length row/\(g=d_->L5.OD (oo part) (oo part).length row))
  (HZ lr B) ⟨_,c_,b_,b_,b_,b_,b_,xz,st0,⟨by rw[xn,FR],λx hx=>by rw[abr hx];decide⟩,λz=>by cases z⟩ ?_ ?_
 .rintro σ H3 ⟨W,g,Y,Z,x6,x7,x8,rfl,D5,Iz,Q6⟩;refine⟨_,xz,g,xz,?_⟩;rcases g with _|_;exact eL ⟨_,xz,lr,_,xz,.inl ⟨ag.of D5.row,λq hq=>k (.ref q) W _ (D5.same.gw<|ay (ae.refl _) hq) ⟨q,xz,ao⟩ ⟨Iz.len,by have:=Q6 rfl;rw[FR]at this;exact this,Iz.lt⟩⟩⟩
  refine j' ?_;have hs0:=Iz.sum
  have hmu:HZ lr B [a_ (V.ref a),a_<|V.ref ls,a_<|V.ref lr,a_<|V.bl c_,Y,Z,x6,x7,x8] H3=1+B-W.sum:=by
   unfold HZ;rw[D5.row];show 1+B-((W.map nV).map natOf).sum=_;rw[Vu]
  refine⟨_,xz,ls,iJ,xz,ag.of D5.steps,su (n:=iJ.length) (λj σ H'=>∃(row:List Nat)(g:Bool)(Y Z x6 x7 x8:Option V),σ=[a_ (.ref a),a_<|.ref ls,a_<|.ref lr,a_<|.bl g,Y,Z,x6,x7,x8]/\sW t part H H' ls lr iJ row/\sX part.length row/\ ((g=d_/\row=W/\L5.OD (oo part) j W)\/(g=c_/\W.sum<row.sum))) ⟨W,d_,Y,Z,x6,x7,x8,xz,D5,Iz,.inl ⟨xz,xz,λj s hj=>f' hj<|zH _⟩⟩ ?_ ?_ ?_ ?_⟩
  .rintro j σ H4 hj ⟨_,_,_,_,_,_,_,_,S,_⟩;exact⟨iJ,iJ[j],ag.of S.steps,aI hj⟩
  .rintro σ H4 ⟨_,_,_,_,_,_,_,_,S,_⟩;exact⟨iJ,ag.of S.steps,aw _⟩
  .rintro j σ H4 hj ⟨row,g,y4,y5,y6,y7,y8,rfl,S,Ba,Er⟩ zt H5 ⟨r,x,bE,ez,eH,du⟩;subst ez;subst eH;have hx:=du iJ<|ag.of S.steps;obtain⟨td,kU,hob⟩:=Paired.at' S.objs hx;have gt:=hg td<|a8 kU;have hjl:j<part.length:=om;have qZ:=S.grow<|ay (o:=.tup [.int j,x]) (ae.refl _) bE;have gZ:=Ba.len;have Br:j<row.length:=om;have Rq:=hob.same<|ay (o:=.tup [.int j,x]) (ae.refl _) bE;have p9:(oo part)[j]?=a_ (Dz j td):=by rw[WV,kU];rfl
   refine⟨r,[.int j,x],xz,aq.of ao,xz,.int j,[x],xz,x,[],xz,xz,?_⟩;generalize dc H4 r (.tup [.int j,x])=H6 at qZ Rq ⊢;refine⟨_,xz,_,xz,_,xz,lr,_,_,_,xz,xz,ag.of qZ.row,vK Br,x,td,_,_,xz,Rq,gt,⟨_,xz,_,xz,_,xz,x,td,_,j,lr,row,xz,Rq,gt,.inl qZ.row,Br,λa ha=>by have:=Pd gt hjl a ha;omega,λlk H7 zs s7 nk hk iZ=>?_⟩⟩;have st4:=qZ.grow s7;have uQ:lk≠lr:=λz=>by rw[z,qZ.row]at nk;cases nk
   generalize hb:kJ td (row.getD j 0)=b at iZ ⊢;have Ju:=hb ▸ akM gt (Ba.at' j);refine⟨_,xz,lk,xz,⟨_,ag.of hk⟩,Mz (xs:=zs.map nV) (λm σ H'=>∃(R:List Nat)(g':Bool)(y:Option V),σ=[a_ (.ref a),a_<|.ref ls,a_<|.ref lr,a_<|.bl g',a_<|.int j,a_ x,a_<|nV b,a_<|.ref lk,y]/\sW t part H H' ls lr iJ R/\H' lk=a_ (.lst<|zs.map nV)/\sX part.length R/\ (m=0->R=row/\g'=g)/\(0<m->g'=c_/\row.sum<R.sum)) ⟨row,g,y8,xz,st4,hk,Ba,λ_=>⟨xz,xz⟩,λz=>f' z<|lQ _⟩ (λm σ H' _⟨_,_,_,_,_,h,_⟩=>ag.of h) ?_ ?_⟩
   .rintro m v σ H8 hv ⟨R,g',y,rfl,mD,hk5,Iy,h0,h1⟩;rw[cF]at hv;cases ez:zs[m]? with
    | none=>rw[ez]at hv;cases hv
    | some c=>
     rw[ez]at hv;cases hv;obtain⟨hcn,oY⟩:=(iZ c).mp<|a8 ez;have asu:=Iy.len;have Jn:c<R.length:=by have:=Pd gt hjl c hcn;omega
     refine⟨_,xz,_,xz,lr,_,_,_,xz,xz,ag.of mD.row,vK Jn,_,xz,_,_,xz,xz,⟨_,xz,_,xz,lr,_,_,c,xz,xz,mD.row,Xv (by rw[aA];exact Jn),?_⟩⟩
     have QS:(R.map nV).set c (V.int<|Ko ((R.getD c 0:Nat):Int) (b:Int))=(R.set c<|L5.kM R c ||| b).map nV:=by
      rw[XO,vk]
     refine⟨R.set c<|L5.kM R c ||| b,c_,a_<|nV c,xz,?_,?_,Iy.set Ju,λz=>f' z<|Nat.succ_ne_zero _,λ_=>⟨xz,?_⟩⟩
     .have:=mD.set<|R.set c<|L5.kM R c ||| b;rw[<-QS]at this;exact this
     .rw[aj uQ];exact hk5
     have asq:=L5.sum_set (v:=L5.kM R c ||| b) Jn;have qb:L5.kM R c<=L5.kM R c ||| b:=Nat.left_le_or
     by_cases Jj:m=0
     .obtain⟨er,_⟩:=h0 Jj;subst er;have:L5.kM R c<L5.kM R c ||| b:=L5.alT λz=>oY (L5.without.mpr z)
      omega
     .have:=(h1 om).2;omega
   rintro σ H8 ⟨R,g',y,rfl,mD,hk5,Iy,h0,h1⟩;rw[aA]at h0 h1;refine⟨R,g',_,_,_,_,_,xz,mD,Iy,?_⟩
   by_cases Jj:zs.length=0
   .obtain⟨er,eg⟩:=h0 Jj;subst er;subst eg;obtain⟨uU,cG,Sz⟩|⟨w9,Bk⟩:=Er
    .refine .inl ⟨uU,cG,?_⟩;subst cG;intro i' s' km jx c hc
     by_cases e:i'<j
     .exact Sz i' s' e jx c hc
     have e':i'=j:=om;subst e';rw[p9]at jx;cases jx;rw[<-L5.without];have apL:=Tb Jj;rw[apL]at iZ;have lN:=mt (iZ c).mpr (by simp);rw[ajc,show kJ td (L5.kM R i')=b from hb];exact tK λz=>lN ⟨hc,z⟩
    exact .inr ⟨w9,Bk⟩
   obtain⟨eg,wQ⟩:=h1 om;refine .inr ⟨eg,?_⟩;obtain⟨_,cG,_⟩|⟨_,Bk⟩:=Er
   .rw[<-cG];exact wQ
   omega
  rintro σ H4 ⟨row,g,y4,y5,y6,y7,y8,rfl,S,Ba,Er⟩;refine⟨⟨row,g,y4,y5,y6,y7,y8,xz,S,Ba,λuU=>?_⟩,?_⟩
  .obtain⟨_,cG,Sz⟩|⟨w9,_⟩:=Er
   .rw[cG];have e:iJ.length=(oo part).length:=by rw[FR];exact hsl
    rw[<-e];exact Sz
   rw[w9]at uU;cases uU
  rw[hmu];obtain⟨uU,_,_⟩|⟨w9,Bk⟩:=Er
  .rw[uU];show 0<_;omega
  rw[w9];unfold HZ;rw[S.row];show 1+B-((row.map nV).map natOf).sum<_;rw[Vu];have:=Ba.sum;omega
 rintro σ H' Q1 Q2 hQ ⟨v,e,d,ed,q⟩;exact⟨v,e,d,ed,hQ _ _ q⟩
def qH(H:Hp)(v:V)(row:List Nat):Prop:=∃a,v=.ref a/\H a=a_ (.tup<|row.map nV)
def AO(H:Hp)(v:V)(rows:List (List Nat)):Prop:=∃a us,v=.ref a/\H a=a_ (.tup us)/\bw (qH H) us rows
def qH.same(s:ae H H')(h:qH H v row):qH H' v row:=aD h λa e h=>⟨a,e,s _ _ h⟩
def AO.same{rows:List (List Nat)}(s:ae H H')(h:AO H v rows):AO H' v rows:=fh h λa us e h r=>⟨a,us,e,s _ _ h,Paired.bp r λ_ _ q=>q.same s⟩
def sQ(rows:List (List Nat))(ps:List Pt):Prop:=bw HC rows ps
def P2:Sp:=λvs H Q _=>∃(v:V)(ps:List Pt),vs=[v]/\iq H v ps/\cW ps/\∀(a:V)(rows:List (List Nat))(H':Hp),ae H H'->AO H' a rows->sQ rows ps->Q a H'
def aox:aX hX hX (aM NS):=aZ
def aiF{v0:Option V}{n:Nat}{g:List V->Hp->Prop}(h:bw (IsPart H) aT ps)(j:cW ps)(ha:H a=a_ (.tup aT))(e:ae H H1)(l:∀(x:V)(part:Pt)(b:Hp)(Q:VK),ae H b->IsPart b x part->part.length<=120->(∀t∈part,bu part.length t)->(∀(f:V)(row:List Nat)(H':Hp),ae b H'->qH H' f row->HC row part->Q f H')->te (σ0.set n<|a_ x) b Q)(m:∀(us:List V)(rows:List (List Nat))(b:Hp),ae H1 b->bw (qH b) us rows->sQ rows ps->us.length<=4->g us b):Df (Rc K a) (g8 n) je te σ0 H1 g:=by
 have o:=r_ h;have r:=j.le;refine dX (n:=aT.length) (λi ys H'=>i<=aT.length/\ae H1 H'/\∃rows,bw (qH H') ys rows/\sQ rows (ps.take i)) (bL<|bq om) ⟨bg _,ae.refl _,[],.nil,.nil⟩ ?_ ?_ ?_ ?_ ?_
 .rintro i ys H' ⟨_,_,rows,d,c⟩;rw[r_ d,r_ c,fJ];omega
 .rintro i ys H' hi ⟨_,s1,_⟩;exact⟨_,aT[i],aq.of<|(e.gw s1) _ _ ha,aI _⟩
 .rintro ys H' ⟨_,s1,_⟩;exact⟨_,aq.of<|(e.gw s1) _ _ ha,aw _⟩
 .rintro i ys H' hi ⟨_,s1,rows,d,c⟩ x A ⟨s,u⟩;subst s;obtain⟨p,k,v⟩:=Paired.at' h<|u _<|aq.of<|(e.gw s1) _ _ ha;obtain⟨y,g2⟩:=j.part p<|a8 k;refine l x p _ _ (e.gw s1) (v.same<|e.gw s1) y g2 λf row b s2 z hm=>⟨hi,s1.gw s2,rows++[row],Paired.snoc (Paired.bp d λ_ _ q=>q.same s2) z,?_⟩;rw[iN,k];exact Paired.snoc c hm
 rintro ys H' ⟨_,s1,rows,d,c⟩;rw[o,jl<|aw _]at c;refine m _ _ _ s1 d c ?_;rw[r_ d,r_ c];exact r
def alZ(F:aQ K "marks" "marks" NS f fd)(B:Bl mg)(d:Dp P w K mg gW 5 "marks_of_part" iL Z2):aG P w K mg gW aF 6 f fd hX P2:=by
 refine F.ok aox λaH A _ s H vs Q E b h=>?_
 obtain⟨v,ps,rfl,⟨a,p,rfl,ha,e⟩,g,k⟩:=h
 refine⟨_,ax (aR (fK kC xz B.tuple iE (aa (dZ (N:=[X_]) (idx:=[]) xz (cB.of<|by kernel_rfl) (eD<|bg _) (nZ<|pv 0)
  (λ_ _ _ _=>bo (i:=0) Xm xz (aL xz)<|.inr xz) (λ_ _ _ _=>eP) λ_ _ _ _=>bA d b xz<|aa (pv 0) af) af))),?_⟩
 refine⟨_,xz,a,xz,⟨_,aq.of ha⟩,aiF (v0:=b_) e g ha (ae.refl H) (λx part j t s2 l h1 h2 q=>⟨_,xz,x,part,xz,l,h1,h2,q⟩) λus rows j s2 b hm u=>?_⟩;refine⟨bL<|bq om,λr m=>⟨r,us,xz,.inl ⟨ag.of ao,λq n=>?_⟩⟩⟩;have c:=ay (o:=.tup us) (ay (o:=.lst us) (ae.refl _) m) n;exact k _ _ _ (s2.gw c) ⟨q,us,xz,ao,Paired.bp b λ_ _ z=>z.same c⟩ hm
def aha(a k:Nat):(a/2^k) &&& 1=(a.testBit k).toNat:=by
 rw[Nat.and_one_is_mod,Nat.testBit_eq_decide_div_mod_eq];have:=Nat.mod_two_eq_zero_or_one<|a/2^k;rcases this with e | e <;> simp[e]
def Mx(e:x=y)(h:g8 k y σ H Q):g8 k x σ H Q:=by rw[e];exact h
def aja(a m:Nat):Fi ((a:Int)/(2:Int)^(m:Int).toNat) 1=((a.testBit m).toNat:Int):=by
 have e:(a:Int)/(2:Int)^(m:Int).toNat=((a/2^m:Nat):Int):=by
  rw[fH];simp
 rw[e,show 1=((1:Nat):Int) from xz,WL,aha]
def ajb(b:Bool):decide (V.int (b.toNat:Int)=V.int 1)=b:=by cases b <;> decide
def NH:Sp:=λvs H Q _=>∃a m:Nat,vs=[nV a,nV m]/\Q (.bl<|a.testBit m) H
def ajG:aX i5 i5 (aM OU):=aZ
def aip(F:aQ K "has_name" "has_name" OU f fd):aG P w K mg gW aF 1 f fd i5 NH:=by
 refine F.ok ajG λaH A _ s H vs Q E b h=>?_;obtain⟨a,m,rfl,k⟩:=h;refine⟨_,ax<|aR<|nU dM (aS Yo (aS ajS (pv 0)<|pv 1) ar) ar<|bR _,?_⟩;refine⟨_,xz,_,xz,_,_,xz,xz,(by omega),_,_,xz,xz,xz,?_⟩;show Q (.bl<|decide<|V.int (Fi ((a:Int)/(2:Int)^(m:Int).toNat) 1)=V.int 1) H;rw[aja,ajb];exact k
def G7:Sp:=λvs H Q _=>∃a m:Nat,vs=[nV a,nV m]/\m<12/\Q (nV<|a-(a &&& (1 <<< m))) H
def alN:aX i5 i5 (aM Qa):=aZ
def ajY(F:aQ K "without_name" "without_name" Qa f fd)(b:Dp P w K mg gW 1 "without_all" ki Lf):aG P w K mg gW aF 2 f fd i5 G7:=by
 refine F.ok alN λaH A _ s H vs Q E c h=>?_;obtain⟨a,m,rfl,hm,k⟩:=h;refine⟨_,ax<|aR<|bA b c xz<|aa (pv 0)<|aa (aS Of ar<|pv 1) af,⟨_,xz,_,xz,_,_,xz,xz,⟨om,om,qc⟩,a,1 <<< m,?_,k⟩⟩;show [V.int a,V.int<|1*2^(m:Int).toNat]=_;rw[W5]
def afl:vh "min"=a_ (.builtin "min"):=dk
def WZ:Sp:=λvs H Q _=>∃a:Nat,vs=[nV a]/\a≠0/\a<4096/\∀(M:Nat)(H':Hp),ae H H'->Q (nV M) H'
def ahP:aX [au0] [au0] (aM NV):=aZ
def aml:(i5:List d0).Nodup:=dk
def ai'(c:a≠0)(h:a<4096):∃k,k<12/\a.testBit k=true:=by
 apply tK;intro z;apply c;apply abF;intro k;rw[Nat.zero_testBit]
 by_cases b:k<12
 .rcases e:a.testBit k with _|_;rfl;exact f' ⟨k,b,e⟩ z
 exact Nat.testBit_lt_two_pow (ic h<|by simpa using Nat.pow_le_pow_right (by decide:0<2) (Nat.le_of_not_lt b))
def agf(F:aQ K "least_name" "least_name" NV f fd)(C:Cn mg)(o:mg "range"=b_)(p:mg "min"=b_)(q:Dp P w K mg gW 1 "has_name" i5 NH):aG P w K mg gW aF 2 f fd [au0] WZ:=by
 refine F.ok ahP λaH A _ s H vs Q E t h=>?_
 obtain⟨a,rfl,u,h4,k⟩:=h;obtain⟨I,y,rN⟩:=C.names
 refine⟨_,ax (aR (bC (afi xz) xz p afl (aa (dZ (N:=[au0,l_]) (idx:=[0]) xz (cB.of<|by kernel_rfl) (eD<|aw _) (lu xz o<|aa (eW (v:=.int 12) xz y rN) af)
  (λ_ _ _ _=>bo (i:=1) aml xz (aL xz)<|.inr xz) (λ_ _ _ _=>vy<|dg<|bA q t xz<|aa (pv 0)<|aa (pv 1) af) λ_ _ _ _=>pv 1) af))),?_⟩
 refine⟨12,xz,qc,qc,dX (n:=12) (λj ys H'=>H'=H/\∃ns:List _,ys=ns.map nV/\ns.length<=j/\∀b,b<j->a.testBit b=c_->ns≠[]) qc ⟨xz,[],xz,aw _,λb z=>by cases z⟩ ?_ ?_ ?_ ?_ ?_⟩
 .rintro j ys H' ⟨_,ns,rfl,h,_⟩;rw[aA];exact h
 .exact λj ys H' l _=>l
 .exact λys H' _=>aw _
 .rintro j ys H' l ⟨rfl,ns,rfl,d,e⟩ x J ⟨B,ex⟩;subst B;subst ex;refine Mx (by rw[BO]) ?_;refine⟨_,xz,_,xz,a,j,xz,_,xz,lG (λh=>⟨_,xz,xz,ns++[j],by rw[dC];rfl,by rw[cQ];exact BJ d,λ_ _ _=>by simp⟩) λh=>⟨xz,ns,xz,tO d,λb g c=>?_⟩⟩;rcases JQ (ab4 g)with z | rfl
  .exact e b z c
  rw[h]at c;cases c
 rintro ys H' ⟨rfl,ns,rfl,d,e⟩;refine⟨by rw[aA,gf];lia,λr D=>⟨r,ns.map λ(n:Nat)=>(n:Int),xz,ag.of (by rw[ao,i7];rfl),λz=>?_,λM G _=>?_⟩⟩
 .obtain⟨b,g,c⟩:=ai' u h4;exact e b g c<|JN.mp z
 obtain⟨m,_,rfl⟩:=b8.mp G;exact k m _<|ay (ae.refl _) D
def ma(s:Tl)(n:Nat)(g:Nat->Bool):Bool:=match mf s with
 | none=>d_
 | some m=>g m&&decide (n-(n &&& (1 <<< m))≠0)
def yl(s:Tl)(n:Nat)(a:Bool):Bool:=match setB s with
 | none=>d_
 | some m=>a&&decide (n-(n &&& (1 <<< m))≠0)
def HY(g:Nat->Bool)(b:Bool)(s:Tl)(i:Nat)(row:List Nat):Prop:=ma s (row.getD i 0) g=d_/\yl s (row.getD i 0) b=d_/\∀a∈oz s i,kJ s (row.getD i 0)-(kJ s (row.getD i 0) &&& row.getD a 0)=0
def oi(H:Hp)(v:V)(p:Prop):Prop:=v=.aO/\p\/∃(x:d0)(n:Nat),fg H v (x,[n])
def Yq(n:Nat):(!decide (V.int (n:Int)=V.int 0))=decide (n≠0):=by
 by_cases h:n=0
 .subst h;rfl
 rw[fC h,fT λz=>h (by injection z with z;omega)];rfl
def oP(h:(a&&b)=c_):a=c_/\b=true:=by rw[iB]at h;exact h
def sub_lt(h:n<4096):n-(n &&& (1 <<< m))<4096:=om
def P4(t:bf):Sp:=λvs H Q _=>∃(v:V)(s:Tl)(sz n a:Nat)(g:Nat->Bool),vs=[v,nV n,nV a]/\jG t H v s/\bu sz s/\(∀m,m<12->a.testBit m=g m)/\Q (.bl<|ma s n g) H
def aoy:aX kb kb (aM NU):=aZ
def al2(T:kc K mg t u)(F:aQ K "is_look_at_fault" "is_look_at_fault" NU f fd)(o:Dp P w K mg gW 1 "has_name" i5 NH)(p:Dp P w K mg gW 2 "without_name" i5 G7):aG P w K mg gW aF 3 f fd kb (P4 t):=by
 refine F.ok aoy λaH A _ s H vs Q E i h=>?_
 obtain⟨v,st,sz,n,q,g,rfl,⟨z,a,dx,rfl,j⟩,l,x,k⟩:=h;refine⟨_,ax<|aR<|sr (bC iP xz T.st.bl.ir iO<|aa (pv 0)<|aa (eW (v:=.ref _) xz T.st.Om xz) af)<|sr (bA o (i.mono (show 1<=2 by decide)) xz<|aa (pv 2)<|aa (a0 (pv 0) xz) af)<|sk<|nU CZ (bA p i xz<|aa (pv 1)<|aa (a0 (pv 0) xz) af) ar<|bR _,?_⟩;obtain⟨y,ty,one⟩:=agM T l j;refine⟨_,xz,_,_,_,_,_,xz,ty,xz,one,_,xz,lG (λb=>?_) λb=>?_⟩
 .cases l with
  | look r m h1 h2=>
   have c:=j;rw[xO]at c
   have k:Q (.bl<|g m&&decide (n-(n &&& (1 <<< m))≠0)) H:=by
    unfold ma at k;rw[FA]at k;exact k
   refine⟨_,xz,_,xz,z,_,dx,_,.int m,xz,c,T.st.m8,T.st.xX,Mp (t:=t),q,m,xz,_,xz,?_⟩;rw[x m h2];refine lG (λd=>?_) λd=>?_
   .rw[d,rQ]at k;refine⟨_,xz,_,xz,z,_,dx,_,.int m,xz,c,T.st.m8,T.st.xX,Mp (t:=t),n,m,xz,h2,xz,?_⟩;rw[Yq];exact k
   rw[d,xy]at k;exact k
  | put=>rw[Mo]at b;cases b
  | add=>rw[Mq]at b;cases b
  | set=>rw[Mn]at b;cases b
  | swap=>rw[Ls]at b;cases b
  | clear=>rw[KW]at b;cases b
  | skip=>rw[Lu]at b;cases b
 have e:ma st n g=false:=by
  unfold ma;rcases h:mf st with _|m;rfl;rw[h]at b;cases b
 rw[e]at k;exact k
def ZY(t:bf):Sp:=λvs H Q _=>∃(v:V)(s:Tl)(sz n:Nat)(kd:d0),vs=[v,nV n,.str kd]/\jG t H v s/\bu sz s/\Q (.bl<|yl s n<|decide<|kd = l_) H
def aov:aX ld ld (aM OR):=aZ
def ahq(x y:d0):decide (V.str x=V.str y)=decide (x=y):=by
 by_cases h:x=y
 .rw[fC h,fC (by rw[h])]
 rw[fT h,fT λz=>h<|str_inj z]
def alV(T:kc K mg t u)(F:aQ K "is_set_at_fault" "is_set_at_fault" OR f fd)(j:Dp P w K mg gW 2 "without_name" i5 G7):aG P w K mg gW aF 3 f fd ld (ZY t):=by
 refine F.ok aov λaH A _ s H vs Q E l h=>?_
 obtain⟨v,st,sz,n,kd,rfl,⟨z,a,dx,rfl,d⟩,g,k⟩:=h;refine⟨_,ax<|aR<|sr (bC iP xz T.st.bl.ir iO<|aa (pv 0)<|aa (eW (v:=.ref _) xz T.st.Hh xz) af)<|sr (nU dM (pv 2) cq<|bR _)<|sk<|nU CZ (bA j l xz<|aa (pv 1)<|aa (a0 (pv 0) xz) af) ar<|bR _,?_⟩;obtain⟨o,ty,one⟩:=Xx T g d;refine⟨_,xz,_,_,_,_,_,xz,ty,xz,one,_,xz,lG (λb=>?_) λb=>?_⟩
 .cases g with
  | set m r h1 h2=>
   have i:=d;rw[vD]at i
   have k:Q (.bl<|decide (kd = l_)&&decide (n-(n &&& (1 <<< m))≠0)) H:=by
    unfold yl at k;rw[set_set]at k;exact k
   refine⟨_,xz,xz,_,xz,?_⟩;rw[ahq];refine lG (λc=>?_) λc=>?_
   .rw[c,rQ]at k;refine⟨_,xz,_,xz,z,_,dx,_,.int m,xz,i,T.st.mj,T.st.vQ,W6 (t:=t),n,m,xz,h1,xz,?_⟩;rw[Yq];exact k
   rw[c,xy]at k;exact k
  | put=>rw[Cp]at b;cases b
  | add=>rw[Cr]at b;cases b
  | look=>rw[Cc]at b;cases b
  | swap=>rw[Ca]at b;cases b
  | clear=>rw[BZ]at b;cases b
  | skip=>rw[Cb]at b;cases b
 have e:yl st n (decide<|kd = l_)=false:=by
  unfold yl;rcases h:setB st with _|m;rfl;rw[h]at b;cases b
 rw[e]at k;exact k
def aiL{sz:Nat}(g:bu sz s)(h:mf s=a_ m):m<12:=by
 cases g with
 | look r n h1 h2=>rw[FA]at h;cases h;exact h2
 | put=>rw[Mo]at h;cases h
 | add=>rw[Mq]at h;cases h
 | set=>rw[Mn]at h;cases h
 | swap=>rw[Ls]at h;cases h
 | clear=>rw[KW]at h;cases h
 | skip=>rw[Lu]at h;cases h
def ajw{sz:Nat}(g:bu sz s)(h:setB s=a_ m):m<12:=by
 cases g with
 | set n r h1 h2=>rw[set_set]at h;cases h;exact h1
 | put=>rw[Cp]at h;cases h
 | add=>rw[Cr]at h;cases h
 | look=>rw[Cc]at h;cases h
 | swap=>rw[Ca]at h;cases h
 | clear=>rw[BZ]at h;cases h
 | skip=>rw[Cb]at h;cases h
def Wu{t:bf}{u:A8}(T:kc K mg t u){z a dx:e_}{H:Hp}{s:Tl}{sz m:Nat}(g:bu sz s)(b:H z=a_ (.ins (cj t s.1) dx<|cR (.ref a) s.1<|s.2.map λ(n:Nat)=>V.int (n:Int)))(h:mf s=a_ m\/setB s=a_ m):∃C fs,H z=a_ (.ins C dx fs)/\di K C/\bJ K C l_/\fs.lookup (l_ : d0)=a_ (V.int (m:Int)):=by
 cases g with
 | look r n h1 h2=>
  rw[FA,Cc]at h;obtain h|h:=h
  .cases h;have b:H z=a_ (.ins (cj t J_) dx<|cR (.ref a) J_ [V.int (r:Int),V.int (m:Int)]):=b;rw[xO]at b;exact⟨_,_,b,T.st.m8,T.st.xX,Mp (t:=t)⟩
  cases h
 | set n r h1 h2=>
  rw[Mn,set_set]at h;obtain h|h:=h
  .cases h
  cases h;have b:H z=a_ (.ins (cj t K_) dx<|cR (.ref a) K_ [V.int (m:Int),V.int (r:Int)]):=b;rw[vD]at b;exact⟨_,_,b,T.st.mj,T.st.vQ,W6 (t:=t)⟩
 | put=>rw[Mo,Cp]at h;rcases h with h | h <;> cases h
 | add=>rw[Mq,Cr]at h;rcases h with h | h <;> cases h
 | swap=>rw[Ls,Ca]at h;rcases h with h | h <;> cases h
 | clear=>rw[KW,BZ]at h;rcases h with h | h <;> cases h
 | skip=>rw[Lu,Cb]at h;rcases h with h | h <;> cases h
def Z8(t:bf):Sp:=λvs H Q _=>∃(v:V)(s:Tl)(sz i:Nat)(l:e_)(row:List Nat)(b:Nat)(g:Nat->Bool)(kd:d0),vs=[v,nV i,.ref l,nV b,.str kd]/\jG t H v s/\bu sz s/\ku H l (row.map nV)/\i<row.length/\(∀a∈oz s i,a<row.length)/\(∀x∈row,x<4096)/\(∀m,m<12->b.testBit m=g m)/\
 ∀c H',ae H H'->oi H' c (HY g (decide<|kd = l_) s i row)->Q c H'
def P':aX [au1,T_,L_,"foreign",Z_,au0,"lacking"] lp (aM Mf):=aZ
def al7{t:bf}{u:A8}(T:kc K mg t u){f:e_}{fd:ik}(F:aQ K "fault_at" "fault_at" Mf f fd)(Z:Dp P w K mg gW 3 "is_look_at_fault" kb (P4 t))(DS:Dp P w K mg gW 3 "is_set_at_fault" ld (ZY t))(S:Dp P w K mg gW 2 "without_name" i5 G7)(U:Dp P w K mg gW 2 "least_name" [au0] WZ)(DK:Dp P w K mg gW 3 "places_lacking" lb (NG t)):aG P w K mg gW aF 4 f fd lp (Z8 t):=by
 refine F.ok P' λaH A _ s H vs Q E D h=>?_
 obtain⟨v,st,sz,i,l,row,fo,g,kd,rfl,y,p,V,hi,Sa,h4,xa,k⟩:=h;have G:=D.mono (show 2<=3 by decide);refine let c:TS:=_;let d:TS:=_;let o:TS:=_;⟨_,au (bG (i:=5) P'.nd xz (aL xz)<|aU (Ow K) (pv 2)<|pv 1)<|pR o<|au (bz (dg<|bA Z D xz<|aa (pv 0)<|aa (pv 5)<|aa (pv 3) af) (ax<|aR<|dR<|aa cq<|aa (bA U G xz<|aa (bA S G xz<|aa (pv 5)<|aa (a0 (pv 0) xz) af) af) af) bQ)<|pR d<|au (bz (dg<|bA DS D xz<|aa (pv 0)<|aa (pv 5)<|aa (pv 4) af) (ax<|aR<|dR<|aa cq<|aa (bA U G xz<|aa (bA S G xz<|aa (pv 5)<|aa (a0 (pv 0) xz) af) af) af) bQ)<|pR c<|au (bG (i:=6) P'.nd xz (aL xz)<|bA DK D xz<|aa (pv 0)<|aa (pv 1)<|aa (pv 2) af)<|ax<|aR<|FX (cb dM (bC ft xz T.st.bl.len q_<|aa (pv 6) af) ar<|bR _) oa<|dR<|aa cq<|aa (aU bX (pv 6) ar) af,?_⟩
 have I:row.getD i 0<4096:=by
  rw[cH,aI hi];exact h4 _<|pe hi
 refine⟨_,xz,_,xz,NK V (vK hi) ?_⟩;have k:∀W H',ae H H'->oi H' W (HY g (decide<|kd = l_) st i row)->Q W H':=k;generalize X:row.getD i 0=n at I;refine⟨_,xz,_,xz,_,xz,v,st,sz,n,fo,g,xz,y,p,xa,_,xz,lG (λq=>?_) λq=>?_⟩
 .obtain⟨m,hm,hw⟩:∃m,mf st=a_ m/\n-(n &&& (1 <<< m))≠0:=by
   unfold ma at q;cases e:mf st with
   | none=>rw[e]at q;cases q
   | some m=>
    rw[e]at q;exact⟨m,xz,fi (oP q).2⟩
  obtain⟨z,a,dx,rfl,J⟩:=y;obtain⟨C,fs,L,cl,N,O⟩:=Wu T p J<|.inl hm;refine⟨_,xz,_,xz,z,C,dx,fs,_,xz,L,cl,N,O,n,m,xz,aiL p hm,_,xz,hw,sub_lt I,λM R s1=>⟨by show 2<=bc;decide,λr B=>?_⟩⟩;exact k (.ref r) _ (ay s1 B)<|.inr ⟨_,M,r,xz,ao⟩
 refine⟨_,xz,_,xz,_,xz,v,st,sz,n,kd,xz,y,p,_,xz,lG (λx=>?_) λx=>?_⟩
 .obtain⟨m,hm,hw⟩:∃m,setB st=a_ m/\n-(n &&& (1 <<< m))≠0:=by
   unfold yl at x;cases e:setB st with
   | none=>rw[e]at x;cases x
   | some m=>
    rw[e]at x;exact⟨m,xz,fi (oP x).2⟩
  obtain⟨z,a,dx,rfl,J⟩:=y;obtain⟨C,fs,L,cl,N,O⟩:=Wu T p J<|.inr hm;refine⟨_,xz,_,xz,z,C,dx,fs,_,xz,L,cl,N,O,n,m,xz,ajw p hm,_,xz,hw,sub_lt I,λM R s1=>⟨by show 2<=bc;decide,λr B=>?_⟩⟩;exact k (.ref r) _ (ay s1 B)<|.inr ⟨_,M,r,xz,ao⟩
 refine⟨_,xz,_,xz,_,xz,v,st,sz,i,l,row,xz,y,p,V,hi,Sa,λlk R ks s1 _ Y Ew=>?_⟩;refine⟨_,xz,lk,_,xz,.inl<|ag.of Y,xz,_,xz,bj (λe=>?_) λe=>?_⟩
 .have e0:ks=[]:=by
   have:(ks.map nV).length=0:=by injection e with e;omega
   rw[aA]at this;exact Tb this
  refine k .aO R s1<|.inl ⟨xz,by rw[X];exact q,by rw[X];exact x,λa ha=>?_⟩;refine tK λz=>?_;have:=(Ew a).mpr ⟨ha,z⟩;rw[e0]at this;cases this
 cases ks with
 | nil=>exact f' xz e
 | cons b bs=>
  refine⟨_,xz,lk,_,_,nV b,xz,xz,ag.of Y,cI (j:=0) xz,by show 2<=bc;decide,λr B=>?_⟩;exact k (.ref r) _ (ay s1 B)<|.inr ⟨_,b,r,xz,ao⟩
def aiV(x:Nat)(l:List Nat):wz (nV x) (l.map nV)=decide (x∈l):=by
 unfold wz
 induction l with
 | nil=>simp
 | cons y l ih=>
  rw[eV,vg,ih]
  have e:pZ (nV y) (nV x)=decide (x=y):=by
   show (y==(x:Int))=_
   by_cases h:x=y
   .subst h;simp
   rw[fT h,gl];omega
  rw[e]
  by_cases h1:x=y <;> simp[h1]
def ae7(l:List Nat):(l.map nV).all sD=true:=by
 rw[kZ];intro x a;obtain⟨n,_,rfl⟩:=b8.mp a;rfl
noncomputable def mw:Tl:=("",[])
def qA(part:Pt)(row:List Nat)(g:Nat->Bool)(i:Nat):List Nat:=(List.range i).filter λj=>ma (part.getD j mw) (row.getD j 0) g
def Uv(part:Pt)(row:List Nat)(g:Nat->Bool)(i:Nat):qA part row g (i+1)=qA part row g i++(if ma (part.getD i mw) (row.getD i 0) g=c_ then [i] else []):=by
 unfold qA;rw[pf,xq]
 congr 1
 by_cases h:ma (part.getD i mw) (row.getD i 0) g=c_
 .rw[eT h,EX (p:=λj=>ma (part.getD j _) (row.getD j 0) g) h];rfl
 rw[eN h,EY (p:=λj=>ma (part.getD j _) (row.getD j 0) g) h];rfl
def Lr(part:Pt)(row:List Nat)(g:Nat->Bool)(i:Nat):(qA part row g i).length<=i:=by
 unfold qA;have h:=o7 (λj=>ma (part.getD j mw) (row.getD j 0) g)<|List.range i;rw[qi]at h;exact h
noncomputable def t8(ls:List Nat)(q:Nat):Nat:=(ls.filter λp=>decide<|p<q).length
def eK(ls:List Nat)(t:Tl):Tl:=if t.1 = O_ then (O_,[t.2.getD 0 0,t.2.getD 1 0+t8 ls (t.2.getD 1 0)]) else t
def jJ(ls:List Nat)(part:Pt)(i:Nat):Pt:=(List.range i).flatMap λj=>(if j∈ls then [((M_ : d0),([]:List Nat))] else [])++[eK ls (part.getD j mw)]
def zX(ls:List Nat)(part:Pt)(i:Nat):jJ ls part (i+1)=jJ ls part i++((if i∈ls then [((M_ : d0),([]:List Nat))] else [])++[eK ls (part.getD i mw)]):=by
 unfold jJ;rw[pf,BE];simp
def ai5(ls:List Nat)(part:Pt)(i:Nat):(jJ ls part i).length<=2*i:=by
 induction i with
 | zero=>simp[jJ]
 | succ i ih=>
  rw[zX,cQ,cQ]
  split <;> simp <;> omega
def Z4:Sp:=λvs H Q _=>∃(v r:V)(part:Pt)(row:List Nat)(a:Nat)(g:Nat->Bool),vs=[v,r,nV a]/\IsPart H v part/\qH H r row/\part.length<=120/\(∀t∈part,bu part.length t)/\row.length=part.length+1/\(∀m,m<12->a.testBit m=g m)/\
 ∀l H',ae H H'->H l=b_->H' l=a_ (.lst<|(qA part row g part.length).map nV)->Q (.ref l) H'
def aoz:aX kQ kQ (aM Nc):=aZ
def Xl:([L_,"foreign",T_,at0]:List d0).Nodup:=dk
def al3(T:kc K mg t u)(F:aQ K "looks_at_fault" "looks_at_fault" Nc f fd)(D:mg at5 = b_)(G:Dp P w K mg gW 3 "is_look_at_fault" kb (P4 t)):aG P w K mg gW aF 5 f fd kQ Z4:=by
 have I:aG P w K _ gW _ 4 _ _ _ _:=xI T.st;refine F.ok aoz λaH A _ s H vs Q E l h=>?_
 obtain⟨v,r,part,row,J,g,rfl,⟨a,d,rfl,ha,m⟩,⟨b,rfl,L⟩,hl,M,gZ,O,k⟩:=h;have R:=l.mono (show 3<=4 by decide);have S:=r_ m
 refine⟨_,ax (aR (dZ (N:=[L_,"foreign",T_,at0]) (idx:=[1,2]) xz (cB.of<|by kernel_rfl) (zU (aw _)<|jC _)
  (qm (b:=d_) xz D<|aa (pv 0) af)
  (λ_ _ _ _=>lX xz<|ff (bo (i:=2) Xl xz (aL xz)<|.inr xz)<|ff (bo (i:=3) Xl xz (aL xz)<|.inr xz) lV)
  (λ_ _ _ _=>vy<|dg<|bA G R xz<|aa (lB I l xz T.st.mO T.st.wB.kp T.st.bO .nil cX<|aa (pv 3) af)<|aa (aU (ZC K) (pv 0)<|pv 2)<|aa (pv 1) af)
  λ_ _ _ _=>pv 2)),?_⟩
 refine⟨_,xz,a,d,xz,aq.of ha,?_⟩;refine dX (n:=d.length) (λi ys H'=>i<=d.length/\ae H H'/\ys=(qA part row g i).map nV) ?_ ?_ ?_ ?_ ?_ ?_ ?_
 .exact bL (bq om)
 .exact⟨bg _,ae.refl _,xz⟩
 .rintro i ys H' ⟨hi,_,e⟩;rw[e,aA];exact Lr _ _ g i
 .rintro i ys H' hi ⟨_,s1,_⟩;exact⟨d,d[i],aq.of<|s1 _ _ ha,aI _⟩
 .rintro ys H' ⟨_,s1,_⟩;exact⟨d,aq.of<|s1 _ _ ha,aw _⟩
 .rintro i ys H' hi ⟨_,s1,e⟩ z dQ ⟨p,x,U,W,X,Y⟩;subst W;subst X;obtain⟨td,q,c,rfl,Z⟩:=Paired.at' m<|Y d<|aq.of<|s1 _ _ ha;have s2:ae H (dc _ p<|.tup [.int i,.ref c]):=ay s1 U;have gt:=M _<|a8 q;have B:part.getD i mw=td:=by rw[cH,q];rfl
  refine⟨p,[.int i,.ref c],xz,aq.of ao,xz,.int i,[.ref c],xz,.ref c,[],xz,xz,?_⟩;refine⟨_,xz,c,td.1,td.2.map λ(n:Nat)=>V.int n,xz,s2 _ _ Z,xK gt,⟨by rw[aA];have:=gt.len;omega,λy hy=>?_⟩,λo dx H2 j _ ho=>?_⟩
  .obtain⟨n,_,rfl⟩:=b8.mp hy;exact⟨_,xz⟩
  have hib:i<row.length:=om;refine⟨_,xz,_,xz,b,_,_,_,xz,xz,aq.of<|j _ _<|s2 _ _ L,vK hib,_,xz,.ref o,td,part.length,row.getD i 0,J,g,xz,⟨o,c,dx,xz,ho⟩,gt,O,_,xz,lG (λh1=>?_) λh1=>?_⟩
  .refine⟨_,xz,hi,s2.gw j,?_⟩;rw[Uv,B,eT h1,dC,<-e];rfl
  refine⟨hi,s2.gw j,?_⟩;rw[Uv,B,h1,eN dF,nK];exact e
 rintro ys H' ⟨_,s1,e⟩;refine⟨?_,λr C=>k r _ (ay s1 C) (s1.free C) ?_⟩
 .rw[e,aA];have h1:=Lr part row g d.length;have:=bq (n:=part.length) om;omega
 rw[ao,e,S]
noncomputable def sF(ns:List Int)(k:Int):Int:=ns.getD k.toNat 0
noncomputable def AH(c k:Int):Int:=(c%2147483647+7919*k+1)*48271%2147483647
def xZ(c k:Int):Int:=AH c k*(AH c k/1009+69621)%2147483647
def akh(c k:Int):0<=AH c k/\AH c k<2147483647:=⟨Ff _ qc,E5 _ qc⟩
def agz(c k:Int):0<=xZ c k/\xZ c k<2147483647:=⟨Ff _ qc,E5 _ qc⟩
def X'(K:u_):Sp:=λvs H Q _=>∃a ns k,vs=[.ref a,.int k]/\ag K H a (ns.map V.int)/\0<=k/\Q (.int<|sF ns k) H
def ajI:aX kN kN (aM Nj):=aZ
def aif{f:e_}{fd:ik}(F:aQ K "_law_cell_at" "_law_cell_at" Nj f fd)(b:mg "len"=b_):aG P w K mg gW aF 1 f fd kN (X' K):=by
 refine F.ok ajI λaH A _ s H vs Q E d h=>?_
 obtain⟨a,ns,j,rfl,ha,g,k⟩:=h;refine⟨_,au (bz (cb vO (pv 1) (bC ft xz b q_<|aa (pv 0) af)<|bR _) (ax<|aR<|aU bX (pv 0)<|pv 1) bQ)<|ax<|aR ar,?_⟩;refine⟨_,xz,_,xz,a,_,xz,.inl ha,_,_,xz,xz,_,xz,bj (λh1=>?_) λh1=>?_⟩
 .rw[aA]at h1;have c:j.toNat<ns.length:=om;refine⟨_,xz,_,xz,a,_,j,.int<|sF _ j,xz,xz,ha,?_,k⟩;have e:j=(j.toNat:Int):=om;rw[e];refine cI ?_;rw[cF,aI _];unfold sF;rw[fH,cH,aI c];rfl
 rw[aA]at h1
 have e:sF ns j=0:=by
  unfold sF;rw[cH,uZ om];rfl
 rw[e]at k;exact k
def Y':Sp:=λvs H Q _=>∃c j,vs=[.int c,.int j]/\Q (.int<|xZ c j) H
def Ze:aX [V_,at1,"_law_number"] [V_,at1] (aM NQ):=aZ
def ajW{f:e_}{fd:ik}(F:aQ K "_law_mixed" "_law_mixed" NQ f fd):aG P w K mg gW aF 1 f fd [V_,at1] Y':=by
 refine F.ok Ze λaH A _ s H vs Q E a h=>?_
 obtain⟨c,j,rfl,k⟩:=h;refine⟨_,au (bG (i:=2) Ze.nd xz (aL xz)<|aS eh (aS vJ (aS gE (aS gE (aS eh (pv 0) ar)<|aS vJ ar<|pv 1) ar) ar) ar)<|ax<|aR<|aS eh (aS vJ (pv 2)<|aS gE (aS i9 (pv 2) ar) ar) ar,?_⟩;have b:=akh c j;refine⟨_,xz,_,_,xz,xz,(by show 0<2147483647;decide),_,xz,_,_,xz,xz,.inl ⟨qc,qc⟩,_,_,xz,xz,_,_,xz,xz,_,_,xz,xz,.inr ⟨qc,qc⟩,_,_,xz,xz,(by show 0<2147483647;decide),?_⟩;refine⟨_,xz,_,xz,_,_,xz,xz,⟨qc,qc⟩,_,_,xz,xz,_,_,xz,xz,.inl ⟨?_,?_⟩,_,_,xz,xz,(by show 0<2147483647;decide),k⟩
 .show -(2^64)<AH c j;omega
 show AH c j<2^64;omega
def Y5:(10:Int)^(60:Int).toNat=hV:=dk
def aiE(d:Int){b:Nat}(a:0<b):∃k:Nat,k<b/\d%(b:Int)=(k:Int):=by
 have h1:0<=d%b:=Ff _ om;have h2:d%b<b:=E5 _ om;exact⟨(d%b).toNat,om,om⟩
def OB{xs:List V}{d:Int}{n:Nat}(h:xs.length=n)(hn:0<n):∃v,iI xs (d%(n:Int))=a_ v/\v∈xs:=by
 have b:0<=d%n:=Ff _ om;have c:d%n<n:=E5 _ om;have e:d%(n:Int)=((d%(n:Int)).toNat:Int):=om;have a:(d%(n:Int)).toNat<xs.length:=om;refine⟨xs[(d%n).toNat],?_,pe _⟩;have q:=cI<|aI a;rw[<-e]at q;exact q
def Bt(c:Int):Prop:=E2 c<=2^20
def Bt.sq{c:Int}(h:Bt c):IntMulOk c c:=by
 unfold IntMulOk Builtin.Int.intTooBig bitsLine;intro z;rw[iB,decide_eq_true_eq]at z;have h1:E2 c<=2^20:=h;have h2:=z.2;simp only[gt_iff_lt]at h2;omega
def aic{X:Cx}:dP X (nQ .Mult) (rI IntMulOk λi j=>.int<|i*j):=yC λ_ _ _ _ _ _ _ a q=>mul_int q a
def CQ{H:Hp}{p:e_}{x:d0}{i j:Int}(hi:0<=i)(a:0<=j):fg (dc H p<|.tup [.str x,.int i,.int j]) (.ref p) (x,[i.toNat,j.toNat]):=
 ⟨p,xz,by
  rw[ao];show a_ (HO.tup [.str x,V.int i,V.int j])=a_ (HO.tup [.str x,V.int (i.toNat:Int),V.int (j.toNat:Int)]);rw[E1 hi,E1 a]⟩
def MT{i:Int}(h:i<hV):i.toNat<10^60:=by
 have e:((10^60:Nat):Int)=hV:=dk;omega
def jW(d:Int){b:Int}(h:0<b):0<=d%b/\d%b<b:=⟨Ff _ om,E5 _ h⟩
def Z3:Sp:=λvs H Q _=>∃(d c sz nm:Int),vs=[.int d,.int c,.int sz,.int nm]/\0<=d/\d<2147483647/\Bt c/\0<=sz/\sz<=120/\2<=nm/\nm<=4/\∀v t H',ae H H'->fg H' v t->bu sz.toNat t->Q v H'
def Dl:aX ["_law_draw",V_,"_law_length",at8,"_law_kind","_law_box","_law_name","_law_great"] lz (aM NW):=aZ
def ahl:(0:Int)<hV:=dk
def al1{f:e_}{fd:ik}(F:aQ K "_law_step" "_law_step" NW f fd):aG P w K mg gW aF 1 f fd lz Z3:=by
 refine F.ok Dl λaH A _ s H vs Q E hr h=>?_
 obtain⟨d,c,sz,nm,rfl,R,hd1,hc,hs0,Bk,uO,wX,k⟩:=h;have G:∀(x:d0)(i j:Int),0<=i->0<=j->bu sz.toNat (x,[i.toNat,j.toNat])->∀(B:Hp)(p:e_),ae H B->B p=b_->Q (.ref p) (dc B p<|.tup [.str x,.int i,.int j]):=λx i j hi hj g B p s1 z=>k _ _ _ (ay s1 z) (CQ hi hj) g;refine let a:TS:=_;let b:TS:=_;let e:TS:=_;let m:TS:=_;let q:TS:=_;let r:TS:=_;let t:TS:=_;let u:TS:=_;let y:TS:=_;⟨_,au (bG (i:=4) Dl.nd xz (aL xz)<|aS eh (pv 0) ar)<|pR y<|au (bG (i:=5) Dl.nd xz (aL xz)<|aS eh (aS i9 (pv 0) ar) ar)<|pR u<|au (bG (i:=6) Dl.nd xz (aL xz)<|aS eh (aS i9 (pv 0) ar)<|pv 3)<|pR t<|au (bG (i:=7) Dl.nd xz (aL xz)<|eX<|aa (aS eh (aS i9 (pv 0) ar) ar)<|aa (aS eh (aS vJ (aS vJ (pv 0)<|pv 0)<|aS gE ar<|aS aic (pv 1)<|pv 1)<|aS GC ar ar)<|aa (aS Oe (aS Oe (aS GC ar ar) ar)<|aS eh (pv 0) ar) af)<|pR r<|au (bz (cb dM (pv 4) ar<|bR _) (ax<|aR<|dR<|aa cq<|aa (pv 5)<|aa (aU bX (pv 7)<|aS eh (aS i9 (pv 0) ar) ar) af) bQ)<|pR q<|au (bz (cb dM (pv 4) ar<|bR _) (ax<|aR<|dR<|aa cq<|aa (pv 5)<|aa (aS eh (aS i9 (pv 0) ar) ar) af) bQ)<|pR m<|au (bz (cb vO (pv 4) ar<|bR _) (ax<|aR<|dR<|aa cq<|aa (pv 6)<|aa (pv 5) af) bQ)<|pR e<|au (bz (cb vO (pv 4) ar<|bR _) (ax<|aR<|dR<|aa cq<|aa (pv 5)<|aa (pv 6) af) bQ)<|pR b<|au (bz (cb dM (pv 4) ar<|bR _) (ax<|aR<|aU bX (eX<|aa (dR<|aa cq<|aa (pv 5)<|aa (pv 6) af)<|aa (dR<|aa cq af) af)<|aS eh (aS i9 (pv 0) ar) ar) bQ)<|pR a<|au (bz (cb dM (pv 4) ar<|bR _) (ax<|aR<|dR<|aa cq<|aa (pv 5)<|aa (aS eh (aS i9 (pv 0) ar)<|aS gE (pv 2) ar) af) bQ)<|ax<|aR<|dR<|aa cq<|aa (pv 5)<|aa (aS gE ar<|aS eh (aS i9 (pv 0) ar) ar) af,?_⟩;have dd0:0<=d*d:=Int.mul_nonneg R R;have dd1:d*d<=2147483647*2147483647:=Int.mul_le_mul om om R qc;have D:=jW (d/9) (show (0:Int)<2 by decide);have S:=jW (d/18) (show (0:Int)<nm by omega);have Z:=ahl;refine⟨_,xz,_,_,xz,xz,(by show (0:Int)<9;decide),?_⟩;refine⟨_,xz,_,_,xz,xz,⟨qc,qc⟩,_,_,xz,xz,(by show (0:Int)<2;decide),?_⟩;refine⟨_,xz,_,_,xz,xz,⟨qc,qc⟩,_,xz,_,_,xz,xz,(by show (0:Int)<nm;omega),?_⟩;refine⟨_,xz,_,_,xz,xz,⟨qc,qc⟩,_,_,xz,xz,(by show (0:Int)<3;decide),?_⟩;refine⟨_,xz,_,xz,_,_,xz,xz,.inl ⟨?_,?_⟩,_,xz,_,xz,_,_,xz,xz,hc.sq,_,_,xz,xz,_,_,xz,xz,.inl ⟨?_,?_⟩,_,_,xz,xz,⟨qc,qc,qc⟩,_,_,xz,xz,?_,?_⟩
 .show -(2^64)<d;omega
 .show d<2^64;omega
 .show -(2^64)<d*d;omega
 .show d*d<2^64;omega
 .show (0:Int)<10^(60:Int).toNat;rw[Y5];exact Z
 refine⟨_,_,xz,xz,⟨qc,qc,qc⟩,_,_,xz,xz,_,xz,_,_,xz,xz,(by show (0:Int)<3;decide),_,_,xz,xz,by show 3<=bc;decide,λI hlg=>?_⟩;have C:=ay (o:=.lst [V.int (d/100%3),V.int<|d*d*(1+c*c)%10^(60:Int).toNat,V.int<|10^(60:Int).toNat-1-d%3]) (ae.refl H) hlg;have uU:dc H I (.lst [V.int (d/100%3),V.int<|d*d*(1+c*c)%10^(60:Int).toNat,V.int<|10^(60:Int).toNat-1-d%3]) I=a_ (.lst [V.int (d/100%3),V.int<|d*d*(1+c*c)%10^(60:Int).toNat,V.int<|10^(60:Int).toNat-1-d%3]):=ao
 have hgr:∃L:List Int,L.length=3/\(∀g∈L,0<=g/\g<hV)/\dc H I (.lst [V.int (d/100%3),V.int<|d*d*(1+c*c)%10^(60:Int).toNat,V.int<|10^(60:Int).toNat-1-d%3]) I=a_ (.lst<|L.map V.int):=by
  refine⟨[d/100%3,d*d*(1+c*c)%10^(60:Int).toNat,10^(60:Int).toNat-1-d%3],xz,λg M=>?_,uU⟩;have h3:(3:Int)<hV:=dk;have N:=jW (d/100) (show (0:Int)<3 by decide);have b3:=jW d (show (0:Int)<3 by decide);rw[Y5]at M;have b2:=jW (d*d*(1+c*c)) Z;simp only[bK,xv,or_false]at M;obtain rfl|rfl|rfl:=M
  .omega
  .exact b2
  omega
 obtain⟨L,Jl,hgb,hgs⟩:=hgr;clear uU;generalize dc H I (.lst [V.int (d/100%3),V.int<|d*d*(1+c*c)%10^(60:Int).toNat,V.int<|10^(60:Int).toNat-1-d%3])=B at C hgs;have e3:∀{i:Int},i%3=i%((3:Nat):Int):=rfl;refine⟨_,xz,xz,_,xz,bj (λ_=>?_) λ_=>?_⟩
 .obtain⟨v,T,O⟩:=OB (xs:=L.map V.int) (d:=d/300) (n:=3) (by rw[aA];exact Jl) qc;obtain⟨g,M,rfl⟩:=b8.mp O;have gb:=hgb g M;refine⟨_,xz,_,xz,_,xz,_,_,xz,xz,⟨qc,qc⟩,_,_,xz,xz,(by show (0:Int)<3;decide),I,_,_,_,xz,xz,ag.of hgs,T,by show 3<=bc;decide,λp z=>?_⟩;exact G ac2 (d/9%2) g D.1 gb.1 (.put _ _ om<|MT gb.2) B p C z
 refine⟨_,xz,xz,_,xz,bj (λ_=>?_) λ_=>?_⟩
 .refine⟨_,xz,_,xz,_,_,xz,xz,⟨qc,qc⟩,_,_,xz,xz,(by show (0:Int)<2;decide),by show 3<=bc;decide,λp z=>?_⟩;have N:=jW (d/100) (show (0:Int)<2 by decide);exact G U_ (d/9%2) _ D.1 N.1 (.add _ _ om om) B p C z
 refine⟨_,xz,_,_,xz,xz,_,xz,bj (λ_=>?_) λ_=>?_⟩
 .refine⟨_,xz,_,xz,by show 3<=bc;decide,λp z=>?_⟩;exact G K_ (d/18%nm) (d/9%2) S.1 D.1 (.set _ _ om om) B p C z
 refine⟨_,xz,_,_,xz,xz,_,xz,bj (λ_=>?_) λ_=>?_⟩
 .refine⟨_,xz,_,xz,by show 3<=bc;decide,λp z=>?_⟩;exact G J_ (d/9%2) (d/18%nm) D.1 S.1 (.look _ _ om om) B p C z
 refine⟨_,xz,xz,_,xz,bj (λ_=>?_) λ_=>?_⟩
 .refine⟨_,xz,_,xz,by show 3<=bc;decide,λp z=>⟨by show 1<=bc;decide,λJ eR=>⟨by show 2<=bc;decide,λl U=>?_⟩⟩⟩;have D6:=ay (o:=.tup [.str I_,.int<|d/9%2,.int<|d/18%nm]) (ae.refl B) z;have t1:fg (dc B p<|.tup [.str I_,.int<|d/9%2,.int<|d/18%nm]) (.ref p) (I_,[(d/9%2).toNat,(d/18%nm).toNat]):=CQ D.1 S.1;generalize dc B p (.tup [.str I_,.int<|d/9%2,.int<|d/18%nm])=W at D6 t1 eR U;have X:=ay (o:=.tup [.str M_]) (ae.refl W) eR;have t2:fg (dc W J<|.tup [.str M_]) (.ref J) (M_,[]):=⟨J,xz,ao⟩;generalize dc W J (.tup [.str M_])=H3 at X t2 U;have Y:=ay (o:=.lst [.ref p,.ref J]) (ae.refl H3) U;obtain⟨v,T,O⟩:=OB (xs:=[.ref p,.ref J]) (d:=d/100) (n:=2) xz qc;refine⟨_,xz,_,_,xz,xz,⟨qc,qc⟩,_,_,xz,xz,(by show (0:Int)<2;decide),l,_,_,v,xz,xz,ag.of ao,T,?_⟩;have sA:=((C.gw D6).gw X).gw Y;simp only[bK,xv,or_false]at O;obtain rfl|rfl:=O
  .exact k _ _ _ sA ((t1.same X).same Y) (.swap _ _ om om)
  exact k _ _ _ sA (t2.same Y) .clear
 refine⟨_,xz,xz,_,xz,bj (λ_=>?_) λ_=>?_⟩
 .refine⟨_,xz,_,xz,_,_,xz,xz,⟨qc,qc⟩,_,xz,_,_,xz,xz,_,_,xz,xz,(by show (0:Int)<sz+1;omega),by show 3<=bc;decide,λp z=>?_⟩;have N:=jW (d/100) (show (0:Int)<sz+1 by omega);exact G O_ (d/9%2) _ D.1 N.1 (.skip _ _ om om om) B p C z
 refine⟨_,xz,_,xz,_,_,xz,xz,⟨qc,qc⟩,_,_,xz,xz,(by show (0:Int)<2;decide),_,_,xz,xz,by show 3<=bc;decide,λp z=>?_⟩;have N:=jW (d/100) (show (0:Int)<2 by decide);have h3:(3:Int)<hV:=dk;exact G ac2 (d/9%2) _ D.1 om (.put _ _ om<|MT om) B p C z
def PJ{xs:List V}{j:Int}(b:0<=j)(h:j<xs.length):∃v,iI xs j=a_ v/\v∈xs:=by
 have e:j=(j.toNat:Int):=om;have a:j.toNat<xs.length:=om;refine⟨xs[j.toNat],?_,pe a⟩;have q:=cI<|aI a;rw[<-e]at q;exact q
def Z':Sp:=λvs H Q _=>∃(d k c cn nm:Int)(sz:Nat),vs=[.int d,.int k,.int c,.int cn,.int nm]/\0<=d/\d<2147483647/\0<=k/\0<=c/\c<4/\1<=cn/\cn<=4/\2<=nm/\nm<=4/\∀v t H',ae H H'->fg H' v t->bu sz t->Q v H'
def q0:aX ["_law_draw",at1,at9,"_law_clerks",at8,"_law_name"] md (aM N7):=aZ
def al9{f:e_}{fd:ik}(F:aQ K "_law_crossing" "_law_crossing" N7 f fd):aG P w K mg gW aF 1 f fd md Z':=by
 refine F.ok q0 λaH A _ s H vs Q E hr h=>?_
 obtain⟨d,j,c,cn,nm,sz,rfl,Bx,hd1,qa,Js,hc4,asD,asC,uO,wX,k⟩:=h;have z:∀(x:d0)(a b:Int),0<=a->0<=b->bu sz (x,[a.toNat,b.toNat])->∀(D:Hp)(p:e_),ae H D->D p=b_->Q (.ref p) (dc D p<|.tup [.str x,.int a,.int b]):=λx a b ha Z g D p s1 r=>k _ _ _ (ay s1 r) (CQ ha Z) g;refine let e:TS:=_;let m:TS:=_;let q:TS:=_;⟨_,au (bG (i:=5) q0.nd xz (aL xz)<|aS eh (aS i9 (pv 0) ar)<|pv 4)<|pR q<|au (bz (cb dM (pv 1) ar<|bR _) (ax<|aR<|dR<|aa cq<|aa ar<|aa (aS gE ar<|pv 2) af) bQ)<|pR m<|au (bz (cb dM (aS eh (pv 0) ar) ar<|bR _) (ax<|aR<|aU bX (eX<|aa (dR<|aa cq<|aa ar<|aa (pv 5) af)<|aa (dR<|aa cq af)<|aa (dR<|aa cq<|aa ar<|aa ar af) af)<|aS eh (aS i9 (pv 0) ar) ar) bQ)<|pR e<|au (bz (cb dM (aS eh (aS gE (pv 1)<|aS i9 (aS eh (pv 0) ar) ar) ar) ar<|bR _) (ax<|aR<|dR<|aa cq<|aa (aU bX (eX<|aa (aS eh (pv 2)<|pv 4)<|aa (pv 5) af)<|aS i9 (aS eh (aS i9 (pv 0) ar) ar) ar)<|aa ar af) bQ)<|ax<|aR<|dR<|aa cq<|aa (aS gE ar<|aS eh (aS i9 (pv 1) ar) ar)<|aa (aU bX (eX<|aa (aS eh (aS eh (aS gE (pv 2) ar)<|pv 3)<|pv 4)<|aa (pv 5) af)<|aS i9 (aS eh (aS i9 (pv 0) ar) ar) ar) af,?_⟩;have L:=jW (d/18) (show (0:Int)<nm by omega);have ht:(9:Int)<hV:=dk;have G:0<=d/300%4/3/\d/300%4/3<2:=om;refine⟨_,xz,_,_,xz,xz,⟨qc,qc⟩,_,xz,_,_,xz,xz,(by show (0:Int)<nm;omega),?_⟩;refine⟨_,xz,xz,_,xz,bj (λ_=>?_) λ_=>?_⟩
 .refine⟨_,xz,_,_,xz,xz,by show 3<=bc;decide,λp r=>?_⟩;exact z ac2 0 (1+c) qc om (.put _ _ qc<|MT om) H p (ae.refl H) r
 refine⟨_,xz,_,_,xz,xz,(by show (0:Int)<7;decide),xz,_,xz,bj (λ_=>?_) λ_=>?_⟩
 .refine⟨_,xz,by show 3<=bc;decide,λp r=>⟨by show 1<=bc;decide,λy U=>⟨by show 3<=bc;decide,λB M=>⟨by show 3<=bc;decide,λl t=>?_⟩⟩⟩⟩;have V:=ay (o:=.tup [.str I_,.int 1,.int<|d/18%nm]) (ae.refl H) r;have W:fg (dc H p<|.tup [.str I_,.int 1,.int<|d/18%nm]) (.ref p) (I_,[(1:Int).toNat,(d/18%nm).toNat]):=CQ qc L.1;generalize dc H p (.tup [.str I_,.int 1,.int<|d/18%nm])=N at V W U M t;have O:=ay (o:=.tup [.str M_]) (ae.refl N) U;have X:fg (dc N y<|.tup [.str M_]) (.ref y) (M_,[]):=⟨y,xz,ao⟩;generalize dc N y (.tup [.str M_])=R at O X M t;have I:=ay (o:=.tup [.str U_,.int 2,.int 1]) (ae.refl R) M;have Y:fg (dc R B<|.tup [.str U_,.int 2,.int 1]) (.ref B) (U_,[(2:Int).toNat,(1:Int).toNat]):=CQ qc qc;generalize dc R B (.tup [.str U_,.int 2,.int 1])=H4 at I Y t;have J:=ay (o:=.lst [.ref p,.ref y,.ref B]) (ae.refl H4) t;obtain⟨v,C,u⟩:=OB (xs:=[.ref p,.ref y,.ref B]) (d:=d/100) (n:=3) xz qc;refine⟨_,xz,_,_,xz,xz,⟨qc,qc⟩,_,_,xz,xz,(by show (0:Int)<3;decide),l,_,_,v,xz,xz,ag.of ao,C,?_⟩;have S:=((V.gw O).gw I).gw J;simp only[bK,xv,or_false]at u;obtain rfl|rfl|rfl:=u
  .exact k _ _ _ S (((W.same O).same I).same J) (.swap _ _ qc om)
  .exact k _ _ _ S ((X.same I).same J) .clear
  exact k _ _ _ S (Y.same J) (.add _ _ qc qc)
 refine⟨_,xz,_,xz,_,_,xz,xz,(by show (0:Int)<7;decide),_,_,xz,xz,⟨qc,qc⟩,_,_,xz,xz,_,_,xz,xz,(by show (0:Int)<2;decide),xz,_,xz,bj (λ_=>?_) λ_=>?_⟩
 .have T:=jW c (show (0:Int)<nm by omega);refine⟨_,xz,_,xz,_,_,xz,xz,(by show (0:Int)<nm;omega),_,xz,by show 2<=bc;decide,λl t=>?_⟩;have s1:=ay (o:=.lst [.int (c%nm),.int<|d/18%nm]) (ae.refl H) t;obtain⟨v,C,u⟩:=PJ (xs:=[.int (c%nm),.int<|d/18%nm]) G.1 (by show d/300%4/3<2;exact G.2);refine⟨_,xz,_,_,xz,xz,⟨qc,qc⟩,_,_,xz,xz,(by show (0:Int)<4;decide),_,_,xz,xz,⟨qc,qc⟩,l,_,_,v,xz,xz,ag.of ao,C,by show 3<=bc;decide,λp r=>?_⟩;simp only[bK,xv,or_false]at u;obtain rfl|rfl:=u
  .exact z K_ _ 0 T.1 qc (.set _ _ om qc) _ p s1 r
  exact z K_ _ 0 L.1 qc (.set _ _ om qc) _ p s1 r
 have T:=jW ((c+1)%cn) (show (0:Int)<nm by omega);have b2:=jW (j/2) (show (0:Int)<3 by decide);refine⟨_,xz,_,_,xz,xz,⟨qc,qc⟩,_,_,xz,xz,(by show (0:Int)<3;decide),_,_,xz,xz,?_⟩;refine⟨_,xz,_,_,xz,xz,_,xz,_,_,xz,xz,(by show (0:Int)<cn;omega),_,xz,_,_,xz,xz,(by show (0:Int)<nm;omega),_,xz,by show 2<=bc;decide,λl t=>?_⟩;have s1:=ay (o:=.lst [.int ((c+1)%cn%nm),.int<|d/18%nm]) (ae.refl H) t;obtain⟨v,C,u⟩:=PJ (xs:=[.int ((c+1)%cn%nm),.int<|d/18%nm]) G.1 (by show d/300%4/3<2;exact G.2);refine⟨_,xz,_,_,xz,xz,⟨qc,qc⟩,_,_,xz,xz,(by show (0:Int)<4;decide),_,_,xz,xz,⟨qc,qc⟩,l,_,_,v,xz,xz,ag.of ao,C,by show 3<=bc;decide,λp r=>?_⟩;simp only[bK,xv,or_false]at u;obtain rfl|rfl:=u
 .exact z J_ (1+j/2%3) _ om T.1 (.look _ _ om om) _ p s1 r
 exact z J_ (1+j/2%3) _ om L.1 (.look _ _ om om) _ p s1 r
def Z9:Sp:=λvs H Q _=>∃(c n:Int),vs=[.int c,.int n]/\0<=n/\n<=500/\∀(l:e_)(ds:List Int)(H':Hp),ae H H'->H l=b_->H' l=a_ (.lst<|ds.map V.int)->ds.length=n.toNat->(∀d∈ds,0<=d/\d<2147483647)->Q (.ref l) H'
def AB:aX [V_,"_law_amount","_law_drawn","_law_rest",at1,"_law_number"] [V_,"_law_amount"] (aM N5):=aZ
def al8{f:e_}{fd:ik}(F:aQ K "_law_draws" "_law_draws" N5 f fd)(J:mg "range"=b_)(L:Dp P w K mg gW 1 "_law_mixed" [V_,at1] Y'):aG P w K mg gW aF 2 f fd [V_,"_law_amount"] Z9:=by
 refine F.ok AB λaH A _ s H vs Q E M h=>?_
 obtain⟨c,n,rfl,X,Y,k⟩:=h;refine let a:TS:=_;let b:TS:=_;let e:TS:=_;let g:TS:=_;⟨_,au (bG (i:=2) AB.nd xz (aL xz)<|eX af)<|pR g<|au (bG (i:=3) AB.nd xz (aL xz)<|aS i9 (pv 0) ar)<|pR e<|au (jV jA xz (lu xz J<|aa (pv 1) af) (bo (i:=4) AB.nd xz<|aL xz)<|ax<|bz (PW.pt<|pw_or (cb dM (aS eh (pv 0) ar) ar<|bR _)<|pw_or1<|cb dM (aS eh (pv 0) ar) ar<|bR _) (pR a<|au (eE<|kG m_ n_ o_ mY (pv 2)<|aa (aS eh (pv 3)<|aS GC ar ar) af)<|ax<|bG (i:=3) AB.nd xz (aL xz)<|aS i9 (pv 3)<|aS GC ar ar)<|pR b<|au (bG (i:=5) AB.nd xz (aL xz)<|bA L M xz<|aa (pv 0)<|aa (pv 4) af)<|ax<|eE<|kG m_ n_ o_ mY (pv 2)<|aa (aS eh (aS vJ (pv 5)<|aS gE (aS i9 (pv 5) ar) ar) ar) af)<|ax<|aR<|pv 2,?_⟩;refine⟨qc,λl p=>?_⟩;have v:=ay (o:=.lst []) (ae.refl H) p;have y:dc H l (.lst []) l=a_ (.lst<|([]:List Int).map V.int):=ao;generalize dc H l (.lst [])=H0 at v y;refine⟨_,xz,_,_,xz,xz,⟨qc,qc⟩,_,xz,n,xz,om,om,?_⟩
 refine B8 (n:=n.toNat) (λi σ H'=>∃(rs:Int)(q r:Option V)(ds:List Int),σ=[a_ (.int c),a_<|.int n,a_<|.ref l,a_<|.int rs,q,r]/\ae H H'/\H' l=a_ (.lst<|ds.map V.int)/\ds.length=i/\∀d∈ds,0<=d/\d<2147483647)
  ⟨_,b_,b_,[],xz,v,y,xz,λ_ z=>by cases z⟩ ?_ ?_
 .rintro i σ m hi ⟨rs,q,r,ds,rfl,s1,h1,t,u⟩
  have fin:∀d:Int,0<=d->d<2147483647->ae H (dc m l<|.lst<|(ds.map V.int)++[.int d])/\dc m l (.lst<|(ds.map V.int)++[.int d]) l=a_ (.lst<|(ds++[d]).map V.int)/\(ds++[d]).length=i+1/\∀x∈ds++[d],0<=x/\x<2147483647:=λd N d1=>by
   refine⟨xN s1 p,by rw[ao,dC];rfl,by rw[cQ,t];rfl,λx O=>?_⟩;obtain z|z:=iC.mp O
   .exact u x z
   rw[da.mp z];exact⟨N,d1⟩
  have Z:∀(σ1:L2.St),True:=λ_=>trivial;have j:(0:Int)<10^(5:Int).toNat:=qc;have B:(10:Int)^(5:Int).toNat<1073741824:=qc;have asi:(10:Int)^(5:Int).toNat<2147483647:=qc;have R:=jW rs j;obtain⟨C,D,G,I⟩:=fin (rs%10^(5:Int).toNat) R.1 om;have br1:∃us:List Int,us=ds++[rs%10^(5:Int).toNat]:=⟨_,xz⟩;refine⟨_,xz,_,_,xz,xz,(by show (0:Int)<4;decide),xz,_,xz,bj (λ_=>?_) λ_=>?_⟩
  .refine⟨_,xz,.inl ⟨xz,_,ag.of h1⟩,_,xz,_,_,xz,xz,⟨qc,qc,qc⟩,_,_,xz,xz,j,l,_,_,xz,xz,h1,bq (by rw[aA];omega),?_⟩;exact⟨_,xz,_,_,xz,xz,⟨qc,qc,qc⟩,_,_,xz,xz,⟨j,B⟩,_,_,_,_,xz,C,D,G,I⟩
  refine⟨_,xz,_,_,xz,xz,(by show (0:Int)<4;decide),xz,_,xz,bj (λ_=>?_) λ_=>?_⟩
  .refine⟨_,xz,.inl ⟨xz,_,ag.of h1⟩,_,xz,_,_,xz,xz,⟨qc,qc,qc⟩,_,_,xz,xz,j,l,_,_,xz,xz,h1,bq (by rw[aA];omega),?_⟩;exact⟨_,xz,_,_,xz,xz,⟨qc,qc,qc⟩,_,_,xz,xz,⟨j,B⟩,_,_,_,_,xz,C,D,G,I⟩
  have hm:=agz c<|0+(i:Int);refine⟨_,xz,_,xz,c,0+(i:Int),xz,?_⟩;have S:=jW (xZ c (0+(i:Int))*(xZ c (0+(i:Int))/613+40692)) (show (0:Int)<2147483399 by decide);obtain⟨T,g2,U,W⟩:=fin _ S.1 om;refine⟨_,xz,.inl ⟨xz,_,ag.of h1⟩,_,xz,_,xz,_,_,xz,xz,⟨qc,qc⟩,_,_,xz,xz,_,_,xz,xz,.inl ⟨?_,?_⟩,_,_,xz,xz,(by show (0:Int)<2147483399;decide),l,_,_,xz,xz,h1,bq (by rw[aA];omega),_,_,_,_,xz,T,g2,U,W⟩
  .show -(2^64)<xZ c (0+(i:Int));omega
  show xZ c (0+(i:Int))<2^64;omega
 rintro σ m ⟨rs,q,r,ds,rfl,s1,h1,t,u⟩;exact⟨_,xz,k l ds m s1 p h1 t u⟩
def FQ(h:fg H v t)(c:H l=a_ (.lst xs)):fg (dc H l o) v t:=by
 obtain⟨b,e,a⟩:=h;refine⟨b,e,?_⟩;rw[aj λz=>by rw[z,c]at a;cases a];exact a
def FY(h:IsPart H v p)(d:H l=a_ (.lst xs)):IsPart (dc H l o) v p:=by
 obtain⟨a,vs,e,h,r⟩:=h;refine⟨a,vs,e,?_,Paired.bp r λ_ _ q=>?_⟩
 .rw[aj λz=>by rw[z,d]at h;cases h];exact h
 obtain⟨b,e,c⟩:=q;refine⟨b,e,?_⟩;rw[aj λz=>by rw[z,d]at c;cases c];exact c
def ZZ:Sp:=λvs H Q _=>∃(c ck len nm:Int),vs=[.int c,.int ck,.int len,.int nm]/\Bt c/\1<=ck/\ck<=4/\1<=len/\len<=60/\2<=nm/\nm<=4/\
 ∀(v:V)(ps:List Pt)(H':Hp),ae H H'->iq H' v ps->cW ps->ps.length=ck.toNat->(∀p∈ps,p.length<=60)->Q v H'
def AA:aX [V_,"_law_clerks","_law_length",at8,"_law_parts","_law_draws_here",at9,"_law_size","_law_some"] lI (aM NX):=aZ
def aj8:(["_law_draws_here",at9,at1]:List d0).Nodup:=dk
def agu:(["_law_some",at9,"_law_clerks",at8,at1]:List d0).Nodup:=dk
def agt:(["_law_some",V_,"_law_size",at8,at1]:List d0).Nodup:=dk
def Hn{ds:List Int}{j:Int}(a:0<=j)(h:j<ds.length)(b:∀d∈ds,0<=d/\d<2147483647):∃d:Int,iI (ds.map V.int) j=a_ (.int d)/\0<=d/\d<2147483647:=by
 obtain⟨v,c,hm⟩:=PJ (xs:=ds.map V.int) a (by rw[aA];exact h);obtain⟨d,hd,rfl⟩:=b8.mp hm;exact⟨d,c,b d hd⟩
def alW{f:e_}{fd:ik}(F:aQ K "_law_program" "_law_program" NX f fd)(B:Bl mg)(gj:mg "range"=b_)(DD:Dp P w K mg gW 2 "_law_draws" [V_,"_law_amount"] Z9)(DS:Dp P w K mg gW 1 "_law_step" lz Z3)(DX:Dp P w K mg gW 1 "_law_crossing" md Z'):aG P w K mg gW aF 3 f fd lI ZZ:=by
 refine F.ok AA λaH A _ s H vs Q E hr h=>?_
 obtain⟨c,ck,len,nm,rfl,EC,ap5,ap4,nH,asy,uO,wX,kk⟩:=h;have O:=hr.mono (show 1<=2 by decide)
 refine let a:TS:=_;let b:TS:=_;let d:TS:=_;let k:TS:=_;let l:TS:=_;let m:TS:=_;let u:TS:=_;let C:TS:=_;⟨_,au (bG (i:=4) AA.nd xz (aL xz)<|eX af) (pR C (au (bG (i:=5) AA.nd xz (pC xz)<|bA DD hr xz<|aa (pv 0)<|aa (aS gE ar<|aS vJ ar<|pv 2) af) (pR u (au (jV jA xz (lu xz gj<|aa (pv 1) af) (bo (i:=6) AA.nd xz<|pC xz) (pR l (au (bG (i:=7) AA.nd xz (pC xz)<|aS eh (aU bX (pv 5)<|pv 6)<|aS gE (pv 2) ar) (pR k (au (bG (i:=8) AA.nd xz (pC xz) (dZ (N:=["_law_draws_here",at9,at1]) (idx:=[5,6]) xz (cB.of<|by kernel_rfl) (eD<|aw _) (lu xz gj<|aa (pv 2) af)
    (λ_ _ _ _=>bo (i:=2) aj8 xz (aL xz)<|.inr xz) (λ_ _ _ _=>eP) λ_ _ _ _=>aU (C7 K) (pv 0)<|aS gE (aS gE ar<|aS vJ ar<|pv 2)<|pv 1))
   (pR d (ax (bz (cb dM (aS eh (pv 0) ar) ar<|bR _) (pR a (ax (eE (kG m_ n_ o_ mY (pv 4) (aa (fK kC xz B.tuple iE (aa (dZ (N:=["_law_some",at9,"_law_clerks",at8,at1]) (idx:=[8,6,1,3]) xz (cB.of<|by kernel_rfl) (eD<|aw _) (lu xz gj<|aa (pv 2) af)
     (λ_ _ _ _=>bo (i:=4) agu xz (aL xz)<|.inr xz) (λ_ _ _ _=>eP)
     λ_ _ _ _=>bA DX O xz<|aa (aU (C7 K) (pv 0)<|pv 4)<|aa (pv 4)<|aa (pv 1)<|aa (pv 2)<|aa (pv 3) af) af)) af)))))
    (pR b (ax (eE (kG m_ n_ o_ mY (pv 4) (aa (fK kC xz B.tuple iE (aa (dZ (N:=["_law_some",V_,"_law_size",at8,at1]) (idx:=[8,0,7,3]) xz (cB.of<|by kernel_rfl) (eD<|aw _) (lu xz gj<|aa (pv 7) af)
     (λ_ _ _ _=>bo (i:=4) agt xz (aL xz)<|.inr xz) (λ_ _ _ _=>eP)
     λ_ _ _ _=>bA DS O xz<|aa (aU (C7 K) (pv 0)<|pv 4)<|aa (pv 1)<|aa (pv 2)<|aa (pv 3) af) af)) af)))))))))))))
  (pR m<|ax<|aR<|fK kC xz B.tuple iE<|aa (pv 4) af))))),?_⟩
 refine⟨qc,λJ hlp=>?_⟩;have s0:=ay (o:=.lst []) (ae.refl H) hlp;have h0:dc H _ _ J=a_ (.lst []):=ao;generalize dc H _ _=H0 at s0 h0;refine⟨_,xz,_,xz,_,_,xz,xz,.inl ⟨qc,qc⟩,_,_,xz,xz,c,4+4*len,xz,om,om,λU ds H1 s1 IP hld zk oX=>?_⟩;have s01:=s0.gw s1;have ao1:U≠J:=λz=>by rw[z,h0]at IP;cases IP
 refine⟨_,xz,ck,xz,om,om,?_⟩
 refine B8 (n:=ck.toNat) (λi σ H'=>∃(x6 x7 x8:Option V)(G:List V)(ps:List Pt),σ=[a_ (.int c),a_<|.int ck,a_<|.int len,a_<|.int nm,a_<|.ref J,a_<|.ref U,x6,x7,x8]/\ae H H'/\H' U=a_ (.lst<|ds.map V.int)/\H' J=a_ (.lst G)/\bw (IsPart H') G ps/\ps.length=i/\∀p∈ps,p.length<=60/\∀t∈p,bu p.length t)
  ⟨b_,b_,b_,[],[],xz,s01,hld,s1 _ _ h0,.nil,xz,λ_ h=>by cases h⟩ ?_ ?_
 .rintro i σ H2 hi ⟨x6,x7,x8,G,ps,rfl,s2,hd2,eR,Jg,dm,Y⟩;have asw:G.length=ps.length:=r_ Jg;obtain⟨W,Bx,zo,qd⟩:=Hn (ds:=ds) (j:=0+(i:Int)) om om oX;have hsz:=jW W (show (0:Int)<len+1 by omega);refine⟨_,xz,_,xz,U,_,_,_,xz,xz,ag.of hd2,Bx,_,xz,_,_,xz,xz,_,_,xz,xz,(by show (0:Int)<len+1;omega),?_⟩;refine⟨_,xz,len,xz,om,om,?_⟩;refine dX (n:=len.toNat) (λj ys H'=>H'=H2/\∃es:List Int,es.length=j/\(∀e∈es,0<=e/\e<2147483647)/\ys=es.map V.int) ?_ ?_ ?_ ?_ ?_ ?_ ?_
  .exact bL (bq om)
  .exact⟨xz,[],xz,λ_ z=>(by cases z),xz⟩
  .rintro j ys H' ⟨_,es,Z,_,X⟩;rw[X,aA,Z];exact aw _
  .rintro j ys H' M _;exact M
  .rintro ys H' _;exact aw _
  .rintro j ys H' M ⟨rfl,es,Z,X,e3⟩ x dQ ⟨eH,ex⟩;subst eH;subst ex;obtain⟨e,he,hb⟩:=Hn (ds:=ds) (j:=4+4*(0+(j:Int))+(0+(i:Int))) om om oX;refine⟨_,xz,_,xz,_,_,xz,xz,.inl ⟨qc,qc⟩,_,_,xz,xz,_,xz,_,_,xz,xz,U,_,_,_,xz,xz,ag.of hd2,he,xz,es++[e],by rw[cQ,Z];rfl,λy hy=>?_,by rw[e3,dC];rfl⟩;obtain z|z:=iC.mp hy
   .exact X y z
   rw[da.mp z];exact hb
  rintro ys H' ⟨rfl,es,Z,X,e3⟩;refine⟨by rw[e3,aA,Z];exact bL<|bq om,λls iz=>?_⟩;have R:=ay (o:=.lst ys) (ae.refl H') iz;have RP:dc H' ls (.lst ys) ls=a_ (.lst<|es.map V.int):=by rw[ao,e3]
  generalize dc H' ls (.lst ys)=H3 at R RP;have p7:=s2.gw R;have mG:=R _ _ eR;have hd3:=R _ _ hd2;have apG:bw (IsPart H3) G ps:=Paired.bp Jg λ_ _ h=>h.same R
  have fin:∀(ys:List V)(p:Pt)(D:Hp),ae H3 D->p.length<=60->bw (fg D) ys p->(∀t∈p,bu p.length t)->∀I,D I=b_->∀q,dc D I (.lst ys) q=b_->
    ae H (dc (dc (dc D I<|.lst ys) q<|.tup ys) J<|.lst<|G++[.ref q])/\dc (dc (dc D I<|.lst ys) q<|.tup ys) J (.lst<|G++[.ref q]) U=a_ (.lst<|ds.map V.int)/\dc (dc D I<|.lst ys) q (.tup ys) J=a_ (.lst G)/\
    bw (IsPart<|dc (dc (dc D I<|.lst ys) q<|.tup ys) J<|.lst<|G++[.ref q]) (G++[.ref q]) (ps++[p])/\(ps++[p]).length=i+1/\∀p'∈ps++[p],p'.length<=60/\∀t∈p',bu p'.length t:=λys p D L hl r g I O q S=>by
   have s9:ae D (dc (dc D I<|.lst ys) q<|.tup ys):=ay (ay (ae.refl D) O) S;have hq9:dc (dc D I<|.lst ys) q (.tup ys) q=a_ (.tup ys):=ao;generalize dc (dc D I<|.lst ys) q (.tup ys)=H9 at s9 hq9;have IH:=L.gw s9;have Sl:=IH _ _ mG;refine⟨xN (p7.gw IH) hlp,?_,Sl,?_,by rw[cQ,dm];rfl,λp' gm=>?_⟩
   .rw[aj ao1];exact IH _ _ hd3
   .exact Paired.snoc (Paired.bp apG λ_ _ h=>FY (h.same IH) Sl) (FY ⟨q,ys,xz,hq9,Paired.bp r λ_ _ h=>h.same s9⟩ Sl)
   obtain h|h:=iC.mp gm
   .exact Y p' h
   rw[da.mp h];exact⟨hl,g⟩
  refine⟨_,xz,_,_,xz,xz,(by show (0:Int)<2;decide),xz,_,xz,bj (λ_=>?_) λ_=>?_⟩
  .refine⟨_,xz,.inl ⟨xz,_,ag.of mG⟩,_,xz,len,xz,om,om,?_⟩;refine dX (n:=len.toNat) (λj ys D=>j<=len.toNat/\ae H3 D/\∃p:Pt,p.length=j/\bw (fg D) ys p/\∀t∈p,bu len.toNat t) ?_ ?_ ?_ ?_ ?_ ?_ ?_
   .exact bL (bq om)
   .exact⟨bg _,ae.refl _,[],xz,.nil,λ_ h=>by cases h⟩
   .rintro j ys D ⟨_,_,p,e,r,_⟩;rw[r_ r,e];exact aw _
   .rintro j ys D M _;exact M
   .rintro ys D _;exact aw _
   .rintro j ys D M ⟨_,L,p,e,r,T⟩ x H5 ⟨eH,ex⟩;subst eH;subst ex;obtain⟨dj,Sw,mM,QP⟩:=Hn (ds:=es) (j:=0+(j:Int)) om om X;refine⟨_,xz,_,xz,ls,_,_,_,xz,xz,ag.of<|L _ _ RP,Sw,_,xz,_,xz,_,xz,_,xz,dj,0+(j:Int),0+(i:Int),ck,nm,len.toNat,xz,mM,QP,om,om,om,ap5,ap4,uO,wX,λv t H6 s6 RJ Ss=>⟨M,L.gw s6,p++[t],?_,Paired.snoc (Paired.bp r λ_ _ q=>q.same s6) RJ,λy hy=>?_⟩⟩
    .rw[cQ,e];rfl
    obtain h|h:=iC.mp hy
    .exact T y h
    rw[da.mp h];exact Ss
   rintro ys D ⟨_,L,p,e,r,T⟩;refine⟨by rw[r_ r,e];exact bL<|bq om,λI O=>⟨I,ys,xz,.inl ⟨ag.of ao,λq S=>?_⟩⟩⟩;obtain⟨c1,c2,c3,c4,c5,c6⟩:=fin ys p D L om r (by rw[e];exact T) I O q S;exact⟨J,G,.ref q,xz,xz,c3,bq om,_,_,_,G++[.ref q],ps++[p],xz,c1,c2,ao,c4,c5,c6⟩
  refine⟨_,xz,.inl ⟨xz,_,ag.of mG⟩,_,xz,W%(len+1),xz,om,om,?_⟩;refine dX (n:=(W%(len+1)).toNat) (λj ys D=>j<=(W%(len+1)).toNat/\ae H3 D/\∃p:Pt,p.length=j/\bw (fg D) ys p/\∀t∈p,bu (W%(len+1)).toNat t) ?_ ?_ ?_ ?_ ?_ ?_ ?_
  .exact bL (bq om)
  .exact⟨bg _,ae.refl _,[],xz,.nil,λ_ h=>by cases h⟩
  .rintro j ys D ⟨_,_,p,e,r,_⟩;rw[r_ r,e];exact aw _
  .rintro j ys D M _;exact M
  .rintro ys D _;exact aw _
  .rintro j ys D M ⟨_,L,p,e,r,T⟩ x H5 ⟨eH,ex⟩;subst eH;subst ex;obtain⟨dj,Sw,mM,QP⟩:=Hn (ds:=es) (j:=0+(j:Int)) om om X;refine⟨_,xz,_,xz,ls,_,_,_,xz,xz,ag.of<|L _ _ RP,Sw,_,xz,_,xz,_,xz,dj,c,W%(len+1),nm,xz,mM,QP,EC,hsz.1,om,uO,wX,λv t H6 s6 RJ Ss=>⟨M,L.gw s6,p++[t],?_,Paired.snoc (Paired.bp r λ_ _ q=>q.same s6) RJ,λy hy=>?_⟩⟩
   .rw[cQ,e];rfl
   obtain h|h:=iC.mp hy
   .exact T y h
   rw[da.mp h];exact Ss
  rintro ys D ⟨_,L,p,e,r,T⟩;refine⟨by rw[r_ r,e];exact bL<|bq om,λI O=>⟨I,ys,xz,.inl ⟨ag.of ao,λq S=>?_⟩⟩⟩;obtain⟨c1,c2,c3,c4,c5,c6⟩:=fin ys p D L om r (by rw[e];exact T) I O q S;exact⟨J,G,.ref q,xz,xz,c3,bq om,_,_,_,G++[.ref q],ps++[p],xz,c1,c2,ao,c4,c5,c6⟩
 rintro σ H2 ⟨x6,x7,x8,G,ps,rfl,s2,hd2,eR,Jg,dm,Y⟩;refine⟨_,xz,J,G,xz,.inl ⟨ag.of eR,λq S=>?_⟩⟩;have R:=ay (o:=.tup G) (ae.refl H2) S;exact kk _ ps _ (s2.gw R) ⟨q,G,xz,ao,Paired.bp Jg λ_ _ h=>h.same R⟩ ⟨om,om,λp hp=>⟨by have:=(Y p hp).1;omega,(Y p hp).2⟩⟩ dm λp hp=>(Y p hp).1
def UD:(cR (.ref a) O_ [V.int (r:Int),V.int (m:Int)]).lookup (T_ : d0)=a_ (V.int (m:Int)):=by
 unfold cR;rw[eN dk,eN dk,eN dk,eN dk,eN dk,eN dk,dw,eT rfl];rfl
def afA:(cR (.ref a) O_ [V.int (r:Int),V.int (m:Int)]).lookup (R_ : d0)=a_ (V.int (r:Int)):=by
 unfold cR;rw[eN dk,eN dk,eN dk,eN dk,eN dk,eN dk,dw,eN dk,dw,eT rfl];rfl
def xY{ls:List Nat}{t:Tl}(h:¬t.1 = O_):eK ls t=t:=by unfold eK;rw[eN h]
def Ml:eK ls ((O_ : d0),[r,q])=((O_ : d0),[r,q+t8 ls q]):=by unfold eK;rw[eT rfl];rfl
def ahd(ls:List Nat)(q:Nat):t8 ls q<=ls.length:=o7 _ _
def Z1:Sp:=λvs H Q _=>∃(v:V)(l:e_)(t:Tl)(sz:Nat)(ls:List Nat),vs=[v,.ref l]/\fg H v t/\bu sz t/\H l=a_ (.lst<|ls.map nV)/\ls.length<=200/\∀a H',ae H H'->fg H' a (eK ls t)->Q a H'
def P8:aX [at0,"looks",au1,"ahead"] [at0,"looks"] (aM NP):=aZ
def amh:([au1,T_]:List d0).Nodup:=dk
def alY{t:bf}{u:A8}(T:kc K mg t u){f:e_}{fd:ik}(F:aQ K "moved_step" "moved_step" NP f fd):aG P w K mg gW aF 5 f fd [at0,"looks"] Z1:=by
 have L:aG P w K _ gW _ 4 _ _ _ _:=xI T.st;refine F.ok P8 λaH A _ s H vs Q E M h=>?_
 obtain⟨v,l,td,sz,ls,rfl,⟨b,rfl,D⟩,gt,g,Bq,k⟩:=h
 refine let a:TS:=_;let c:TS:=_;let d:TS:=_;⟨_,au (bG (i:=2) P8.nd xz (pC xz)<|lB L M xz T.st.mO T.st.wB.kp T.st.bO .nil cX<|aa (pv 0) af) (pR d (au (bz (g7<|dg<|bC iP xz T.st.bl.ir iO<|aa (pv 2)<|aa (eW (v:=.ref t.jd) xz T.st.GG xz) af) (ax<|aR<|pv 0) bQ) (pR c (au (bG (i:=3) P8.nd xz (aL xz) (bC ft xz T.st.bl.len q_ (aa (dZ (N:=[au1,T_]) (idx:=[2]) xz (cB.of<|by kernel_rfl) (eD<|aw _) (lA<|pv 1)
   (λ_ _ _ _=>bo (i:=1) amh xz (aL xz)<|.inr xz) (λ_ _ _ _=>vy<|cb vO (pv 1) (ZE K (pv 0) xz)<|bR _) λ_ _ _ _=>pv 1) af)))
  (pR a<|ax<|aR<|dR<|aa cq<|aa (a0 (pv 2) xz)<|aa (aS gE (a0 (pv 2) xz)<|pv 3) af))))),?_⟩
 refine⟨_,xz,b,td.1,td.2.map λ(n:Nat)=>V.int n,xz,D,xK gt,⟨by rw[aA];have:=gt.len;omega,λy O=>?_⟩,λo dx R s2 _ G=>?_⟩
 .obtain⟨n,_,rfl⟩:=b8.mp O;exact⟨_,xz⟩
 obtain⟨C,ty,S⟩:=Ap T.ob gt G;refine⟨_,xz,_,_,_,_,_,xz,ty,xz,S.Pb,_,xz,Ay (λj=>?_) λj=>?_⟩
 .refine⟨_,xz,k _ _ s2 ⟨b,xz,?_⟩⟩;rw[xY j];exact s2 _ _ D
 obtain⟨r,q,rfl,hq⟩:=zV gt j;have m:=G;rw[z4]at m;refine⟨_,xz,l,xz,⟨_,ag.of<|s2 _ _ g⟩,dX (n:=ls.length) (λi ys H'=>H'=R/\ys=((ls.take i).filter λp=>decide<|p<q).map nV) ?_ ?_ ?_ ?_ ?_ ?_ ?_⟩
 .exact bL (bq om)
 .exact⟨xz,xz⟩
 .rintro i ys H' ⟨_,e⟩;rw[e,aA];have:=o7 (λp=>decide<|p<q)<|ls.take i;rw[fJ]at this;omega
 .rintro i ys H' hi ⟨rfl,_⟩;exact⟨_,_,ag.of<|s2 _ _ g,aI<|by rw[aA];exact hi⟩
 .rintro ys H' ⟨rfl,_⟩;exact⟨_,ag.of<|s2 _ _ g,by rw[aA];exact aw _⟩
 .rintro i ys H' hi ⟨rfl,e⟩ z dQ ⟨U,W⟩;subst U;have I:=W _<|ag.of<|s2 _ _ g;rw[cF,aI hi]at I;cases I;refine⟨_,xz,_,xz,o,_,dx,_,.int q,xz,m,T.st.m7,T.st.Ao,UD,_,_,xz,xz,_,xz,?_⟩;rw[iN,aI hi,Ts,xq,dC,<-e];refine bj (λh=>?_) λh=>?_
  .have h':decide (ls[i]<q)=true:=fC om;refine⟨_,xz,xz,?_⟩;rw[EX (p:=λp=>decide<|p<q) h'];rfl
  have h':¬decide (ls[i]<q)=true:=λz=>h (by have:=fi z;omega);refine⟨xz,?_⟩;rw[EY (p:=λp=>decide<|p<q) h'];simp
 rintro ys H' ⟨rfl,e⟩;rw[jl<|aw _]at e;have qe:=ahd ls q;have X:ys.length=t8 ls q:=by rw[e,aA];rfl
 refine⟨bL<|bq om,λY Z=>?_⟩;have x:=ay (o:=.lst ys) (ae.refl _) Z;refine⟨Y,ys,xz,.inl<|ag.of ao,?_⟩;have B:=x _ _ m;have J:=s2.gw x;generalize dc _ _ _=H3 at x B J;refine⟨_,xz,o,_,dx,_,.int r,xz,B,T.st.m7,T.st.Ol,afA,_,xz,o,_,dx,_,.int q,xz,B,T.st.m7,T.st.Ao,UD,_,xz,_,_,xz,xz,by show 3<=bc;decide,λp hp=>k _ _ (ay J hp) ⟨p,xz,?_⟩⟩;rw[ao,Ml,X];rfl
def qq:Sp:=λvs H Q _=>∃(v:V)(l:e_)(part:Pt)(ls:List Nat),vs=[v,.ref l]/\IsPart H v part/\part.length<=120/\(∀t∈part,bu part.length t)/\H l=a_ (.lst<|ls.map nV)/\ls.length<=200/\∀a H',ae H H'->IsPart H' a (jJ ls part part.length)->Q a H'
def Hx:aX [X_,"looks","steps",T_,at0] [X_,"looks"] (aM Qg):=aZ
def ama(F:aQ K "cleared_part" "cleared_part" Qg f fd)(B:Bl mg)(jy:mg at5 = b_)(DM:Dp P w K mg gW 5 "moved_step" [at0,"looks"] Z1):aG P w K mg gW aF 6 f fd [X_,"looks"] qq:=by
 refine F.ok Hx λaH A _ s H vs Q E hr h=>?_
 obtain⟨v,l,part,ls,rfl,⟨a,u,rfl,ha,hv⟩,dm,hg,L,Bq,k⟩:=h;have hlen:=r_ hv;refine let d:TS:=_;let e:TS:=_;⟨_,au (bG (i:=2) Hx.nd xz (aL xz)<|eX af)<|pR e<|au (jV jA xz (qm (b:=d_) xz jy<|aa (pv 0) af) (lX xz<|ff (bo (i:=3) Hx.nd xz<|aL xz)<|ff (bo (i:=4) Hx.nd xz<|aL xz) lV)<|pR d<|au (bz (cb aeG (pv 3) (pv 1) xz) (ax<|eE<|kG m_ n_ o_ mY (pv 2)<|aa (dR<|aa cq af) af) bQ)<|ax<|eE<|kG m_ n_ o_ mY (pv 2)<|aa (bA DM hr xz<|aa (pv 4)<|aa (pv 1) af) af)<|ax<|aR<|fK kC xz B.tuple iE<|aa (pv 2) af,⟨qc,λq S=>?_⟩⟩;have U:=ay (o:=.lst []) (ae.refl H) S;have uM:dc H q _ q=a_ (.lst []):=ao;generalize dc H q _=H0 at U uM;have Bd:l≠q:=λz=>by rw[z,S]at L;cases L
 refine⟨_,xz,a,u,xz,aq.of<|U _ _ ha,su (n:=u.length) (λi σ H'=>i<=u.length/\∃(W X:Option V)(us:List V),σ=[a_ (.ref a),a_<|.ref l,a_<|.ref q,W,X]/\ae H H'/\H' q=a_ (.lst us)/\bw (fg H') us (jJ ls part i)) ⟨bg _,b_,b_,[],xz,U,uM,.nil⟩ ?_ ?_ ?_ ?_⟩
 .rintro i σ H' hi ⟨_,_,_,_,_,s1,_⟩;exact⟨u,u[i],aq.of<|s1 _ _ ha,aI hi⟩
 .rintro σ H' ⟨_,_,_,_,_,s1,_⟩;exact⟨u,aq.of<|s1 _ _ ha,aw _⟩
 .rintro i σ C hi ⟨_,W,X,us,rfl,s1,Y,M⟩ z N ⟨p,x,Z,ez,eH,hx⟩;subst ez;subst eH;obtain⟨td,kU,c,rfl,hc⟩:=Paired.at' hv<|hx u<|aq.of<|s1 _ _ ha;have s2:ae C (dc C p<|.tup [.int i,.ref c]):=ay (ae.refl _) Z;have gt:=hg td<|a8 kU;have ep:part.getD i mw=td:=by rw[cH,kU];rfl
  have wO:us.length<=2*i:=by rw[r_ M];exact ai5 ls part i
  refine⟨p,[.int i,.ref c],xz,aq.of ao,xz,.int i,[.ref c],xz,.ref c,[],xz,xz,?_⟩;have D:=s1.gw s2;have G:=s2 _ _ Y;have RM:bw (fg<|dc C p<|.tup [.int i,.ref c]) us (jJ ls part i):=Paired.bp M λ_ _ q=>q.same s2;generalize dc C p (.tup [.int i,.ref c])=N at s2 D G RM
  have tail:∀(g:Hp)(I:List V)(Rg:Pt),ae H g->g q=a_ (.lst I)->bw (fg g) I Rg->I.length<=2*i+1->
    jJ ls part (i+1)=Rg++[eK ls td]->
    ∀(r:V)(y:Hp),ae g y->fg y r (eK ls td)->∃t,ae H (dc y q<|.lst t)/\t=I++[r]/\bw (fg<|dc y q<|.lst t) t (jJ ls part<|i+1):=λg I Rg J h3 mG _ he r y m O=>by
   refine⟨I++[r],xN (J.gw m) S,xz,?_⟩;rw[he];exact Paired.snoc (Paired.bp mG λ_ _ q=>FQ (q.same m)<|m _ _ h3)<|FQ O<|m _ _ h3
  refine⟨_,xz,_,xz,l,_,xz,.inl<|ag.of<|D _ _ L,xz,ae7 ls,_,xz,?_⟩;rw[eN dF,show wz (V.int (i:Int)) (ls.map nV)=decide (i∈ls) from aiV i ls];refine bj (λfq=>?_) λfq=>?_
  .refine⟨_,xz,.inl ⟨xz,_,ag.of G⟩,qc,λj eR=>?_⟩;have J:=ay (o:=.tup [.str M_]) (ae.refl N) eR;have Jr:dc N j (.tup [.str M_]) j=a_ (.tup [.str M_]):=ao;generalize dc N j (.tup [.str M_])=g at J Jr;have oS:=J _ _ G;refine⟨q,_,_,xz,xz,oS,bq om,?_⟩;have m:ae H (dc g q<|.lst<|us++[.ref j]):=xN (D.gw J) S;have T:dc g q (.lst<|us++[.ref j]) q=a_ (.lst<|us++[.ref j]):=ao
   have hu4:bw (fg<|dc g q<|.lst<|us++[.ref j]) (us++[.ref j]) (jJ ls part i++[((M_ : d0),([]:List Nat))]):=
    Paired.snoc (Paired.bp RM λ_ _ q=>FQ (q.same J) oS) (FQ ⟨j,xz,Jr⟩ oS)
   generalize dc g q (.lst<|us++[.ref j])=y at m T hu4;refine⟨_,xz,.inl ⟨xz,_,ag.of T⟩,_,xz,_,xz,.ref c,l,td,part.length,ls,xz,⟨c,xz,m _ _ hc⟩,gt,m _ _ L,Bq,λr H5 R O=>?_⟩;obtain⟨t,e1,e2,e3⟩:=tail y _ _ m T hu4 (by rw[cQ];simp;omega) (by rw[zX,eT fq,ep,JX]) r H5 R O;refine⟨q,_,_,xz,xz,R _ _ T,bq (by rw[cQ];simp;omega),?_⟩;rw[<-e2];exact⟨hi,_,_,t,xz,e1,ao,e3⟩
  refine⟨_,xz,.inl ⟨xz,_,ag.of G⟩,_,xz,_,xz,.ref c,l,td,part.length,ls,xz,⟨c,xz,D _ _ hc⟩,gt,D _ _ L,Bq,λr H5 R O=>?_⟩;obtain⟨t,e1,e2,e3⟩:=tail N _ _ D G RM om (by rw[zX,eN fq,ep,List.nil_append]) r H5 R O;refine⟨q,_,_,xz,xz,R _ _ G,bq om,?_⟩;rw[<-e2];exact⟨hi,_,_,t,xz,e1,ao,e3⟩
 rintro σ C ⟨_,W,X,us,rfl,s1,Y,M⟩;refine⟨_,xz,q,us,xz,.inl ⟨ag.of Y,λp Z=>?_⟩⟩;have s2:=ay (o:=.tup us) (ae.refl C) Z;refine k _ _ (s1.gw s2) ⟨p,us,xz,ao,?_⟩;rw[hlen]at M;exact Paired.bp M λ_ _ q=>q.same s2
def vN(part:Pt)(n:Nat):Bool:=part.any λs=>decide<|oq s=a_ n
def nz(ps:List Pt)(n i:Nat):List Nat:=(List.range i).filter λc=>vN (ps.getD c []) n
def kL(ps:List Pt)(c n:Nat):Bool:=(nz ps n ps.length).any λo=>!decide (o=c)
def U6(ps:List Pt)(n i:Nat):nz ps n (i+1)=nz ps n i++(if vN (ps.getD i []) n=c_ then [i] else []):=by
 unfold nz;rw[pf,xq]
 congr 1
 by_cases h:vN (ps.getD i []) n=c_
 .rw[eT h,EX (p:=λc=>vN (ps.getD c []) n) h];rfl
 rw[eN h,EY (p:=λc=>vN (ps.getD c []) n) h];rfl
def MO(ps:List Pt)(n i:Nat):(nz ps n i).length<=i:=by
 have h:=o7 (λc=>vN (ps.getD c []) n)<|List.range i;rw[qi]at h;exact h
def aia(o:Option Nat)(n:Nat):decide (Dn o=nV n)=decide (o=a_ n):=by
 rcases o with _|m;rfl
 by_cases h:m=n
 .subst h;simp[Dn]
 .have:¬Dn (a_ m)=nV n:=λz=>h (by injection z with z;omega);rw[fT this,fT λz=>h (by injection z)]
def af1(o:Option Nat)(n:Nat):P7 (Dn o) (nV n)=true:=by cases o <;> rfl
def Z0:Sp:=λvs H Q _=>∃(v:V)(n:Nat)(part:Pt),vs=[v,nV n]/\IsPart H v part/\part.length<=120/\(∀t∈part,bu part.length t)/\∀H',ae H H'->Q (.bl<|vN part n) H'
def aow:aX [X_,l_] [X_,l_] (aM Ll):=aZ
def amk:([l_,at0]:List d0).Nodup:=dk
def alX(T:kc K mg t u)(F:aQ K "part_sets" "part_sets" Ll f fd)(j:mg "any"=b_):aG P w K mg gW aF 5 f fd [X_,l_] Z0:=by
 have l:aG P w K _ gW _ 4 _ _ _ _:=xI T.st;refine F.ok aow λaH A _ s H vs Q E c h=>?_
 obtain⟨v,n,part,rfl,⟨a,vs,rfl,ha,d⟩,R,m,k⟩:=h
 refine⟨_,ax (aR (bC (WK xz) xz j boot_any (aa (dZ (N:=[l_,at0]) (idx:=[1]) xz (cB.of<|by kernel_rfl) (eD<|aw _)
  (nZ<|pv 0) (λ_ _ _ _=>bo (i:=1) amk xz (aL xz)<|.inr xz) (λ_ _ _ _=>eP)
  λ_ _ _ _=>nU dM (Mi (P:=P) (w:=w) (K:=K) (mg:=mg) (gW:=gW) (k:=1) (CX:=aF) (E:=E0) (lB l c xz T.st.mO T.st.wB.kp T.st.bO .nil cX<|aa (pv 1) af) (c.mono qc) cX) (pv 0)<|bR _) af))),?_⟩
 have S:=r_ d;refine⟨_,xz,a,xz,⟨vs,aq.of ha⟩,dX (n:=vs.length) (λi ys H'=>i<=vs.length/\ae H H'/\ys=(part.take i).map λs=>V.bl<|decide<|oq s=a_ n) ?_ ?_ ?_ ?_ ?_ ?_ ?_⟩
 .exact bL (bq om)
 .exact⟨bg _,ae.refl _,xz⟩
 .rintro i ys H' ⟨hi,_,e⟩;rw[e,aA,fJ];omega
 .rintro i ys H' hi ⟨_,s1,_⟩;exact⟨vs,vs[i],aq.of<|s1 _ _ ha,aI _⟩
 .rintro ys H' ⟨_,s1,_⟩;exact⟨vs,aq.of<|s1 _ _ ha,aw _⟩
 .rintro i ys H' hi ⟨_,s1,e⟩ z U ⟨p,x⟩;subst p;obtain⟨td,g,b,rfl,B⟩:=Paired.at' d<|x vs<|aq.of<|s1 _ _ ha;have gt:=m _<|a8 g;refine⟨_,xz,b,td.1,td.2.map λ(n:Nat)=>V.int n,xz,s1 _ _ B,xK gt,⟨by rw[aA];have:=gt.len;omega,λy D=>?_⟩,λo dx W s2 _ I=>?_⟩
  .obtain⟨n,_,rfl⟩:=b8.mp D;exact⟨_,xz⟩
  obtain⟨C,f,fd,pn,sp,J,cl,L,G,bi,q⟩:=ahz (P:=P) (w:=w) (gW:=gW) (mg:=mg) T gt I;refine⟨o,C,dx,_,f,fd,pn,sp,xz,J,vC _ dk _ _ _,cl,L,G,bi,q _ _ ⟨_,xz,af1 _ _,hi,s1.gw s2,?_⟩⟩;rw[aia,iN,g,dC,<-e];rfl
 rintro ys H' ⟨_,s1,e⟩;refine⟨?_,λr M=>?_⟩
 .rw[e,aA,fJ];have:=bq (n:=part.length) om;omega
 have O:ys=(part.map λs=>decide<|oq s=a_ n).map V.bl:=by
  rw[e,jl om,i7];rfl
 refine⟨r,part.map λs=>decide<|oq s=a_ n,xz,ag.of (by rw[ao,O]),?_⟩;rw[Uo];exact k _<|ay s1 M
def ZX:Sp:=λvs H Q _=>∃(v:V)(n:Nat)(ps:List Pt),vs=[v,nV n]/\iq H v ps/\cW ps/\∀l H',ae H H'->H l=b_->H' l=a_ (.lst<|(nz ps n ps.length).map nV)->Q (.ref l) H'
def aou:aX [P_,l_] [P_,l_] (aM L'):=aZ
def Yu:([l_,an3,X_]:List d0).Nodup:=dk
def alU(F:aQ K "setters" "setters" L' f fd)(o:mg at5 = b_)(q:Dp P w K mg gW 5 "part_sets" [X_,l_] Z0):aG P w K mg gW aF 6 f fd [P_,l_] ZX:=by
 refine F.ok aou λaH A _ s H vs Q E t h=>?_
 obtain⟨v,n,ps,rfl,⟨a,vs,rfl,ha,c⟩,d,k⟩:=h
 refine⟨_,ax (aR (dZ (N:=[l_,an3,X_]) (idx:=[1]) xz (cB.of<|by kernel_rfl) (zU (aw _)<|jC _)
  (qm (b:=d_) xz o<|aa (pv 0) af)
  (λ_ _ _ _=>lX xz<|ff (bo (i:=1) Yu xz (aL xz)<|.inr xz)<|ff (bo (i:=2) Yu xz (aL xz)<|.inr xz) lV)
  (λ_ _ _ _=>vy<|dg<|bA q t xz<|aa (pv 2)<|aa (pv 0) af)
  λ_ _ _ _=>pv 1)),?_⟩
 have u:=r_ c;have L:=d.le;refine⟨_,xz,a,vs,xz,aq.of ha,dX (n:=vs.length) (λi ys H'=>i<=vs.length/\ae H H'/\ys=(nz ps n i).map nV) ?_ ?_ ?_ ?_ ?_ ?_ ?_⟩
 .exact bL (bq om)
 .exact⟨bg _,ae.refl _,xz⟩
 .rintro i ys H' ⟨hi,_,e⟩;rw[e,aA];exact MO _ n i
 .rintro i ys H' hi ⟨_,s1,_⟩;exact⟨vs,vs[i],aq.of<|s1 _ _ ha,aI _⟩
 .rintro ys H' ⟨_,s1,_⟩;exact⟨vs,aq.of<|s1 _ _ ha,aw _⟩
 .rintro i ys H' hi ⟨_,s1,e⟩ z M ⟨p,x,y,B,C,D⟩;subst B;subst C;obtain⟨part,g,G⟩:=Paired.at' c<|D vs<|aq.of<|s1 _ _ ha;have s2:ae H (dc _ p<|.tup [.int i,x]):=ay s1 y;obtain⟨I,J⟩:=d.part part<|a8 g;have j:ps.getD i []=part:=by rw[cH,g];rfl
  refine⟨p,[.int i,x],xz,aq.of ao,xz,.int i,[x],xz,x,[],xz,xz,⟨_,xz,_,xz,x,n,part,xz,G.same s2,I,J,λO l=>⟨_,xz,lG (λh1=>?_) λh1=>?_⟩⟩⟩
  .refine⟨_,xz,hi,s2.gw l,?_⟩;rw[U6,j,eT h1,dC,<-e];rfl
  refine⟨hi,s2.gw l,?_⟩;rw[U6,j,h1,eN dF,nK];exact e
 rintro ys H' ⟨_,s1,e⟩;refine⟨?_,λr m=>k r _ (ay s1 m) (s1.free m) ?_⟩
 .rw[e,aA];have h1:=MO ps n vs.length;have:=bq (n:=ps.length) om;omega
 rw[ao,e,u]
def aji(ps:List Pt)(fs:List Nat):Prop:=fs.length=ps.length/\∀c,c<ps.length->∀k,(fs.getD c 0).testBit k=(decide (k<12)&&kL ps c k)
def ZO(ps:List Pt)(m j:Nat)(fs:List Nat):Prop:=fs.length=ps.length/\∀c,c<ps.length->∀k,(fs.getD c 0).testBit k=(decide (k<m\/(k=m/\c<j))&&kL ps c k)
def OO:Sp:=λvs H Q _=>∃(v:V)(ps:List Pt),vs=[v]/\iq H v ps/\cW ps/\∀l H' fs,ae H H'->H l=b_->H' l=a_ (.lst<|fs.map nV)->aji ps fs->Q (.ref l) H'
def CY:aX [P_,"found",l_,"clerks",an3] hX (aM M'):=aZ
def aoN:=@mo
def amq:([an3,"setter"]:List d0).Nodup:=dk
def ajZ(F:aQ K "names_of_others" "names_of_others" M' f fd)(B:Bl mg)(C:Cn mg)(gj:mg "range"=b_)(QQ:mg "any"=b_)(DS:Dp P w K mg gW 6 "setters" [P_,l_] ZX)(DW:Dp P w K mg gW 1 "with_name" i5 NB):aG P w K mg gW aF 7 f fd hX OO:=by
 refine F.ok CY λaH A _ s H vs Q E hr h=>?_
 obtain⟨v,ps,rfl,⟨a,y,rfl,ha,hv⟩,hg,k⟩:=h;obtain⟨uN,mN,rN⟩:=C.names;have hlen:=r_ hv;have hle:=hg.le
 refine let b:TS:=_;let d:TS:=_;let g:TS:=_;let l:TS:=_;let p:TS:=_;⟨_,au (BQ (i:=1) (N:=[X_]) (idx:=[]) CY.nd xz xz xz (cB.of<|by kernel_rfl) (eD<|bg _) (nZ<|pv 0) (λ_ _ _ _=>bo (i:=0) aoN xz (aL xz)<|.inr xz) (λ_ _ _ _=>eP) λ_ _ _ _=>ar)
  (pR p (au (jV jA xz (lu xz gj<|aa (eW (v:=.int 12) xz mN rN) af) (bo (i:=2) CY.nd xz<|aL xz) (pR l (au (bG (i:=3) CY.nd xz (aL xz)<|bA DS hr xz<|aa (pv 0)<|aa (pv 2) af) (pR g (ax (jV jA xz (lu xz gj<|aa (bC ft xz B.len q_<|aa (pv 0) af) af) (bo (i:=4) CY.nd xz<|pC xz) (pR d (ax (bz (dg (bC (WK xz) xz QQ boot_any (aa (dZ (N:=[an3,"setter"]) (idx:=[4]) xz (cB.of<|by kernel_rfl) (eD<|aw _) (lA<|pv 3) (λ_ _ _ _=>bo (i:=1) amq xz (aL xz)<|.inr xz) (λ_ _ _ _=>eP)
      λ_ _ _ _=>nU CZ (pv 1) (pv 0)<|bR _) af)))
     (pR b<|ax<|vH (bA DW (hr.mono (show 1<=6 by decide)) xz<|aa (aU bX (pv 1)<|pv 4)<|aa (pv 2) af)<|vI (pv 1) (pv 4) set_list) bQ)))))))))
  (ax<|aR<|pv 1))),?_⟩
 refine⟨_,xz,a,xz,⟨y,aq.of ha⟩,dX (n:=y.length) (λi ys H'=>H'=H/\ys=(dU i 0).map nV) ?_ ?_ ?_ ?_ ?_ ?_ ?_⟩
 .exact bL (bq om)
 .exact⟨xz,xz⟩
 .rintro i ys H' ⟨_,e⟩;rw[e,aA,xn];exact aw _
 .rintro i ys H' hi ⟨rfl,_⟩;exact⟨y,y[i],aq.of ha,aI _⟩
 .rintro ys H' ⟨rfl,_⟩;exact⟨y,aq.of ha,aw _⟩
 .rintro i ys H' hi ⟨rfl,e⟩ z dQ ⟨W,hz⟩;subst W;refine⟨xz,?_⟩;rw[abG,dC,<-e];rfl
 rintro ys H' ⟨rfl,e⟩;refine⟨by rw[e,aA,xn];exact bL<|bq om,λx X=>?_⟩;have s1:=ay (o:=.lst ys) (ae.refl _) X;have Bu:dc H' x (.lst ys) x=a_ (.lst<|(dU ps.length 0).map nV):=by rw[ao,e,hlen]
 generalize dc _ _ _=H1 at s1 Bu
 refine⟨12,xz,qc,qc,B8 (n:=12) (λm σ M=>∃(fs:List Nat)(Y Z G:Option V),σ=[a_ (.ref a),a_<|.ref x,Y,Z,G]/\ae H' M/\M x=a_ (.lst<|fs.map nV)/\ZO ps m 0 fs)
  ⟨_,b_,b_,b_,xz,s1,Bu,by simp,λc t k=>?_⟩ ?_ ?_⟩
 .rw[cH,Tf,eT t];simp
 .rintro m σ M hm ⟨fs,Y,Z,G,rfl,s2,R,⟨fl,fb⟩⟩;refine Mx (by rw[BO]) ?_;refine⟨_,xz,_,xz,.ref a,m,ps,xz,⟨a,y,xz,s2 _ _ ha,Paired.bp hv λ_ _ q=>q.same s2⟩,hg,λlw H3 s3 nw hw=>?_⟩;have nlw:lw≠x:=λz=>by rw[z,R]at nw;cases nw
  refine⟨_,xz,a,y,xz,.inr<|aq.of<|s3 _ _<|s2 _ _ ha,_,xz,om,om,B8 (n:=_) (λj σ I=>∃(fs:List Nat)(G:Option V),σ=[a_ (.ref a),a_<|.ref x,a_<|nV m,a_<|.ref lw,G]/\ae H' I/\I x=a_ (.lst<|fs.map nV)/\I lw=a_ (.lst<|(nz ps m ps.length).map nV)/\ZO ps m j fs)
   ⟨fs,G,xz,s2.gw s3,s3 _ _ R,hw,fl,fb⟩ ?_ ?_⟩
  .rintro j σ I hj ⟨u,y4,rfl,s4,tG,J,⟨S,O⟩⟩;refine Mx (by rw[BO]) ?_;refine⟨_,xz,lw,xz,⟨_,ag.of J⟩,?_⟩;have tj:=MO ps m ps.length;refine dX (n:=(nz ps m ps.length).length) (λi ys D=>D=I/\ys=(((nz ps m ps.length).take i).map λo=>!decide (o=j)).map V.bl) ?_ ?_ ?_ ?_ ?_ ?_ ?_
   .exact bL (bq om)
   .exact⟨xz,xz⟩
   .rintro i ys D ⟨_,e⟩;rw[e,aA,aA,fJ];omega
   .rintro i ys D hi ⟨rfl,_⟩;exact⟨_,_,ag.of J,aI<|by rw[aA];exact hi⟩
   .rintro ys D ⟨rfl,_⟩;exact⟨_,ag.of J,by rw[aA];exact aw _⟩
   .rintro i ys D hi ⟨rfl,e⟩ z dQ ⟨W,hz⟩;subst W;have cU:=hz _<|ag.of J;rw[cF,aI hi]at cU;cases cU;refine⟨_,xz,_,xz,xz,xz,?_⟩;rw[iN,aI hi,Ts,dC,dC,<-e];show ys++[V.bl (!decide (nV _=nV j))]=ys++[V.bl (!decide (_=j))]
    congr 3
    by_cases q:(nz ps m ps.length)[i]=j
    .rw[q];simp
    rw[fT q,fT λz=>q (by injection z with z;omega)]
   rintro ys D ⟨rfl,e⟩;rw[jl<|aw _]at e;refine⟨by rw[e,aA,aA];exact bL<|bq om,λr bE=>?_⟩;have s5:=ay (o:=.lst ys) (ae.refl _) bE;refine⟨r,_,xz,ag.of (by rw[ao,e]),_,xz,?_⟩;have T:=s5 _ _ tG;have yZ:=s5 _ _ J;have wK:=s4.gw s5;generalize dc D r (.lst ys)=H6 at T yZ wK;rw[Uo];have eo:((nz ps m ps.length).any<|id ∘ λo=>!decide (o=j))=kL ps j m:=rfl;rw[eo]
   have nb:∀c,c<ps.length->¬c=j->∀k,(u.getD c 0).testBit k=(decide (k<m\/(k=m/\c<j+1))&&kL ps c k):=λc t iy k=>by
    rw[O c t k]
    congr 2
    simp only[eq_iff_iff];omega
   refine lG (λho=>?_) λho=>?_
   .have Br:j<u.length:=om;refine⟨_,xz,_,xz,x,_,_,_,xz,xz,ag.of T,vK Br,_,xz,_,m,xz,hm,⟨_,xz,_,xz,x,_,_,j,xz,xz,T,Xv (by rw[aA];exact Br),?_⟩⟩;have QS:(u.map nV).set j (nV<|u.getD j 0 ||| (1 <<< m))=(u.set j<|u.getD j 0 ||| (1 <<< m)).map nV:=by rw[vk]
    rw[QS];refine⟨u.set j<|u.getD j 0 ||| (1 <<< m),_,xz,xN wK X,ao,?_,by rw[gL];exact S,λc t k=>?_⟩
    .rw[aj nlw];exact yZ
    by_cases L:c=j
    .subst L;rw[cH,gq Br];show (u.getD c 0 ||| 1 <<< m).testBit k=_;rw[TX,L5.Nu,O c t k]
     by_cases U:m=k
     .subst U;rw[ho];simp
     .have:decide (k<m\/(k=m/\c<c+1))=decide (k<m\/(k=m/\c<c)):=by
       congr 1
       simp only[eq_iff_iff];omega
      rw[this,fT U,Bool.or_false]
    rw[cH,nI λz=>L z.gx,<-cH];exact nb c t L k
   refine⟨u,_,xz,wK,T,yZ,S,λc t k=>?_⟩
   by_cases L:c=j
   .subst L;rw[O c t k]
    by_cases U:k=m
    .subst U;rw[ho];simp
    congr 2
    simp only[eq_iff_iff];omega
   exact nb c t L k
  rintro σ I ⟨u,y4,rfl,s4,tG,J,⟨S,O⟩⟩;refine⟨u,_,_,_,xz,s4,tG,S,λc t k=>?_⟩;rw[O c t k]
  congr 2
  simp only[eq_iff_iff];omega
 rintro σ M ⟨fs,Y,Z,G,rfl,s2,R,⟨fl,fb⟩⟩;refine⟨_,xz,k x M fs s2 X R ⟨fl,λc t k=>?_⟩⟩;rw[fb c t k]
 congr 2
 simp only[eq_iff_iff];omega
def sO(ps:List Pt)(rows:List (List Nat))(i:Nat):List Pt:=(List.range i).map λc=>jJ (qA (ps.getD c []) (rows.getD c []) (kL ps c) (ps.getD c []).length) (ps.getD c []) (ps.getD c []).length
def afg(ps:List Pt)(rows:List (List Nat))(i:Nat):sO ps rows (i+1)=sO ps rows i++[jJ (qA (ps.getD i []) (rows.getD i []) (kL ps i) (ps.getD i []).length) (ps.getD i []) (ps.getD i []).length]:=by
 unfold sO;rw[pf,dC];rfl
def qx:Sp:=λvs H Q _=>∃v ps,vs=[v]/\iq H v ps/\cW ps/\∀(rows:List (List Nat))(a:V)(H':Hp),sQ rows ps->ae H H'->iq H' a (sO ps rows ps.length)->Q a H'
def Dm:aX [P_,N_,X_,L_,"foreign"] hX (aM Qf):=aZ
def al'(F:aQ K "cleared" "cleared" Qf f fd)(B:Bl mg)(DL:Dp P w K mg gW 6 "look_over" hX NF)(DM:Dp P w K mg gW 6 "marks" hX P2)(DO:Dp P w K mg gW 7 "names_of_others" hX OO)(DA:Dp P w K mg gW 5 "looks_at_fault" kQ Z4)(DC:Dp P w K mg gW 6 "cleared_part" [X_,"looks"] qq):aG P w K mg gW aF 8 f fd hX qx:=by
 refine F.ok Dm λaH A _ s H vs Q E R h=>?_
 obtain⟨v,ps,rfl,⟨a,r,rfl,ha,D⟩,G,k⟩:=h;have S:=R.mono (show 6<=7 by decide);refine let d:TS:=_;let g:TS:=_;⟨_,au (eE<|bA DL S xz<|aa (pv 0) af)<|pR g<|au (bG (i:=1) Dm.nd xz (aL xz)<|eX af)<|pR d<|au (jV jA xz (Nm nc3 xz B.zip<|aa (pv 0)<|aa (bA DM S xz<|aa (pv 0) af)<|aa (bA DO R xz<|aa (pv 0) af) af) (lX xz<|ff (bo (i:=2) Dm.nd xz<|aL xz)<|ff (bo (i:=3) Dm.nd xz<|aL xz)<|ff (bo (i:=4) Dm.nd xz<|aL xz) lV)<|ax<|eE<|kG m_ n_ o_ mY (pv 1)<|aa (bA DC S xz<|aa (pv 2)<|aa (bA DA (R.mono (show 5<=7 by decide)) xz<|aa (pv 2)<|aa (pv 3)<|aa (pv 4) af) af) af)<|ax<|aR<|fK kC xz B.tuple iE<|aa (pv 1) af,?_⟩;refine⟨_,xz,.ref a,ps,xz,⟨a,r,xz,ha,D⟩,G,λH1 s1=>?_⟩;have dm:=r_ D;have hle:=G.le;refine⟨qc,λq hq=>?_⟩;have s2:=ay (o:=.lst []) (ae.refl _) hq;have T:dc H1 q _ q=a_ (.lst []):=ao;generalize dc _ q _=H2 at s2 T;have U:=s1.gw s2;have nq:=s1.free hq;refine⟨_,xz,_,xz,.ref a,ps,xz,⟨a,r,xz,U _ _ ha,Paired.bp D λ_ _ q=>q.same U⟩,G,λmv rows H3 W Jh X=>?_⟩;have Y:=U.gw W;refine⟨_,xz,.ref a,ps,xz,⟨a,r,xz,Y _ _ ha,Paired.bp D λ_ _ q=>q.same Y⟩,G,λZ H4 fs M nf hf xa=>?_⟩;obtain⟨b,C,rfl,hb,hrv⟩:=Jh;have Bb:=Y.gw M;have Ju:=M _ _ hb;have gZ:=r_ hrv;have hml:=r_ X;have Jm:=xa.1;have Bm:=M _ _<|W _ _ T;refine⟨[(d_,a),(d_,b),(c_,Z)],[r,C,fs.map _],xz,xz,.cons (aq.of<|Bb _ _ ha)<|.cons (aq.of Ju)<|.cons (ag.of hf) .nil,?_⟩;have Bd:Z≠q:=λz=>by rw[z,W _ _ T]at nf;cases nf
 refine su (n:=r.length) (λi σ H'=>i<=r.length/\∃(x2 x3 x4:Option V)(us:List V),σ=[a_ (.ref a),a_<|.ref q,x2,x3,x4]/\ae H H'/\H' q=a_ (.lst us)/\H' b=a_ (.tup C)/\bw (qH H') C rows/\H' Z=a_ (.lst<|fs.map nV)/\bw (IsPart H') us (sO ps rows i))
  ⟨bg _,b_,b_,b_,[],xz,Bb,Bm,Ju,Paired.bp hrv λ_ _ q=>q.same M,hf,.nil⟩ ?_ ?_ ?_ ?_
 .rintro i σ H' hi ⟨_,_,_,_,_,_,t,_,h6,_,h7,_⟩;exact⟨[r,C,fs.map nV],[r[i],C[i]' li,(fs.map nV)[i]'(by rw[aA];lia)],.cons (aq.of<|t _ _ ha)<|.cons (aq.of h6)<|.cons (ag.of h7) .nil,.cons (aI hi)<|.cons (aI _)<|.cons (aI _) .nil⟩
 .rintro σ H' ⟨_,_,_,_,_,_,t,_⟩;exact⟨_,_,r,xz,aq.of<|t _ _ ha,aw _⟩
 .rintro i σ u hi ⟨_,x2,x3,x4,us,rfl,t,RU,hb5,aaQ,rm,I⟩ z H6 ⟨p,_,wV,ez,eH,apt⟩;subst ez;subst eH;obtain⟨x,y,fo,rfl,e1,e2,e3⟩:=afr<|apt _<|.cons (aq.of<|t _ _ ha)<|.cons (aq.of hb5)<|.cons (ag.of rm) .nil;obtain⟨part,c9,Hs⟩:=Paired.at' D e1;obtain⟨row,eR,QF⟩:=Paired.at' aaQ e2;obtain⟨l,mG,him⟩:=Paired.at' X eR;have emp:l=part:=by rw[c9]at mG;cases mG;rfl
  subst emp;rw[cF]at e3;obtain⟨fn,Ey,efn⟩:=uY.mp e3;subst efn;obtain⟨aaS,mE⟩:=G.part l<|a8 c9;have ep:ps.getD i []=l:=by rw[cH,c9];rfl
  have er:rows.getD i []=row:=by rw[cH,eR];rfl
  have ef:fs.getD i 0=fn:=by rw[cH,Ey];rfl
  have j:ae u (dc u p<|.tup [x,y,nV fn]):=ay (ae.refl _) wV;refine⟨p,[x,y,nV fn],xz,aq.of ao,xz,x,[y,nV fn],xz,y,[nV fn],xz,nV fn,[],xz,xz,?_⟩;have N:=t.gw j;have J:=j _ _ RU;have O:=j _ _ hb5;have aaP:bw (qH<|dc u p<|.tup [x,y,nV fn]) C rows:=Paired.bp aaQ λ_ _ q=>q.same j;have tE:=j _ _ rm;have hu6:bw (IsPart<|dc u p<|.tup [x,y,nV fn]) us (sO ps rows i):=Paired.bp I λ_ _ q=>q.same j;have ZR:=QF.same j;generalize dc u p (.tup [x,y,nV fn])=H6 at j N J O aaP tE hu6 ZR;have anU:row.length=l.length+1:=him.1;refine⟨_,xz,.inl ⟨xz,_,ag.of J⟩,_,xz,_,xz,_,xz,_,xz,x,y,l,row,fn,kL ps i,xz,Hs.same N,ZR,aaS,mE,anU,λm hm=>?_,λll H7 s7 nl hl=>?_⟩
  .have:=xa.2 i om m;rw[ef,fC hm,rQ]at this;exact this
  have Bq:=Lr l row (kL ps i) l.length;refine⟨x,ll,l,qA l row (kL ps i) l.length,xz,(Hs.same N).same s7,aaS,mE,hl,om,λv' H8 s8 Bh=>?_⟩;have RT:=s8 _ _<|s7 _ _ J;have L:=s7.gw s8;have wO:us.length=i:=by rw[r_ I];unfold sO;simp
  refine⟨q,_,_,xz,xz,RT,bq om,hi,_,_,_,us++[v'],xz,xN (N.gw L) nq,ao,?_,?_,?_,?_⟩
  .rw[aj λz=>by rw[z,J]at O;cases O];exact L _ _ O
  .refine Paired.bp aaP λ_ _ h=>?_;obtain⟨c,e,hc⟩:=h;refine⟨c,e,?_⟩;rw[aj λz=>by rw[z,J]at hc;cases hc];exact L _ _ hc
  .rw[aj Bd];exact L _ _ tE
  rw[afg,ep,er];exact Paired.snoc (Paired.bp hu6 λ_ _ h=>FY (h.same L) RT)<|FY Bh RT
 rintro σ u ⟨_,x2,x3,x4,us,rfl,t,RU,_,_,_,I⟩;refine⟨_,xz,q,us,xz,.inl ⟨ag.of RU,λp wV=>?_⟩⟩;have j:=ay (o:=.tup us) (ae.refl u) wV;refine k rows _ _ X (t.gw j) ⟨p,us,xz,ao,?_⟩;rw[dm]at I;exact Paired.bp I λ_ _ q=>q.same j
def nP(ls:List Nat)(p:Nat):Nat:=p+t8 ls p
section
variable{ls:List Nat}{part:Pt}{i j p q:Nat}{s:Tl}
theorem pq(nd:ls.Nodup)(p:Nat):nP ls (p+1)=nP ls p+1+(if p∈ls then 1 else 0):=by
 have a:t8 ls (p+1)=t8 ls p+(if p∈ls then 1 else 0):=by
  unfold t8
  induction ls with
  | nil=>rfl
  | cons x l ih=>
   obtain⟨n1,b⟩:=zI.mp nd;have ih:=ih b;rw[rK,rK];obtain z|rfl|z:=tN x p
   .rw[eT<|fC li,eT<|fC z,eI,eI,ih];simp only[bK,false_or];lia
   .rw[eT<|fC li,eN (by simp),eI,ih,eN n1,eT bV]
   rw[eN (by simp;lia),eN (by simp;lia),ih];simp only[bK,show ¬p=x by lia,false_or]
 unfold nP;rw[a];lia
def vP(nd:ls.Nodup)(h:p<=q):nP ls p<=nP ls q:=by
 induction q with
 | zero=>rw[Nat.le_zero.mp h];exact aw _
 | succ q ih=>
  obtain z|rfl:=JQ h
  .have:=ih li;rw[pq nd];lia
  .exact aw _
def xS(nd:ls.Nodup)(i:Nat):(jJ ls part i).length=nP ls i:=by
 induction i with
 | zero=>
  have:∀l:List _,(l.filter λx=>decide<|x<0)=[]:=λl=>List.filter_eq_nil_iff.mpr λx _=>by simp
  unfold nP t8;rw[this];rfl
 | succ i ih=>
  rw[zX,cQ,ih,pq nd,cQ]
  split <;> rfl
def Gq(nd:ls.Nodup)(h:(jJ ls part i)[j]?=a_ s):∃p,p<i/\(p∈ls/\j=nP ls p/\s=((M_ : d0),([]:List Nat))\/j+1=nP ls (p+1)/\s=eK ls (part.getD p mw)):=by
 induction i with
 | zero=>cases h
 | succ i ih=>
  have hn:=pq nd i;rw[zX,List.getElem?_append]at h
  split at h
  .obtain⟨p,h1,h2⟩:=ih h;exact⟨p,li,h2⟩
  .next z=>
   rw[(xS (part:=part) nd i)]at h z;refine⟨i,vc i,?_⟩
   by_cases m:i∈ls
   .rw[eT m]at h hn;obtain⟨k,a⟩:∃k,j-nP ls i=k:=⟨_,xz⟩;rw[a]at h
    match k,h with
    | 0,h=>exact .inl ⟨m,li,(c8 h).gx⟩
    | 1,h=>exact .inr ⟨li,(c8 h).gx⟩
    | k+2,h=>cases h
   .rw[eN m]at h hn;obtain⟨k,a⟩:∃k,j-nP ls i=k:=⟨_,xz⟩;rw[a]at h
    match k,h with
    | 0,h=>exact .inr ⟨li,(c8 h).gx⟩
    | k+1,h=>cases h
theorem YR(nd:ls.Nodup)(h:p<i):(∀j,j+1=nP ls (p+1)->(jJ ls part i)[j]?=a_ (eK ls<|part.getD p mw))/\(p∈ls->(jJ ls part i)[nP ls p]?=a_ ((M_ : d0),([]:List Nat))):=by
 induction i with
 | zero=>cases h
 | succ i ih=>
  have c:=xS (part:=part) nd i;have hn:=pq nd p;rw[zX];rcases JQ (ab4 h)with z | rfl
  .have m:=vP nd z;obtain⟨a,b⟩:=ih z;refine⟨λj d=>?_,λy=>?_⟩
   .rw[zA li];exact a j d
   .rw[zA li];exact b y
  .refine⟨λj d=>?_,λy=>?_⟩
   .rw[BC (by rw[c];split at hn <;> lia),c]
    split at hn
    .next y=>rw[eT y,show j-nP ls p=1 by lia];rfl
    .next y=>rw[eN y,show j-nP ls p=0 by lia];rfl
   .rw[BC<|c▸aw _,c,eT y,Kx];rfl
def XQ(sz:Nat)(g:bu sz s)(rg:List Int)(h:j+1=nP ls (p+1)):dH (eK ls s) rg j=nP ls (dH s rg p):=by
 by_cases z:s.1 = O_
 .obtain⟨r,q,rfl,_⟩:=zV g z;rw[Ml];unfold dH
  by_cases y:rg.getD r 0=0
  .rw[eT ⟨xz,y⟩,eT ⟨xz,y⟩];rfl
  rw[eN λx=>y x.2,eN λx=>y x.2];exact h
 rw[xY z];unfold dH;rw[eN λx=>z x.1,eN λx=>z x.1];exact h
def FZ(ls:List Nat)(s:Tl):(eK ls s).1=s.1:=by
 unfold eK
 split
 .next z=>exact z.gx
 rfl
def Yx(bd:List Int)(rg:List Int)(pl:Nat):cD H_ (eK ls s) (pl,[],rg) bd=(dH (eK ls s) (fk s rg<|mm s [] bd) pl,[],fk s rg<|mm s [] bd)/\dr H_ (eK ls s) rg bd=dr H_ s rg bd:=by
 have e:fk (eK ls s) rg (mm (eK ls s) [] bd)=fk s rg (mm s [] bd)/\dr H_ (eK ls s) rg bd=dr H_ s rg bd:=by
  by_cases z:s.1 = O_
  .have n:∀x:d0,x ≠ O_->¬(eK ls s).1=x/\¬s.1=x:=λx f=>by
    rw[FZ,z];exact⟨λy=>f y.gx,λy=>f y.gx⟩
   have a:=n ac2 dk;have b:=n U_ dk;have c:=n J_ dk;have d:=n I_ dk;have e:=n K_ dk;unfold fk dr;rw[eN a.1,eN b.1,eN c.1,eN d.1,eN a.2,eN b.2,eN c.2,eN d.2,eN e.1,eN e.2,eN d.1,eN d.2];exact⟨xz,xz⟩
  rw[xY z];exact⟨xz,xz⟩
 refine⟨?_,e.2⟩;unfold cD;rw[e.1];unfold fZ
 split <;> rfl
end
def Lk(ps:List Pt)(rows:List (List Nat))(c:Nat):List Nat:=qA (ps.getD c []) (rows.getD c []) (kL ps c) (ps.getD c []).length
def sC(ps:List Pt)(rows:List (List Nat))(c:Nat):(Lk ps rows c).Nodup:=Ub.filter _ acj
def amw{rows:List (List Nat)}{c i:Nat}(h:i∈Lk ps rows c):i<(ps.getD c []).length:=mU.mp (jB.mp h).1
abbrev Cl(ps:List Pt)(rows:List (List Nat)):List Pt:=sO ps rows ps.length
def GU(ps:List Pt)(rows:List (List Nat)):(Cl ps rows).length=ps.length:=by unfold Cl sO;rw[aA,qi]
def C8{rows:List (List Nat)}{c:Nat}(h:ps[c]?=a_ p):(Cl ps rows)[c]?=a_ (jJ (Lk ps rows c) p p.length):=by
 have e:ps.getD c []=p:=by rw[cH,h];rfl
 unfold Cl sO Lk;rw[cF,List.getElem?_range (b0.mp h).1,acC,e]
def Dc{rows:List (List Nat)}{c:Nat}(h:(Cl ps rows)[c]?=a_ p'):∃p,ps[c]?=a_ p/\p'=jJ (Lk ps rows c) p p.length:=by
 have a:c<ps.length:=by rw[<-GU _ _];exact(b0.mp h).1
 refine⟨ps[c],aI _,?_⟩;rw[C8<|aI _]at h;exact(c8 h).gx
structure Rl(ps:List Pt)(rows:List (List Nat))(V' V:Vw):Prop where
 bd:V'.2=V.2
 ck:∀c,V'.1[c]?=b_/\V.1[c]?=b_\/∃p q rg,V.1[c]?=a_ (p,[],rg)/\V'.1[c]?=a_ (q,[],rg)/\(q=nP (Lk ps rows c) p\/p∈Lk ps rows c/\q=nP (Lk ps rows c) p+1)
section
variable{ps:List Pt}{rows:List (List Nat)}{V V' V2:Vw}{c p q:Nat}{rg b:List Int}
theorem Rl.put(h:Rl ps rows V' V)(h1:V.1[c]?=a_ x)(h2:V'.1[c]?=a_ x')(k:q=nP (Lk ps rows c) p\/p∈Lk ps rows c/\q=nP (Lk ps rows c) p+1):Rl ps rows (V'.1.set c (q,[],rg),b) (V.1.set c (p,[],rg),b):=by
 refine⟨xz,λd=>?_⟩
 by_cases e:c=d
 .subst e;exact .inr ⟨p,q,rg,gq (b0.mp h1).1,gq (b0.mp h2).1,k⟩
 rw[nI e,nI e];exact h.ck d
theorem Rl.both{part:Pt}(g:cW ps)(h:Rl ps rows V' V)(d:ps[c]?=a_ part)(a:part[p]?=a_ s)(h1:V.1[c]?=a_ (p,[],rg))(h2:V'.1[c]?=a_ (q,[],rg))(e:q+1=nP (Lk ps rows c) (p+1)):p4 H_ (Cl ps rows) V' (V'.1.set c<|cD H_ (eK (Lk ps rows c) s) (q,[],rg) V'.2,dr H_ (eK (Lk ps rows c) s) rg V'.2)/\Rl ps rows (V'.1.set c<|cD H_ (eK (Lk ps rows c) s) (q,[],rg) V'.2,dr H_ (eK (Lk ps rows c) s) rg V'.2) (V.1.set c<|cD H_ s (p,[],rg) V.2,dr H_ s rg V.2):=by
 have gt:=(g.part _<|a8 d).2 s<|a8 a;have es:part.getD p mw=s:=by rw[cH,a];rfl
 have ha:=(YR (part:=part) (sC _ _ c)<|(b0.mp a).1).1 q e;rw[es]at ha;obtain⟨i,j⟩:=Yx V'.2 _ q;obtain⟨f,k⟩:=Yx V.2 _ p
 have m:eK [] s=s:=by
  unfold eK
  split
  .next z=>
   obtain⟨r,q,rfl,_⟩:=zV gt z;rfl
  rfl
 rw[m]at f k;refine⟨.act h2 (C8 d) ha λ_=>rfl,?_⟩;rw[i,j,f,h.bd,XQ _ gt _ e];exact h.put h1 h2<|.inl xz
theorem ai3(g:cW ps)(h:Rl ps rows V' V)(r:eG H_ (Cl ps rows) V')(O:qV H_ V)(s:p4 H_ ps V V2):∃k,eG H_ (Cl ps rows) k/\Rl ps rows k V2:=by
 cases s with
 | @act c x part s h1 hp hs hk=>
  obtain⟨_,z⟩|⟨p,q,rg,l,d,t⟩:=h.ck c
  .rw[h1]at z;cases z
  .rw[h1]at l;cases l;have hn:=pq (sC ps rows c) p
   rcases(show q+1=nP (Lk ps rows c) (p+1)\/p∈Lk ps rows c/\q=nP (Lk ps rows c) p by
    obtain e|⟨e,f⟩:=t
    .split at hn
     .next z=>exact .inr ⟨z,e⟩
     .exact .inl li
    .rw[eT e]at hn;exact .inl li)with i | ⟨j,i⟩
   .obtain⟨a,b⟩:=h.both g hp hs h1 d i;exact⟨_,r.st a,b⟩
   .rw[eT j]at hn;have m:=(YR (part:=part) (sC _ _ c) (b0.mp hs).1).2 j;rw[<-i]at m;have a:=r.st (.act d (C8 hp) m λ_=>rfl);have a:=a;have h':Rl _ _ (V'.1.set c (q+1,[],rg),V'.2) _:=h.put h1 d<|.inr ⟨j,li⟩;rw[vo h1,h.bd]at h';rw[h.bd]at a;obtain⟨u,b⟩:=h'.both (q:=q+1) g hp hs h1 (gq (b0.mp d).1) li;exact⟨_,a.st u,b⟩
 | @oC c n x num h1 o _ _=>
  rw[O.no xz x<|a8 h1]at o;cases o
theorem ai4(g:cW ps)(h:Rl ps rows V' V)(r:eG H_ ps V)(s:p4 H_ (Cl ps rows) V' V2):∃o,eG H_ ps o/\Rl ps rows V2 o:=by
 cases s with
 | @act c x anQ s' h1 gm hs hk=>
  obtain⟨part,t,rfl⟩:=Dc gm;obtain⟨z,_⟩|⟨p,q,rg,d,i,j⟩:=h.ck c
  .rw[h1]at z;cases z
  .rw[h1]at i;cases i;have nd:=sC ps rows c;have hn:=pq nd p;obtain⟨a,hi,k⟩:=Gq nd hs;have y:=pq nd a
   have u:a=p:=by
    obtain z|z|z:=tN a p
    .have:=vP nd z;rcases j with e | ⟨_,e⟩ <;> rcases k with ⟨_,f,_⟩ | ⟨f,_⟩ <;> have f:_=_:=f <;> simp only at f <;> lia
    .exact z
    .have:=vP nd (show p+1<=a from z);obtain e|⟨m,e⟩:=j
     .rcases k with ⟨_,f,_⟩ | ⟨f,_⟩ <;> simp only at f <;> lia
     .rw[eT m]at hn;rcases k with ⟨_,f,_⟩ | ⟨f,_⟩ <;> simp only at f <;> lia
   subst u;obtain⟨m,f,rfl⟩|⟨f,rfl⟩:=k
   .refine⟨V,r,?_⟩;have h':Rl _ _ (V'.1.set c (q+1,[],rg),V'.2) _:=h.put d h1<|.inr ⟨m,by lia⟩;rw[vo d,h.bd]at h';rw[h.bd];exact h'
   .have l:=aI hi;have es:part.getD a mw=part[a]:=by rw[cH,l];rfl
    rw[es];exact⟨_,r.st (.act d t l λ_=>rfl),(h.both g t l d h1 f).2⟩
 | @oC c n x num h1 v _ _=>
  obtain⟨z,_⟩|⟨p,q,rg,d,i,j⟩:=h.ck c
  .rw[h1]at z;cases z
  .rw[h1]at i;cases i;cases v
theorem Rl.new:Rl ps rows (uj<|Cl ps rows) (uj ps):=by
 refine⟨xz,λc=>?_⟩;unfold uj;rw[cF,cF];rcases h:ps[c]? with _|p
 ·exact .inl ⟨by rw[uZ (by rw[GU];exact xg.mp h)];rfl,xz⟩
 exact .inr ⟨0,0,_,xz,by rw[C8 h];rfl,.inl<|by rw[<-xS (part:=p)<|sC ps rows c];rfl⟩
theorem Rl.fwd(g:cW ps)(h:eG H_ ps V):∃V',eG H_ (Cl ps rows) V'/\Rl ps rows V' V:=by
 induction h with
 | new=>exact⟨_,.new,.new⟩
 | st r s ih=>
  obtain⟨V',a,h⟩:=ih;exact ai3 g h a (r.ok g) s
theorem Rl.bwd(g:cW ps)(h:eG H_ (Cl ps rows) V'):∃V,eG H_ ps V/\Rl ps rows V' V:=by
 induction h with
 | new=>exact⟨_,.new,.new⟩
 | st r s ih=>
  obtain⟨V,a,h⟩:=ih;exact ai4 g h a s
theorem Rl.end(h:Rl ps rows V' V):AL V'=AL V/\(Ig (Cl ps rows) V'↔Ig ps V):=by
 refine⟨?_,λa c x part h1 i=>?_,λa c x l h1 k=>?_⟩
 .unfold AL;rw[h.bd]
  congr 3
  refine JW λc=>?_;rw[cF,cF];obtain⟨z,y⟩|⟨p,q,rg,d,g,_⟩:=h.ck c
  .rw[z,y]
  .rw[d,g];rfl
 .obtain⟨_,z⟩|⟨p,q,rg,d,g,j⟩:=h.ck c
  .rw[h1]at z;cases z
  .rw[h1]at d;cases d;refine⟨?_,xz⟩;have nd:=sC ps rows c;have e:=(a c _ _ g<|C8 i).1;rw[xS nd]at e;have e:q=nP (Lk ps rows c) part.length:=e;have hn:=pq nd p;have n:=pq nd part.length;obtain z|z|z:=tN p _
   .have:=vP nd (show p+1<=part.length from z);obtain f|⟨m,f⟩:=j
    .lia
    .rw[eT m]at hn;lia
   .exact z
   .have:=vP nd z;rcases j with f | ⟨m,f⟩ <;> lia
 .obtain⟨part,i,rfl⟩:=Dc k;obtain⟨z,_⟩|⟨p,q,rg,d,g,j⟩:=h.ck c
  .rw[h1]at z;cases z
  .rw[h1]at g;cases g;refine⟨?_,xz⟩;have e:=(a c _ _ d i).1;rw[xS<|sC _ _ c];subst e;obtain f|⟨m,_⟩:=j
   .exact f
   .have:=amw m;rw[cH,i]at this;exact f' this (lQ _)
end
def Rf(rows:List (List Nat))(ps:List Pt):Prop:=bw (λ(row:List Nat)(p:Pt)=>row.length=p.length+1/\∀x∈row,x<4096) rows ps
def ahc{K:u_}:W.kitAny K (.type W_) [.type "list",.type W_]=a_ true:=by
 unfold W.kitAny;rw[Ou,show (if (gC _==gC _)=c_ then a_ _ else if W.kitMeta _=c_ then (TV _).map (·.contains (.type "list")) else b_)=a_ d_ by decide +kernel];unfold W.kitAny;rw[Ou,eT dk]
def Z7:Sp:=λvs H Q _=>∃a xs,vs=[.ref a,.int (xs.length:Nat)]/\H a=a_ (.tup xs)/\∀H',ae H H'->Q (.bl c_) H'
def aoB:aX ["thing","length"] ["thing","length"] (aM Nf):=aZ
def al6(F:aQ K "has_length" "has_length" Nf f fd)(B:Bl mg)(b:mg "list"=b_):aG P w K mg gW aF 1 f fd ["thing","length"] Z7:=by
 refine F.ok aoB λaH A _ s H vs Q E e h=>?_;refine fh h λa xs c ha k=>?_;subst c;refine⟨_,ax<|aR<|sr (bC afj xz B.ir iO<|aa (pv 0)<|aa (dR<|aa (nW (v:=.ty _) xz b tY xz)<|aa (nW (v:=.ty _) xz B.tuple iE xz) af) af)<|sk<|nU dM (bC ft xz B.len q_<|aa (pv 0) af) (pv 1)<|bR _,?_⟩;refine⟨_,xz,by decide,λq d=>?_⟩;have s1:=ay (o:=.tup [.ty "list",.ty W_]) (ae.refl H) d;refine⟨.ref a,q,_,_,_,_,xz,ao,.tup<|s1 _ _ ha,ahc,_,xz,j' ⟨_,xz,a,xs,xz,.inr<|aq.of<|s1 _ _ ha,_,xz,xz,?_⟩⟩;rw[fC rfl];exact k _ s1
def Z5:Sp:=λvs H Q _=>∃n:Nat,vs=[nV n]/\n<4096/\Q (.bl c_) H
def aoA:aX ia ia (aM NZ):=aZ
def al4(F:aQ K "is_set_of_names" "is_set_of_names" NZ f fd)(C:Cn mg)(a:Dp P w K mg gW 1 ac1 ia Gd):aG P w K mg gW aF 2 f fd ia Z5:=by
 refine F.ok aoA λaH A _ s H vs Q E b h=>?_;refine a9 h λn c hn k=>?_;subst c;obtain⟨g,d,rN⟩:=C.names;refine⟨_,ax<|aR<|sr (bA a b xz<|aa (pv 0) af)<|sk<|Wl C0 vO ar (pv 0)<|aS Of ar<|eW xz d rN,⟨_,xz,nV n,"int",xz,xz,_,xz,j' ?_⟩⟩;refine⟨_,xz,_,_,xz,xz,_,xz,bj (λh=>⟨_,_,xz,xz,⟨qc,qc,qc⟩,_,_,xz,xz,?_⟩) λh=>f' (xt n) h⟩;have e:decide ((n:Int)<1*2^(12:Int).toNat)=true:=fC (by lia);show Q (.bl<|decide<|(n:Int)<1*2^(12:Int).toNat) H;rw[e];exact k
def Z6:Sp:=λvs H Q _=>∃(v x:V)(ps:List Pt)(rows:List (List Nat)),vs=[v,x]/\iq H v ps/\cW ps/\AO H x rows/\Rf rows ps/\∀H',ae H H'->Q (.bl c_) H'
def P9:aX [P_,"paper",X_,L_] [P_,"paper"] (aM Me):=aZ
def ags:(ia:List d0).Nodup:=dk
def al5(F:aQ K "has_size" "has_size" Me f fd)(B:Bl mg)(M:Dp P w K mg gW 1 "has_length" ["thing","length"] Z7)(DI:Dp P w K mg gW 2 "is_set_of_names" ia Z5):aG P w K mg gW aF 3 f fd [P_,"paper"] Z6:=by
 refine F.ok P9 λaH A _ s H vs Q E O h=>?_
 obtain⟨v,x,ps,rows,ab,G,R,hx,S,k⟩:=h;subst ab;obtain⟨a,l,rfl,ha,G⟩:=G;obtain⟨b,us,rfl,I,T⟩:=hx;have U:=O.mono (show 1<=2 by decide);have hlen:l.length=ps.length:=r_ G;have wO:us.length=rows.length:=r_ T;have Jm:rows.length=ps.length:=r_ S;have hle:=R.le
 refine let d:TS:=_;let g:TS:=_;⟨_,au (bz (g7<|dg<|bA M U xz<|aa (pv 1)<|aa (bC ft xz B.len q_<|aa (pv 0) af) af) (ax<|aR iF) bQ) (pR g (au (jV jA xz (Nm ni xz B.zip<|aa (pv 0)<|aa (pv 1) af) (lX xz<|ff (bo (i:=2) P9.nd xz<|aL xz)<|ff (bo (i:=3) P9.nd xz<|aL xz) lV) (pR d (ax (bz (PW.pt (pw_or (g7<|dg<|bA M U xz<|aa (pv 3)<|aa (aS gE (bC ft xz B.len q_<|aa (pv 2) af) ar) af) (pw_or1 (g7 (dg (bC (Ab xz) xz B.all Cj (aa (dZ (N:=["thing"]) (idx:=[]) xz (cB.of<|by kernel_rfl) (eD<|bg _) (nZ<|pv 3) (λ_ _ _ _=>bo (i:=0) ags xz (aL xz)<|.inr xz) (λ_ _ _ _=>eP)
     λ_ _ _ _=>bA DI O xz<|aa (pv 0) af) af)))))))
    (ax<|aR iF) bQ))))
  (ax<|aR iF))),?_⟩
 refine⟨_,xz,_,xz,a,l,xz,.inr<|aq.of ha,b,us,by show [V.ref b,V.int (l.length:Int)]=_;rw[show l.length=us.length by lia],I,λH1 s1=>⟨_,xz,eL ⟨_,xz,_,xz,[(d_,a),(d_,b)],[l,us],xz,xz,.cons (aq.of<|s1 _ _ ha)<|.cons (aq.of<|s1 _ _ I) .nil,su (n:=l.length) (λj σ H'=>∃r t,σ=[a_ (.ref a),a_<|.ref b,r,t]/\ae H H') ⟨b_,b_,xz,s1⟩ ?_ ?_ ?_ ?_⟩⟩⟩
 .rintro j σ u W ⟨r,t,rfl,s2⟩;exact⟨[l,us],[l[j],us[j]' li],.cons (aq.of<|s2 _ _ ha)<|.cons (aq.of<|s2 _ _ I) .nil,.cons (aI W)<|.cons (aI li) .nil⟩
 .rintro σ u ⟨r,t,rfl,s2⟩;exact⟨_,_,l,xz,aq.of<|s2 _ _ ha,aw _⟩
 .rintro j σ u W ⟨r,t,rfl,s2⟩ z H3 ⟨p,_,wV,ez,L,RG⟩;subst ez;subst L;obtain⟨x1,y1,rfl,du,oN⟩:=XY<|RG _<|.cons (aq.of<|s2 _ _ ha)<|.cons (aq.of<|s2 _ _ I) .nil;obtain⟨part,X,y,Y,rfl,wU,tx⟩:=Paired.at' G du;obtain⟨row,bE,c,rfl,C⟩:=Paired.at' T oN;obtain⟨part2,Z,gZ,kj⟩:=Paired.at' S bE;rw[X]at Z;cases Z;have hql:Y.length=part.length:=r_ tx;have dm:=(R.part part<|a8 X).1;have J:=ay (o:=.tup [.ref y,.ref c]) s2 wV;refine⟨p,[.ref y,.ref c],xz,aq.of ao,xz,.ref y,[.ref c],xz,.ref c,[],xz,xz,?_⟩;generalize dc u p (.tup [.ref y,.ref c])=H4 at J;refine⟨_,xz,_,xz,y,Y,xz,.inr<|aq.of<|J _ _ wU,_,_,xz,xz,c,row.map nV,?_,J _ _ C,λH5 s5=>⟨_,xz,eL ?_⟩⟩
  .rw[aA,gZ,hql];rfl
  have D:=J.gw s5;refine⟨_,xz,c,xz,⟨_,aq.of<|D _ _ C⟩,dX (n:=row.length) (λi m H'=>H'=H5/\m=(row.take i).map λ_=>V.bl c_) ?_ ⟨xz,xz⟩ ?_ ?_ ?_ ?_ ?_⟩
  .exact bL (bq li)
  .rintro i m H' ⟨_,e⟩;rw[e,aA,fJ];lia
  .rintro i m H' hi ⟨rfl,_⟩;exact⟨_,nV row[i],aq.of<|D _ _ C,by rw[cF,aI hi];rfl⟩
  .rintro m H' ⟨rfl,_⟩;exact⟨_,aq.of<|D _ _ C,by rw[aA];exact aw _⟩
  .rintro i m H' hi ⟨rfl,e⟩ z dQ ⟨L,hz⟩;subst L;have cU:=hz _<|aq.of<|D _ _ C;rw[cF,aI hi]at cU;cases cU;refine⟨_,xz,row[i],xz,kj _<|pe hi,xz,?_⟩;rw[iN,aI hi,Ts,dC,<-e];rfl
  rintro m H' ⟨rfl,e⟩;rw[jl<|aw _]at e;refine⟨by rw[e,aA];exact bL<|bq li,λq hq=>⟨q,row.map λ_=>c_,xz,ag.of (by rw[ao,e,i7];rfl),_,xz,?_⟩⟩;have e2:(row.map λ_=>c_).all id=true:=by simp
  rw[e2];exact eL ⟨_,_,xz,ay D hq⟩
 rintro σ u ⟨r,t,rfl,s2⟩;exact k u s2
def agX(F:uu K "fault" "fault" CJ f fd L_):dL K fd js []:=by
 refine xD F.ex λoc od T kV doc pm an aH ct iK d=>Fz d λc1 d1 n1 oK tk d lk i g=>?_;subst d;intro s us h e;obtain⟨a,b,c,z,_⟩:=(nn<|by rw[nK]at e;exact e);subst z;exact W.binds_K h xz g xz xz xz
def CU(ps:List Pt)(c i:Nat):Tl:=(ps.getD c []).getD i (M_,[])
def HX(ps:List Pt)(a:Bool)(rows:List (List Nat))(c i:Nat):Prop:=HY (kL ps c) a (CU ps c i) i<|rows.getD c []
def HW(ps:List Pt)(a:Bool)(rows:List (List Nat))(c:Nat):Prop:=∀i,i<(ps.getD c []).length->HX ps a rows c i
def am0(v:V)(p:Prop):Prop:=v=.aO/\p\/∃a,v=.ref a
def mI:Sp:=λvs H Q _=>∃(v x:V)(ps:List Pt)(rows:List (List Nat))(kd:d0),vs=[v,x,.str kd]/\iq H v ps/\cW ps/\AO H x rows/\Rf rows ps/\∀a H',ae H H'->am0 a (∀c,c<ps.length->HW ps (decide<|kd = l_) rows c)->Q a H'
def yA:aX [P_,"paper",Z_,"foreign",an3,X_,T_,at0,"found"] js (aM CJ):=aZ
def aoI(T:kc K mg t u)(F:uu K "fault" "fault" CJ f fd L_)(jy:mg at5 = b_)(DZ:Dp P w K mg gW 3 "has_size" [P_,"paper"] Z6)(DO:Dp P w K mg gW 7 "names_of_others" hX OO)(DA:Dp P w K mg gW 4 "fault_at" lp (Z8 t)):aG P w K mg gW aF 8 f fd js mI:=by
 have GS:aG P w K mg gW aF 4 t.fO t.qT iv (vv t):=xI T.st;refine F.ok yA λaH A _ s H vs Q E W h=>?_
 obtain⟨v,x,ps,rows,kd,rfl,X,Y,Eh,Z,k⟩:=h;obtain⟨a,D,rfl,ha,hv⟩:=id X;obtain⟨b,xs,rfl,hb,Ec⟩:=id Eh;have oQ:=W.mono (show 3<=7 by decide);have kj:=W.mono (show 4<=7 by decide);have hlen:D.length=ps.length:=r_ hv;refine let d:TS:=_;let e:TS:=_;let g:TS:=_;⟨_,au (bz (g7<|dg<|bA DZ oQ xz<|aa (pv 0)<|aa (pv 1) af) (ax<|aR<|dR<|aa cq af) bQ)<|pR g<|au (bG (i:=3) yA.nd xz (aL xz)<|bA DO W xz<|aa (pv 0) af)<|pR e<|au (jV jA xz (qm (b:=d_) xz jy<|aa (pv 0) af) (lX xz<|ff (bo (i:=4) yA.nd xz<|aL xz)<|ff (bo (i:=5) yA.nd xz<|aL xz) lV)<|ax<|jV jA xz (qm (b:=d_) xz jy<|aa (pv 5) af) (lX xz<|ff (bo (i:=6) yA.nd xz<|aL xz)<|ff (bo (i:=7) yA.nd xz<|aL xz) lV)<|pR d<|au (bG (i:=8) yA.nd xz (aL xz)<|bA DA kj xz<|aa (lB GS kj xz T.st.mO T.st.wB.kp T.st.bO .nil cX<|aa (pv 7) af)<|aa (pv 6)<|aa (aU dh (pv 1)<|pv 4)<|aa (aU bX (pv 3)<|pv 4)<|aa (pv 2) af)<|ax<|bz (cb aib (pv 8) oa<|bR _) (ax<|aR<|dR<|aa (aU dh (pv 8) ar)<|aa (pv 4)<|aa (pv 6)<|aa (aU dh (pv 8) ar) af) bQ)<|ax<|aR oa,⟨_,xz,_,xz,_,_,ps,rows,xz,X,Y,Eh,Z,λH1 s1=>⟨_,xz,eL ?_⟩⟩⟩;refine⟨_,xz,_,ps,xz,X.same s1,Y,?_⟩;rintro O H2 fs s2 _ hf⟨fl,fb⟩;have oM:=s1.gw s2;refine⟨_,xz,a,D,xz,aq.of<|oM _ _ ha,su (n:=D.length) (λj σ H'=>∃x4 x5 I J L,σ=[a_ (.ref a),a_<|.ref b,a_<|.str kd,a_<|.ref O,x4,x5,I,J,L]/\ae H H'/\H' O=a_ (.lst<|fs.map nV)/\∀c,c<j->HW ps (decide<|kd = l_) rows c) ⟨b_,b_,b_,b_,b_,xz,oM,hf,λc M=>f' M<|zH _⟩ ?_ ?_ ?_ ?_⟩
 .rintro j σ N hj ⟨_,_,_,_,_,_,l,_⟩;exact⟨D,D[j],aq.of<|l _ _ ha,aI hj⟩
 .rintro σ N ⟨_,_,_,_,_,_,l,_⟩;exact⟨D,aq.of<|l _ _ ha,aw _⟩
 .rintro j σ N hj ⟨x4,x5,I,J,L,rfl,l,Bs,gn⟩ z H4 ⟨r,y,S,ez,eH,oN⟩;subst ez;subst eH;have hy:=oN D<|aq.of<|l _ _ ha;obtain⟨part,c9,p,G,rfl,U,tx⟩:=Paired.at' hv hy;obtain⟨dm,mE⟩:=Y.part part<|a8 c9;have hql:G.length=part.length:=r_ tx;have ep:ps.getD j []=part:=by rw[cH,c9];rfl
  have hjp:j<ps.length:=om;have hxl:xs.length=rows.length:=r_ Ec;have asv:rows.length=ps.length:=r_ Z;have hxj:xs[j]?=a_ (xs[j]' li):=aI li;obtain⟨row,cG,rb,hxe,hys⟩:=Paired.at' Ec hxj;obtain⟨part2,eR,hyn,hya⟩:=Paired.at' Z cG;rw[c9]at eR;cases eR;have aqw:rows.getD j []=row:=by rw[cH,cG];rfl
  have apu:iI xs (j:Int)=a_ (.ref rb):=by rw[<-hxe];exact cI hxj
  have s4:=ay (o:=.tup [.int j,.ref p]) l S;have tG:=(ay (o:=.tup [.int j,.ref p]) (ae.refl N) S) _ _ Bs;refine⟨r,[.int j,.ref p],xz,aq.of ao,xz,.int j,[.ref p],xz,.ref p,[],xz,xz,?_⟩;generalize dc N r (.tup [.int j,.ref p])=H5 at s4 tG;refine⟨_,xz,p,G,xz,aq.of<|s4 _ _ U,su (n:=G.length) (λi σ H'=>∃I J L,σ=[a_ (.ref a),a_<|.ref b,a_<|.str kd,a_<|.ref O,a_<|nV j,a_<|.ref p,I,J,L]/\ae H H'/\H' O=a_ (.lst<|fs.map nV)/\∀c,c<i->HX ps (decide<|kd = l_) rows j c) ⟨I,J,L,xz,s4,tG,λc M=>f' M<|zH _⟩ ?_ ?_ ?_ ?_⟩
  .rintro i σ R hi ⟨_,_,_,_,B,_⟩;exact⟨G,G[i],aq.of<|B _ _ U,aI hi⟩
  .rintro σ R ⟨_,_,_,_,B,_⟩;exact⟨G,aq.of<|B _ _ U,aw _⟩
  .rintro i σ R hi ⟨y6,y7,y8,rfl,B,tE,QI⟩ z H7 ⟨r7,y7',Jf,ez,eH,cU⟩;subst ez;subst eH;obtain⟨td,kU,C,rfl,RO⟩:=Paired.at' tx<|cU G<|aq.of<|B _ _ U;have gt:=mE td<|a8 kU;have hip:i<part.length:=om;have est:CU ps j i=td:=by unfold CU;rw[ep,cH,kU];rfl
   have s7:=ay (o:=.tup [.int i,.ref C]) B Jf;have zg:=(ay (o:=.tup [.int i,.ref C]) (ae.refl R) Jf) _ _ tE;refine⟨r7,[.int i,.ref C],xz,aq.of ao,xz,.int i,[.ref C],xz,.ref C,[],xz,xz,?_⟩;generalize dc R r7 (.tup [.int i,.ref C])=H8 at s7 zg;refine⟨_,xz,C,td.1,td.2.map λ(n:Nat)=>V.int (n:Int),xz,s7 _ _ RO,xK gt,⟨by rw[aA];have:=gt.len;omega,λy hy=>?_⟩,λz dx H9 s9 _ hz=>?_⟩
   .obtain⟨n,_,rfl⟩:=b8.mp hy;exact⟨_,xz⟩
   have yS:=s7.gw s9;have hjf:j<fs.length:=om;refine⟨_,xz,_,xz,_,xz,b,_,_,_,xz,xz,aq.of<|yS _ _ hb,apu,_,xz,_,xz,O,_,_,_,xz,xz,ag.of<|s9 _ _ zg,vK hjf,_,xz,⟨.ref z,td,part.length,i,rb,row,fs.getD j 0,kL ps j,kd,xz,⟨z,C,dx,xz,hz⟩,gt,.inr<|yS _ _ hys,li,λa ha=>by have:=Pd gt hip a ha;lia,hya,λm hm=>?_,λv' H10 s10 hat=>?_⟩⟩
   .rw[fb j hjp m,fC hm,rQ]
   have aaH:=yS.gw s10;obtain⟨rfl,hat⟩|⟨wd,n,q,rfl,hq⟩:=hat
   .refine⟨_,xz,xz,_,xz,eL ⟨_,_,_,xz,aaH,s10 _ _<|s9 _ _ zg,λc M=>?_⟩⟩
    by_cases ec:c<i
    .exact QI c ec
    .have:c=i:=om;subst this;unfold HX;rw[est,aqw];exact hat
   refine⟨_,xz,xz,_,xz,j' ?_⟩;exact⟨_,xz,q,_,_,.str wd,xz,xz,aq.of hq,cI (j:=0) xz,_,xz,_,xz,_,xz,q,_,_,nV n,xz,xz,aq.of hq,cI (j:=1) xz,by show 4<=bc;decide,λr0 S=>k (.ref r0) _ (ay aaH S)<|.inr ⟨r0,xz⟩⟩
  rintro σ R ⟨y6,y7,y8,rfl,B,tE,QI⟩;refine⟨_,_,_,_,_,xz,B,tE,λc M=>?_⟩
  by_cases ec:c<j
  .exact gn c ec
  .have:c=j:=om;subst this;exact λi hi=>QI i (by rw[ep]at hi;omega)
 rintro σ N ⟨x4,x5,I,J,L,rfl,l,Bs,gn⟩;exact k .aO N l<|.inl ⟨xz,λc M=>gn c om⟩
def afm(s:Tl)(rg:List Int)(i:Nat):dH s rg i∈oz s i:=by
 unfold dH oz
 by_cases h:s.1 = O_
 .rw[eT h]
  split
  .simp
  simp
 rw[eN h,eN λz=>h z.1];simp
def Wb{sz n:Nat}(g:bu sz s)(z:s.1 = K_)(e:s.2.getD 0 0=n):setB s=a_ n:=by
 obtain⟨a,r,rfl,_⟩:=(vw g).1 z;rw[set_set];exact gv a_ e
def aeU{sz:Nat}(g:bu sz s)(z:s.1 = J_):mf s=a_ (s.2.getD 1 0):=by
 obtain⟨r,n,rfl,_⟩:=(vw g).2.1 z;rw[FA];rfl
def aet{sz n:Nat}(g:bu sz s)(h:s.1 = K_/\s.2.getD 0 0=n\/s.1 = I_/\s.2.getD 1 0=n):oq s=a_ n:=by
 obtain⟨z,e⟩|⟨z,e⟩:=h
 .obtain⟨a,r,rfl,_⟩:=(vw g).1 z;rw[Wa];exact gv _ e
 obtain⟨r,a,rfl,_⟩:=(vw g).2.2 z;rw[Vg];exact gv _ e
def Yb(g:cW ps)(h:Sh ps c n):kL ps c n=true:=by
 obtain⟨d,p,s,hd,a,b,e⟩:=h;unfold kL;rw[TJ];refine⟨d,?_,by rw[fT hd];rfl⟩;unfold nz;rw[jB,mU];refine⟨(b0.mp a).1,?_⟩;unfold vN;rw[TJ];refine⟨s,?_,fC<|aet ((g.part p<|a8 a).2 s b) e⟩;rw[cH,a];exact b
def Wm(h:n-(n &&& (1 <<< k))=0)(b:n.testBit m=c_):m=k:=by
 have:=L5.without.mp h m b;rw[L5.Nu]at this;exact(fi this).gx
def Xj(h:(b&&c)=d_)(a:b=c_):c=false:=by rw[a,rQ]at h;exact h
def Rb(rows:List (List Nat))(c i m:Nat):Prop:=((rows.getD c []).getD i 0).testBit m=c_
def C3{rows:List (List Nat)}{c i:Nat}(g:cW ps)(M:sQ rows ps)(a:ps[c]?=a_ p)(d:p[i]?=a_ s):HC (rows.getD c []) p/\bu p.length s:=by
 have e:=(b0.mp a).1;have f:=r_ M;obtain⟨h,b,hm⟩:=Paired.at' M<|aI _;rw[a]at b;cases b;rw[cH,aI (show c<rows.length by lia)];exact⟨hm,(g.part p<|a8 a).2 s<|a8 d⟩
def ZL{rows:List (List Nat)}{c i m:Nat}(g:cW ps)(M:sQ rows ps)(rg:List Int)(f:ps[c]?=a_ p)(a:p[i]?=a_ s)(h:s.1 = K_/\s.2.getD 0 0=m\/gH s=d_/\Rb rows c i m):Rb rows c (dH s rg i) m:=by
 obtain⟨⟨_,cl,_⟩,d⟩:=C3 g M f a;refine cl i _ (b0.mp a).1 (by rw[WV,a];rfl) _ (afm s _ i) m ?_;rw[L5.ad9];obtain⟨z,e⟩|⟨k,b⟩:=h
 .exact⟨(Wc d z).2,.inr<|Wb d z e⟩
 exact⟨k,.inl b⟩
def Zv{sz n m:Nat}(g:bu sz s)(z:s.1 = J_)(a:ma s n f=d_)(b:f (s.2.getD 1 0)=c_)(c:n.testBit m=c_):m=s.2.getD 1 0:=by
 unfold ma at a;rw[aeU g z]at a;have:=Xj a b;refine Wm (tK λy=>?_) c;rw[fC y]at this;cases this
def ahW{ps:List Pt}{rows:List (List Nat)}{kd:d0}(g:cW ps)(M:sQ rows ps)(F:∀c,c<ps.length->HW ps (decide<|kd = l_) rows c):yp kd ps (Rb rows):=by
 have at':∀{c i:Nat}{p:Pt}{s:Tl},ps[c]?=a_ p->p[i]?=a_ s->HY (kL ps c) (decide<|kd = l_) s i (rows.getD c []):=λ{c i p s}a b=>by
  have f:ps.getD c []=p:=by rw[cH,a];rfl
  have h:=F c (b0.mp a).1 i<|f▸(b0.mp b).1;have es:CU ps c i=s:=by unfold CU;rw[f,cH,b];rfl
  unfold HX at h;rw[es]at h;exact h
 refine⟨λc p i s rg m a b h=>ZL g M _ a b h,λc p i s m a b z j d=>Zv (C3 g M a b).2 z (at' a b).1 (Yb g j) d,λk c p i s m a b z d=>?_⟩;have e:=(at' a b).2.1;unfold yl at e;rw[Wb (C3 g M a b).2 z rfl]at e;have:=Xj e<|fC k;refine Wm (tK λy=>?_) d;rw[fC y]at this;cases this
section
variable{kd:d0}{ps:List Pt}{R:Nat->Nat->Nat->Prop}{k k':Nat}{d:ci}
def afa(h:Au S0 n j)(f:¬n<(aN S0 j).length):(aN S0 j).length<=j:=tK λz=>h.2 ⟨li,li⟩
def Ob{V:Vw}(h:eG kd ps V):V.1.length=ps.length:=by
 induction h with
 | new=>exact aA ..
 | st _ s ih=>
  rcases s with _|_;exact(gL ..).gw ih;exact(gL ..).gw ih
def ag2(g:cW ps)(h1:k<=14000)(h2:k'<=14000)(b:(aN (cg H_ ps) k).length<=k)(c:(aN (cg L_ ps) k').length<=k')(h:d∈fv (aN (cg H_ ps) k)):d∈fv (aN (cg L_ ps) k'):=by
 obtain⟨V,r,a,e⟩:=(qt g h1 b).mp h;exact(qt g h2 c).mpr ⟨V,Nn g r,a,e⟩
def afc(g:cW ps)(h1:k<=14000)(h2:k'<=14000)(b:(aN (cg L_ ps) k).length<=k)(c:(aN (cg l_ ps) k').length<=k')(h:d∈fv (aN (cg L_ ps) k)):d∈fv (aN (cg l_ ps) k'):=by
 obtain⟨V,r,a,e⟩:=(qt g h1 b).mp h;exact(qt g h2 c).mpr ⟨V,Wh r,a,e⟩
def afb(g:cW ps)(b:kd = L_\/kd = l_)(F:yp kd ps R)(h1:k<=14000)(h2:k'<=14000)(f:(aN (cg kd ps) k).length<=k)(i:(aN (cg H_ ps) k').length<=k')(h:d∈fv (aN (cg kd ps) k)):d∈fv (aN (cg H_ ps) k'):=by
 obtain⟨V,r,a,e⟩:=(qt g h1 f).mp h;refine(qt g h2 i).mpr ⟨V,Vn g b F r λx j=>?_,a,e⟩;obtain⟨c,l,ex⟩:=kY j;have m:=Ob r;exact(a c x _ (by rw[aI l,ex])<|aI (show c<ps.length by lia)).2
end
section
variable{ps:List Pt}{rows:List (List Nat)}{c n:Nat}
def agy{sz:Nat}(nd:ls.Nodup)(a:nP ls sz<=120)(g:bu sz s):bu (nP ls sz) (eK ls s):=by
 by_cases z:s.1 = O_
 .obtain⟨r,q,rfl,h⟩:=zV g z;rw[Ml];have:=vP nd h;cases g with
  | skip _ _ h1 h2 h3=>exact .skip r _ h1 this (dq this a)
 rw[xY z];exact g.mono<|E9 _ _
def aj5(nd:ls.Nodup):nP ls p<=2*p:=by
 induction p with
 | zero=>rw[<-xS (part:=[]) nd];exact aw _
 | succ p ih=>
  rw[pq nd]
  split <;> lia
def XM(g:cW ps)(h:∀p∈ps,p.length<=60):cW (Cl ps rows):=by
 refine⟨by rw[GU];exact g.ne,by rw[GU];exact g.le,λk a=>?_⟩;obtain⟨c,l,rfl⟩:=kY a;obtain⟨p,b,e⟩:=Dc<|aI _;have hm:=a8 b;have nd:=sC ps rows c;have m:=h p hm;have h2:=aj5 (p:=p.length) nd;rw[e,xS nd];refine⟨li,λs' d=>?_⟩;obtain⟨j,f,rfl⟩:=kY d;obtain⟨q,i,⟨_,_,e⟩ | ⟨_,e⟩⟩:=Gq nd<|aI f
 .rw[e];exact .clear
 rw[e,cH,aI i];exact agy nd li<|(g.part p hm).2 _<|pe _
def alM(h:Sh (Cl ps rows) c n):Sh ps c n:=by
 obtain⟨d,i,s',hd,a,b,k⟩:=h;obtain⟨p,f,rfl⟩:=Dc a;obtain⟨j,g,rfl⟩:=kY b;obtain⟨q,l,⟨_,_,e⟩ | ⟨_,e⟩⟩:=Gq (sC ps rows d)<|aI g
 .rw[e]at k;rcases k with ⟨z,_⟩ | ⟨z,_⟩ <;> exact f' z dk
 have es:p.getD q mw=p[q]:=by rw[cH,aI _];rfl
 refine⟨d,p,p[q],hd,f,pe _,?_⟩;rw[e,es]at k
 by_cases z:(p[q]).1 = O_
 .rw[FZ,z]at k;rcases k with ⟨z,_⟩ | ⟨z,_⟩ <;> exact f' z dk
 rw[xY z]at k;exact k
def ai6(g:cW ps)(M:sQ rows ps):yp L_ (Cl ps rows) λc i m=>∃p,i=nP (Lk ps rows c) p/\Rb rows c p m:=by
 have at':∀{c i:Nat}{d:Pt}{s':Tl},(Cl ps rows)[c]?=a_ d->d[i]?=a_ s'->s'=((M_ : d0),([]:List Nat))\/∃(p:Pt)(q:Nat)(s:Tl),ps[c]?=a_ p/\p[q]?=a_ s/\s'=eK (Lk ps rows c) s/\i+1=nP (Lk ps rows c) (q+1)/\∀m,(∃p,i=nP (Lk ps rows c) p/\Rb rows c p m)->q∉Lk ps rows c/\Rb rows c q m:=λ{c i d s'}j l=>by
  obtain⟨p,b,rfl⟩:=Dc j;have nd:=sC ps rows c;obtain⟨q,A,⟨_,_,e⟩ | ⟨f,e⟩⟩:=Gq nd l
  .exact .inl e
  have a:=aI A;refine .inr ⟨p,q,p[q],b,a,by rw[e,cH,a];rfl,f,λm⟨t,E,o⟩=>?_⟩;have hn:=pq nd q;have F:=pq nd t;obtain z|rfl|z:=tN q t
  .have:=vP nd z;lia
  .refine⟨λm=>?_,o⟩;rw[eT m]at hn;lia
  .have:=vP nd z;lia
 refine⟨λc d i s' rg m j l h=>?_,λc d i s' m j l z u o=>?_,λz=>f' z dk⟩
 .obtain rfl|⟨p,q,s,b,a,rfl,f,k⟩:=at' j l
  .rcases h with ⟨z,_⟩ | ⟨z,_⟩ <;> exact f' z dk
  have v:=(C3 g M b a).2;rw[XQ _ v rg f];refine⟨_,xz,ZL g M _ b a ?_⟩
  by_cases z:s.1 = O_
  .obtain⟨r,q,rfl,_⟩:=zV v z;obtain⟨z,_⟩|⟨_,h⟩:=h
   .rw[FZ]at z;exact f' z (by show ¬(O_ : d0)=_;decide +kernel)
   exact .inr ⟨by show (decide ((O_ : d0) = I_)||decide ((O_ : d0) = M_))=d_;decide +kernel,(k m h).2⟩
  rw[xY z]at h;exact h.imp id λh=>⟨h.1,(k m h.2).2⟩
 obtain rfl|⟨p,q,s,b,a,rfl,f,k⟩:=at' j l
 .exact f' z dk
 rw[FZ]at z;have B:¬s.1 = O_:=λy=>f' (z.gx.gw y) dk;rw[xY B]at u ⊢;obtain⟨C,D⟩:=k m o;have x:ps.getD c []=p:=by rw[cH,b];rfl
 refine Zv (C3 g M b a).2 z ?_ (Yb g<|alM u) D;cases e:ma s ((rows.getD c []).getD q 0) (kL ps c)with
 | false=>rfl
 | true=>
  refine f' (jB.mpr ⟨mU.mpr ?_,?_⟩) C
  .rw[x];exact(b0.mp a).1
  rw[x,cH,a];exact e
end
def XE{rows:List (List Nat)}{k k':Nat}(g:cW ps)(e:∀p∈ps,p.length<=60)(M:sQ rows ps)(h1:k<=14000)(h2:k'<=14000)(f:(aN (cg H_ ps) k).length<=k)(i:(aN (cg L_<|Cl ps rows) k').length<=k'):d∈fv (aN (cg H_ ps) k)↔d∈fv (aN (cg L_<|Cl ps rows) k'):=by
 have g':=XM (rows:=rows) g e;rw[qt g h1 f,qt g' h2 i];constructor
 .rintro⟨V,r,a,rfl⟩;obtain⟨V',b,h⟩:=Rl.fwd g r;exact⟨V',Nn g' b,h.end.2.mpr a,h.end.1.gx⟩
 rintro⟨V',b,a,rfl⟩;have m:=Ob b
 obtain⟨V,r,h⟩:=Rl.bwd g (Vn g' (.inl xz) (ai6 g M) b λx j=>by
  obtain⟨c,l,ex⟩:=kY j;exact(a c x _ (by rw[aI l,ex])<|aI (show c<(Cl _ _).length by lia)).2)
 exact⟨V,r,h.end.2.mp a,h.end.1⟩
def GT(K:u_)(H:Hp)(x:V):Option (List ci)->Prop
 | none=>x=.aO
 | some es=>∃l a,x=.ref l/\H l=a_ (.lst a)/\fw K H a es/\∀d∈es,bZ 8 d=c_
def GT.keep{K:u_}(k:aB dE H H')(h:GT K H x o):GT K H' x o:=by
 rcases o with _|es;exact h;obtain⟨l,a,e,h1,h2,h3⟩:=h;exact⟨l,a,e,k.k _ _ (λz=>z) (λps z=>by cases z) h1,nO (TK.DQ k) h3 h2,h3⟩
def F2(h:bZ 8 d=c_):shaped d=true:=by
 obtain⟨a,b⟩:=C4 h;unfold shaped;rw[a,fC li];rfl
def adn(h:∀e∈es,bZ 8 e=c_):shaped (.list es)=true:=by
 have:rG es=c_/\vd es<=9:=by
  induction es with
  | nil=>exact⟨xz,bg _⟩
  | cons e es ih=>
   obtain⟨a,b⟩:=C4<|h e bV;obtain⟨c,d⟩:=ih λx f=>h x<|cu _ f;rw[rG,vd,a,c];exact⟨xz,Nat.max_le.mpr ⟨b,d⟩⟩
 unfold shaped;simp[xx,BM,this.1];lia
def YU{es:List ci}(h:∀e∈es,bZ 8 e=c_)(hd:bZ 8 d=c_)(hm:d∈es):(es.any λe=>lj e d)=true:=
 TJ.mpr ⟨d,hm,by rw[ZI hd hd];exact fC xz⟩
def aiA(K:u_)(a:X.A.units+65<cLine)(h:autoParam (X.K=K) am):dP X (g6 .NotIn) (Qh K c_):=by subst h;exact Vr a
section
variable{PT:e_}
def VX(K:u_):Sp:=λvs H Q _=>∃x y o o',vs=[x,y]/\GT K H x o/\GT K H y o'/\(∀es a,o=a_ es->o'=a_ a->es.length<=1000/\∀d∈es,d∈a)/\∀H',ae H H'->Q (.bl c_) H'
def aeA:aX ji ji (aM Md):=aZ
def amn:(["_law_more","_law_end"]:List d0).Nodup:=dk
def adV(F:aQ K "_law_within" "_law_within" Md f fd):aG P w K mg gW aF 1 f fd ji (VX K):=by
 refine F.ok aeA λaH A _ s H vs Q E B h=>?_
 obtain⟨x,y,o,o',rfl,c,k,j,q⟩:=h;have m:=Ag B;have C:=nJ (EZ (show 64<=65 by decide) _) m
 refine let a:TS:=_;⟨_,au (bz (PW.pt<|pw_or (An<|xW<|pv 0)<|pw_or1<|An<|xW<|pv 1) (ax<|aR iF) bQ) (pR a (ax (aR (nU (af3 C) (dZ (N:=["_law_more","_law_end"]) (idx:=[1]) xz (cB.of<|by kernel_rfl) (eD<|aw _) (lA<|pv 0) (λ_ _ _ _=>bo (i:=1) amn xz (aL xz)<|.inr xz)
   (λ_ _ _ _=>vy<|cb (aiA K m) (pv 1) (pv 0) xz) λ_ _ _ _=>pv 1) (eX af)<|bR _)))),?_⟩
 rcases o with _|es;exact⟨_,xz,_,xz,bj (λ_=>q _<|ae.refl _) (f' c)⟩
 obtain⟨l,D,rfl,g,p,G⟩:=c;refine⟨_,xz,_,xz,bj (λz=>by cases z) λ_=>?_⟩;cases o' with
 | none=>exact⟨_,xz,_,xz,bj (λ_=>q _<|ae.refl _) λz=>f' k z⟩
 | some cE=>
  obtain⟨I,J,rfl,L,M,t⟩:=k;obtain⟨V,j⟩:=j es cE xz rfl;refine⟨_,xz,_,xz,bj (λz=>by cases z) λ_=>?_⟩;have W:=vx p;have X:=gf;refine⟨_,xz,l,xz,⟨_,ag.of g⟩,?_⟩;refine dX (n:=D.length) (λi ys H'=>H'=H/\ys=[]) li ⟨xz,xz⟩ ?_ ?_ ?_ ?_ ?_
  .rintro i ys H' ⟨_,rfl⟩;exact bg _
  .rintro i ys H' hi ⟨rfl,_⟩;exact⟨_,_,ag.of g,aI hi⟩
  .rintro ys H' ⟨rfl,_⟩;exact⟨_,ag.of g,aw _⟩
  .rintro i ys H' hi ⟨rfl,rfl⟩ x Y ⟨O,R⟩;subst O;have c:=R _<|ag.of g;obtain⟨d,hd,S⟩:=Paired.at' (LC p) c;have hm:=a8 hd;have u:=G d hm;refine⟨_,xz,_,xz,I,J,cE,d,xz,ag.of L,M,S,F2 u,λe T=>F2<|t e T,?_⟩;rw[eT xz,YU t u<|j d hm];exact⟨_,xz,xz,xz⟩
  rintro ys H' ⟨rfl,rfl⟩;refine⟨bg _,λr U=>⟨qc,λb v=>⟨r,b,[],xz,xz,ay (ae.refl _) v _ _ ao,ao,q _<|ay (ay (ae.refl _) U) v⟩⟩⟩
def W4(K:u_):Sp:=λvs H Q _=>∃x y o o',vs=[x,y]/\GT K H x o/\GT K H y o'/\(∀es a,o=a_ es->o'=a_ a->es=a)/\Q (.bl c_) H
def afN:aX ji ji (aM Nd):=aZ
def aeO(F:aQ K "_law_alike" "_law_alike" Nd f fd):aG P w K mg gW aF 1 f fd ji (W4 K):=by
 refine F.ok afN λaH A _ s H vs Q E c h=>?_
 obtain⟨x,y,o,o',rfl,a,b,d,q⟩:=h;refine⟨_,ax<|aR<|OZ (Yk<|xW<|pv 0)<|OZ (Yk<|xW<|pv 1)<|sk<|nU (Yn<|nJ (EZ (show 64<=65 by decide) _)<|Ag c) (pv 0) (pv 1)<|bR _,?_⟩;cases o with
 | none=>exact⟨_,xz,_,xz,bj (λ_=>q)<|f' a⟩
 | some es=>
  obtain⟨l,n,rfl,e,g,i⟩:=a;refine⟨_,xz,_,xz,bj (λz=>by cases z) λ_=>?_⟩;rcases o' with _|j;exact⟨_,xz,_,xz,bj (λ_=>q) λz=>f' b z⟩;obtain⟨p,r,rfl,k,m,_⟩:=b;cases d es j rfl rfl;exact⟨_,xz,_,xz,bj (λz=>by cases z) λ_=>⟨_,xz,_,xz,ag1 (.lst (ag.of e) g) (.lst (ag.of k) m) (adn i) q⟩⟩
def ai0(g:cW ps)(d:k<=45)(a:S∈aN (cg kd ps) k):sG S/\∀mv∈gF S,sG (cV S mv):=by
 have qS:∀{n:Nat}{S:Mc},mz kd ps n S->n<64->sG S:=λh hn c b=>nJ (dq (h.W.wf.es c b) h.W.ac) hn;have f:=FN g li S a;exact⟨qS f li,λmv hm=>qS (f.mv li hm) li⟩
def WC(hn:n<64)(a:(aN S0 k).length<=n):(fv<|aN S0 k).length<64:=by
 unfold fv;rw[aA];exact nJ (dq (o7 _ _) a) hn
def ur(kd:d0)(ps:List Pt)(o:Option (List ci)):Prop:=∀es,o=a_ es->es.length<=1000/\es.Pairwise (λa b=>mx a b=c_)/\∃k,k<=14000/\(aN (cg kd ps) k).length<=k/\∀d,d∈es↔d∈fv (aN (cg kd ps) k)
def W0(K:u_)(PT:e_):Sp:=λvs H Q _=>∃v ps kd,vs=[v,.str kd]/\iq H v ps/\cW ps/\kindS kd/\b9 PT LP LQ H/\∀H' x o,aB dE H H'->b9 PT LP LQ H'->GT K H' x o->ur kd ps o->Q x H'
def Xa:aX ["_law_program_here","_law_kind","_law_told"] kX (aM NY):=aZ
def agg(F:aQ K "_law_ends" "_law_ends" NY f fd)(r:Dp P w K mg gW 11 "ends" [P_,Z_,"most"] (X9 K PT)):aG P w K mg gW aF 12 f fd kX (W0 K PT):=by
 refine F.ok Xa λaH A _ s H vs Q E t h=>?_
 obtain⟨v,ps,kd,rfl,u,g,m,lam,q⟩:=h;refine let a:TS:=_;⟨_,au (bG (i:=2) Xa.nd xz (aL xz)<|bA r t xz<|aa (pv 0)<|aa (pv 1)<|aa ar af)<|pR a<|au (bz (cb dM (aU dh (pv 2) ar) cq<|bR _) (ax<|aR oa) bQ)<|ax<|aR<|aU dh (pv 2) ar,⟨_,xz,_,xz,v,ps,kd,45,xz,u,g,m,li,lam,λk m _ S x=>ai0 g m x,λk _ n=>WC qc n,λj B p c o l2 b=>?_⟩⟩;unfold Ho at b
 by_cases z:45<(aN (cg kd ps) j).length
 .rw[eT z]at b;exact⟨_,xz,p,_,_,_,xz,xz,aq.of b,cI xz,xz,_,xz,bj (λ_=>q _ _ b_ o l2 xz λes e=>by cases e)<|f' xz⟩
 rw[eN z]at b;obtain⟨l,y,es,h1,_,h2,h3,h4,h5⟩:=b;have C:=c.le;have n:=WC qc (show (aN (cg kd ps) j).length<=45 by lia);refine⟨_,xz,p,_,_,_,xz,xz,aq.of h1,cI xz,xz,_,xz,bj (λz=>f' (V.str.inj z) dk) λ_=>⟨_,xz,p,_,_,_,xz,xz,aq.of h1,cI xz,q _ _ (a_ _) o l2 ⟨l,y,xz,h2,h3,λe c=>?_⟩ λD e=>?_⟩⟩
 .obtain⟨S,_,rfl⟩:=b8.mp<|h4.mem_iff.mp c;exact Aw 5 S
 cases e;exact⟨by rw[h4.length_eq];lia,h5,j,li,afa c z,λd=>h4.mem_iff⟩
end
def zY{K:u_}(k:aB dE H H')(h:ag K H a xs):ag K H' a xs:=by
 obtain (h|⟨o,h⟩)|h:=h
 .exact .inl (.inl<|k.k _ _ (λz=>z) (λps z=>by cases z) h)
 .exact .inl (.inr ⟨o,k.k _ _ (λz=>z) (λps z=>by cases z) h⟩)
 exact .inr h
def Fy(k:aB dE H H')(h:iq H v ps):iq H' v ps:=h.keep λb xs e=>k.k _ _ (λz=>z) (λps z=>by cases z) e
structure CI(t:bf)(C CT PT:e_)(kd:d0)(ps:List Pt)(H0:Hp)(m:e_)(A:MA)(H:Hp)(S:Mc)(n:Nat):Prop where
 M:bb t C CT H m A S
 F:mz kd ps n S
 R:eG kd ps (bT S)
 lam:b9 PT LP LQ H
 k:aB (cN m A) H0 H
section
variable{t:bf}{C CT PT:e_}{kd:d0}{ps:List Pt}{H0 H H':Hp}{m:e_}{A:MA}{S:Mc}{n:Nat}
def CI.pE(I:CI t C CT PT kd ps H0 m A H S n)(k:aB dE H H')(l:b9 PT LP LQ H'):CI t C CT PT kd ps H0 m A H' S n:=⟨I.M.pE k,I.F,I.R,l,I.k.gw<|k.mono λb z=>z.elim⟩
def CI.same(I:CI t C CT PT kd ps H0 m A H S n)(s:ae H H'):CI t C CT PT kd ps H0 m A H' S n:=I.pE (aB.of s)<|iD I.lam s
def CI.mv{mv:Mv}(g:cW ps)(I:CI t C CT PT kd ps H0 m A H S n)(hn:n<15000)(hm:mv∈gF S)(N:bb t C CT H' m A (cV S mv))(k:aB (cN m A) H H')(l:b9 PT LP LQ H'):CI t C CT PT kd ps H0 m A H' (cV S mv) (n+1):=by
 have F:=I.F;have st:=Vz F.W (F.kd▸(I.R.ok g)) hm;rw[F.kd,F.ps]at st;exact⟨N,F.mv hn hm,.st I.R st,l,I.k.gw k⟩
end
section
variable{t:bf}{C CT PT:e_}
def Y9(K:u_)(PT:e_):Sp:=λvs H Q _=>∃(a:e_)(ns:List Int)(v x:V)(ps:List Pt)(kd:d0)(o:Option (List ci)),vs=[v,.str kd,.ref a,x]/\ag K H a (ns.map V.int)/\ns.length<=63/\iq H v ps/\cW ps/\kindS kd/\b9 PT LP LQ H/\
 GT K H x o/\ur kd ps o/\∀H',aB dE H H'->b9 PT LP LQ H'->Q (.bl c_) H'
abbrev nmR:List d0:=["_law_program_here","_law_kind","_law_cells","_law_told","_law_machine",V_,"_law_moves","_law_registers"]
def CW:aX nmR lT (aM OT):=aZ
def aj7:(["_law_machine",at9]:List d0).Nodup:=dk
def aio(F:aQ K "_law_run" "_law_run" OT f fd)(B:Bw mg)(cM:gX K C)
  (mk:Mk K C fI) (GI:aG P w K mg gW aF 7 fI gK jp (Gf t C CT)) (Dh:mg "Machine"=a_ (.ref C)) (b3:dL K gK jp [])
  (DV:Mt P w K mg gW C 4 "moves" hF (Ge t C CT PT))
  (DDo:Mt P w K mg gW C 7 "do" [Y_,au2] (P5 t C CT PT))
  (DN:Mt P w K mg gW C 2 "ended" hF (MV t C CT))
  (DR:Mt P w K mg gW C 1 "registers" hU (NC t C CT)) (DB:Mt P w K mg gW C 1 "board" hF (MY t C CT)) :
  aG P w K mg gW aF 9 f fd lT (Y9 K PT):=by
 refine F.ok CW λaH Ar outer s H vs Q E Z h=>?_
 obtain⟨a,ns,v,x,ps,kd,o,rfl,hS,jO,hP,hg,lL,lam,hx,yy,q⟩:=h;have Ei:=Ag Z;have cG:=Z.mono (show 1<=8 by decide);have jN:=Z.mono (show 2<=8 by decide);have kj:=Z.mono (show 4<=8 by decide);have Jf:=Z.mono (show 7<=8 by decide)
 refine let g:TS:=_;let u:TS:=_;let y:TS:=_;let D:TS:=_;let G:TS:=_;let J:TS:=_;let O:TS:=_;⟨_,au (bG (i:=4) CW.nd xz (pC xz)<|pk mk GI Z xz Dh b3 .nil cX<|aa (pv 0)<|aa (pv 1) af) (pR O (au (jV jA xz (lA<|pv 2) (bo (i:=5) CW.nd xz<|aL xz)<|pR y<|au (bG (i:=6) CW.nd xz (aL xz)<|pA (pv 4) cM.cl DV kj)<|pR u<|ax<|bz (cb (af2<|nJ (EZ (show 64<=65 by decide) _) Ei) (pv 6) (eX af)<|bR _) (pR g<|ax<|eE<|jF (pv 4) cM.cl DDo Jf<|aa (aU bX (pv 6)<|aS eh (pv 5)<|bC ft xz B.len q_<|aa (pv 6) af) af) bQ) (pR J (au (bz (PW.pt<|pw_or (g7<|dg<|pA (pv 4) cM.cl DN jN)<|pw_or1<|An<|xW<|pv 3) (ax<|aR iF) bQ) (pR G (au (BQ (i:=7) (N:=["_law_machine",at9]) (idx:=[4]) CW.nd xz xz xz (cB.of<|by kernel_rfl) (eD<|aw _) (lu xz B.range<|aa (bC ft xz B.len q_<|aa (pv 0) af) af)
    (λ_ _ _ _=>bo (i:=1) aj7 xz (aL xz)<|.inr xz) (λ_ _ _ _=>eP) λ_ _ _ _=>fK (OL K) xz B.tuple iE<|aa (jF (pv 0) cM.cl DR cG<|aa (pv 1) af) af)
  (pR D<|ax<|aR<|nU (ajU Ei) (dR<|aa (fK kC xz B.tuple iE<|aa (pv 7) af)<|aa (fK kC xz B.tuple iE<|aa (pA (pv 4) cM.cl DB cG) af) af) (pv 3) xz))))))),?_⟩
 have hsz:=gf;refine⟨_,xz,_,xz,λm dx nm fE ne=>?_⟩;have nm2:dc H dx (.own m) m=none:=by rw[aj ne.gx];exact nm
 have sa:=ay (o:=.ins C dx []) (ay (ae.refl H) fE) nm2;have hm:dc (dc H dx<|.own m) m _ m=a_ (.ins C dx []):=ao;generalize dc _ m _=Hb at sa hm ⊢;refine⟨m,dx,v,ps,kd,xz,hm,hP.keep λb xs e=>sa _ _ e,hg,lL,λH1 A hD M L ev k1 fr=>⟨xz,?_⟩⟩;subst ev
 have fr0:∀b,cN m A b->H b=none:=λb hb=>by
  obtain e|e:=fr b hb
  .rw[e];exact nm
  exact sa.free e
 have Y:∀H2,aB _ _ _->aB dE H H2:=λH2 k=>⟨λb o h1 h2 e=>k.k b o (λz=>by rw[fr0 b z]at e;cases e) h2<|k1.k b o (λz=>by rw[z,nm]at e;cases e)<|sa _ _ e,λb e=>sa.free<|k1.t b<|k.t b e⟩;have I0:CI t C _ _ _ _ _ m A _ _ 0:=⟨M,⟨Oi hg,xz,xz⟩,by rw[LN];exact .new,YC k1 hm<|iD lam sa,aB.refl _⟩
 let W1:IV:=λi σ H'=>i<=ns.length/\∃S n z5 z6 z7,σ=[a_ (.ref A.pg),a_<|.str kd,a_<|.ref a,a_ x,a_<|.ref m,z5,z6,z7]/\CI t C CT PT kd ps H1 m A H' S n/\n<=i
 refine⟨_,xz,a,xz,⟨_,zY (Y _<|aB.refl _) hS⟩,su (n:=ns.length) W1 ⟨bg _,_,0,_,_,_,xz,I0,aw _⟩ ?_ ?_ ?_ ?_⟩
 .rintro i σ H' hi ⟨_,S,n,_,_,_,rfl,I,_⟩;exact⟨_,_,zY (Y _ I.k) hS,aI<|by rw[aA];exact hi⟩
 .rintro σ H' ⟨_,S,n,_,_,_,rfl,I,_⟩;exact⟨_,zY (Y _ I.k) hS,by rw[aA];exact aw _⟩
 .rintro i σ H4 hi ⟨_,S,n,z5,z6,z7,rfl,T,wW⟩ z H5 ⟨eH,hz⟩;subst eH;have hz:=hz _<|zY (Y _ T.k) hS;rw[cF,aI hi]at hz;cases hz;refine cy (id T.M.obj) λdx5 fs5 Bp G5=>vM xz Bp (G5.ms _ dk) ⟨m,A,S,xz,T.M,T.F.W.wf,T.lam,λH6 l ws k6 ao5 nl hl uI=>?_⟩;have U:=T.pE k6 ao5;refine⟨_,xz,qc,λle nle=>a9 (nw (o:=.lst []) nle) λH8 e8 s8 hle=>?_⟩;rw[e8];have X:=U.same s8;have Sm:=s8 _ _ hl;refine⟨l,le,ws,xz,xz,Sm,hle,_,xz,Ay (λhe=>?_) λ_=>⟨hi,S,n,_,_,_,xz,X,li⟩⟩;obtain⟨j,hj,ej⟩:=aiE ns[i] (abP.mpr he);have hwj:=aI hj;refine cy (id X.M.obj) λdx8 SK uP G8=>vM xz uP (G8.ms _ dk) (aD (xC uI hwj) λmv Bo ab=>aD ab λp ep hp=>?_);have fq:=a8 Bo;refine⟨_,xz,_,xz,_,xz,l,ws,xz,.inl<|ag.of Sm,_,_,xz,xz,(by lia),l,_,_,.ref p,xz,xz,ag.of Sm,(by rw[ej,<-ep];exact cI hwj),m,A,S,p,mv,hD,xz,X.M,L,X.F.W.wf,X.F.W.ovf li,X.lam,s8 _ _ hp,fq,λH9 M9 k9 ao4=>⟨hi,_,n+1,_,_,_,xz,X.mv hg li fq M9 k9 ao4,li⟩⟩
 rintro σ H5 ⟨_,S,n,z5,z6,z7,rfl,T,wW⟩;refine cy (id T.M.obj) λdx5 fs5 Bp G5=>vM xz Bp (G5.ms _ dk) ⟨m,A,S,xz,T.M,T.F.W.wf,λH6 s6=>⟨_,xz,?_⟩⟩;have U:=T.same s6;have Ee:=(hx.keep<|Y _ T.k).keep<|aB.of s6;rcases he:pB S with _|_;exact j'<|j'<|q _ (Y _ U.k) U.lam
 refine eL ?_;cases o with
 | none=>exact⟨_,xz,_,xz,bj (λ_=>q _ (Y _ U.k) U.lam)<|f' Ee⟩
 | some es=>
  obtain⟨l,zs,rfl,hl,hz,hk⟩:=Ee;refine⟨_,xz,_,xz,bj (λz=>by cases z) λ_=>?_⟩;obtain⟨_,_,k,hk1,Jk,iZ⟩:=yy es rfl;have fq:jf S∈es:=(iZ _).mpr<|(qt hg hk1 Jk).mpr ⟨bT S,T.R,by have:=(KY T.F.W.wf).mp he;rw[T.F.ps]at this;exact this,LB S⟩;have kk:=hk _ fq;have h4:=T.F.W.wf.four
  have EA:ps.length=S.ck.length:=by
   have:=Ob T.R;unfold bT at this;rw[aA]at this;lia
  obtain⟨pa,aT,ep,wU,zd⟩:=Fy (Y _ U.k) hP;have dm:=r_ zd;have key:∀{l:List Ck}{d:ci},d∈l.map i3->bZ 5 d=true:=λh=>by obtain⟨k,_,rfl⟩:=b8.mp h;exact Ax 4 k.rg
  refine⟨_,xz,pa,aT,by rw[ep],.inr<|aq.of wU,(aT.length:Nat),xz,li,li,F5 (K:=K) (ds:=S.ck.map i3) (by rw[aA];lia) li (λd hd=>key hd) (λi d H7 Q hd s7 c=>?_) λys H7 s7 r=>?_⟩
  .obtain⟨k,hk,rfl⟩:=GH hd;refine cy (id U.M.obj) λdx6 fs6 Sf G6=>?_;exact vM xz (s7 _ _ Sf) (G6.ms _ dk)<|vr xz ⟨m,A,S,i,k,xz,U.M.same s7,hk,λl hl=>⟨l,_,xz,.inl ⟨ag.of ao,λp hp=>c _ _ (ay (ay (ae.refl _) hl) hp)<|.tup (aq.of ao)<|Du k.rg⟩⟩⟩
  have jP:=vx r;rw[aA]at jP;refine⟨li,λlr nlr=>⟨_,xz,lr,ys,xz,.inl ⟨ag.of ao,λp hp=>?_⟩⟩⟩;have s2:=ay (o:=.tup ys) (ay (o:=.lst ys) (ae.refl H7) nlr) hp;have g2:dc (dc H7 lr<|.lst ys) p (.tup ys) p=a_ (.tup ys):=ao;have r2:=nO (TK.of s2) (λd hd=>key hd) r;generalize dc (dc H7 lr<|.lst ys) p (.tup ys)=H8 at s2 g2 r2 ⊢;have X:=U.same<|s7.gw s2;refine cy (id X.M.obj) λdx8 SK uP G8=>vM xz uP (G8.ms _ dk) ⟨m,A,S,xz,X.M,λl2 jP=>⟨l2,_,xz,.inl ⟨ag.of ao,λb hb=>⟨sl (n:=2),λr0 bE=>?_⟩⟩⟩⟩;have s3:ae H8 (dc (dc H8 l2<|.lst<|S.bd.map V.int) b<|.tup<|S.bd.map V.int):=ay (ay (ae.refl _) jP) hb;have g3:dc (dc H8 l2<|.lst<|S.bd.map V.int) b (.tup<|S.bd.map V.int) b=a_ (.tup<|S.bd.map V.int):=ao;generalize dc (dc H8 l2<|.lst<|S.bd.map V.int) b (.tup<|S.bd.map V.int)=H9 at s3 g3 bE ⊢;have s4:ae H9 (dc H9 r0<|.tup [.ref p,.ref b]):=ay (ae.refl _) bE;have yS:=(s7.gw s2).gw<|s3.gw s4;have de:eM K (dc H9 r0<|.tup [.ref p,.ref b]) (.ref r0) (jf S):=.tup (aq.of ao)<|.cons (.tup (aq.of<|(s3.gw s4) _ _ g2)<|nO (TK.of<|s3.gw s4) (λd hd=>key hd) r2)<|.cons (.tup (aq.of<|s4 _ _ g3)<|Du S.bd) .nil;have I9:=U.same yS;refine⟨_,xz,l,zs,es,jf S,xz,ag.of<|yS _ _ hl,nO (TK.of yS) hk hz,de,F2 kk,λe he=>F2<|hk e he,?_⟩;rw[eN dF,YU hk kk fq];exact q _ (Y _ I9.k) I9.lam
end
def agY{K:u_}(F:uu K "fault" "fault" CJ f fd L_):∃tk,dL K fd js [.str L_ tk]:=by
 refine xD F.ex λoc od T kV doc pm an aH ct iK c=>Fz c λc1 d1 n1 oK tk c lk i g=>?_;subst c;refine⟨tk,λs us h e=>?_⟩;have d:us.length=2:=by
  rw[cQ]at e;exact Nat.add_right_cancel e
 cases us with
 |nil=>cases d
 |cons a us=>cases us with
  |nil=>cases d
  |cons b us=>cases us with
   |nil=>exact W.binds_K h xz g xz xz xz
   |cons=>cases d
def ai7(h:∀n∈ns,Bt n)(k:Int):Bt (sF ns k):=by
 unfold sF;rw[cH];cases e:ns[k.toNat]? with
 | none=>show Bt 0;unfold Bt;decide
 | some x=>exact h x<|a8 e
def Yy{rows:List (List Nat)}(h:sQ rows ps):Rf rows ps:=Paired.bp h λr p⟨a,_,c⟩=>⟨a,λx b=>JR (c x b) qc⟩
section
variable{kd IX:d0}{ps yW:List Pt}{o o':Option (List ci)}
def Al(h:ur kd ps o)(h':ur IX yW o')(k:∀{n m:Nat}{d:ci},n<=14000->m<=14000->(aN (cg kd ps) n).length<=n->(aN (cg IX yW) m).length<=m->d∈fv (aN (cg kd ps) n)->d∈fv (aN (cg IX yW) m)):∀es b,o=a_ es->o'=a_ b->es.length<=1000/\∀d∈es,d∈b:=λes b e e'=>by
 obtain⟨a,_,n,n1,c,f⟩:=h _ e;obtain⟨_,_,m,g,i,j⟩:=h' b e';exact⟨a,λd hd=>(j d).mpr<|k n1 g c i<|(f d).mp hd⟩
def VW(h:ur kd ps o)(h':ur IX yW o')(k:∀es c,o=a_ es->o'=a_ c->es.length<=1000/\∀d∈es,d∈c)(k':∀es c,o'=a_ es->o=a_ c->es.length<=1000/\∀d∈es,d∈c):∀es c,o=a_ es->o'=a_ c->es=c:=λes c e e'=>by
 have p:=(h _ e).2.1;have f:=(h' _ e').2.1;have ne:∀{a b:ci},mx a b=c_->a≠b:=λh z=>by rw[z,Xp]at h;cases h
 exact ij.eq_of_pairwise (λa b _ _ x y=>f' xz<|ne<|VA x y) p f ((List.perm_ext_iff_of_nodup (p.imp ne)<|f.imp ne).mpr λd=>⟨(k _ _ e e').2 d,(k' _ _ e' e).2 d⟩)
end
def adD{e d f:Type}{F:e->d->Prop}{G:f->d->Prop}{a b c:e}{os:List d}{ys:List f}(h:bw F [a,b,c] os)(h':bw G ys os):∃g i j k l m,ys=[g,i,j]/\F a k/\F b l/\F c m/\G g k/\G i l/\G j m:=by
 cases h with
 | cons f0 h=>cases h with
  | cons f1 h=>cases h with
   | cons f2 h=>cases h with
    | nil=>cases h' with
     | cons g0 h'=>cases h' with
      | cons g1 h'=>cases h' with
       | cons g2 h'=>cases h' with
        | nil=>exact⟨_,_,_,_,_,_,xz,f0,f1,f2,g0,g1,g2⟩
section
variable{t:bf}{C CT PT:e_}
def Za(K:u_)(PT:e_):Sp:=λvs H Q _=>∃(a:e_)(ns:List Int),vs=[.ref a]/\ag K H a (ns.map V.int)/\ns.length<=63/\(∀n∈ns,Bt n)/\b9 PT LP LQ H/\∀H',Q (.bl c_) H'
abbrev nmL:List d0:=["_law_script","_law_clerks",at8,"_law_program_here","_law_told","_law_paper",at1]
def yc:aX nmL ["_law_script"] (aM ym):=aZ
def amj:(kX:List d0).Nodup:=dk
def ajX(F:aQ K "law" "law" ym f fd)(gj:mg "range"=b_){tk:Tok}(DC:Dp P w K mg gW 1 "_law_cell_at" kN (X' K))(DPg:Dp P w K mg gW 3 "_law_program" lI ZZ)(DN:Dp P w K mg gW 12 "_law_ends" kX (W0 K PT))(DW:Dp P w K mg gW 1 "_law_within" ji (VX K))(DA:Dp P w K mg gW 1 "_law_alike" ji (W4 K))(GF:aG P w K mg gW aF 8 fF EL js mI)(kF:x_ K (.ref fF)=c_)(b2:dL K EL js [.str L_ tk])(b3:dL K EL js [])(mF:mg "fault"=a_ (.ref fF))(DMk:Dp P w K mg gW 6 "marks" hX P2)(DCl:Dp P w K mg gW 8 "cleared" hX qx)(DR:Dp P w K mg gW 9 "_law_run" lT (Y9 K PT)):aG P w K mg gW aF 13 f fd ["_law_script"] (Za K PT):=by
 have dv:dt [V.str L_] [FL L_ tk]:=.cons ⟨tk,xz⟩ .nil;refine F.ok yc λaH A _ s H vs Q E hr h=>?_
 .obtain⟨a,ns,rfl,hS,jO,EC,lam,q⟩:=h;have L:=hr.mono (show 1<=12 by decide);have oQ:=hr.mono (show 3<=12 by decide);have En:=hr.mono (show 6<=12 by decide);have Em:=hr.mono (show 8<=12 by decide);have hr9:=hr.mono (show 9<=12 by decide)
  refine let R1:TS:=_;let R2:TS:=_;let R3:TS:=_;let R4:TS:=_;let R5:TS:=_;let R6:TS:=_;let R7:TS:=_;let R8:TS:=_;let R9:TS:=_;⟨_,au (bG (i:=1) yc.nd xz (aL xz)<|aS gE ar<|aS eh (bA DC L xz<|aa (pv 0)<|aa ar af) ar) (pR R1 (au (bG (i:=2) yc.nd xz (aL xz)<|aS gE ar<|aS eh (aS i9 (bA DC L xz<|aa (pv 0)<|aa ar af) ar) ar) (pR R2 (au (bG (i:=3) yc.nd xz (pC xz)<|bA DPg oQ xz<|aa (bA DC L xz<|aa (pv 0)<|aa ar af)<|aa (pv 1)<|aa (aS gE ar<|aS eh (bA DC L xz<|aa (pv 0)<|aa ar af) ar)<|aa (pv 2) af) (pR R3 (au (BQ (i:=4) (N:=["_law_program_here","_law_kind"]) (idx:=[3]) yc.nd xz xz xz (cB.of<|by kernel_rfl) (eD<|aw _) (lA<|eX<|aa cq<|aa cq<|aa cq af) (λ_ _ _ _=>bo (i:=1) amj xz (aL xz)<|.inr xz) (λ_ _ _ _=>eP)
     λ_ _ _ _=>bA DN hr xz<|aa (pv 0)<|aa (pv 1) af)
   (pR R4<|au (bz (PW.pt<|pw_or (g7<|dg<|bA DW L xz<|aa (aU bX (pv 4) ar)<|aa (aU bX (pv 4) ar) af)<|pw_or (g7<|dg<|bA DW L xz<|aa (aU bX (pv 4) ar)<|aa (aU bX (pv 4) ar) af)<|pw_or1<|g7<|dg<|bA DW L xz<|aa (aU bX (pv 4) ar)<|aa (aU bX (pv 4) ar) af) (ax<|aR iF) bQ)<|pR R5<|au (bG (i:=5) yc.nd xz (aL xz)<|bA DMk En xz<|aa (pv 3) af)<|pR R6<|au (bz (PW.pt<|pw_and (An<|xW<|lB GF Em xz mF kF b2 dv cX<|aa (pv 3)<|aa (pv 5) af)<|pw_and1<|g7<|dg<|bA DA L xz<|aa (aU bX (pv 4) ar)<|aa (aU bX (pv 4) ar) af) (ax<|aR iF) bQ)<|pR R7<|au (bz (PW.pt<|pw_and (An<|xW<|lB GF Em xz mF kF b3 .nil cX<|aa (pv 3)<|aa (pv 5)<|aa cq af)<|pw_and1<|g7<|dg<|bA DA L xz<|aa (aU bX (pv 4) ar)<|aa (aU bX (pv 4) ar) af) (ax<|aR iF) bQ)<|pR R8<|au (bz (g7<|dg<|bA DA L xz<|aa (aU bX (pv 4) ar)<|aa (bA DN hr xz<|aa (bA DCl Em xz<|aa (pv 3) af)<|aa cq af) af) (ax<|aR iF) bQ)<|pR R9<|au (jV jA xz (lu xz gj<|aa ar af) (bo (i:=6) yc.nd xz<|aL xz)<|ax<|bz (g7<|dg<|bA DR hr9 xz<|aa (pv 3)<|aa (aU bX (eX<|aa cq<|aa cq<|aa cq af)<|pv 6)<|aa (FU ahx (pv 0) (Ct ar)<|Ct ar)<|aa (aU bX (pv 4)<|pv 6) af) (ax<|aR iF) bQ)<|ax<|aR iF))))))),?_⟩
  have a1:=jW (sF ns 0) (show (0:Int)<2 by decide);have a2:=jW (sF ns 0/2) (show (0:Int)<2 by decide);have a3:=jW (sF ns 2) (show (0:Int)<4 by decide);refine⟨_,xz,a,ns,0,xz,hS,qc,_,_,xz,xz,(by show (0:Int)<2;decide),_,_,xz,xz,?_⟩;refine⟨_,xz,a,ns,0,xz,hS,qc,_,_,xz,xz,⟨qc,qc⟩,_,_,xz,xz,(by show (0:Int)<2;decide),_,_,xz,xz,?_⟩;refine⟨_,xz,a,ns,1,xz,hS,qc,_,xz,_,xz,a,ns,2,xz,hS,qc,_,_,xz,xz,(by show (0:Int)<4;decide),_,_,xz,xz,_,xz,_,_,_,_,xz,ai7 EC 1,li,li,li,li,li,li,λv ps H1 s1 hP g hl Bz=>?_⟩
  let RD:List d0:=[H_,L_,l_]
  refine⟨sl (n:=3),λlk Rt=>?_⟩;have s2:ae H1 (dc H1 lk<|.lst [.str H_,.str L_,.str l_]):=ay (ae.refl _) Rt;have e2:dc H1 lk (.lst [.str H_,.str L_,.str l_]) lk=a_ (.lst<|RD.map V.str):=ao;generalize dc H1 lk (.lst [.str H_,.str L_,.str l_])=H2 at s2 e2 ⊢;refine⟨lk,xz,⟨_,ag.of e2⟩,?_⟩;have s02:=s1.gw s2;have kl:∀{H' b xs},aB dE H2 H'->H2 b=a_ (.lst xs)->H' b=a_ (.lst xs):=λk e=>k.k _ _ (λz=>z) (λps z=>by cases z) e;refine dX (n:=3) (λi ys H'=>i<=3/\aB dE H2 H'/\b9 PT LP LQ H'/\∃os,bw (GT K H') ys os/\bw (λkd o=>ur kd ps o) (RD.take i) os) sl ⟨bg _,aB.refl _,iD lam s02,[],.nil,.nil⟩ ?_ ?_ ?_ ?_ ?_
  .rintro i ys H' ⟨_,_,_,os,h1,h2⟩;rw[r_ h1,<-r_ h2,fJ];exact TQ _ _
  .rintro i ys H' hi ⟨_,kk,_⟩;exact⟨_,_,ag.of<|kl kk e2,aI hi⟩
  .rintro ys H' ⟨_,kk,_⟩;exact⟨_,ag.of<|kl kk e2,aw _⟩
  .rintro i ys H3 hi ⟨_,kk,ll,os,h1,h3⟩ x H4 ⟨eH,du⟩;subst eH;have hx:=du _<|ag.of<|kl kk e2;rw[cF]at hx;obtain⟨kdi,hki,rfl⟩:=uY.mp hx
   have Ew:kindS kdi:=by
    have:=a8 hki;simp only[RD,bK,xv,or_false]at this;obtain rfl|rfl|rfl:=this
    .exact .inr (.inr xz)
    .exact .inl xz
    .exact .inr (.inl xz)
   refine⟨_,xz,_,xz,v,ps,kdi,xz,Fy ((aB.of s2).gw kk) hP,g,Ew,ll,λO y o k5 l5 ho Ej=>?_⟩;refine⟨hi,kk.gw k5,l5,os++[o],tU (Paired.bp h1 λ_ _ q=>q.keep k5) ho,?_⟩;rw[iN,hki];exact tU h3 Ej
  rintro ys H3 ⟨_,k3,l3,os,h1,h3⟩;obtain⟨M,S,U,o0,o1,o2,rfl,W,t1,t2,X,g1,g2⟩:=adD h3 h1;refine⟨sl (n:=3),λT nT=>?_⟩;have s4:ae H3 (dc H3 T<|.lst [M,S,U]):=ay (ae.refl _) nT;have p:dc H3 T (.lst [M,S,U]) T=a_ (.lst [M,S,U]):=ao;have l4:=iD l3 s4;have k14:=((aB.of s2).gw k3).gw<|aB.of s4;have Jx:=Fy k14 hP;have hS4:=zY ((aB.of s1).gw k14) hS;have X:=X.keep<|aB.of s4;have g1:=g1.keep<|aB.of s4;have g2:=g2.keep<|aB.of s4;generalize dc H3 T (.lst [M,S,U])=H4 at *;have aaK:=Al W t1 λh1 h2 I J h=>ag2 g h1 h2 I J h;have aps:=Al t1 t2 λh1 h2 I J h=>afc g h1 h2 I J h
  have aaJ:=Al W t2 λh1 h2 I J h=>by
   obtain⟨V,r,a,e⟩:=(qt g h1 I).mp h;exact(qt g h2 J).mpr ⟨V,Wh<|Nn g r,a,e⟩
  refine⟨_,xz,T,_,_,_,xz,xz,ag.of p,cI (j:=0) xz,_,xz,T,_,_,_,xz,xz,ag.of p,cI (j:=1) xz,M,S,o0,o1,xz,X,g1,aaK,λO m=>⟨_,xz,eL ?_⟩⟩;have Y:=aB.of (F:=dE) m;refine⟨_,xz,T,_,_,_,xz,xz,ag.of<|m _ _ p,cI (j:=1) xz,_,xz,T,_,_,_,xz,xz,ag.of<|m _ _ p,cI (j:=2) xz,S,U,o1,o2,xz,g1.keep Y,g2.keep Y,aps,λH6 s6=>⟨_,xz,eL ?_⟩⟩;have IG:=m.gw s6;have K6:=aB.of (F:=dE) IG;refine⟨_,xz,T,_,_,_,xz,xz,ag.of<|IG _ _ p,cI (j:=0) xz,_,xz,T,_,_,_,xz,xz,ag.of<|IG _ _ p,cI (j:=2) xz,M,U,o0,o2,xz,X.keep K6,g2.keep K6,aaJ,λH7 s7=>⟨_,xz,eL ?_⟩⟩;have s47:=IG.gw s7;refine⟨_,xz,v,ps,xz,Jx.same s47,g,λvm rows H8 s8 Jh Bn=>?_⟩;have IF:=s47.gw s8;have hP8:=Jx.same IF;have K8:=aB.of (F:=dE) IF
  have safe:∀{kd:d0}{o:Option (List ci)},kd = L_\/kd = l_->ur kd ps o->(∀es cE,o0=a_ es->o=a_ cE->es.length<=1000/\∀d∈es,d∈cE)->(∀c,c<ps.length->HW ps (decide<|kd = l_) rows c)->∀es cE,o0=a_ es->o=a_ cE->es=cE:=λhk ht hi gn=>
   VW W ht hi (Al ht W λh1 h2 I J h=>afb g hk (ahW g Bn gn) h1 h2 I J h)
  have u9:∀(D:Ends)(σ:L2.St)(u:Hp)(B G z5 l:Option V),σ=[a_ (.ref a),B,G,a_ v,a_<|.ref T,z5,l]->aB dE H4 u->b9 PT LP LQ u->(∀H',D.rt (.bl c_) H')->R9 D σ u:=λD σ u B G z5 l hσ k9 l9 fin=>by
   subst hσ
   let W1:IV:=λi σ H'=>∃l,σ=[a_ (.ref a),B,G,a_ v,a_<|.ref T,z5,l]/\aB dE H4 H'/\b9 PT LP LQ H'
   refine⟨_,xz,li,li,B8 (n:=3) W1 ⟨l,xz,k9,l9⟩ ?_ ?_⟩
   .rintro i σ O hi ⟨l,rfl,k5,l5⟩
    obtain⟨kd,y,o,e1,e3,Ew,hy,ht⟩:∃(kd:d0)(y:V)(o:Option (List ci)),iI [V.str H_,V.str L_,V.str l_] (0+(i:Int))=a_ (.str kd)/\iI [M,S,U] (0+(i:Int))=a_ y/\kindS kd/\GT K H4 y o/\ur kd ps o:=by
     rcases(show i=0\/i=1\/i=2 by lia)with rfl | rfl | rfl
     .exact⟨_,_,_,xz,xz,.inr<|.inr xz,X,W⟩
     .exact⟨_,_,_,xz,xz,.inl xz,g1,t1⟩
     .exact⟨_,_,_,xz,xz,.inr<|.inl xz,g2,t2⟩
    refine⟨_,xz,sl (n:=3),λlk Rt=>?_⟩;have s6:=ay (o:=.lst [V.str H_,V.str L_,V.str l_]) (ae.refl _) Rt;have e6:dc O lk (.lst [V.str H_,V.str L_,V.str l_]) lk=a_ (.lst [V.str H_,V.str L_,V.str l_]):=ao;generalize dc O lk (.lst [V.str H_,V.str L_,V.str l_])=H6 at s6 e6 ⊢;have k6:=k5.gw<|aB.of s6;refine⟨_,xz,lk,_,_,_,xz,xz,ag.of e6,e1,_,xz,_,xz,_,xz,a,_,xz,zY k6 hS4,λc nc=>?_⟩;obtain⟨ms,em,hm⟩:∃ms:List Int,pP (ns.map V.int) (a_ 4) (a_ 44)=ms.map V.int/\ms.length<=63:=⟨_,by unfold pP;rw[<-List.map_drop,<-List.map_take],by rw[fJ,Kb];lia⟩;rw[em];have s7:=ay (o:=.lst<|ms.map V.int) (ae.refl _) nc;have e7:dc H6 c (.lst<|ms.map V.int) c=a_ (.lst<|ms.map V.int):=ao;generalize dc H6 c (.lst<|ms.map V.int)=H7 at s7 e7 ⊢;have k7:=k6.gw<|aB.of s7;refine⟨_,xz,_,xz,T,_,_,_,xz,xz,ag.of<|k7.k _ _ (λz=>z) (λps z=>by cases z) p,e3,c,ms,v,y,ps,kd,o,xz,ag.of e7,hm,Fy k7 Jx,g,Ew,iD l5<|s6.gw s7,hy.keep k7,ht,λH8 k8 l8=>⟨_,xz,eL ⟨_,xz,k7.gw k8,l8⟩⟩⟩
   .rintro σ O ⟨l,rfl,k5,l5⟩;exact fin O
  have u8:∀(D:Ends)(σ:L2.St)(u:Hp)(B G z5 l:Option V),σ=[a_ (.ref a),B,G,a_ v,a_<|.ref T,z5,l]->ae H4 u->(∀H',D.rt (.bl c_) H')->R8 D σ u:=λD σ u B G z5 l hσ Z fin=>by
   subst hσ;have k9:=aB.of (F:=dE) Z;refine⟨_,xz,T,_,_,_,xz,xz,ag.of<|Z _ _ p,cI (j:=0) xz,_,xz,v,ps,xz,Jx.same Z,g,λrows v' O Bn m EG=>?_⟩;have l5:=iD l4<|Z.gw m;refine⟨v',_,L_,xz,EG,XM g Bz,.inl xz,l5,λH6 x o k6 l6 hx Ej=>?_⟩;have k46:=(k9.gw<|aB.of m).gw k6;refine⟨M,x,o0,o,xz,X.keep k46,hx,VW W Ej (Al W Ej λh1 h2 I J h=>(XE g Bz Bn h1 h2 I J).mp h) (Al Ej W λh1 h2 I J h=>(XE g Bz Bn h2 h1 J I).mpr h),_,xz,eL ?_⟩;exact u9 D _ H6 B G z5 l xz k46 l6 fin
  have u7:∀(D:Ends)(σ:L2.St)(u:Hp)(B G l:Option V),σ=[a_ (.ref a),B,G,a_ v,a_<|.ref T,a_ vm,l]->ae H8 u->(∀H',D.rt (.bl c_) H')->R7 D σ u:=λD σ u B G l hσ Z fin=>by
   subst hσ;refine⟨_,xz,_,xz,v,vm,ps,rows,l_,xz,hP8.same Z,g,Jh.same Z,Yy Bn,λv' O m QG=>⟨_,xz,?_⟩⟩;have R:=(IF.gw Z).gw m;have Y:=aB.of (F:=dE) R;obtain⟨rfl,gn⟩|⟨b',rfl⟩:=QG
   .refine bj (λ_=>?_) λz=>f' xz z;exact⟨_,xz,T,_,_,_,xz,xz,ag.of<|R _ _ p,cI (j:=0) xz,_,xz,T,_,_,_,xz,xz,ag.of<|R _ _ p,cI (j:=2) xz,M,U,o0,o2,xz,X.keep Y,g2.keep Y,safe (.inr xz) t2 aaJ gn,_,xz,eL<|u8 D _ _ B G _ l xz R fin⟩
   .exact bj (λz=>by cases z) λ_=>u8 D _ _ B G _ l xz R fin
  refine⟨_,xz,_,xz,v,vm,ps,rows,L_,xz,hP8,g,Jh,Yy Bn,λv' O m QG=>⟨_,xz,?_⟩⟩;have R:=IF.gw m;have Y:=aB.of (F:=dE) R;obtain⟨rfl,gn⟩|⟨b',rfl⟩:=QG
  .refine bj (λ_=>?_) λz=>f' xz z;exact⟨_,xz,T,_,_,_,xz,xz,ag.of<|R _ _ p,cI (j:=0) xz,_,xz,T,_,_,_,xz,xz,ag.of<|R _ _ p,cI (j:=1) xz,M,S,o0,o1,xz,X.keep Y,g1.keep Y,safe (.inl xz) t1 aaK gn,_,xz,eL<|u7 _ _ _ _ _ _ xz m q⟩
  .exact bj (λz=>by cases z) λ_=>u7 _ _ _ _ _ _ xz m q
end
end TL
namespace TL
open PySem.W PySem.Calls Att
theorem Y3{ns:List Int}{n:Int}(h:n∈ns):E2 n<=acB (ns.map FK):=by
 induction ns with
 |nil=>cases h
 |cons m ns i=>
  rw[eV,acB];obtain e|e:=bK.mp h
  .subst e;have:(FK n).weight=E2 n:=by unfold WData.weight E2;rfl
   omega
  .have:=i e;omega
def ai9{ns:List Int}(h:ace [WData.list (ns.map FK)]=c_):∀n∈ns,Bt n:=λn hn=>by
 unfold ace at h;rw[zL,iB]at h;have h1:=h.1;unfold WData.layable at h1;rw[iB,decide_eq_true_eq]at h1;have h2:=h1.2;rw[WData.weight]at h2;have:=Y3 hn;unfold Bt;omega
def ac8{l:OpenLaw}{n:Nat}{q:k_}{loose:List d0}{XP:(d0->Option f_)->i_->Prop}{YP:j_->i_->Prop}{d:DefRec}(hn:l.most=a_ n)(g:d.params.defaults=[])(call:∀(w:j_)(s₀ b:g_)(mg mb:d0->Option f_)(c:e_)(o:d5)(pm cd doc:f_)(a:e_)(vs:List f_)(ns:List Int),Ground q loose [] XP w s₀ mg mb b.heap->YP w b.heap->b.heap.get? c=a_ o->o.data=.func (docDef d.name d.params d.body d.scope pm cd doc)->b.heap.CodeRec cd d.name->mg d.name=a_ (.ref c)->b.heap.get? a=a_ {cls:=.type "list",data:=.seq vs.toArray}->IntsAre vs ns->ns.length<=n->(∀n∈ns,Bt n)->b.gens=#[]->codeAny (bv l.prog w) callerA (.call (.ref c) ⟨[.ref a],[]⟩) (λr s'=>r=.ok (.ret<|.bool c_)/\OldK b.heap s'.heap/\s'.os=b.os/\AllBare s'.gens) b):WalkO q loose XP YP l.row.toRowW d [] (λf vs=>PySem.call f vs):=by
 intro w s₀ b mg mb G Y c o pm cd doc h kV i hd j e k m args z A p s B t C;obtain rfl:h=.none:=Dflts.none e g;obtain rfl:kV=.none:=Dflts.noKw e;obtain⟨a,vs,ns,rfl,rfl,u,v,x⟩:=aew hn p t;refine enter_call (BK (call w s₀ b mg mb c o pm cd doc a vs ns G Y i (fd_plain hd) j k u v x (ai9 s) m) λr s' y=>?_);obtain⟨rfl,h2,h3,h4⟩:=y;exact⟨.inl ⟨.bool c_,.bool c_,[],xz,λ_=>rfl,.bool c_,aeC l _,λ_=>⟨Ub.nil,λ_ hm=>(nomatch hm)⟩⟩,h2,h3,h4⟩
end TL
namespace TL
open PySem.SeqAt L2 L3
def Zz{us:List f_}(h:us.length=1):∃a,us=[a]:=Th.mp h
def HA{us:List f_}{n:Nat}(h:us.length=n+1):∃a l,us=a::l/\l.length=n:=by
 cases us with
 | nil=>cases h
 | cons a l=>exact⟨a,l,xz,BN h⟩
def Zy{us:List f_}(h:us.length=2):∃a b,us=[a,b]:=cy (HA h) λa _ e h=>oE (Zz h) λb z=>⟨a,b,by rw[e,z]⟩
def Zx{us:List f_}(h:us.length=3):∃a b c,us=[a,b,c]:=cy (HA h) λa _ e h=>yD (Zy h) λb c z=>⟨a,b,c,by rw[e,z]⟩
def Zw{us:List f_}(h:us.length=4):∃a b c d,us=[a,b,c,d]:=cy (HA h) λa _ e h=>aoK (Zx h) λb c d z=>⟨a,b,c,d,by rw[e,z]⟩
def amy{us:List f_}(h:us.length=5):∃a b c d e,us=[a,b,c,d,e]:=cy (HA h) λa _ e h=>amc (Zw h) λb c d f z=>⟨a,b,c,d,f,by rw[e,z]⟩
abbrev wF(x q:d0)(st:bx)(ps:List d0):Prop:=∀(kV doc pm:f_)(an:Option e_)(aH ct:f_)(us:List f_),us.length=ps.length->t4 (B_ x q (lC st) (jb st) (aM st) .none kV doc pm an aH ct) ⟨us,[]⟩=pure (ps.zip us)
section
variable{K:u_}{h:i_}{mg:d0->Option f_}{x q m:d0}{st:bx}{f c e:e_}
def cJ(X:K.In h)(G:h.Ns fe mg)(p:fN K x)(l:HT.aY K (gN K x)=fp x x st)(ps:List d0)(a:wF x x st ps):∃fd,aQ K x x st (gN K x) fd/\x_ K (.ref<|gN K x)=c_/\dL K fd ps []/\mg x=a_ (.ref<|gN K x):=by
 obtain⟨oc,od,kV,b,pm,an,cd,ct,sl,l1,c1⟩:=HT.yg l p.2.1;have F:=YI (st:=st) l1 c1 p.2.2;exact⟨_,F,p.2.2,F.binds a,C_ X G<|HT.nh p.1⟩
def dD(p:fM K c m q)(l:HT.aY K (gM K c m)=fp m q st)(ps:List d0)(a:wF m q st ps):∃fd,aQ K m q st (gM K c m) fd/\dL K fd ps []/\Meth K c m (gM K c m):=by
 obtain⟨oc,od,kV,b,pm,an,cd,ct,sl,l1,c1⟩:=HT.yg l p.2.1;have F:=YI (st:=st) l1 c1 p.2.2.1;exact⟨_,F,F.binds a,HT.nh p.1,p.2.2.2,p.2.2.1⟩
def aoP(p:fM K c m q)(l:HT.aY K (gM K c m)=fp m q st)(a:HT.HB K (gM K c m)=c_)(ps:List d0)(b:wF m q st ps):∃fd,wc K m q st (gM K c m) fd (HT.AN K<|gM K c m)/\dL K fd ps []/\Meth K c m (gM K c m):=by
 obtain⟨oc,od,kV,d,pm,an,ct,sl,l1,c1⟩:=HT.akz l p.2.1 a;have F:=aiW (st:=st) l1 c1 p.2.2.1;exact⟨_,F,F.fun.binds b,HT.nh p.1,p.2.2.2,p.2.2.1⟩
def mkD{d:d0}(p:fM K c m q)(l:HT.AK K (gM K c m)=fp m q st)(a:HT.AM K (gM K c m) d=c_):∃fd,uu K m q st (gM K c m) fd d:=by
 obtain⟨oc,od,T,kV,b,pm,an,cd,ct,sl,c1,d1,n1,oK,tk,g,i,j⟩:=HT.YK l p.2.1 a;exact⟨_,⟨⟨oc,od,T,kV,b,pm,an,cd,ct,sl,c1,d1,n1,oK,tk,xz,g,i,j⟩,p.2.2.1⟩⟩
def aoO{d:d0}(X:K.In h)(G:h.Ns fe mg)(p:fN K x)(l:HT.AK K (gN K x)=fp x x st)(a:HT.AM K (gN K x) d=c_):∃fd,uu K x x st (gN K x) fd d/\x_ K (.ref<|gN K x)=c_/\mg x=a_ (.ref<|gN K x):=by
 obtain⟨oc,od,T,kV,b,pm,an,cd,ct,sl,c1,d1,n1,oK,tk,g,i,j⟩:=HT.YK l p.2.1 a;exact⟨_,⟨⟨oc,od,T,kV,b,pm,an,cd,ct,sl,c1,d1,n1,oK,tk,xz,g,i,j⟩,p.2.2⟩,p.2.2,C_ X G<|HT.nh p.1⟩
def sS(X:K.In h)(G:h.Ns fe mg)(p:cK K x):di K (gN K x)/\mg x=a_ (.ref<|gN K x):=⟨⟨p.2.1,p.2.2.1,p.2.2.2.1,p.2.2.2.2⟩,C_ X G<|HT.nh p.1⟩
end
def YV(l:W.OpenLaw)(w:j_)(K:u_)(mg:d0->Option f_)(a:e_):Prop:=
  ∃fd:ik,(∀(s:g_)(v:f_),BindsTo s fd ⟨[v],[]⟩ [("_law_script",v)])/\(∃c,W.codeHdIn K c 416=c_)/\∀gW:i_,K.In gW->gW.Ns fe mg->uv mg gW->aG l.prog w K mg gW aF 13 a fd ["_law_script"] (Za K 416)
def sL9{K:u_}(E:seen K=c_)(i:Nat){b:Bool}(h:(AY K ())[i]?=a_ b):b=true:=kZ.mp E b<|a8 h
section
variable{K:u_}(E:seen K=c_)
def ai{K:u_}(E:seen K=c_)(i:Nat){p:Prop}{d:Decidable p}(h:(AY K ())[i]?=a_ (@decide p d)):p:=@fi p d<|sL9 E i h
def VI:=ai E 2 xz
def VJ:=ai E 7 xz
def VH:=ai E 12 xz
def UW:=ai E 17 xz
def UT:=ai E 22 xz
def UU:=ai E 27 xz
def Uw:=ai E 32 xz
def US:=ai E 35 xz
def T5:=ai E 40 xz
def OA:=ai E 55 xz
def MD:=ai E 56 xz
def MF:=ai E 57 xz
def MC:=ai E 58 xz
def LA:=ai E 59 xz
def Ly:=ai E 60 xz
def Lz:=ai E 61 xz
def qp:=ai E 62 xz
def Nr:=ai E 68 xz
def Xz:=ai E 73 xz
def ME:=ai E 79 xz
def nX:=ai E 122 xz
def qo:=ai E 124 xz
end
def a7{K:u_}(E:qD K=pG)(i:Nat){a b:Option HT.qX}(h:(qD K)[i]?=a_ a)(g:pG[i]?=a_ b):a=b:=by rw[E,g]at h;exact(c8 h).gx
def eO{x q:d0}{st:bx}{ps:List d0}(l:autoParam (ps.length=1) am)(h:∀(kV doc pm:f_)(an:Option e_)(aH ct:f_)(a:f_),t4 (B_ x q (lC st) (jb st) (aM st) .none kV doc pm an aH ct) ⟨[a],[]⟩=pure (ps.zip [a]):=by intros;rfl):wF x q st ps:=by
 intro b c d f g i us j;obtain⟨a,e⟩:=Zz<|j.gw l;subst e;exact h b c d f g i a
def dO{x q:d0}{st:bx}{ps:List d0}(l:autoParam (ps.length=2) am)(h:∀(kV doc pm:f_)(an:Option e_)(aH ct:f_)(a b:f_),t4 (B_ x q (lC st) (jb st) (aM st) .none kV doc pm an aH ct) ⟨[a,b],[]⟩=pure (ps.zip [a,b]):=by intros;rfl):wF x q st ps:=by
 intro c d f g i j us k;obtain⟨a,b,e⟩:=Zy<|k.gw l;subst e;exact h c d f g i j a b
def qU{x q:d0}{st:bx}{ps:List d0}(l:autoParam (ps.length=3) am)(h:∀(kV doc pm:f_)(an:Option e_)(aH ct:f_)(a b c:f_),t4 (B_ x q (lC st) (jb st) (aM st) .none kV doc pm an aH ct) ⟨[a,b,c],[]⟩=pure (ps.zip [a,b,c]):=by intros;rfl):wF x q st ps:=by
 intro d f g i j k us m;obtain⟨a,b,c,e⟩:=Zx<|m.gw l;subst e;exact h d f g i j k a b c
def Ie{x q:d0}{st:bx}{ps:List d0}(l:autoParam (ps.length=4) am)(h:∀(kV doc pm:f_)(an:Option e_)(aH ct:f_)(a b c d:f_),t4 (B_ x q (lC st) (jb st) (aM st) .none kV doc pm an aH ct) ⟨[a,b,c,d],[]⟩=pure (ps.zip [a,b,c,d]):=by intros;rfl):wF x q st ps:=by
 intro f g i j k m us n;obtain⟨a,b,c,d,e⟩:=Zw<|n.gw l;subst e;exact h f g i j k m a b c d
def nS{x q:d0}{st:bx}{ps:List d0}(l:autoParam (ps.length=5) am)(h:∀(kV doc pm:f_)(an:Option e_)(aH ct:f_)(a b c d f:f_),t4 (B_ x q (lC st) (jb st) (aM st) .none kV doc pm an aH ct) ⟨[a,b,c,d,f],[]⟩=pure (ps.zip [a,b,c,d,f]):=by intros;rfl):wF x q st ps:=by
 intro g i j k m n us o;obtain⟨a,b,c,d,f,e⟩:=amy<|o.gw l;subst e;exact h g i j k m n a b c d f
def facts{l:W.OpenLaw}{w:j_}{K:u_}{h:i_}{mg:d0->Option f_}{M:e_}(E:(seen K,qD K)=(c_,pG))(X:K.In h)(G:h.Ns fe mg)(hfa:mg "law"=a_ (.ref M)):YV l w K mg M:=by
 have f:=(xF E).1;have hl:=(xF E).2;have a:=@ai K f;have b:=@a7 K hl;refine cc (cJ X G (a 51 xz) (b 0 xz xz) ia eO) λsU r kW bW x=>?_;refine cc (cJ X G (a 52 xz) (b 1 xz xz) ["word"] eO) λAZ FB kB bB gB=>?_;refine cc (cJ X G (a 53 xz) (b 2 xz xz) iv eO) λIb FS kS bS gS=>?_;refine cc (cJ X G (a 54 xz) (b 3 xz xz) iv eO) λqT FO kO bO gO=>?_;refine a9 (dD (OA f) (b 4 xz xz) hH dO) λgK FI bI MI=>?_;refine a9 (dD (MD f) (b 5 xz xz) hH dO) λHk aq4 QU N=>?_;refine a9 (dD (MF f) (b 6 xz xz) hH dO) λHl arq QV Q=>?_;refine a9 (dD (MC f) (b 7 xz xz) hH dO) λHj aq0 QT R=>?_;refine a9 (dD (LA f) (b 8 xz xz) hH dO) λGR aog PV S=>?_;refine a9 (dD (Ly f) (b 9 xz xz) hH dO) λGP aoc PR U=>?_;refine a9 (dD (Lz f) (b 10 xz xz) hH dO) λGQ aoe PU V=>?_;refine a9 (dD (qp f) (b 11 xz xz) hF eO) λQq FEm yL MEm=>?_;refine a9 (dD (a 63 xz) (b 12 xz xz) hF eO) λOx aod PD an7=>?_;refine a9 (dD (a 64 xz) (b 13 xz xz) hF eO) λOz aoh PH an9=>?_;refine cc (cJ X G (a 65 xz) (b 14 xz xz) hX eO) λati FHC kHC bHC gHC=>?_;refine cc (cJ X G (a 66 xz) (b 15 xz xz) [at0,T_,"length"] qU) λatk FFI kFI bFI gFI=>?_;refine cc (cJ X G (a 67 xz) (b 16 xz xz) hX eO) λata FLO kLO bLO gLO=>?_;refine a9 (dD (Nr f) (b 17 xz xz) kn dO) λasQ Y Z MTI=>?_;refine a9 (dD (a 69 xz) (b 18 xz xz) kR Ie) λasU FTA bTA MTA=>?_;refine a9 (dD (a 70 xz) (b 19 xz xz) im dO) λasP FTL bTL MTL=>?_;refine a9 (aoP (a 71 xz) (b 20 xz xz) (a 72 xz) hF eO) λasR FTF bTF MTF=>?_;refine a9 (dD (a 74 xz) (b 21 xz xz) im dO) λasN FTT bTT MTT=>?_;refine a9 (dD (a 75 xz) (b 22 xz xz) hF eO) λasS FTE bTE MTE=>?_;refine a9 (dD (a 76 xz) (b 23 xz xz) hF eO) λasT FTD bTD MTD=>?_;refine a9 (dD (a 77 xz) (b 24 xz xz) hF eO) λasM FTW bTW MTW=>?_;refine cc (cJ X G (a 78 xz) (b 25 xz xz) [Z_] eO) λasO FTO kTO bTO gTO=>?_;refine oE (mkD (ME f) (b 26 xz xz)<|a 80 xz) λarY aa'=>?_;refine a9 (dD (a 81 xz) (b 27 xz xz) hU dO) λatv FAE bAE MAE=>?_;refine a9 (dD (a 82 xz) (b 28 xz xz) hU dO) λas5 FMY bMY MMY=>?_;refine a9 (dD (a 83 xz) (b 29 xz xz) hF eO) λats FCR bCR MCR=>?_;refine a9 (dD (a 84 xz) (b 30 xz xz) hF eO) λas7 FMV bMV MMV=>?_;refine a9 (dD (a 85 xz) (b 31 xz xz) [Y_,au2] dO) λatp FDO bDO MDO=>?_;refine a9 (dD (a 86 xz) (b 32 xz xz) hU dO) λato FDS bDS MDS=>?_;refine a9 (dD (a 87 xz) (b 33 xz xz) io qU) λatn FDT bDT MDT=>?_;refine a9 (dD (a 88 xz) (b 34 xz xz) io qU) λatq FDL bDL MDL=>?_;refine a9 (dD (a 89 xz) (b 35 xz xz) io qU) λatm FDW bDW MDW=>?_;refine a9 (dD (a 90 xz) (b 36 xz xz) jw qU) λatr FCY bCY MCY=>?_;refine a9 (dD (a 91 xz) (b 37 xz xz) [Y_,au4] dO) λatt FCM bCM MCM=>?_;refine a9 (dD (a 92 xz) (b 38 xz xz) im dO) λas4 FOB bOB MOB=>?_;refine a9 (dD (a 93 xz) (b 39 xz xz) hF eO) λatl FEN bEN MEN=>?_;refine a9 (dD (a 94 xz) (b 40 xz xz) hF eO) λas6 FMW bMW MMW=>?_;refine a9 (dD (a 95 xz) (b 41 xz xz) hU dO) λasH FWT bWT MWT=>?_;refine a9 (dD (a 96 xz) (b 42 xz xz) hU dO) λasK FWH bWH MWH=>?_;refine a9 (dD (a 97 xz) (b 43 xz xz) hU dO) λasY FRG bRG MRG=>?_;refine a9 (dD (a 98 xz) (b 44 xz xz) hF eO) λatu FBD bBD MBD=>?_;refine cc (cJ X G (a 99 xz) (b 45 xz xz) kw qU) λas2 FPB kPB bPB gPB=>?_;refine cc (cJ X G (a 100 xz) (b 46 xz xz) [au2] eO) λath FHF kHF bHF gHF=>?_;refine cc (cJ X G (a 101 xz) (b 47 xz xz) iL eO) λasW FSO kSO bSO gSO=>?_;refine cc (cJ X G (a 102 xz) (b 48 xz xz) [X_,l_] dO) λasZ FPS kPS bPS gPS=>?_;refine cc (cJ X G (a 103 xz) (b 49 xz xz) [P_,l_] dO) λasV FSe kSe bSe gSe=>?_;refine cc (cJ X G (a 104 xz) (b 50 xz xz) i5 dO) λatf FHN kHN bHN gHN=>?_;refine cc (cJ X G (a 105 xz) (b 51 xz xz) i5 dO) λasJ FWN kWN bWN gWN=>?_;refine cc (cJ X G (a 106 xz) (b 52 xz xz) ki dO) λasL FWA kWA bWA gWA=>?_;refine cc (cJ X G (a 107 xz) (b 53 xz xz) i5 dO) λasI FWO kWO bWO gWO=>?_;refine cc (cJ X G (a 108 xz) (b 54 xz xz) [au0] eO) λatc FLE kLE bLE gLE=>?_;refine cc (cJ X G (a 109 xz) (b 55 xz xz) hX eO) λas3 FOT kOT bOT gOT=>?_;refine cc (cJ X G (a 110 xz) (b 56 xz xz) ["thing","length"] dO) λatg FHL kHL bHL gHL=>?_;refine cc (cJ X G (a 111 xz) (b 57 xz xz) ia eO) λatd FIS kIS bIS gIS=>?_;refine cc (cJ X G (a 112 xz) (b 58 xz xz) [P_,"paper"] dO) λate FHS kHS bHS gHS=>?_;refine cc (cJ X G (a 113 xz) (b 59 xz xz) kb qU) λatb FLF kLF bLF gLF=>?_;refine cc (cJ X G (a 114 xz) (b 60 xz xz) ld qU) λasX FSF kSF bSF gSF=>?_;refine cc (cJ X G (a 115 xz) (b 61 xz xz) [au1,au0] dO) λarW aq5 ao9 aqB aqb=>?_;refine cc (cJ X G (a 116 xz) (b 62 xz xz) lb qU) λas0 FPL kPL bPL gPL=>?_;refine cc (cJ X G (a 117 xz) (b 63 xz xz) lp nS) λar' arj apl aqO aqp=>?_;refine a9 (aoO X G (a 118 xz) (b 64 xz xz)<|a 119 xz) λatj y kFT gFT=>?_;refine cc (cJ X G (a 120 xz) (b 65 xz xz) iL eO) λas8 FMP kMP bMP gMP=>?_;refine cc (cJ X G (a 121 xz) (b 66 xz xz) hX eO) λas9 FMA kMA bMA gMA=>?_;refine a9 (dD (nX f) (b 67 xz xz) iM dO) λQp FNx Q7 MNx=>?_;refine a9 (dD (a 123 xz) (b 68 xz xz) iM dO) λOy aof PF an8=>?_;refine a9 (dD (qo f) (b 69 xz xz) hF eO) λQo FSt yK MSt=>?_;refine a9 (dD (a 125 xz) (b 70 xz xz) hF eO) λPu aq1 Qw aqV=>?_;refine a9 (dD (a 126 xz) (b 71 xz xz) hF eO) λPr aqZ Qv aqU=>?_;refine cc (cJ X G (a 127 xz) (b 72 xz xz) ii eO) λarV aq3 ao8 aqA aqa=>?_;refine cc (cJ X G (a 128 xz) (b 73 xz xz) ii eO) λasb arl apn aqQ aqr=>?_;refine cc (cJ X G (a 129 xz) (b 74 xz xz) ii eO) λarU aq2 ao7 aqz ap'=>?_;refine cc (cJ X G (a 130 xz) (b 75 xz xz) [at7,au2] dO) λasf arp apr aqT aqu=>?_;refine cc (cJ X G (a 131 xz) (b 76 xz xz) [P_,Z_,"most"] qU) λasa ark apm aqP aqq=>?_;refine cc (cJ X G (a 132 xz) (b 77 xz xz) kQ qU) λar9 ari apk aqN aqo=>?_;refine cc (cJ X G (a 133 xz) (b 78 xz xz) [at0,"looks"] dO) λarX aq6 ao' aqC aqc=>?_;refine cc (cJ X G (a 134 xz) (b 79 xz xz) [X_,"looks"] dO) λase aro apq aqS aqt=>?_;refine cc (cJ X G (a 135 xz) (b 80 xz xz) hX eO) λasd arn apo aqR aqs=>?_;refine cc (cJ X G (a 136 xz) (b 81 xz xz) kN dO) λar7 arf api aqL aqm=>?_;refine cc (cJ X G (a 137 xz) (b 82 xz xz) [V_,at1] dO) λar3 ara ape aqH aqi=>?_;refine cc (cJ X G (a 138 xz) (b 83 xz xz) lz Ie) λar0 aq8 apb aqE aqf=>?_;refine cc (cJ X G (a 139 xz) (b 84 xz xz) md nS) λar6 ard aph aqK aql=>?_;refine cc (cJ X G (a 140 xz) (b 85 xz xz) [V_,"_law_amount"] dO) λar5 arc apg aqJ aqk=>?_;refine cc (cJ X G (a 141 xz) (b 86 xz xz) lI Ie) λar2 aq' apd aqG aqh=>?_;refine cc (cJ X G (a 142 xz) (b 87 xz xz) ji dO) λarZ aq7 apa aqD aqe=>?_;refine cc (cJ X G (a 143 xz) (b 88 xz xz) ji dO) λar8 arh apj aqM aqn=>?_;refine cc (cJ X G (a 144 xz) (b 89 xz xz) kX dO) λar4 arb apf aqI aqj=>?_;refine cc (cJ X G (a 145 xz) (b 90 xz xz) lT Ie) λar1 aq9 apc aqF aqg=>?_;refine cc (cJ X G (a 146 xz) (b 91 xz xz) ["_law_script"] eO) λan5 aba aso atw aqd=>?_;have e:=hfa.gx.gw aqd;cases e;refine oA (sS X G<|a 0 xz) λarN alm=>?_;refine oA (sS X G<|a 1 xz) λue an2=>?_;refine oA (sS X G<|a 6 xz) λsE an4=>?_;refine oA (sS X G<|a 11 xz) λmj an1=>?_;refine oA (sS X G<|a 16 xz) λm8 alo=>?_;refine oA (sS X G<|a 21 xz) λoh alk=>?_;refine oA (sS X G<|a 26 xz) λm7 aln=>?_;refine oA (sS X G<|a 31 xz) λxT ajj=>?_;refine oA (sS X G<|a 34 xz) λalp Y2=>?_;refine oA (sS X G<|a 39 xz) λafq z=>?_;have N:Mk K (fV K) (OF K):=⟨(VI f).1,HT.nh (MD f).1,(MD f).2.2.2,(VI f).2⟩;have Q:Mk K (fX K) (OH K):=⟨(VJ f).1,HT.nh (MF f).1,(MF f).2.2.2,(VJ f).2⟩;have R:Mk K (fU K) (OE K):=⟨(VH f).1,HT.nh (MC f).1,(MC f).2.2.2,(VH f).2⟩;have S:Mk K (fR K) (Ny K):=⟨(UW f).1,HT.nh (LA f).1,(LA f).2.2.2,(UW f).2⟩;have U:Mk K (fL K) (Nw K):=⟨(UT f).1,HT.nh (Ly f).1,(Ly f).2.2.2,(UT f).2⟩;have V:Mk K (fQ K) (Nx K):=⟨(UU f).1,HT.nh (Lz f).1,(Lz f).2.2.2,(UU f).2⟩;have alq:Mk K (jE K) (AQ K):=⟨(Uw f).1,(a 163 xz),(OA f).2.2.2,(Uw f).2⟩;have ZT:Mk K (gg K) (ZP K):=⟨(US f).1,HT.nh (Nr f).1,(Nr f).2.2.2,(US f).2⟩;have A:Mk K (cC K) (OG K):=⟨(T5 f).1,HT.nh (ME f).1,(ME f).2.2.2,(T5 f).2⟩;have aec:=MTA;have acQ:=MTL;have T8:=MTF;have adq:=MTT;have acr:=MTE;have acP:=MTD;have adp:=MTW;have acd:=MAE;have aca:=MMY;have ab1:=MCR;have acv:=MMV;have adb:=MDO;have abZ:=MDS;have acb:=MDT;have ab0:=MDL;have abY:=MDW;have acx:=MCY;have acJ:=MCM;have abR:=MOB;have acw:=MEN;have acI:=MMW;have abX:=MWT;have acu:=MWH;have abM:=MRG;have acy:=MBD;have acS:Meth K (fV K) S_ (pI K):=⟨(a 147 xz),(qp f).2.2.2,(qp f).2.2.1⟩;have acU:Meth K (fX K) S_ (pI K):=⟨(a 148 xz),(qp f).2.2.2,(qp f).2.2.1⟩;have acR:Meth K (fU K) S_ (pI K):=⟨(a 149 xz),(qp f).2.2.2,(qp f).2.2.1⟩;have acK:Meth K (fR K) S_ (pI K):=⟨(a 150 xz),(qp f).2.2.2,(qp f).2.2.1⟩;have acG:=an7;have acz:=an9;have acH:Meth K (fQ K) S_ (pI K):=⟨(a 151 xz),(qp f).2.2.2,(qp f).2.2.1⟩;have adv:Meth K (fV K) as1 (nv K):=⟨(a 152 xz),(nX f).2.2.2,(nX f).2.2.1⟩;have adx:Meth K (fX K) as1 (nv K):=⟨(a 153 xz),(nX f).2.2.2,(nX f).2.2.1⟩;have adu:Meth K (fU K) as1 (nv K):=⟨(a 154 xz),(nX f).2.2.2,(nX f).2.2.1⟩;have ade:Meth K (fR K) as1 (nv K):=⟨(a 155 xz),(nX f).2.2.2,(nX f).2.2.1⟩;have ac':Meth K (fL K) as1 (nv K):=⟨(a 156 xz),(nX f).2.2.2,(nX f).2.2.1⟩;have acT:Meth K (jE K) as1 (nv K):=⟨(a 157 xz),(nX f).2.2.2,(nX f).2.2.1⟩;have ada:=an8;have aee:Meth K (fV K) at4 (pH K):=⟨(a 158 xz),(qo f).2.2.2,(qo f).2.2.1⟩;have aef:Meth K (fX K) at4 (pH K):=⟨(a 159 xz),(qo f).2.2.2,(qo f).2.2.1⟩;have aed:=aqV;have adw:Meth K (fR K) at4 (pH K):=⟨(a 160 xz),(qo f).2.2.2,(qo f).2.2.1⟩;have ads:=aqU;have adf:Meth K (jE K) at4 (pH K):=⟨(a 161 xz),(qo f).2.2.2,(qo f).2.2.1⟩;have adt:Meth K (fQ K) at4 (pH K):=⟨(a 162 xz),(qo f).2.2.2,(qo f).2.2.1⟩;have acA:PL K (nY K) Q_ (AQ K):=⟨(a 164 xz),(a 165 xz),HT.akp<|a 166 xz,(OA f).2.2.1⟩;have T7:=z_ X G<|a 167 xz;have Y0:=z_ X G<|a 168 xz;have XX:=z_ X G<|a 169 xz;have YY:=z_ X G<|a 170 xz;have o:=z_ X G<|a 171 xz;have j:=z_ X G<|a 172 xz;have B:=z_ X G<|a 173 xz;have alf:=z_ X G<|a 174 xz;have k:=z_ X G<|a 175 xz;have m:=z_ X G<|a 176 xz;have p:=z_ X G<|a 177 xz;have YZ:=z_ X G<|a 178 xz;have C:=z_ X G<|a 179 xz;have Y1:=z_ X G<|a 180 xz;have alg:=z_ X G<|a 181 xz;have alh:∃u,mg "TOP"=a_ u/\dn (.int hV) u:=by obtain⟨t,e⟩:=HT.CO<|a 182 xz;exact⟨_,C_ X G e,_,xz⟩
 have D:∃u,mg "NAMES"=a_ u/\dn (.int 12) u:=by obtain⟨t,e⟩:=HT.CO<|a 183 xz;exact⟨_,C_ X G e,_,xz⟩
 have ac9:∃u,mg "REGISTERS"=a_ u/\dn (.int 4) u:=by obtain⟨t,e⟩:=HT.CO<|a 184 xz;exact⟨_,C_ X G e,_,xz⟩
 have aeb:∃u,mg "LONGEST"=a_ u/\dn (.int 120) u:=by obtain⟨t,e⟩:=HT.CO<|a 185 xz;exact⟨_,C_ X G e,_,xz⟩
 have afp:∃u,mg "CLERKS"=a_ u/\dn (.int 4) u:=by obtain⟨t,e⟩:=HT.CO<|a 186 xz;exact⟨_,C_ X G e,_,xz⟩
 have ahg:=C_ X G<|HT.nh<|a 187 xz;have ahh:∀H:Hp,aq K H (WN K) [.str L_,.str l_,.str H_]:=λH=>HT.ahk (a 188 xz) (by show 3<=bc;decide) H;have bl:Bl mg:=⟨T7,Y0,XX,YY,o,j,B,alf⟩;have n:BT mg:=⟨T7,Y0,XX,YY,j,B,m,k,YZ,C⟩;have cn:Cn mg:=⟨alh,D,ac9,aeb⟩
 have T1:sv K mg ⟨(re K),(qI K),(rc K),(qY K),(AQ K),(OF K),(OH K),(OE K),(Ny K),(Nw K),(Nx K),(nY K),(fV K),(fX K),(fU K),(fR K),(fL K),(jE K),(fQ K),_,_,_,_,_,_,_,_,_,_,_⟩:=
  ⟨bl,cn,r,bW,x,FB,bB,gB,FS,bS,gS,FO,bO,gO,⟨FI,bI,acA,alm,o⟩,xT,(a 33 xz),alq,ajj,ue,(a 3 xz),(a 4 xz),(a 5 xz),N,an2,aq4,QU,sE,(a 8 xz),(a 9 xz),(a 10 xz),Q,an4,arq,QV,mj,(a 13 xz),(a 14 xz),(a 15 xz),R,an1,aq0,QT,m8,(a 18 xz),(a 19 xz),(a 20 xz),S,alo,aog,PV,oh,(a 23 xz),(a 24 xz),(a 25 xz),U,alk,aoc,PR,m7,(a 28 xz),(a 29 xz),(a 30 xz),V,aln,aoe,PU⟩
 obtain⟨t,u5,PA⟩:∃t u5,kc K mg t u5:=⟨_,⟨⟨(pI K),(XT K),(XW K),_,_,_⟩,(nv K),(XU K),(pH K),(YX K),(YW K),_,_,_,_,_⟩,⟨⟨T1,FEm,yL,aod,PD,aoh,PH,(a 189 xz),(a 190 xz),acS,acU,acR,acK,acG,acz,acH,⟨(a 191 xz),(a 192 xz),(a 193 xz),(a 194 xz),(a 195 xz),(a 196 xz),(a 197 xz),(a 198 xz)⟩,⟨(a 199 xz),(a 200 xz),(a 201 xz),(a 202 xz),(a 203 xz),(a 204 xz),(a 205 xz),(a 206 xz)⟩,⟨(a 207 xz),(a 208 xz),(a 209 xz),(a 210 xz),(a 211 xz),(a 212 xz),(a 213 xz),(a 214 xz)⟩,⟨(a 215 xz),(a 216 xz),(a 217 xz),(a 218 xz),(a 219 xz),(a 220 xz),(a 221 xz),(a 222 xz)⟩,⟨(a 223 xz),(a 224 xz),(a 225 xz),(a 226 xz),(a 227 xz),(a 228 xz),(a 229 xz),(a 230 xz)⟩,⟨(a 231 xz),(a 232 xz),(a 233 xz),(a 234 xz),(a 235 xz),(a 236 xz),(a 237 xz),(a 238 xz)⟩,⟨(a 239 xz),(a 240 xz),(a 241 xz),(a 242 xz),(a 243 xz),(a 244 xz),(a 245 xz),(a 246 xz)⟩⟩,C,alg,FNx,Q7,aof,PF,adv,adx,adu,ade,ac',acT,ada,FSt,yK,aq1,Qw,aqZ,Qv,aee,aef,aed,adw,ads,adf,adt⟩⟩;have O:=PA.ob;have T:=O.st;have g:gX K (cC K):=⟨afq,(a 41 xz),(a 42 xz),(a 43 xz),(a 44 xz),(a 45 xz),(a 46 xz),(a 47 xz),(a 48 xz),(a 49 xz),(a 50 xz)⟩;have i:jY K (gg K):=⟨alp,(a 36 xz),(a 37 xz),(a 38 xz)⟩;have F:=aiK aa';have bFT:=agX y;obtain⟨tk,b2⟩:=agY y;have q:Bw mg:=⟨o,m,j,C⟩;unfold YV;refine⟨an5,λs v=>?_,⟨_,Xz f⟩,λgW h1 h2 h3=>?_⟩
 .obtain⟨_,_,_,_,_,_,_,_,_,e,_⟩:=aba.ex;rw[e];exact .of_eq xz
 .exact(by
  have c:=@Mt.mk l.prog w K mg gW;have d:=@Dp.mk l.prog w K mg gW;have hC:=W.codeHd_of_K h1<|Xz f;have DTD:=c (adQ FTD n i) bTD acP;have DTE:=c (aeL FTE n i) bTE acr;have DTF:=c (UM FTF n i hC h3) bTF T8;have DTT:=c (af8 FTT n i hC h3 r bW x FTF bTF T8) bTT adq;have DTA:=c (aii FTA i) bTA aec;have DTL:=c (adR FTL n i) bTL acQ;have DTO:=d (aeK FTO n i ZT Y Z Y2 D ahg ahh) kTO bTO gTO;have DTW:=c (af7 FTW n p i ZT Y Z Y2 D) bTW adp;have DAE:=c (agm (t:=t) (CT:=(gg K)) FAE j g) bAE acd;have DWH:=c (af6 (t:=t) (CT:=(gg K)) FWH g) bWH acu;have DRG:=c (acY (t:=t) (CT:=(gg K)) FRG p g) bRG abM;have DBD:=c (agl (t:=t) (CT:=(gg K)) FBD p g) bBD acy;have DEN:=Mt.mk (agh (t:=t) FEN g i B k DAE DTE) bEN acw;have DWT:=Mt.mk (adP (t:=t) FWT g i DTD) bWT abX;have DMY:=Mt.mk (agb FMY g i O DAE DTE) bMY aca;have DCR:=Mt.mk (adW (t:=t) FCR g i k DTF) bCR ab1;have I:=Mt.mk (aeN FMV g j m DMY DCR) bMV acv;have DCM:=c (ait (t:=t) (CT:=(gg K)) FCM g) bCM acJ;have DOB:=c (adU (t:=t) (CT:=(gg K)) FOB g j) bOB abR;have DCY:=Mt.mk (agk FCY g i DTT DCM) bCY acx;have DDT:=Mt.mk (agj FDT g i j T DTA DCY) bDT acb;have DDL:=Mt.mk (aeR FDL g i T DTL DOB) bDL ab0;have DDW:=Mt.mk (aeP FDW g T j DOB DCM) bDW abY;have DPB:=d (acE FPB O) kPB bPB gPB;have DDS:=Mt.mk (aeQ FDS g O DPB DDT DDL DDW) bDS abZ;have DHF:=d (aiq FHF T) kHF bHF gHF;have DDO:=Mt.mk (aj0 FDO g DHF I DDS DCY) bDO adb;have DSO:=d (adS FSO T o) kSO bSO gSO;have DLO:=d ((aim FLO bl k ⟨aj1 FHC bl afp,kHC,bHC,gHC⟩ ⟨air FFI O,kFI,bFI,gFI⟩)) kLO bLO gLO;have J:=agd aa' g T o m DLO DTO DSO;have DMW:=Mt.mk (agc FMW g i p A J z F DTW) bMW acI;have DHN:=d (aip FHN) kHN bHN gHN;have DWN:=d (aih FWN) kWN bWN gWN;have DWA:=d (adO FWA) kWA bWA gWA;have L:=Dp.mk (ajY FWO DWA) kWO bWO gWO;have DLE:=Dp.mk (agf FLE cn m YZ DHN) kLE bLE gLE;have abb:=Dp.mk (ail PA aq5 DWN) ao9 aqB aqb;have DPL:=Dp.mk (ain PA FPL abb DWA) kPL bPL gPL;have DPS:=d (alX PA FPS Y1) kPS bPS gPS;have DSe:=Dp.mk (alU FSe k DPS) kSe bSe gSe;have DOT:=Dp.mk (ajZ FOT bl cn m Y1 DSe DWN) kOT bOT gOT;have DHL:=d (al6 FHL bl p) kHL bHL gHL;have DIS:=Dp.mk (al4 FIS cn ⟨Mj (P:=l.prog) (w:=w) (mg:=mg) (gW:=gW) r bl,kW,bW,x⟩) kIS bIS gIS;have DHS:=Dp.mk (al5 FHS bl DHL DIS) kHS bHS gHS;have DLF:=Dp.mk (al2 PA FLF DHN L) kLF bLF gLF;have DSF:=Dp.mk (alV PA FSF L) kSF bSF gSF;have arG:=Dp.mk (al7 PA arj DLF DSF L DLE DPL) apl aqO aqp;have GFT:=aoI PA y k DHS DOT arG;have DMP:=Dp.mk (al0 PA FMP k abb DPL) kMP bMP gMP;have DMA:=Dp.mk (alZ FMA bl DMP) kMA bMA gMA;have art:=Dp.mk (aeM aq3 q g DRG) ao8 aqA aqa;have abc:=Dp.mk (agi arl q g art DBD) apn aqQ aqr;have ars:=Dp.mk (adT aq2 q g abc DWH DWT) ao7 aqz ap';have arK:=Dp.mk (aeS arp g DMW DDO) apr aqT aqu;have arH:=Dp.mk (ais ark q g A J z F ars abc DEN I arK) apm aqP aqq;have arF:=Dp.mk (al3 PA ari k DLF) apk aqN aqo;have aru:=d (alY PA aq6) ao' aqC aqc;have arJ:=Dp.mk (ama aro bl k aru) apq aqS aqt;have arI:=Dp.mk (al' arn bl DLO DMA DOT arF arJ) apo aqR aqs;have arD:=d (aif arf j) api aqL aqm;have arz:=d (ajW ara) ape aqH aqi;have arw:=d (al1 aq8) apb aqE aqf;have arC:=d (al9 ard) aph aqK aql;have arB:=Dp.mk (al8 arc m arz) apg aqJ aqk;have ary:=Dp.mk (alW aq' bl m arB arw arC) apd aqG aqh;have arv:=d (adV aq7) apa aqD aqe;have arE:=d (aeO arh) apj aqM aqn;have arA:=Dp.mk (agg arb arH) apf aqI aqj;have arx:=Dp.mk (aio aq9 q g A J z F I DDO DEN DRG DBD) apc aqF aqg;exact ajX aba m arD ary arA arv arE GFT kFT b2 bFT gFT DMA arI arx)
def walk{l:W.OpenLaw}{q:k_}{loose:List d0}{XP:(d0->Option f_)->i_->Prop}{d:DefRec}(hn:l.most=a_ 63)(s:d.params.defaults=[])(t:d.name="law"):W.WalkO q loose XP (HT.t7 TL.oG 416 (λK=>(seen K,qD K)) (c_,pG)).says l.row.toRowW d [] (λf vs=>PySem.call f vs):=by
 refine ac8 hn s λw s₀ u mg mb P o pm cd doc a vs ns G Y Q hd R n v x p y A=>?_;obtain⟨K,i,B,r,E⟩:=Y;rw[t]at n;obtain⟨fd,h,⟨c,C⟩,D⟩:=facts (l:=l) (w:=w) E i G.T.g n
 have j:uv mg u.heap:=by
  obtain⟨j,ob,F,I,k,J,L,m⟩:=G.T.bmain;refine⟨j,ob,F,I,λz=>?_,k,J,L,m⟩;obtain⟨o',es,S,e,M,_⟩:=G.T.g;rw[z,e]at k;cases k;rw[M]at m;cases m
 exact aeX (ts:=[416]) i G.T.g G.T.b G.T.builtins G.T.nolimit A j (λb h=>by rw[da.mp h];exact r) (λb h=>by rw[da.mp h];exact((W.codeHd_of_K i C).tab r).isCodeTable) (λb h=>by rw[da.mp h];exact B) v x (dq p qc) ⟨xz,qc,qc⟩ D h (λH N O=>⟨a,ns,xz,O,p,y,⟨#[],N.2 416 (by simp),.inl xz⟩,λ_=>rfl⟩) λH e s' z=>z
end TL
open PySem.W
theorem TL.left:W.LeftO PySem.Challenge.rw_traylate_k72_whole_worlds.row.prog TL.qv [PySem.Str.ofString "fault"] (λs=>W.xlAt TL.qv [] s&&W.recOk PySem.Challenge.rw_traylate_k72_whole_worlds.row.records s) (HT.t7 TL.oG 416 (λK=>(TL.seen K,TL.qD K)) (c_,TL.pG)).obs (HT.t7 TL.oG 416 (λK=>(TL.seen K,TL.qD K)) (c_,TL.pG)).val 13380:=by
 refine HT.aiO ?a ?b ?c ?d
 case a=>kernel_rfl
 case b=>kernel_rfl
 case c=>intro s;kernel_rfl
 case d=>intro w os;exact HT.both (HT.sM<|HT.ou<|TL.l2 w os)<|HT.both (TL.r2 w os)<|TL.r3 w os
theorem PySem.Challenge.cw_traylate_k72_whole_worlds_holds : PySem.Challenge.rw_traylate_k72_whole_worlds.Holds := by
 refine W.holds_law TL.lwS λash=>?_;refine W.holds_open (q:=TL.qv) (loose:=[PySem.Str.ofString "fault"]) (XP:=W.XL TL.qv []) (YP:=(HT.t7 TL.oG 416 (λK=>(TL.seen K,TL.qD K)) (c_,TL.pG)).says) (d:=TL.dl) (kwd:=[]) TL.left (HT.t7 TL.oG 416 (λK=>(TL.seen K,TL.qD K)) (c_,TL.pG)).of (HT.t7 TL.oG 416 (λK=>(TL.seen K,TL.qD K)) (c_,TL.pG)).keeps (λs e=>W.xl_of s (Tn.mp e).1) W.XL.keeps ?h1 ?h2 ?h3 (λs e=>W.recFacts_of (Tn.mp e).2) ?h4 (by assumption) ?h5 ⟨xz,xz,xz,xz,xz,dk⟩ ?hw (TL.walk (l:=PySem.Challenge.rw_traylate_k72_whole_worlds) ?w1 ?w2 ?w3)
 case h1=>kernel_rfl
 case h2=>kernel_rfl
 case h3=>kernel_rfl
 case h4=>kernel_rfl
 case h5=>kernel_rfl
 case hw=>w_witness2
 case w1=>kernel_rfl
 case w2=>kernel_rfl
 case w3=>kernel_rfl
#print axioms PySem.Challenge.cw_traylate_k72_whole_worlds_holds
