import PyProof.Rows.All
import KE.KLam
import KE.KNestM
import KE.KSortedM
import KE.KEqDict
import KE.KFromBytes
import KE.KMinKey
import KE.KIsAll
import KE.KSortTup
import PySem.Challenge.RW_traylate_k94_whole_ends
set_option Elab.async false
set_option genInjectivity false
set_option linter.all false
set_option maxRecDepth 100000
set_option maxHeartbeats 0
set_option synthInstance.maxSize 100000
set_option synthInstance.maxHeartbeats 0
set_option genSizeOf false
set_option compiler.extract_closed false
open Option renaming some→a_,none→b_
open Bool renaming true→c_,false→d_
open PySem renaming Addr→e_,Value→f_,Shared→g_,Around→h_,Heap→i_,World→j_,Program→k_
open PySem renaming wpAny_bind→ah,wpAny_pure→aO,SetTable→bP,sizeLine→bZ,starEach→cA,mainGlobals→ff,sizeLine_eq→fR,PassesOwn→gA,NameKind→gV,compareOp→iy,FuncData→jO,wpAny_mono→kP,wpAny_field→mf,wpAny_holding→mQ,wpAny_seqItems→ph,wpAny_truthy_bool→qg,binaryOp→qw,wpAny_newObj_type→rK,wpAny_call_entry→rO,bootBuiltins→rW,builtinsNs→rZ,codeAny_builtin→tZ,bindArgs→ue,plainId_quiet→vy,wpAny_rule→vD,getMethod→vH,wpAny_callSpecial?_slot→xq,wpAny_setField→xy,keywordEach→xG,pickOrder→xM,backToKw→xP,wpAny_pyIter_list→zB,wpAny_passesOwn→zF,behindInMarks→zP,wpAny_letGo→zV,callWith→Ah,wpAny_setField_rec→By,wpAny_setState_of→BA,wpAny_isInstance→BB,wpAny_updateSeq→BC,codeAny_mono→BE,sysModules→BO,assignEach→BP,treeTable→BY,scanBound→BZ,relayAll→Cf,ReadsAll→Ci,wpAny_Call_Name_kw→Ez,wpAny_execs_nil→EG,importedModules→EH,recursionLimit→EK,wpAny_attempt→EM,call_meets→EX,updateSeq→E9,swapsWith→Fb,wpAny_forIn_list→JE,letOwnedTupleGo→JJ,wpAny_tryCatch→JO,firstArgMember→JP,wpAny_onRaise→JR,attributeBase→JS,wpAny_typeOf→J',wpAny_of_eq→Kj,richCompare→Kk,wpAny_load→Kt,wpAny_call→Ku,isInstance→Kv,intKind_is→Kw,seqItems?→Li,seqIndex?→Lj,wpAny_updateSeq_pair→SH,wpAny_setEntries_of→SJ,wpAny_tupleItemsOf→SO,foldedSetIterable→SU,wpAny_pyHash_int→SY,wpAny_eqBool_int→Ta,wpAny_askSetting→Tb,wpAny_loadPart'→Tf,wpAny_newTuple→Th,isSubtype_stop→Ti,fastBuiltinMro→Tj,wpAny_standAt→Tv,wpAny_newList→Tw,seqIndex_neg→TN,wpAny_comprehension_free→aaO,richCompare_meets_room→aaU,wpAny_isTrue_Compare1→aaY,isSubtype_tuple_tuple→aaZ,builtinLookup_eq_fast→aa0
open Nat renaming le_refl→az,zero_le→ba,le_of_lt→cg,le_trans→dC,ne_of_lt→dH,lt_of_lt_of_le→ip,le_succ→kr,lt_irrefl→mU,lt_of_le_of_lt→qf,lt_succ_self→rP,le_of_eq→ua,le_succ_of_le→vx,ne_of_gt→vA,lt_trichotomy→zC,succ_le_succ→zE,not_lt_zero→zH,min_le_left→zI,succ→Cj,beq→Cz,add_le_add_left→Ex,lt_succ_of_lt→EA,lt_of_lt_of_eq→Jy,succ_ne_self→JF,le_add_right→JG,lt_trans→Kc,lt_or_gt_of_ne→SQ,one_shiftLeft→SV,le_of_succ_le→SW,testBit_or→Tn,left_le_or→To,succ_pos→TU,succ_mul→TV,sub_self→TX,add_mul_mod_self_left→aaK,eq_of_testBit_eq→aa3,or_lt_two_pow→abu
open List renaming length_map→aA,getElem?_eq_getElem→aL,mem_of_getElem?→aW,mem_cons→bH,mem_cons_self→b9,getElem?_eq_some_iff→cb,getElem?_map→cc,mem_map→cj,mem_cons_of_mem→cx,mem_singleton→cO,replicate→cQ,size_toArray→dA,map_append→dB,length_append→dG,getD_eq_getElem?_getD→eG,length_cons→eJ,length_take→eZ,length_set→fe,map_cons→fv,getElem?_set_self→fQ,mem_append_right→gh,mem_filter→gz,take_add_one→iq,mem_append→ir,Perm→iJ,take_of_length_le→jf,map_map→jh,pairwise_iff_getElem→km,filter_cons→kL,length→kM,getElem?_set_ne→lC,all_eq_true→lY,getElem_of_mem→nR,mem_range→nU,mem_append_left→pf,length_filter_le→qe,length_range→qh,range_succ→qi,append_nil→qj,map_set→qk,mem_nil_iff→rQ,lookup_cons→rS,length_eq_zero_iff→tU,length_replicate→tV,getElem_mem→tY,take→ud,set_set→vC,cons→vI,getElem?_eq_none_iff→xp,getElem?_eq_none→xt,replicate_succ→xu,filter_append→xv,any_cons→xC,mem_or_eq_of_mem_set→zw,getElem?_of_mem→zA,flatMap_cons→zD,nodup_cons→zJ,all_map→zR,lookup→zX,getElem?_append_left→Bv,lookup_cons_self→Bx,all_cons→BD,mem_of_find?_eq_some→Ew,flatMap_append→Ey,nodup_append→EB,flatten_cons→EC,take_length→ED,not_mem_nil→EF,of_mem_zip→EI,getElem?_append_right→Jk,filter_cons_of_pos→Jo,filter_cons_of_neg→Jp,mem_of_mem_eraseP→Jq,length_eq_one_iff→Jr,take_append_drop→Js,cons_lt_cons_iff→Jt,map_eq_nil_iff→Jv,filterMap_cons→Jw,mem_filterMap→Jz,pairwise_map→JB,ext_getElem?→JC,prefix_refl→JH,ext_getElem→JI,forIn_cons→JK,find?_cons→JL,eq_of_mem_replicate→Sz,pairwise_singleton→SA,getElem?_replicate→SD,toList_toArray→SK,map_congr_left→SM,zip_cons_cons→SR,length_zipIdx→SS,length_drop→Tc,eraseP_cons→Td,any_eq_true→Te,drop_zero→Tp,IsPrefix→TB,map_nil→TY,any_map→TZ,foldl→UJ,eq_nil_of_length_eq_zero→aaE,getElem?_zip_eq_some→aaL,drop_eq_getElem_cons→aaM,set_eq_of_length_le→aaP,getElem?_cons_succ→aaS,range_succ_eq_map→aaV,drop_of_length_le→aaW,length_singleton→aa1,length_eraseP_le→aa2,replicate_succ'→aa4,pairwise_append→aa5,length_eraseIdx→aa6,getElem?_zipIdx→aa7,take_succ_cons→abc,length_pos_iff→abd,getD_cons_zero→abe,set_cons_succ→abi,pairwise_cons→abj,getLast?_cons→abk,take_sublist→abv,head?_filter→abw,getElem?_set→abx,foldl_append→aby,perm_middle→abE,mem_flatMap→abF,getElem_map→abG,flatMap_nil→abH,countP_cons→abI,cons_append→abJ
open Or renaming inl→aI,inr→uo
open PySem.Heap renaming get?_push_of_some→bE,lt_size→bV,get?_push_size→eO,SameBut→gQ,size_push→lZ,get?_update_self→zx,get?_update_ne→Jx,ExtBut→Km,get?_update_other→aaX,get?_none_of_le→aa8
open Option renaming some→cI,map_eq_some_iff→vt,toList_some→abg
open Option.some renaming inj→dj,injEq→xx
open PySem.Value renaming ref→dq,none→gR,int→iz,type→iI,bool→lE,float→Kl,str→Ll
open Bool renaming false_ne_true→dO,and_eq_true→jy,false_eq_true→tX,true_and→t8,false_and→xA,eq_iff_iff→JN,and_eq_true_iff→SI
open Int renaming toNat_natCast→eP,zero_add→pj,natCast_nonneg→xw,emod_nonneg→zK,emod_lt_of_pos→Bz,lt_irrefl→JU,toNat_of_nonneg→SN,fdiv_eq_ediv_of_nonneg→aaH
open PySem.SetTable renaming below→gi,grown→zM,has→TR,probe→ab1,slot→acb
open PySem.PassesOwn renaming never→hV
open Ne renaming symm→iL
open PyProof.Rows renaming boot_tuple→iY,boot_isinstance→jg,boot_list→r9,boot_all→Cg,callWith_type1→Eu,slot_tuple_getitem→Sv,get?_update_seq→Tg,subscriptTail_builtinR→aaT
open PySem.Obj renaming mapSeq→jz,mapFields→vz,putSet→BR,data_mapFields→abh
open PySem.SeqAt renaming EqAt→jM,noMixAll→Ft
open Array renaming length_toList→ko,getD→xJ,getElem?_toList→zy,getD_eq_getD_getElem?→Jj,getElem_toList→Ju,perm_iff_toList_perm→Sw,getElem?_eq_none→SG,eq_empty_of_size_eq_zero→aaD,getElem?_eq_getElem→aaN,forIn_toList→abl
open PySem.PyData renaming eqv→kQ,int→nX,eqvAll→t7,canLayAll0→vw,depthAll→zG,canLay0→zO,tuple→BG,depth→EO,strOk→Kb,none→Ue
open PySem.Heap.SameBut renaming update→lD
open True renaming intro→mY
open False renaming elim→nY
open PySem.W renaming boot_heap→pk,boot_drawn→Kx,boot_toks→Lk
open Prod renaming mk→qB
open PySem.NameKind renaming free→rV
open PySem.Str renaming ofString→rX
open Classical renaming byContradiction→tS,propDecidable→SE
open PySem.Builtin.SmallTypes renaming nextOf→tT,ownedTupleIsFree→Ji,ownedTupleHandOut→aaC
open PySem.Around renaming under_plainId→vv,under→T5,frames_deeper→aa9
open List.cons renaming inj→xB
open Prod.mk renaming inj→xH,injEq→JT
open Nat.succ renaming inj→BH
open PySem.Walks renaming list→BQ
open PySem.W.KasT renaming kasWp_bind→EJ
open PySem.Builtin renaming bitAnd→EL,bitOr→EN
open PySem.Builtin.Slice renaming slicePlaces→Jl,sliceAdjust→Sy,sliceApplied→aaJ
open PySem.Builtin.Tuple renaming tupleExact→Jm,tupleHashOf→Sx
open PySem.Builtin.List renaming listTooLong→Jn,listExtendWith→aaF,listSameRef→aaQ
open PySem.SetTable.below renaming go→JA
open ForInStep renaming yield→JM
open PyProof.Rows.IsTup renaming typeIs→Kd
open List.IsPrefix renaming map→SX
open PyProof.Rows.IntsAre renaming int_at→Tq
open PySem.Shared renaming TypeIs→Tz
open PySem.pickOrder renaming go→TQ
open PySem.Builtin.Builtins renaming bindParams→aaG
open PySem.Calls renaming Name_function_global→aaI
open PySem.Builtin.Frozenset renaming sizeOf→aaR
open PySem.SeqAt.EqAt renaming none_int→aba,int_none→abb
open PySem.SetTable.probe renaming go→abt
open PySem.PyData.tuple renaming inj→abD
open Array.Perm renaming refl→abT
open PySem.SetTable.Met.empty renaming injEq→aq0
open PySem.F renaming plainAttrs_list→m_,slot_list_append→n_,type_list_append→o_
open PySem renaming boot_len→q_,mem_of_lookup→t_
open PySem.Paired renaming length→r_
open PySem.W renaming Frag→u_,kitOne→v_,findIn→w_,keepIn→x_,kitCls→y_,mg_none_of→z_,Looks→s_,mroIn→A_,fnOf→B_,mg_of→C_,InstAt→D_,kia_one→E_,hasDictIn→F_,callWith_K→G_
open PySem PySem.Spec PyProof.Rows
open PySem renaming wpAny→be,model→bn,Paired→bt,Stmt→bv,Expr→bw,backTo→bx,PyData→bD,OsState→ca,rawInt→ci,Str→cr,Obj→cP,Scope→d5,Model→d6
open PyProof.Rows renaming seqObj→d7,envOfC→d8
theorem ap(_:True:=by decide):True:=⟨⟩
def ad:=ap._auto_1
theorem aK(_:True:=by rfl):True:=⟨⟩
def a8:=aK._auto_1
theorem b4(_:True:=by with_reducible assumption):True:=⟨⟩
def a3:=b4._auto_1
theorem b7(_:True:=by with_unfolding_all rfl):True:=⟨⟩
def am:=b7._auto_1
theorem xz{b:Sort u}{a:b}:a=a:=Eq.refl a
noncomputable abbrev PySem.Heap.zH(h:PySem.Heap):=h.objs.size
noncomputable abbrev PySem.Shared.zS(s:PySem.Shared):=s.heap.objs.size
noncomputable abbrev l_:String:="name"
noncomputable abbrev H_:String:="swap"
noncomputable abbrev I_:String:="none"
noncomputable abbrev J_:String:="set"
noncomputable abbrev K_:String:="look"
noncomputable abbrev L_:String:="parts"
noncomputable abbrev M_:String:="clear"
noncomputable abbrev N_:String:="row"
noncomputable abbrev O_:String:="program"
noncomputable abbrev P_:String:="__init__"
noncomputable abbrev Q_:String:="reg"
noncomputable abbrev R_:String:="empties"
noncomputable abbrev S_:String:="tuple"
noncomputable abbrev T_:String:="skip"
noncomputable abbrev U_:String:="kind"
noncomputable abbrev V_:String:="put"
noncomputable abbrev W_:String:="add"
noncomputable abbrev X_:String:="self"
noncomputable abbrev Y_:String:="place"
noncomputable abbrev Z_:String:="is_whole"
noncomputable abbrev ac1:String:="clerk"
noncomputable abbrev ac2:String:="nexts"
noncomputable abbrev an3:String:="_law_cell"
noncomputable abbrev as0:String:="part"
noncomputable abbrev as1:String:="_law_program_here"
noncomputable abbrev as2:String:="_law_machine"
noncomputable abbrev as3:String:="turn"
noncomputable abbrev as4:String:="sets"
noncomputable abbrev as5:String:="carry"
noncomputable abbrev as6:String:="machine"
noncomputable abbrev as7:String:="_law_script"
noncomputable abbrev as8:String:="names"
noncomputable abbrev as9:String:="move"
noncomputable abbrev at0:String:="bounds_of"
noncomputable abbrev at1:String:="setting"
noncomputable abbrev at3:String:="_law_part"
noncomputable section
def ee:=@if_neg
def ei:=@if_pos
def eu:=@absurd
def eF:=@of_decide_eq_true
def eN:=@decide_eq_true
def eT:=@decide_eq_false
def f':=@of_decide_eq_false
def fi:=@beq_eq_false_iff_ne
def fC:=@beq_iff_eq
def fF:=@congrArg
def Eq.fT:=@Eq.trans
def Iff.fT:=@Iff.trans
def List.Perm.fT:=@List.Perm.trans
def HEq.fT:=@HEq.trans
def Array.Perm.fT:=@Array.Perm.trans
def List.IsPrefix.fT:=@List.IsPrefix.trans
def PySem.Heap.SameBut.fT:=@PySem.Heap.SameBut.trans
def Eq.g8:=@Eq.symm
def Iff.g8:=@Iff.symm
def List.Perm.g8:=@List.Perm.symm
def Ne.g8:=@Ne.symm
theorem dk{p:Prop}(h:p:=by decide +kernel):p:=h
theorem qc{p:Prop}(h:autoParam p ad):p:=h
theorem om{p:Prop}(h:p:=by omega):p:=h
theorem li{p:Prop}(h:p:=by lia):p:=h
noncomputable abbrev gW:List PySem.Str:=["self","told"]
noncomputable abbrev hA:List PySem.Str:=["self","clerk"]
noncomputable abbrev gw:List PySem.Str:=["self"]
noncomputable abbrev ku:List PySem.Str:=["_law_program_here","_law_clerk","_law_step","_law_waits","_law_kind"]
noncomputable abbrev hD:List PySem.Str:=["names","name"]
noncomputable abbrev i0:List PySem.Str:=["self","clerk","step"]
noncomputable abbrev lJ:List PySem.Str:=["_law_script","_law_program_here","_law_kind","_law_told"]
noncomputable abbrev ii:List PySem.Str:=["self","program","kind"]
noncomputable abbrev hU:List PySem.Str:=["self","name"]
noncomputable abbrev lA:List PySem.Str:=["_law_program_here","_law_firsts","_law_kind"]
noncomputable abbrev lu:List PySem.Str:=["_law_program_here","_law_clerk","_law_name"]
noncomputable abbrev kn:List PySem.Str:=["_law_cell","_law_k","_law_amount"]
noncomputable abbrev hJ:List PySem.Str:=["program"]
noncomputable abbrev lp:List PySem.Str:=["step","place","row","foreign","kind"]
noncomputable abbrev ki:List PySem.Str:=["self","name","number","deed"]
noncomputable abbrev kb:List PySem.Str:=["_law_one_here","_law_other"]
noncomputable abbrev ia:List PySem.Str:=["self","place"]
noncomputable abbrev hH:List PySem.Str:=["thing"]
noncomputable abbrev io:List PySem.Str:=["self","clerk","name"]
noncomputable abbrev hO:List PySem.Str:=["machine"]
noncomputable abbrev jI:List PySem.Str:=["step","names","foreign"]
noncomputable abbrev jv:List PySem.Str:=["_law_step","_law_place"]
noncomputable abbrev js:List PySem.Str:=["_law_step","_law_waits"]
noncomputable abbrev hZ:List PySem.Str:=["part"]
noncomputable abbrev jp:List PySem.Str:=["_law_script","_law_k"]
noncomputable abbrev iX:List PySem.Str:=["step","place","regs"]
noncomputable abbrev lb:List PySem.Str:=["step","names","kind"]
noncomputable abbrev ix:List PySem.Str:=["self","kind"]
noncomputable abbrev kN:List PySem.Str:=["step","place","row"]
noncomputable abbrev kw:List PySem.Str:=["_law_cell","_law_k"]
noncomputable abbrev iv:List PySem.Str:=["names","others"]
noncomputable abbrev im:List PySem.Str:=["told"]
namespace L2
end L2
namespace L3
end L3
namespace L4
end L4
namespace L5
end L5
namespace HT
open PySem.W
noncomputable def Fx(a:String->Option Builtin)(p:k_)(w:j_)(b:Nat)(c:Option f_):Nat->SharedT->Thread->Option SharedT
 | 0,_,_=>b_
 | n+1,s,t=>match through t with
  | true=>a_ s
  | false=>match stepOk b c t with
   | false=>b_
   | true=>match stepT (denote a) p w s t with
    | some (s',t')=>Fx a p w b c n s' t'
    | none=>b_
theorem Uh{w:j_}:∀{n:Nat}{s s':SharedT}{t:Thread},Fx tb p w n₀ ann n s t=a_ s'->topRun tb p w n₀ ann n s.abs t=a_ s'.abs
 | 0,_,_,_,h=>by cases h
 | n+1,s,s',t,h=>by
  unfold Fx at h;unfold topRun;cases b:through t with
  | true=>rw[b]at h;cases h;rfl
  | false=>
   rw[b]at h;cases c:stepOk n₀ ann t with
   | false=>rw[c]at h;cases h
   | true=>
    rw[c]at h;cases a:stepT (denote tb) p w s t with
    | none=>rw[a]at h;cases h
    | some r=>obtain⟨d,e⟩:=r;rw[a]at h;rw[stepT_spec a];exact Uh h
noncomputable def Wu:List cP->Nat->BT->BT
 | [],_,t=>t
 | o::r,i,t=>Wu r (i+1)<|t.ins i o
def OR(P:Params):BT:=Wu (pk P).objs.toList 0 .nil
def CV(P:Params):Nat:=(pk P).objs.size
def OS(P:Params):Life:=(pk P).life
def al6(P:Params):Option Value:=(pk P).nsMap ff "__annotations__"
theorem boot_abs(P:Params):absHeap (OR P) (CV P) (OS P)=pk P:=by kernel_rfl
theorem aik(P:Params):((pk P).isNs ff,(pk P).objs.size)=(c_,CV P):=by kernel_rfl
def Xw(P:Params)(os:ca):SharedT:=⟨OR P,CV P,OS P,#[],Kx,Lk,os⟩
def nI(p:k_)(w:j_)(N:Nat)(os:ca):Option SharedT:=Fx BY p w (CV w.params) (al6 w.params) N (Xw w.params os)<|topStub p
def held(p:k_)(P:Params)(s:g_):Bool:=staticsOk (EH p.main.body) (pk P) s.heap&&namesBound p s.heap&&gensDone s&&laidKept (pk P) s.heap
theorem both{a d e:Type}{o:Option a}{f:a->d}{g:a->e}{b:d}{c:e}(h1:o.map f=a_ b)(h2:o.map g=a_ c):o.map (λs=>(f s,g s))=a_ (b,c):=by
 cases o with
 | none=>cases h1
 | some s=>cases h1;cases h2;rfl
theorem acQ{w:j_}(a:(s₀.heap.isNs ff&&s₀.gens.size==0)=c_)(r:topRun BY p w s₀.heap.objs.size (s₀.heap.nsMap ff "__annotations__") N s₀ (topStub p)=a_ s₁)(b:(staticsOk (EH p.main.body) s₀.heap s₁.heap&&namesBound p s₁.heap&&gensDone s₁&&laidKept s₀.heap s₁.heap)=c_):topFrom BY p w N s₀=a_ s₁:=by
 unfold topFrom;rw[a];dsimp only;rw[r];dsimp only[Option.bind];rw[b]
theorem ah5(e:opening p=plainProg p.main.scope.names)(b:Nat.ble 600 N=c_)(f:∀s,fenceModules? p s=a_ s)(run:∀(w:j_)(os:ca),(nI p w N os).map (λs=>(held p w.params s.abs,(openSeen q loose (EH p.main.body) Xt c_ s.abs,Yf s.abs)))=a_ (c_,(openGood q loose,Ya w))):LeftO p q loose Xt Yf Ya N:=λw=>by
 obtain⟨⟨h,c,d,k,os⟩,g,e'⟩:=vt.mp<|boot_open e b f w;obtain⟨rfl,rfl,rfl,rfl⟩:h=pk w.params/\c=Array.mk []/\d=Kx/\k=Lk:=by simpa using e'
 obtain⟨i,r,l⟩:=vt.mp<|run w os;obtain⟨l1,l2⟩:=xH l;obtain⟨j,m⟩:=xH<|aik w.params;have a:=Uh r
 have n:(Xw w.params os).abs=⟨pk w.params,Array.mk [],Kx,Lk,os⟩:=by
  show (⟨absHeap (OR w.params) (CV w.params)<|OS w.params,_,_,_,_⟩:g_)=_;rw[boot_abs];rfl
 rw[n]at a;have t:topFrom BY p w N ⟨pk w.params,Array.mk [],Kx,Lk,os⟩=a_ i.abs:=acQ (by rw[j];rfl) (by show topRun BY p w (pk w.params).objs.size _ N _ _=_;rw[m];exact a) l1;unfold openEnds;rw[g];show (topFrom BY p w N _).map _=_;rw[t];exact fF a_ l2
end HT
namespace TL
open PySem.SeqAt L2 L3
noncomputable def qv:Program:=W.view PySem.Challenge.rw_traylate_k94_whole_ends.prog [0,2,3,4,5,6,7,9,10,11,12,13,14,15,16,17,18,19,20,21,22,23,24,26,27,28,29,30,31,33,34,35,37,38,39,40,42,43,44,45,46,48,49,50,51,52,53,54,55,56,57,58,59,60,61,63,64,66,67,68,69,70,71,72,73,74,75,76,77,78,79,80,81]
end TL
section
open PySem.W
abbrev TL.rn(w:j_)(os:ca):=HT.nI PySem.Challenge.rw_traylate_k94_whole_ends.row.prog w 13454 os
noncomputable abbrev TL.lo:List cr:=["fault","Machine","KINDS"]
theorem TL.lw:looseW TL.qv [PySem.Str.ofString "fault"]=TL.lo:=by kernel_rfl
theorem TL.lwS:W.OpenLaw.wellSaid PySem.Challenge.rw_traylate_k94_whole_ends=true:=by kernel_rfl
theorem TL.l0(w:j_)(os:ca):(TL.rn w os).map (λs=>((s.abs.heap.keysOk TL.lo ((recsOf TL.qv).map (·.name)) ((litsOf TL.qv).map (·.1))<|(clssOf TL.qv TL.lo).map (·.name)),((plainSeenE TL.qv TL.lo s.abs))))=a_ (c_,(plainGoodE TL.qv TL.lo)):=by kernel_rfl
theorem TL.l1(w:j_)(os:ca):(TL.rn w os).map (λs=>(wideSeen TL.qv s.abs,clsSeenW TL.qv [PySem.Str.ofString "fault"] s.abs))=a_ (wideGood TL.qv,clsGoodW TL.qv [PySem.Str.ofString "fault"]):=by kernel_rfl
theorem TL.l2(w:j_)(os:ca):(TL.rn w os).map (λs=>((plainSeenD TL.qv [PySem.Str.ofString "fault"] s.abs),((HT.held PySem.Challenge.rw_traylate_k94_whole_ends.row.prog w.params s.abs),((s.abs.heap.bmainOk&&(valsOk TL.qv s.abs.heap&&(!importsNone TL.qv||s.abs.heap.noSeerOk)))))))=a_ (plainGoodD TL.qv [PySem.Str.ofString "fault"],(c_,(c_))):=by kernel_rfl
theorem TL.l3(w:j_)(os:ca):(TL.rn w os).map (λs=>((((recsOf TL.qv).map λd=>s.abs.heap.tab0Ok d.name).take 22 |>.all id),((s.abs.heap.bltView))))=a_ (c_,(bltViewBooted)):=by kernel_rfl
theorem TL.l4(w:j_)(os:ca):(TL.rn w os).map (λs=>((recsOf TL.qv).map λd=>s.abs.heap.tab0Ok d.name).drop 22 |>.all id)=a_ true:=by kernel_rfl
theorem TL.l5(w:j_)(os:ca):(TL.rn w os).map (λs=>(((((recsOf TL.qv).map (·.name)).map<|s.abs.heap.shapeAt ff).take 18),(((ownsOf TL.qv).all (λo=>s.abs.heap.ownExcOk o.name o.chain o.bm o.newId&&s.abs.heap.quietOk o.name)&&(s.abs.heap.noLimitOk&&s.abs.heap.noDigitsOk)),((pinSeenD TL.qv (drecsOf TL.qv) s.abs),((s.abs.heap.accountedOkI (EH PySem.Challenge.rw_traylate_k94_whole_ends.row.prog.main.body)&&(s.abs.heap.isNs ff&&(s.abs.heap.isNs rZ&&(tablesOk TL.qv s.abs.heap&&((W.xlAt TL.qv [] s.abs&&W.recOk PySem.Challenge.rw_traylate_k94_whole_ends.row.records s.abs)&&(s.abs.gens.size==0)))))))))))=a_ ((((recsOf TL.qv).take 18).map λd=>a_ d.shape),(c_,(pinGoodD<|drecsOf TL.qv,(c_)))):=by kernel_rfl
theorem TL.l6(w:j_)(os:ca):(TL.rn w os).map (λs=>(((recsOf TL.qv).map (·.name)).map<|s.abs.heap.shapeAt ff).drop 18)=a_ ((((recsOf TL.qv).drop 18).map λd=>a_ d.shape)):=by kernel_rfl
end
namespace L2
noncomputable def dt(s:bv)(j:Nat):bv:=match s with
 | .ClassDef _ _ _ body _ _ _ _ _ _ _=>body.getD j<|.Pass ⟨0,0,0,0⟩
 | _=>.Pass ⟨0,0,0,0⟩
noncomputable def lF(s:bv):Arguments:=match s with
 | .FunctionDef _ a _ _ _ _ _ _ _ _=>a
 | _=>{posonlyargs:=[],args:=[],vararg:=b_,kwonlyargs:=[],kw_defaults:=[],kwarg:=b_,defaults:=[]}
noncomputable def iZ(s:bv):List bv:=match s with
 | .FunctionDef _ _ b _ _ _ _ _ _ _=>b
 | _=>[]
noncomputable def aP(s:bv):d5:=match s with
 | .FunctionDef _ _ _ _ _ _ sc _ _ _=>sc
 | _=>{kind:=.function,names:=[],isGenerator:=d_,isCoroutine:=d_}
end L2
namespace TL
open L2 L3
noncomputable abbrev kZ:Int:=1000000000000000000000000000000000000000000000000000000000000
noncomputable def top(i:Nat):bv:=PySem.Challenge.pw_traylate_k94_whole_ends.main.body.getD i<|.Pass ⟨0,0,0,0⟩
abbrev GH:bv:=dt (top 13) 0
abbrev CB:bv:=top 21
abbrev Cr:bv:=top 22
abbrev FE:bv:=top 23
abbrev MF:bv:=top 24
abbrev GG:bv:=dt (top 14) 0
abbrev GJ:bv:=dt (top 15) 0
abbrev GD:bv:=dt (top 16) 0
abbrev F6:bv:=dt (top 17) 0
abbrev FZ:bv:=dt (top 18) 0
abbrev F2:bv:=dt (top 20) 0
abbrev MB:bv:=top 21
abbrev Dq:bv:=dt (top 34) 0
abbrev Og:bv:=dt (top 34) 1
abbrev LA:bv:=dt (top 34) 2
abbrev Fg:bv:=dt (top 34) 3
abbrev Nn:bv:=dt (top 34) 4
abbrev MD:bv:=dt (top 34) 5
abbrev Lz:bv:=dt (top 34) 6
abbrev MC:bv:=top 35
end TL
namespace TL
open PySem.SeqAt L2 L3
abbrev Nm:bv:=dt (top 34) 7
end TL
namespace TL
open PySem.SeqAt L2 L3 L4
abbrev F8:bv:=dt (top 13) 5
abbrev E1:bv:=dt (top 18) 3
abbrev EU:bv:=dt (top 19) 0
abbrev F5:bv:=dt (top 40) 0
abbrev NF:bv:=dt (top 40) 1
abbrev Nq:bv:=dt (top 40) 2
abbrev LN:bv:=dt (top 40) 3
abbrev MK:bv:=dt (top 40) 4
abbrev Pr:bv:=dt (top 40) 5
abbrev MP:bv:=dt (top 40) 6
abbrev NB:bv:=dt (top 40) 7
abbrev MQ:bv:=dt (top 40) 8
abbrev MO:bv:=dt (top 40) 9
abbrev NC:bv:=dt (top 40) 10
abbrev Ou:bv:=dt (top 40) 11
abbrev LF:bv:=dt (top 40) 12
abbrev Nz:bv:=dt (top 40) 14
abbrev Nl:bv:=dt (top 40) 15
abbrev Kn:bv:=dt (top 40) 17
abbrev Ly:bv:=dt (top 40) 18
abbrev ND:bv:=dt (top 40) 19
abbrev JV:bv:=top 39
abbrev Oq:bv:=top 38
abbrev Pw:bv:=top 27
abbrev Ot:bv:=top 28
abbrev KI:bv:=top 29
abbrev LB:bv:=top 37
abbrev MG:bv:=top 42
abbrev NA:bv:=top 43
abbrev LC:bv:=top 44
abbrev Nt:bv:=dt (top 40) 24
abbrev Ke:bv:=top 45
abbrev ur:bv:=top 46
abbrev FD:bv:=dt (top 13) 2
abbrev ET:bv:=dt (top 20) 1
abbrev Of:bv:=top 49
abbrev Lx:bv:=top 50
abbrev Oj:bv:=top 59
abbrev LG:bv:=top 60
abbrev GA:bv:=dt (top 13) 3
abbrev GC:bv:=dt (top 16) 1
abbrev FY:bv:=dt (top 18) 1
abbrev MJ:bv:=top 63
abbrev Nr:bv:=top 64
abbrev Oo:bv:=top 48
abbrev Pp:bv:=top 51
abbrev Nv:bv:=top 52
abbrev KH:bv:=top 30
abbrev LD:bv:=top 31
abbrev MH:bv:=top 53
abbrev MN:bv:=top 54
abbrev Ny:bv:=top 55
abbrev LL:bv:=top 56
abbrev Nu:bv:=top 57
abbrev Oh:bv:=top 58
abbrev LM:bv:=top 61
abbrev F7:bv:=top 62
abbrev MR:bv:=top 66
abbrev Np:bv:=top 67
abbrev Pq:bv:=top 68
abbrev Nw:bv:=top 71
abbrev ME:bv:=top 69
abbrev Oi:bv:=top 70
abbrev ML:bv:=top 72
abbrev LK:bv:=top 73
abbrev LJ:bv:=top 74
abbrev LI:bv:=top 75
abbrev Om:bv:=top 76
abbrev Ol:bv:=top 78
abbrev Nx:bv:=top 77
abbrev LH:bv:=top 79
abbrev MM:bv:=top 80
abbrev uA:bv:=top 81
end TL
namespace HT
open PySem.W
theorem sL{a d e:Type}{o:Option a}{f:a->d}{g:a->e}{b:d}{c:e}(h:o.map (λs=>(f s,g s))=a_ (b,c)):o.map f=a_ b:=by
 cases o with
 | none=>cases h
 | some s=>
  have h':(f s,g s)=(b,c):=dj h;exact fF a_ (xH h').1
theorem oF{a d e:Type}{o:Option a}{f:a->d}{g:a->e}{b:d}{c:e}(h:o.map (λs=>(f s,g s))=a_ (b,c)):o.map g=a_ c:=by
 cases o with
 | none=>cases h
 | some s=>
  have h':(f s,g s)=(b,c):=dj h;exact fF a_ (xH h').2
theorem uJ{a:Type}{o:Option a}{f g:a->Bool}(h1:o.map f=a_ c_)(h2:o.map g=a_ c_):o.map (λs=>f s&&g s)=a_ true:=by
 cases o with
 | none=>cases h1
 | some s=>
  have p:f s=true:=dj h1;show a_ (f s&&g s)=a_ c_;rw[p];exact h2
theorem wc{a:Type}{o:Option a}{f g:a->Bool}(h:o.map (λs=>f s&&g s)=a_ c_):o.map f=a_ c_/\o.map g=a_ true:=by
 cases o with
 | none=>cases h
 | some s=>
  have p:=SI.mp<|dj h;exact⟨fF a_ p.1,fF a_ p.2⟩
theorem td{a b c:Type}{o:Option a}{F:a->List b}{l:List c}{g:c->b}(k:Nat)(h1:o.map (λs=>(F s).take k)=a_ ((l.take k).map g))(h2:o.map (λs=>(F s).drop k)=a_ ((l.drop k).map g)):o.map F=a_ (l.map g):=by
 cases o with
 | none=>cases h1
 | some s=>
  refine fF a_ ?_;rw[<-Js k<|F s,show (F s).take k=(l.take k).map g from dj h1,show (F s).drop k=(l.drop k).map g from dj h2,<-dB,Js]
theorem M'{a:Type}{o:Option a}{F:a->List Bool}(k:Nat)(h1:o.map (λs=>((F s).take k).all id)=a_ c_)(h2:o.map (λs=>((F s).drop k).all id)=a_ c_):o.map (λs=>(F s).all id)=a_ true:=by
 cases o with
 | none=>cases h1
 | some s=>
  refine fF a_ ?_;show (F s).all id=c_;rw[<-Js k<|F s,List.all_append,show ((F s).take k).all id=c_ from dj h1,show ((F s).drop k).all id=c_ from dj h2];rfl
theorem mkS(h1:d=D)(h2:o=c_)(h3:g=c_)(h4:b=c_)(h5:n=c_):(⟨d,o,[],g,b,n,0⟩:Seen)=⟨D,c_,[],c_,c_,c_,0⟩:=by
 subst h1 h2 h3 h4 h5;rfl
theorem tb_{a b:Type}{o:Option a}{l:List b}{f:a->b->Bool}(h:o.map (λs=>(l.map λd=>f s d).all id)=a_ c_):o.map (λs=>l.all λd=>f s d)=a_ true:=by
 cases o with
 | none=>cases h
 | some s=>
  refine fF a_ ?_;have e:(l.map λd=>f s d).all id=true:=dj h;rw[zR]at e;exact e
theorem agV{w:j_}{N:Nat}{os:ca}{f:g_->Bool}(g:looseW q loose=L)(h3:(nI p w N os).map (λs=>s.abs.heap.keysOk L ((recsOf q).map (·.name)) ((litsOf q).map (·.1))<|(clssOf q L).map (·.name))=a_ c_)(h5:(nI p w N os).map (λs=>s.abs.heap.accountedOkI mods&&(s.abs.heap.isNs ff&&(s.abs.heap.isNs rZ&&(tablesOk q s.abs.heap&&(f s.abs&&(s.abs.gens.size==0))))))=a_ c_)(h1:(nI p w N os).map (λs=>((recsOf q).map (·.name)).map<|s.abs.heap.shapeAt ff)=a_ ((recsOf q).map λd=>a_ d.shape))(h:(nI p w N os).map (λs=>(ownsOf q).all (λo=>s.abs.heap.ownExcOk o.name o.chain o.bm o.newId&&s.abs.heap.quietOk o.name)&&(s.abs.heap.noLimitOk&&s.abs.heap.noDigitsOk))=a_ c_)(h2:(nI p w N os).map (λs=>s.abs.heap.bltView)=a_ bltViewBooted)(i:(nI p w N os).map (λs=>(recsOf q).all λd=>s.abs.heap.tab0Ok d.name)=a_ c_)(b:(nI p w N os).map (λs=>s.abs.heap.bmainOk&&(valsOk q s.abs.heap&&(!importsNone q||s.abs.heap.noSeerOk)))=a_ c_)(h4:(nI p w N os).map (λs=>(pinSeenD q (drecsOf q) s.abs,(plainSeenE q L s.abs,(plainSeenD q loose s.abs,(wideSeen q s.abs,clsSeenW q loose s.abs)))))=a_ ((pinGoodD<|drecsOf q,(plainGoodE q L,(plainGoodD q loose,(wideGood q,clsGoodW q loose)))))):(nI p w N os).map (λs=>openSeen q loose mods f c_ s.abs)=a_ (openGood q loose):=by
 subst g;obtain⟨j,h5⟩:=wc h5;obtain⟨c,h5⟩:=wc h5;obtain⟨e,h5⟩:=wc h5;obtain⟨k,h5⟩:=wc h5;obtain⟨l,a6⟩:=wc h5;obtain⟨b1,b2⟩:=wc h;obtain⟨c1,b⟩:=wc b;obtain⟨m,n⟩:=wc b
 have r:(nI p w N os).map (λs=>seen ((recsOf q).map (·.name)) (ownsOf q) [] {heap:=s.abs.heap,drawn:=s.abs.drawn,toks:=s.abs.toks,os:=s.abs.os})=a_ (expectedOf q):=by
  generalize nI p w N os=o at h1 c e b1 b2 ⊢;cases o with
  | none=>cases h1
  | some s=>
   refine fF a_ ?_;exact mkS (dj h1) (dj b1) (dj c) (dj e)<|dj b2
 have t:(nI p w N os).map (λs=>tabsOk q s.abs)=a_ true:=uJ (uJ (uJ i c1) m) n;have a:=both r<|both h2<|both (uJ (uJ (uJ (uJ (uJ (uJ h3 j) c) e) k) l) a6)<|both t h4;exact a
end HT
namespace HT
open PySem.W
theorem MU{g:e_->Option cP}:∀l:List e_,(l.filterMap λa=>(g a).map λo=>(a,o)).lookup a=a_ o->g a=a_ o
 | [],h=>by cases h
 | b::r,h=>by
  rw[Jw]at h;cases e:g b with
  | none=>rw[e]at h;exact MU r h
  | some x=>
   rw[e]at h;dsimp only[Option.map]at h;rw[rS]at h;cases q:a==b with
   | true=>rw[q]at h;cases h;rw[fC.mp q];exact e
   | false=>rw[q]at h;exact MU r h
noncomputable def rf:Option (Option f_)->e_
 | some (a_ (.ref a))=>a
 | _=>0
noncomputable def HJ:Option (Option f_)->Bool
 | some (a_ (.ref _))=>c_
 | _=>d_
theorem nj(h:HJ o=c_):o=a_ (a_<|.ref<|rf o):=by
 unfold HJ at h
 split at h
 .rfl
 .cases h
noncomputable def yE(o:Option (Option f_))(n:Int):Bool:=match o with
 | some (a_ (.int m _))=>decide<|m=n
 | _=>d_
theorem CJ(h:yE o n=c_):∃t,o=a_ (a_<|.int n t):=by
 unfold yE at h
 split at h
 .rename_i m t;exact⟨t,by rw[eF h]⟩
 .cases h
noncomputable def Qs(o:Option CFound)(f:e_):Bool:=match o with
 | some (.val (.ref a))=>Cz a f
 | _=>d_
theorem ajN(h:Qs o f=c_):o=a_ (.val<|.ref f):=by
 unfold Qs at h
 split at h
 .rw[Nat.eq_of_beq_eq_true h]
 .cases h
abbrev rh:=cr×cr×Arguments×FuncBody×d5×e_×List (cr×e_)×f_×e_
noncomputable def aX(K:Frag)(f:e_):Option rh:=match K.lookup f with
 | some ⟨_,_,.func d,_⟩=>a_ (d.name,d.qualname,d.params,d.body,d.scope,d.globals,d.closure,d.defaults,d.builtins)
 | _=>b_
noncomputable def codeOk(K:Frag)(f:e_)(q:cr):Bool:=match K.lookup f with
 | some ⟨_,_,.func d,_⟩=>codeIn K d.code q
 | _=>d_
theorem yh{K:Frag}(h:aX K f=a_ (n,q,A,.stmts B,S,ff,[],.none,rZ))(a:codeOk K f q'=c_):∃(oc:f_)(od:Option e_)(kV b pm:f_)(an:Option e_)(cd ct:f_)(sl:Array (Option f_)),K.lookup f=a_ ⟨oc,od,.func<|fnOf n q A B S .none kV b pm an cd ct,sl⟩/\codeIn K cd q'=true:=by
 unfold aX at h;unfold codeOk at a
 split at h
 .rename_i oc od d sl e
  rw[e]at a;obtain⟨d1,c,g,i,j,k,l,m,d9,o,p,r,s,t,u⟩:=d;simp only[xx,JT]at h;obtain⟨rfl,rfl,rfl,rfl,rfl,rfl,rfl,rfl,rfl⟩:=h;exact⟨oc,od,_,_,_,_,_,_,sl,e,a⟩
 .cases h
noncomputable def AI(K:Frag)(f:e_):Option rh:=match K.lookup f with
 | some ⟨_,_,.func d,_⟩=>a_ (d.name,d.qualname,d.params,d.body,d.scope,d.globals,d.closure,.none,d.builtins)
 | _=>b_
noncomputable def AJ(K:Frag)(f:e_)(x:cr):Bool:=match K.lookup f with
 | some ⟨_,_,.func d,_⟩=>(match d.defaults with
  | .ref T=>(match K.lookup T with
   | some ⟨_,_,.seq ak _,_⟩=>(match ak.toList with
    | [.str y _]=>decide<|y=x
    | _=>d_)
   | _=>d_)
  | _=>d_)
 | _=>d_
theorem Ym{K:Frag}(h:AI K f=a_ (n,q,A,.stmts B,S,ff,[],.none,rZ))(a:codeOk K f q'=c_)(hd:AJ K f x=c_):∃(oc:f_)(od:Option e_)(T:e_)(kV i pm:f_)(an:Option e_)(cd ct:f_)(sl:Array (Option f_))(c1:f_)(d1:Option e_)(n1:Nat)(p7:Array (Option f_))(tk:Nat),K.lookup f=a_ ⟨oc,od,.func<|fnOf n q A B S (.ref T) kV i pm an cd ct,sl⟩/\codeIn K cd q'=c_/\K.lookup T=a_ ⟨c1,d1,.seq #[.str x tk] n1,p7⟩:=by
 unfold AI at h;unfold codeOk at a;unfold AJ at hd
 split at h
 .rename_i oc od d sl e
  rw[e]at a hd;obtain⟨d1,m,o,p,r,s,t,j,d9,u,v,w,z,C,D⟩:=d;simp only[xx,JT]at h;obtain⟨rfl,rfl,rfl,rfl,rfl,rfl,rfl,_,rfl⟩:=h;cases j with
  | ref T=>
   have hd:(match K.lookup T with
    | some ⟨_,_,.seq b _,_⟩=>(match b.toList with
     | [.str y _]=>decide<|y=x
     | _=>d_)
    | _=>d_)=true:=hd
   split at hd
   .rename_i c1 k b n1 p7 c
    split at hd
    .rename_i y tk g
     rw[eF hd]at g
     have l:b=#[.str x tk]:=by
      have:=fF List.toArray g;simpa using this
     rw[l]at c;exact⟨oc,od,T,_,_,_,_,_,_,sl,c1,k,n1,p7,tk,e,a,c⟩
    .cases hd
   .cases hd
  | _=>cases hd
 .cases h
noncomputable def v8(h:i_)(b:List e_)(T:e_):Frag:=b.filterMap λa=>(if Cz a T=c_ then b_ else h.get? a).map λo=>(a,o)
theorem Uv(e:(v8 h as T).lookup a=a_ o):a≠T/\h.get? a=a_ o:=by
 have z:=MU (g:=λa=>if Cz a T=c_ then b_ else h.get? a) _ e
 by_cases y:Cz a T=c_
 .rw[ei y]at z;cases z
 .rw[ee y]at z;exact⟨λq=>y (by rw[q];exact Nat.beq_refl T),z⟩
theorem agb(h:i_)(a:List e_)(T:e_):(v8 h a T).In h:=λ_ _ e=>(Uv e).2
theorem aga(h:i_)(a:List e_)(T:e_):(v8 h a T).lookup T=none:=by
 cases e:(v8 h a T).lookup T with
 | none=>rfl
 | some o=>exact eu xz (Uv e).1
noncomputable def gT(s:SharedT)(a:e_):Option cP:=match Nat.ble (a+1) s.n with
 | true=>alive<|(s.tree.get a).getD default
 | false=>b_
theorem Zb(s:SharedT)(a:e_):s.abs.heap.get? a=gT s a:=by
 show (absHeap s.tree s.n s.life).get? a=gT s a;unfold gT;cases h:Nat.ble (a+1) s.n with
 | true=>
  have h1:a<s.n:=Nat.le_of_ble_eq_true h;unfold Heap.get?;rw[absHeap_at,ei h1];generalize (s.tree.get a).getD default=o;show (match a_ o with | some ⟨_,_,.freed,_⟩=>b_ | o=>o)=alive o;obtain⟨c,d,b,sl⟩:=o;cases b <;> rfl
 | false=>exact abs_get_none λz=>by rw[Nat.ble_eq_true_of_le (show a+1<=s.n from z)]at h;cases h
def v7(s:SharedT)(b:List e_)(T:e_):Frag:=b.filterMap λa=>match Cz a T with
 | true=>b_
 | false=>(gT s a).map λo=>(a,o)
theorem af'(s:SharedT)(b:List e_)(T:e_):v8 s.abs.heap b T=v7 s b T:=by
 unfold v8 v7
 congr 1
 funext a
 rw[Zb];cases Cz a T <;> rfl
noncomputable def yg:Option cP->Bool
 | some ⟨.none,b_,.fields vs,sl⟩=>vs.size==0&&sl.size==0
 | _=>d_
theorem af4(h:yg o=c_):o=a_ (tabObj #[]):=by
 unfold yg at h
 split at h
 .rename_i vs sl
  rw[jy]at h;have a:=aaD<|fC.mp h.1;have b:=aaD<|fC.mp h.2;subst a;subst b;rfl
 .cases h
def uk(c:List e_)(T:e_)(d:Frag->Bool×List (Option rh))(val:Bool×List (Option rh)):Hook:=
 ⟨Bool×(Bool×List (Option rh)),λs=>(yg<|s.heap.get? T,d<|v8 s.heap c T),λ_=>(c_,val),λ_ h=>∃K:Frag,K.In h/\K.lookup T=b_/\h.get? T=a_ (tabObj #[])/\d K=val,λ_ s e=>⟨_,agb s.heap c T,aga _ _ _,af4 (xH e).1,(xH e).2⟩,λ_ _ _⟨K,a,n,t,b⟩k=>⟨K,a.keeps k,n,k _ _ t,b⟩⟩
theorem ajI{a:Frag->Bool×List (Option rh)}{val:Bool×List (Option rh)}{o:Option SharedT}(h1:o.map (λs=>yg<|gT s T)=a_ c_)(h2:o.map (λs=>a<|v7 s as T)=a_ val):o.map (λs=>(uk as T a val).obs s.abs)=a_ (c_,val):=by
 have e:(λs:SharedT=>(uk as T a val).obs s.abs)=λs=>(yg<|gT s T,a<|v7 s as T):=by
  funext s
  show (yg<|s.abs.heap.get? T,a<|v8 s.abs.heap as T)=_;rw[Zb,af']
 rw[e];exact both h1 h2
noncomputable def vR:f_->e_
 | .ref q=>q
 | _=>0
noncomputable def vB:f_->Bool
 | .ref _=>c_
 | _=>d_
theorem akQ(h:vB v=c_):v=.ref (vR v):=by cases v <;> first | rfl | cases h
def AK(K:Frag)(f:e_):Addr:=match K.lookup f with
 | some ⟨_,_,.func d,_⟩=>vR d.code
 | _=>0
def Hi(K:Frag)(f:e_):Bool:=match K.lookup f with
 | some ⟨_,_,.func d,_⟩=>vB d.code
 | _=>d_
theorem ajX{K:Frag}(h:aX K f=a_ (n,q,A,.stmts B,S,ff,[],.none,rZ))(d:codeOk K f q'=c_)(a:Hi K f=c_):∃(oc:f_)(od:Option e_)(kV b pm:f_)(an:Option e_)(ct:f_)(sl:Array (Option f_)),K.lookup f=a_ ⟨oc,od,.func<|fnOf n q A B S .none kV b pm an (.ref<|AK K f) ct,sl⟩/\codeIn K (.ref<|AK K f) q'=true:=by
 obtain⟨oc,od,kV,b,pm,an,cd,ct,sl,e,c⟩:=yh h d
 have g:cd=.ref (AK K f):=by
  unfold Hi at a;unfold AK;rw[e]at a ⊢;exact akQ a
 rw[g]at e c;exact⟨oc,od,kV,b,pm,an,ct,sl,e,c⟩
noncomputable def sg:List f_->List cr->Bool
 | [],[]=>c_
 | .str y _::us,x::xs=>decide (y=x)&&sg us xs
 | _,_=>d_
def tupS(K:Frag)(a:e_)(xs:List cr):Bool:=match K.lookup a with
 | some ⟨.type "tuple",_,.seq ak _,_⟩=>sg ak.toList xs
 | _=>d_
end HT
namespace TL
open PySem.SeqAt L2 L3
def gN(K:u_)(x:cr):Addr:=HT.rf<|W.nsIn K ff x
def gM(K:u_)(c:e_)(x:cr):Addr:=HT.rf<|w_ K (.ref c) x
abbrev rN(K:u_)(x:cr):Prop:=HT.HJ (W.nsIn K ff x)=c_
abbrev zN(K:u_)(x:cr):Prop:=W.nsIn K ff x=a_ b_
abbrev no(K:u_)(c:e_)(x:cr):Prop:=w_ K (.ref c) x=a_ b_
abbrev fN(K:u_)(x:cr):Prop:=rN K x/\HT.codeOk K (gN K x) x=c_/\x_ K (.ref<|gN K x)=c_
abbrev fM(K:u_)(c:e_)(m q:cr):Prop:=HT.HJ (w_ K (.ref c) m)=c_/\HT.codeOk K (gM K c m) q=c_/\x_ K (.ref<|gM K c m)=c_/\W.isFn K (.ref<|gM K c m)=c_
abbrev cK(K:u_)(x:cr):Prop:=rN K x/\W.plainGet K (gN K x) Str.empty=c_/\F_ K (gN K x)=c_/\W.plainOver K (gN K x)=c_/\w_ K (.ref<|gN K x) "__setattr__"=a_ (a_<|.builtin "object.__setattr__")
abbrev mK(K:u_)(c:e_):Prop:=W.makesIn K c=c_/\x_ K (.ref c)=c_
def fp(n q:cr)(st:bv):Option HT.rh:=a_ (n,q,lF st,.stmts<|iZ st,aP st,ff,[],.none,rZ)
abbrev oj(K:u_):Addr:=gN K "Step"
abbrev fZ(K:u_):Addr:=gN K "Put"
abbrev gc(K:u_):Addr:=gN K "Add"
abbrev fY(K:u_):Addr:=gN K "Set"
abbrev fX(K:u_):Addr:=gN K "Look"
abbrev fU(K:u_):Addr:=gN K "Swap"
abbrev fV(K:u_):Addr:=gN K "Skip"
abbrev jN(K:u_):Addr:=gN K "Clear"
abbrev gj(K:u_):Addr:=gN K "Tray"
abbrev cD(K:u_):Addr:=gN K "Machine"
abbrev Ws(K:u_):Addr:=gN K "KINDS"
abbrev Z5(K:u_):Addr:=gN K "is_whole"
abbrev Z8(K:u_):Addr:=gN K "bounds_of"
abbrev Z6(K:u_):Addr:=gN K "is_step"
abbrev Z7(K:u_):Addr:=gN K "step_of"
abbrev AM(K:u_):Addr:=gM K (oj K) "__init__"
abbrev N0(K:u_):Addr:=gM K (fZ K) "__init__"
abbrev N5(K:u_):Addr:=gM K (gc K) "__init__"
abbrev NZ(K:u_):Addr:=gM K (fY K) "__init__"
abbrev M7(K:u_):Addr:=gM K (fX K) "__init__"
abbrev M5(K:u_):Addr:=gM K (fU K) "__init__"
abbrev M6(K:u_):Addr:=gM K (fV K) "__init__"
abbrev pM(K:u_):Addr:=gM K (oj K) "empties"
abbrev Xl(K:u_):Addr:=gM K (fU K) "empties"
abbrev Xn(K:u_):Addr:=gM K (jN K) "empties"
abbrev amM(K:u_):Addr:=gN K "has_clerks"
abbrev amN(K:u_):Addr:=gN K "fits"
abbrev amE(K:u_):Addr:=gN K "look_over"
abbrev Zm(K:u_):Addr:=gM K (gj K) "__init__"
abbrev amo(K:u_):Addr:=gM K (gj K) "add"
abbrev aml(K:u_):Addr:=gM K (gj K) "latest"
abbrev OZ(K:u_):Addr:=gM K (gj K) "fronts"
abbrev amj(K:u_):Addr:=gM K (gj K) "take"
abbrev amm(K:u_):Addr:=gM K (gj K) "is_empty"
abbrev amn(K:u_):Addr:=gM K (gj K) "listed"
abbrev ami(K:u_):Addr:=gM K (gj K) "twin"
abbrev amk(K:u_):Addr:=gN K "tray_of"
abbrev N2(K:u_):Addr:=gM K (cD K) "__init__"
abbrev amY(K:u_):Addr:=gM K (cD K) "at_end"
abbrev amz(K:u_):Addr:=gM K (cD K) "may_do"
abbrev amV(K:u_):Addr:=gM K (cD K) "carries"
abbrev amB(K:u_):Addr:=gM K (cD K) "moves"
abbrev amS(K:u_):Addr:=gM K (cD K) "do"
abbrev amR(K:u_):Addr:=gM K (cD K) "do_step"
abbrev amQ(K:u_):Addr:=gM K (cD K) "do_set"
abbrev amT(K:u_):Addr:=gM K (cD K) "do_look"
abbrev amP(K:u_):Addr:=gM K (cD K) "do_swap"
abbrev amU(K:u_):Addr:=gM K (cD K) "carry"
abbrev amW(K:u_):Addr:=gM K (cD K) "come"
abbrev amy(K:u_):Addr:=gM K (cD K) "on_board"
abbrev amO(K:u_):Addr:=gM K (cD K) "ended"
abbrev amA(K:u_):Addr:=gM K (cD K) "twin"
abbrev amd(K:u_):Addr:=gM K (cD K) "waiting"
abbrev amg(K:u_):Addr:=gM K (cD K) "where"
abbrev amt(K:u_):Addr:=gM K (cD K) "registers"
abbrev amX(K:u_):Addr:=gM K (cD K) "board"
abbrev amw(K:u_):Addr:=gN K "place_behind"
abbrev amL(K:u_):Addr:=gN K "has_form_of_move"
abbrev amr(K:u_):Addr:=gN K "steps_of"
abbrev amu(K:u_):Addr:=gN K "part_sets"
abbrev amq(K:u_):Addr:=gN K "setters"
abbrev amJ(K:u_):Addr:=gN K "has_name"
abbrev amf(K:u_):Addr:=gN K "with_name"
abbrev amh(K:u_):Addr:=gN K "without_all"
abbrev ame(K:u_):Addr:=gN K "without_name"
abbrev amG(K:u_):Addr:=gN K "least_name"
abbrev amx(K:u_):Addr:=gN K "names_of_others"
abbrev amK(K:u_):Addr:=gN K "has_length"
abbrev amH(K:u_):Addr:=gN K "is_set_of_names"
abbrev amI(K:u_):Addr:=gN K "has_size"
abbrev amF(K:u_):Addr:=gN K "is_look_at_fault"
abbrev ams(K:u_):Addr:=gN K "is_set_at_fault"
abbrev aki(K:u_):Addr:=gN K "names_behind"
abbrev amv(K:u_):Addr:=gN K "places_lacking"
abbrev akz(K:u_):Addr:=gN K "fault_at"
abbrev Zn(K:u_):Addr:=gN K "fault"
abbrev amC(K:u_):Addr:=gN K "marks_of_part"
abbrev amD(K:u_):Addr:=gN K "marks"
abbrev nC(K:u_):Addr:=gM K (oj K) "nexts"
abbrev Xm(K:u_):Addr:=gM K (fV K) "nexts"
abbrev pL(K:u_):Addr:=gM K (oj K) "sets"
abbrev Yy(K:u_):Addr:=gM K (fY K) "sets"
abbrev Yx(K:u_):Addr:=gM K (fU K) "sets"
abbrev akh(K:u_):Addr:=gN K "registers_of"
abbrev akB(K:u_):Addr:=gN K "end_of"
abbrev akg(K:u_):Addr:=gN K "stand_of"
abbrev akC(K:u_):Addr:=gN K "behind_move"
abbrev akA(K:u_):Addr:=gN K "ends"
abbrev akw(K:u_):Addr:=gN K "_law_cell_at"
abbrev akr(K:u_):Addr:=gN K "_law_mixed"
abbrev akp(K:u_):Addr:=gN K "_law_one"
abbrev akl(K:u_):Addr:=gN K "_law_stream"
abbrev ako(K:u_):Addr:=gN K "_law_pick"
abbrev akn(K:u_):Addr:=gN K "_law_program"
abbrev akq(K:u_):Addr:=gN K "_law_nexts"
abbrev akx(K:u_):Addr:=gN K "_law_behind"
abbrev akv(K:u_):Addr:=gN K "_law_closed"
abbrev akm(K:u_):Addr:=gN K "_law_shared"
abbrev aky(K:u_):Addr:=gN K "_law_bad"
abbrev aks(K:u_):Addr:=gN K "_law_mended"
abbrev akt(K:u_):Addr:=gN K "_law_end"
abbrev akk(K:u_):Addr:=gN K "_law_within"
abbrev aku(K:u_):Addr:=gN K "_law_comes"
abbrev akj(K:u_):Addr:=gN K "law"
noncomputable abbrev d9(p:Prop)[Decidable p]:Bool:=decide p
noncomputable def AV(K:u_)(_:Unit):List Bool:=[d9 (cK K "Step"),d9<|cK K "Put",d9<|mK K<|fZ K,d9<|no K (fZ K) "parts",d9<|no K (fZ K) "reg",d9<|no K (fZ K) "number",d9<|cK K "Add",d9<|mK K<|gc K,d9<|no K (gc K) "parts",d9<|no K (gc K) "reg",d9<|no K (gc K) "other",d9<|cK K "Set",d9<|mK K<|fY K,d9<|no K (fY K) "parts",d9<|no K (fY K) "name",d9<|no K (fY K) "reg",d9<|cK K "Look",d9<|mK K<|fX K,d9<|no K (fX K) "parts",d9<|no K (fX K) "reg",d9<|no K (fX K) "name",d9<|cK K "Swap",d9<|mK K<|fU K,d9<|no K (fU K) "parts",d9<|no K (fU K) "reg",d9<|no K (fU K) "name",d9<|cK K "Skip",d9<|mK K<|fV K,d9<|no K (fV K) "parts",d9<|no K (fV K) "reg",d9<|no K (fV K) "place",d9<|cK K "Clear",d9<|mK K<|jN K,d9<|no K (jN K) "parts",d9<|cK K "Tray",d9<|mK K<|gj K,d9<|no K (gj K) "kind",d9<|no K (gj K) "turn",d9<|no K (gj K) "queues",d9<|cK K "Machine",d9<|mK K<|cD K,d9<|no K (cD K) "trays",d9<|no K (cD K) "program",d9<|no K (cD K) "kind",d9<|no K (cD K) "steps",d9<|no K (cD K) "places",d9<|no K (cD K) "counts",d9<|no K (cD K) "regs",d9<|no K (cD K) "cells",d9<|no K (cD K) "acts",d9<|no K (cD K) "comers",d9<|fN K "is_whole",d9<|fN K "bounds_of",d9<|fN K "is_step",d9<|fN K "step_of",d9<|fM K (oj K) "__init__" "Step.__init__",d9<|fM K (fZ K) "__init__" "Put.__init__",d9<|fM K (gc K) "__init__" "Add.__init__",d9<|fM K (fY K) "__init__" "Set.__init__",d9<|fM K (fX K) "__init__" "Look.__init__",d9<|fM K (fU K) "__init__" "Swap.__init__",d9<|fM K (fV K) "__init__" "Skip.__init__",d9<|fM K (oj K) "empties" "Step.empties",d9<|fM K (fU K) "empties" "Swap.empties",d9<|fM K (jN K) "empties" "Clear.empties",d9<|fN K "has_clerks",d9<|fN K "fits",d9<|fN K "look_over",d9<|fM K (gj K) "__init__" "Tray.__init__",d9<|fM K (gj K) "add" "Tray.add",d9<|fM K (gj K) "latest" "Tray.latest",d9<|fM K (gj K) "fronts" "Tray.fronts",d9<|HT.Hi K (OZ K)=c_,d9<|W.codeHdIn K (HT.AK K<|OZ K) 416=c_,d9<|fM K (gj K) "take" "Tray.take",d9<|fM K (gj K) "is_empty" "Tray.is_empty",d9<|fM K (gj K) "listed" "Tray.listed",d9<|fM K (gj K) "twin" "Tray.twin",d9<|fN K "tray_of",d9<|fM K (cD K) "__init__" "Machine.__init__",d9<|HT.AJ K (N2 K) "row"=c_,d9<|fM K (cD K) "at_end" "Machine.at_end",d9<|fM K (cD K) "may_do" "Machine.may_do",d9<|fM K (cD K) "carries" "Machine.carries",d9<|fM K (cD K) "moves" "Machine.moves",d9<|fM K (cD K) "do" "Machine.do",d9<|fM K (cD K) "do_step" "Machine.do_step",d9<|fM K (cD K) "do_set" "Machine.do_set",d9<|fM K (cD K) "do_look" "Machine.do_look",d9<|fM K (cD K) "do_swap" "Machine.do_swap",d9<|fM K (cD K) "carry" "Machine.carry",d9<|fM K (cD K) "come" "Machine.come",d9<|fM K (cD K) "on_board" "Machine.on_board",d9<|fM K (cD K) "ended" "Machine.ended",d9<|fM K (cD K) "twin" "Machine.twin",d9<|fM K (cD K) "waiting" "Machine.waiting",d9<|fM K (cD K) "where" "Machine.where",d9<|fM K (cD K) "registers" "Machine.registers",d9<|fM K (cD K) "board" "Machine.board",d9<|fN K "place_behind",d9<|fN K "has_form_of_move",d9<|fN K "steps_of",d9<|fN K "part_sets",d9<|fN K "setters",d9<|fN K "has_name",d9<|fN K "with_name",d9<|fN K "without_all",d9<|fN K "without_name",d9<|fN K "least_name",d9<|fN K "names_of_others",d9<|fN K "has_length",d9<|fN K "is_set_of_names",d9<|fN K "has_size",d9<|fN K "is_look_at_fault",d9<|fN K "is_set_at_fault",d9<|fN K "names_behind",d9<|fN K "places_lacking",d9<|fN K "fault_at",d9<|fN K "fault",d9<|HT.AJ K (Zn K) "row"=c_,d9<|fN K "marks_of_part",d9<|fN K "marks",d9<|fM K (oj K) "nexts" "Step.nexts",d9<|fM K (fV K) "nexts" "Skip.nexts",d9<|fM K (oj K) "sets" "Step.sets",d9<|fM K (fY K) "sets" "Set.sets",d9<|fM K (fU K) "sets" "Swap.sets",d9<|fN K "registers_of",d9<|fN K "end_of",d9<|fN K "stand_of",d9<|fN K "behind_move",d9<|fN K "ends",d9<|fN K "_law_cell_at",d9<|fN K "_law_mixed",d9<|fN K "_law_one",d9<|fN K "_law_stream",d9<|fN K "_law_pick",d9<|fN K "_law_program",d9<|fN K "_law_nexts",d9<|fN K "_law_behind",d9<|fN K "_law_closed",d9<|fN K "_law_shared",d9<|fN K "_law_bad",d9<|fN K "_law_mended",d9<|fN K "_law_end",d9<|fN K "_law_within",d9<|fN K "_law_comes",d9<|fN K "law",d9<|w_ K (.ref<|fZ K) "empties"=a_ (a_<|.ref<|pM K),d9<|w_ K (.ref<|gc K) "empties"=a_ (a_<|.ref<|pM K),d9<|w_ K (.ref<|fY K) "empties"=a_ (a_<|.ref<|pM K),d9<|w_ K (.ref<|fX K) "empties"=a_ (a_<|.ref<|pM K),d9<|w_ K (.ref<|fV K) "empties"=a_ (a_<|.ref<|pM K),d9<|w_ K (.ref<|fZ K) "nexts"=a_ (a_<|.ref<|nC K),d9<|w_ K (.ref<|gc K) "nexts"=a_ (a_<|.ref<|nC K),d9<|w_ K (.ref<|fY K) "nexts"=a_ (a_<|.ref<|nC K),d9<|w_ K (.ref<|fX K) "nexts"=a_ (a_<|.ref<|nC K),d9<|w_ K (.ref<|fU K) "nexts"=a_ (a_<|.ref<|nC K),d9<|w_ K (.ref<|jN K) "nexts"=a_ (a_<|.ref<|nC K),d9<|w_ K (.ref<|fZ K) "sets"=a_ (a_<|.ref<|pL K),d9<|w_ K (.ref<|gc K) "sets"=a_ (a_<|.ref<|pL K),d9<|w_ K (.ref<|fX K) "sets"=a_ (a_<|.ref<|pL K),d9<|w_ K (.ref<|jN K) "sets"=a_ (a_<|.ref<|pL K),d9<|w_ K (.ref<|fV K) "sets"=a_ (a_<|.ref<|pL K),d9<|w_ K (.ref<|jN K) "__init__"=a_ (a_<|.ref<|AM K),d9<|W.specialIn K (.ref<|oj K) "__getattribute__"=a_ (a_<|.builtin "type.__getattribute__"),d9<|W.readsIn K (oj K) (.type "type")=c_,d9<|HT.Qs (W.findCls K (.ref<|oj K) (.type "type") "__init__") (AM K)=c_,d9<|zN K "isinstance",d9<|zN K "int",d9<|zN K "bool",d9<|zN K "str",d9<|zN K "tuple",d9<|zN K "len",d9<|zN K "all",d9<|zN K "zip",d9<|zN K "enumerate",d9<|zN K "range",d9<|zN K "list",d9<|zN K "min",d9<|zN K "sorted",d9<|zN K "any",d9<|zN K "set",d9<|HT.yE (W.nsIn K ff "TOP") kZ=c_,d9<|HT.yE (W.nsIn K ff "NAMES") 12=c_,d9<|HT.yE (W.nsIn K ff "REGISTERS") 4=c_,d9<|HT.yE (W.nsIn K ff "LONGEST") 120=c_,d9<|HT.yE (W.nsIn K ff "CLERKS") 4=c_,d9<|rN K "KINDS",d9<|HT.tupS K (Ws K) ["row","name","none"]=c_,d9<|W.specialIn K (.builtin "object.__class__") "__get__"=a_ (a_<|.builtin "getset_descriptor.__get__"),d9<|W.takesIn K (.builtin "object.__class__")=a_ c_,d9<|w_ K (.ref<|fZ K) "__class__"=a_ (a_<|.builtin "object.__class__"),d9<|A_ K (fZ K) (.type "object")=a_ c_,d9<|v_ K (.ref<|fZ K) (.ref<|fZ K)=a_ c_,d9<|v_ K (.ref<|fZ K) (.ref<|gc K)=a_ d_,d9<|v_ K (.ref<|fZ K) (.ref<|fY K)=a_ d_,d9<|v_ K (.ref<|fZ K) (.ref<|fX K)=a_ d_,d9<|v_ K (.ref<|fZ K) (.ref<|fU K)=a_ d_,d9<|v_ K (.ref<|fZ K) (.ref<|fV K)=a_ d_,d9<|w_ K (.ref<|gc K) "__class__"=a_ (a_<|.builtin "object.__class__"),d9<|A_ K (gc K) (.type "object")=a_ c_,d9<|v_ K (.ref<|gc K) (.ref<|fZ K)=a_ d_,d9<|v_ K (.ref<|gc K) (.ref<|gc K)=a_ c_,d9<|v_ K (.ref<|gc K) (.ref<|fY K)=a_ d_,d9<|v_ K (.ref<|gc K) (.ref<|fX K)=a_ d_,d9<|v_ K (.ref<|gc K) (.ref<|fU K)=a_ d_,d9<|v_ K (.ref<|gc K) (.ref<|fV K)=a_ d_,d9<|w_ K (.ref<|fY K) "__class__"=a_ (a_<|.builtin "object.__class__"),d9<|A_ K (fY K) (.type "object")=a_ c_,d9<|v_ K (.ref<|fY K) (.ref<|fZ K)=a_ d_,d9<|v_ K (.ref<|fY K) (.ref<|gc K)=a_ d_,d9<|v_ K (.ref<|fY K) (.ref<|fY K)=a_ c_,d9<|v_ K (.ref<|fY K) (.ref<|fX K)=a_ d_,d9<|v_ K (.ref<|fY K) (.ref<|fU K)=a_ d_,d9<|v_ K (.ref<|fY K) (.ref<|fV K)=a_ d_,d9<|w_ K (.ref<|fX K) "__class__"=a_ (a_<|.builtin "object.__class__"),d9<|A_ K (fX K) (.type "object")=a_ c_,d9<|v_ K (.ref<|fX K) (.ref<|fZ K)=a_ d_,d9<|v_ K (.ref<|fX K) (.ref<|gc K)=a_ d_,d9<|v_ K (.ref<|fX K) (.ref<|fY K)=a_ d_,d9<|v_ K (.ref<|fX K) (.ref<|fX K)=a_ c_,d9<|v_ K (.ref<|fX K) (.ref<|fU K)=a_ d_,d9<|v_ K (.ref<|fX K) (.ref<|fV K)=a_ d_,d9<|w_ K (.ref<|fU K) "__class__"=a_ (a_<|.builtin "object.__class__"),d9<|A_ K (fU K) (.type "object")=a_ c_,d9<|v_ K (.ref<|fU K) (.ref<|fZ K)=a_ d_,d9<|v_ K (.ref<|fU K) (.ref<|gc K)=a_ d_,d9<|v_ K (.ref<|fU K) (.ref<|fY K)=a_ d_,d9<|v_ K (.ref<|fU K) (.ref<|fX K)=a_ d_,d9<|v_ K (.ref<|fU K) (.ref<|fU K)=a_ c_,d9<|v_ K (.ref<|fU K) (.ref<|fV K)=a_ d_,d9<|w_ K (.ref<|jN K) "__class__"=a_ (a_<|.builtin "object.__class__"),d9<|A_ K (jN K) (.type "object")=a_ c_,d9<|v_ K (.ref<|jN K) (.ref<|fZ K)=a_ d_,d9<|v_ K (.ref<|jN K) (.ref<|gc K)=a_ d_,d9<|v_ K (.ref<|jN K) (.ref<|fY K)=a_ d_,d9<|v_ K (.ref<|jN K) (.ref<|fX K)=a_ d_,d9<|v_ K (.ref<|jN K) (.ref<|fU K)=a_ d_,d9<|v_ K (.ref<|jN K) (.ref<|fV K)=a_ d_,d9<|w_ K (.ref<|fV K) "__class__"=a_ (a_<|.builtin "object.__class__"),d9<|A_ K (fV K) (.type "object")=a_ c_,d9<|v_ K (.ref<|fV K) (.ref<|fZ K)=a_ d_,d9<|v_ K (.ref<|fV K) (.ref<|gc K)=a_ d_,d9<|v_ K (.ref<|fV K) (.ref<|fY K)=a_ d_,d9<|v_ K (.ref<|fV K) (.ref<|fX K)=a_ d_,d9<|v_ K (.ref<|fV K) (.ref<|fU K)=a_ d_,d9<|v_ K (.ref<|fV K) (.ref<|fV K)=a_ c_]
def seen(K:u_):Bool:=(AV K ()).all id
noncomputable def oS:List Nat:=[3,2,0,1,6,31,44,56,75,87,99,153,174,193,219,245,285,304,330,444,648,24,30,37,43,49,55,61,74,80,86,92,98,104,152,160,173,179,192,198,218,224,244,250,284,290,303,309,329,391,443,475,647,19,21,70,72,113,115,120,122,127,129,134,136,141,143,148,150,169,171,188,190,207,209,214,216,233,235,240,242,259,261,266,268,273,275,280,282,299,301,318,320,325,327,337,339,344,346,349,351,356,358,361,363,368,370,375,377,380,382,385,387,398,400,405,407,412,414,417,419,424,426,429,431,434,436,439,441,453,455,458,460,463,465,470,472,483,485,490,492,497,499,502,504,507,509,514,516,521,523,528,530,535,537,542,544,549,551,556,558,563,565,570,572,575,577,582,584,589,591,596,598,603,605,610,612,617,619,624,626,631,633,638,640,643,645,655,657,662,664,667,669,674,676,681,683,688,690,695,697,702,704,709,711,714,716,719,721,726,728,733,735,738,740,745,747,752,754,759,761,764,766,771,773,779,781,784,786,789,791,796,798,803,805,810,812,817,819,824,826,831,833,838,840,845,847,852,854,859,861,866,868,871,873,876,878,881,883,888,890,893,895,4,5,7,8,9,10,11,12,13,14,15,16,17,18,20,22,23,25,26,27,28,29,32,33,34,35,36,38,39,40,41,42,45,46,47,48,50,51,52,53,54,57,58,59,60,62,63,64,65,66,67,68,69,71,73,76,77,78,79,81,82,83,84,85,88,89,90,91,93,94,95,96,97,100,101,102,103,105,106,107,108,109,110,111,112,114,116,117,118,119,121,123,124,125,126,128,130,131,132,133,135,137,138,139,140,142,144,145,146,147,149,151,154,155,156,157,158,159,161,162,163,164,165,166,167,168,170,172,175,176,177,178,180,181,182,183,184,185,186,187,189,191,194,195,196,197,199,200,201,202,203,204,205,206,208,210,211,212,213,215,217,220,221,222,223,225,226,227,228,229,230,231,232,234,236,237,238,239,241,243,246,247,248,249,251,252,253,254,255,256,257,258,260,262,263,264,265,267,269,270,271,272,274,276,277,278,279,281,283,286,287,288,289,291,292,293,294,295,296,297,298,300,302,305,306,307,308,310,311,312,313,314,315,316,317,319,321,322,323,324,326,328,331,332,333,334,335,336,338,340,341,342,343,345,347,348,350,352,353,354,355,357,359,360,362,364,365,366,367,369,371,372,373,374,376,378,379,381,383,384,386,388,389,390,392,393,394,395,396,397,399,401,402,403,404,406,408,409,410,411,413,415,416,418,420,421,422,423,425,427,428,430,432,433,435,437,438,440,442,445,446,447,448,449,450,451,452,454,456,457,459,461,462,464,466,467,468,469,471,473,474,476,477,478,479,480,481,482,484,486,487,488,489,491,493,494,495,496,498,500,501,503,505,506,508,510,511,512,513,515,517,518,519,520,522,524,525,526,527,529,531,532,533,534,536,538,539,540,541,543,545,546,547,548,550,552,553,554,555,557,559,560,561,562,564,566,567,568,569,571,573,574,576,578,579,580,581,583,585,586,587,588,590,592,593,594,595,597,599,600,601,602,604,606,607,608,609,611,613,614,615,616,618,620,621,622,623,625,627,628,629,630,632,634,635,636,637,639,641,642,644,646,649,650,651,652,653,654,656,658,659,660,661,663,665,666,668,670,671,672,673,675,677,678,679,680,682,684,685,686,687,689,691,692,693,694,696,698,699,700,701,703,705,706,707,708,710,712,713,715,717,718,720,722,723,724,725,727,729,730,731,732,734,736,737,739,741,742,743,744,746,748,749,750,751,753,755,756,757,758,760,762,763,765,767,768,769,770,772,774,775,776,777,778,780,782,783,785,787,788,790,792,793,794,795,797,799,800,801,802,804,806,807,808,809,811,813,814,815,816,818,820,821,822,823,825,827,828,829,830,832,834,835,836,837,839,841,842,843,844,846,848,849,850,851,853,855,856,857,858,860,862,863,864,865,867,869,870,872,874,875,877,879,880,882,884,885,886,887,889,891,892,894]
noncomputable def qJ(K:u_):List (Option HT.rh):=[HT.aX K (Z5 K),HT.aX K<|Z8 K,HT.aX K<|Z6 K,HT.aX K<|Z7 K,HT.aX K<|AM K,HT.aX K<|N0 K,HT.aX K<|N5 K,HT.aX K<|NZ K,HT.aX K<|M7 K,HT.aX K<|M5 K,HT.aX K<|M6 K,HT.aX K<|pM K,HT.aX K<|Xl K,HT.aX K<|Xn K,HT.aX K<|amM K,HT.aX K<|amN K,HT.aX K<|amE K,HT.aX K<|Zm K,HT.aX K<|amo K,HT.aX K<|aml K,HT.aX K<|OZ K,HT.aX K<|amj K,HT.aX K<|amm K,HT.aX K<|amn K,HT.aX K<|ami K,HT.aX K<|amk K,HT.AI K<|N2 K,HT.aX K<|amY K,HT.aX K<|amz K,HT.aX K<|amV K,HT.aX K<|amB K,HT.aX K<|amS K,HT.aX K<|amR K,HT.aX K<|amQ K,HT.aX K<|amT K,HT.aX K<|amP K,HT.aX K<|amU K,HT.aX K<|amW K,HT.aX K<|amy K,HT.aX K<|amO K,HT.aX K<|amA K,HT.aX K<|amd K,HT.aX K<|amg K,HT.aX K<|amt K,HT.aX K<|amX K,HT.aX K<|amw K,HT.aX K<|amL K,HT.aX K<|amr K,HT.aX K<|amu K,HT.aX K<|amq K,HT.aX K<|amJ K,HT.aX K<|amf K,HT.aX K<|amh K,HT.aX K<|ame K,HT.aX K<|amG K,HT.aX K<|amx K,HT.aX K<|amK K,HT.aX K<|amH K,HT.aX K<|amI K,HT.aX K<|amF K,HT.aX K<|ams K,HT.aX K<|aki K,HT.aX K<|amv K,HT.aX K<|akz K,HT.AI K<|Zn K,HT.aX K<|amC K,HT.aX K<|amD K,HT.aX K<|nC K,HT.aX K<|Xm K,HT.aX K<|pL K,HT.aX K<|Yy K,HT.aX K<|Yx K,HT.aX K<|akh K,HT.aX K<|akB K,HT.aX K<|akg K,HT.aX K<|akC K,HT.aX K<|akA K,HT.aX K<|akw K,HT.aX K<|akr K,HT.aX K<|akp K,HT.aX K<|akl K,HT.aX K<|ako K,HT.aX K<|akn K,HT.aX K<|akq K,HT.aX K<|akx K,HT.aX K<|akv K,HT.aX K<|akm K,HT.aX K<|aky K,HT.aX K<|aks K,HT.aX K<|akt K,HT.aX K<|akk K,HT.aX K<|aku K,HT.aX K<|akj K]
noncomputable def pK:List (Option HT.rh):=[fp "is_whole" "is_whole" CB,fp "bounds_of" "bounds_of" Cr,fp "is_step" "is_step" FE,fp "step_of" "step_of" MF,fp "__init__" "Step.__init__" GH,fp "__init__" "Put.__init__" GG,fp "__init__" "Add.__init__" GJ,fp "__init__" "Set.__init__" GD,fp "__init__" "Look.__init__" F6,fp "__init__" "Swap.__init__" FZ,fp "__init__" "Skip.__init__" F2,fp "empties" "Step.empties" F8,fp "empties" "Swap.empties" E1,fp "empties" "Clear.empties" EU,fp "has_clerks" "has_clerks" Pw,fp "fits" "fits" Ot,fp "look_over" "look_over" KI,fp "__init__" "Tray.__init__" Dq,fp "add" "Tray.add" Og,fp "latest" "Tray.latest" LA,fp "fronts" "Tray.fronts" Fg,fp "take" "Tray.take" Nn,fp "is_empty" "Tray.is_empty" MD,fp "listed" "Tray.listed" Lz,fp "twin" "Tray.twin" Nm,fp "tray_of" "tray_of" MC,fp "__init__" "Machine.__init__" F5,fp "at_end" "Machine.at_end" NF,fp "may_do" "Machine.may_do" Nq,fp "carries" "Machine.carries" LN,fp "moves" "Machine.moves" MK,fp "do" "Machine.do" Pr,fp "do_step" "Machine.do_step" MP,fp "do_set" "Machine.do_set" NB,fp "do_look" "Machine.do_look" MQ,fp "do_swap" "Machine.do_swap" MO,fp "carry" "Machine.carry" NC,fp "come" "Machine.come" Ou,fp "on_board" "Machine.on_board" LF,fp "ended" "Machine.ended" Nz,fp "twin" "Machine.twin" Nt,fp "waiting" "Machine.waiting" Ly,fp "where" "Machine.where" Nl,fp "registers" "Machine.registers" Kn,fp "board" "Machine.board" ND,fp "place_behind" "place_behind" JV,fp "has_form_of_move" "has_form_of_move" Oq,fp "steps_of" "steps_of" LB,fp "part_sets" "part_sets" KH,fp "setters" "setters" LD,fp "has_name" "has_name" Oo,fp "with_name" "with_name" Of,fp "without_all" "without_all" Lx,fp "without_name" "without_name" Pp,fp "least_name" "least_name" Nv,fp "names_of_others" "names_of_others" MH,fp "has_length" "has_length" MN,fp "is_set_of_names" "is_set_of_names" Ny,fp "has_size" "has_size" LL,fp "is_look_at_fault" "is_look_at_fault" Nu,fp "is_set_at_fault" "is_set_at_fault" Oh,fp "names_behind" "names_behind" Oj,fp "places_lacking" "places_lacking" LG,fp "fault_at" "fault_at" LM,fp "fault" "fault" F7,fp "marks_of_part" "marks_of_part" MJ,fp "marks" "marks" Nr,fp "nexts" "Step.nexts" FD,fp "nexts" "Skip.nexts" ET,fp "sets" "Step.sets" GA,fp "sets" "Set.sets" GC,fp "sets" "Swap.sets" FY,fp "registers_of" "registers_of" MG,fp "end_of" "end_of" NA,fp "stand_of" "stand_of" LC,fp "behind_move" "behind_move" Ke,fp "ends" "ends" ur,fp "_law_cell_at" "_law_cell_at" MR,fp "_law_mixed" "_law_mixed" Np,fp "_law_one" "_law_one" Pq,fp "_law_stream" "_law_stream" ME,fp "_law_pick" "_law_pick" Oi,fp "_law_program" "_law_program" Nw,fp "_law_nexts" "_law_nexts" ML,fp "_law_behind" "_law_behind" LK,fp "_law_closed" "_law_closed" LJ,fp "_law_shared" "_law_shared" LI,fp "_law_bad" "_law_bad" Om,fp "_law_mended" "_law_mended" Nx,fp "_law_end" "_law_end" Ol,fp "_law_within" "_law_within" LH,fp "_law_comes" "_law_comes" MM,fp "law" "law" uA]
def ajK:Pos:=match uA with
 | .FunctionDef _ _ _ _ _ _ _ _ _ p=>p
 | _=>default
def dl:DefRec:=⟨"law",lF uA,iZ uA,aP uA,ajK⟩
end TL
open PySem PySem.W PyProof.Rows in
theorem TL.mark_:True:=trivial
section
open PySem.W
theorem TL.l7(w:j_)(os:ca):(TL.rn w os).map (λs=>(((HT.yg<|HT.gT s 416,TL.qJ<|HT.v7 s TL.oS 416)),(((((TL.AV (HT.v7 s TL.oS 416) ()).drop 90).drop 50).all id))))=a_ ((c_,TL.pK),(c_)):=by kernel_rfl
theorem TL.l8(w:j_)(os:ca):(TL.rn w os).map (λs=>((TL.AV (HT.v7 s TL.oS 416) ()).take 90).all id)=a_ true:=by kernel_rfl
theorem TL.l9(w:j_)(os:ca):(TL.rn w os).map (λs=>(((TL.AV (HT.v7 s TL.oS 416) ()).drop 90).take 50).all id)=a_ true:=by kernel_rfl
theorem TL.r2(w:j_)(os:ca):(TL.rn w os).map (λs=>W.openSeen TL.qv [PySem.Str.ofString "fault"] (EH PySem.Challenge.rw_traylate_k94_whole_ends.row.prog.main.body) (λs=>W.xlAt TL.qv [] s&&W.recOk PySem.Challenge.rw_traylate_k94_whole_ends.row.records s) c_ s.abs)=a_ (W.openGood TL.qv [PySem.Str.ofString "fault"]):=HT.agV TL.lw (HT.sL<|TL.l0 w os) (HT.oF<|HT.oF<|HT.oF<|TL.l5 w os) (HT.td 18 (HT.sL<|TL.l5 w os)<|TL.l6 w os) (HT.sL<|HT.oF<|TL.l5 w os) (HT.oF<|TL.l3 w os) (HT.tb_<|HT.M' 22 (HT.sL<|TL.l3 w os)<|TL.l4 w os) (HT.oF<|HT.oF<|TL.l2 w os)<|HT.both (HT.sL<|HT.oF<|HT.oF<|TL.l5 w os)<|HT.both (HT.oF<|TL.l0 w os)<|HT.both (HT.sL<|TL.l2 w os)<|TL.l1 w os
theorem TL.r3(w:j_)(os:ca):(TL.rn w os).map (λs=>(HT.uk TL.oS 416 (λK=>(TL.seen K,TL.qJ K)) (c_,TL.pK)).obs s.abs)=a_ (c_,(c_,TL.pK)):=HT.ajI (HT.sL<|HT.sL<|TL.l7 w os)<|HT.both (HT.M' 90 (TL.l8 w os)<|HT.M' 50 (TL.l9 w os)<|HT.oF<|TL.l7 w os)<|HT.oF<|HT.sL<|TL.l7 w os
end
namespace L2
universe u0 u1 u2 u3 u4 u5 u6 u7 u8 u9
section
variable{A:Sort u0}{B:Sort u1}{C:Sort u2}{D:Sort u3}{E:Sort u4}{F:Sort u5}{I:Sort u6}{J:Sort u7}{L:Sort u8}{M:Sort u9}{G:Prop}
def oA{p q:Prop}(H:p/\q)(K:p->q->G):G:=by
 obtain⟨k,m⟩:=H;exact K k m
def oE{p:A->Prop}(H:∃a,p a)(K:∀a,p a->G):G:=by
 obtain⟨a,k⟩:=H;exact K a k
def gg{p q r:Prop}(k:p)(m:q)(n:r):p/\q/\r:=⟨k,m,n⟩
def ay{p q:A->Prop}(a:A)(k:p a)(m:q a):∃a,p a/\q a:=⟨a,k,m⟩
def uV{p:A->B->Prop}(a:A)(b:B)(k:p a b):∃a b,p a b:=⟨a,b,k⟩
def gH{p q r:Prop}(H:p/\q/\r)(K:p->q->r->G):G:=by
 obtain⟨k,m,n⟩:=H;exact K k m n
def aB{p q:A->Prop}(H:∃a,p a/\q a)(K:∀a,p a->q a->G):G:=by
 obtain⟨a,k,m⟩:=H;exact K a k m
def yC{p:A->B->Prop}(H:∃a b,p a b)(K:∀a b,p a b->G):G:=by
 obtain⟨a,b,k⟩:=H;exact K a b k
def dQ{p q r:A->Prop}(a:A)(k:p a)(m:q a)(n:r a):∃a,p a/\q a/\r a:=⟨a,k,m,n⟩
def gm{p q:A->B->Prop}(a:A)(b:B)(k:p a b)(m:q a b):∃a b,p a b/\q a b:=⟨a,b,k,m⟩
def C9{p q r s:Prop}(H:p/\q/\r/\s)(K:p->q->r->s->G):G:=by
 obtain⟨k,m,n,o⟩:=H;exact K k m n o
def aY{p q r:A->Prop}(H:∃a,p a/\q a/\r a)(K:∀a,p a->q a->r a->G):G:=by
 obtain⟨a,k,m,n⟩:=H;exact K a k m n
def cG{p q:A->B->Prop}(H:∃a b,p a b/\q a b)(K:∀a b,p a b->q a b->G):G:=by
 obtain⟨a,b,k,m⟩:=H;exact K a b k m
def anU{p:A->B->C->Prop}(H:∃a b c,p a b c)(K:∀a b c,p a b c->G):G:=by
 obtain⟨a,b,c,k⟩:=H;exact K a b c k
def dN{p q r:A->B->Prop}(a:A)(b:B)(k:p a b)(m:q a b)(n:r a b):∃a b,p a b/\q a b/\r a b:=⟨a,b,k,m,n⟩
def dE{p:A->B->C->D->Prop}(a:A)(b:B)(c:C)(d:D)(k:p a b c d):∃a b c d,p a b c d:=⟨a,b,c,d,k⟩
def Oy{p q r s t:Prop}(H:p/\q/\r/\s/\t)(K:p->q->r->s->t->G):G:=by
 obtain⟨k,m,n,o,h⟩:=H;exact K k m n o h
def cw{p q r s:A->Prop}(H:∃a,p a/\q a/\r a/\s a)(K:∀a,p a->q a->r a->s a->G):G:=by
 obtain⟨a,k,m,n,o⟩:=H;exact K a k m n o
def fk{p q r:A->B->Prop}(H:∃a b,p a b/\q a b/\r a b)(K:∀a b,p a b->q a b->r a b->G):G:=by
 obtain⟨a,b,k,m,n⟩:=H;exact K a b k m n
def CS{p q:A->B->C->Prop}(H:∃a b c,p a b c/\q a b c)(K:∀a b c,p a b c->q a b c->G):G:=by
 obtain⟨a,b,c,k,m⟩:=H;exact K a b c k m
def alr{p:A->B->C->D->Prop}(H:∃a b c d,p a b c d)(K:∀a b c d,p a b c d->G):G:=by
 obtain⟨a,b,c,d,k⟩:=H;exact K a b c d k
def iA{p q r s t:A->Prop}(a:A)(k:p a)(m:q a)(n:r a)(o:s a)(h:t a):∃a,p a/\q a/\r a/\s a/\t a:=⟨a,k,m,n,o,h⟩
def qE{p q r s t u:Prop}(H:p/\q/\r/\s/\t/\u)(K:p->q->r->s->t->u->G):G:=by
 obtain⟨k,m,n,o,h,h1⟩:=H;exact K k m n o h h1
def NH{p q r s t:A->Prop}(H:∃a,p a/\q a/\r a/\s a/\t a)(K:∀a,p a->q a->r a->s a->t a->G):G:=by
 obtain⟨a,k,m,n,o,h⟩:=H;exact K a k m n o h
def ou{p q r s:A->B->Prop}(H:∃a b,p a b/\q a b/\r a b/\s a b)(K:∀a b,p a b->q a b->r a b->s a b->G):G:=by
 obtain⟨a,b,k,m,n,o⟩:=H;exact K a b k m n o
def lG{p q r:A->B->C->Prop}(H:∃a b c,p a b c/\q a b c/\r a b c)(K:∀a b c,p a b c->q a b c->r a b c->G):G:=by
 obtain⟨a,b,c,k,m,n⟩:=H;exact K a b c k m n
def Au{p q:A->B->C->D->Prop}(H:∃a b c d,p a b c d/\q a b c d)(K:∀a b c d,p a b c d->q a b c d->G):G:=by
 obtain⟨a,b,c,d,k,m⟩:=H;exact K a b c d k m
def jk{p:A->B->C->D->E->Prop}(H:∃a b c d e,p a b c d e)(K:∀a b c d e,p a b c d e->G):G:=by
 obtain⟨a,b,c,d,e,k⟩:=H;exact K a b c d e k
def iK{p q r s t u:A->Prop}(a:A)(k:p a)(m:q a)(n:r a)(o:s a)(h:t a)(h1:u a):∃a,p a/\q a/\r a/\s a/\t a/\u a:=⟨a,k,m,n,o,h,h1⟩
def WU{p q:A->B->C->D->E->Prop}(H:∃a b c d e,p a b c d e/\q a b c d e)(K:∀a b c d e,p a b c d e->q a b c d e->G):G:=by
 obtain⟨a,b,c,d,e,k,m⟩:=H;exact K a b c d e k m
def eK{p q r s t u:A->B->Prop}(H:∃a b,p a b/\q a b/\r a b/\s a b/\t a b/\u a b)(K:∀a b,p a b->q a b->r a b->s a b->t a b->u a b->G):G:=by
 obtain⟨a,b,k,m,n,o,h,h1⟩:=H;exact K a b k m n o h h1
def kv{p q r s t u:A->B->C->D->Prop}(a:A)(b:B)(c:C)(d:D)(k:p a b c d)(m:q a b c d)(n:r a b c d)(o:s a b c d)(h:t a b c d)(h1:u a b c d):∃a b c d,p a b c d/\q a b c d/\r a b c d/\s a b c d/\t a b c d/\u a b c d:=⟨a,b,c,d,k,m,n,o,h,h1⟩
def qo{p q r s t u:A->B->C->D->E->Prop}(a:A)(b:B)(c:C)(d:D)(e:E)(k:p a b c d e)(m:q a b c d e)(n:r a b c d e)(o:s a b c d e)(h:t a b c d e)(h1:u a b c d e):∃a b c d e,p a b c d e/\q a b c d e/\r a b c d e/\s a b c d e/\t a b c d e/\u a b c d e:=⟨a,b,c,d,e,k,m,n,o,h,h1⟩
def BJ{p q r s t u:A->B->C->D->E->Prop}(H:∃a b c d e,p a b c d e/\q a b c d e/\r a b c d e/\s a b c d e/\t a b c d e/\u a b c d e)(K:∀a b c d e,p a b c d e->q a b c d e->r a b c d e->s a b c d e->t a b c d e->u a b c d e->G):G:=by
 obtain⟨a,b,c,d,e,k,m,n,o,h,h1⟩:=H;exact K a b c d e k m n o h h1
def mX{p q r s t:A->B->C->D->E->F->Prop}(H:∃a b c d e f,p a b c d e f/\q a b c d e f/\r a b c d e f/\s a b c d e f/\t a b c d e f)(K:∀a b c d e f,p a b c d e f->q a b c d e f->r a b c d e f->s a b c d e f->t a b c d e f->G):G:=by
 obtain⟨a,b,c,d,e,f,k,m,n,o,h⟩:=H;exact K a b c d e f k m n o h
def zT{p:A->B->C->D->E->F->I->J->L->M->Prop}(H:∃a b c d e f g i j l,p a b c d e f g i j l)(K:∀a b c d e f g i j l,p a b c d e f g i j l->G):G:=by
 obtain⟨a,b,c,d,e,f,g,i,j,l,k⟩:=H;exact K a b c d e f g i j l k
end
def w0{p:Prop}(h:autoParam p a3):p:=h
def w1{a:Nat}: a<=a:=az a
def w2{a:Nat}: 0<=a:=ba a
def w3{a b:Nat}(h:autoParam (a<b) a3):a<=b:=cg h
def w4{a b c:Nat}(h:autoParam (a<=b) a3)(g:autoParam (b<=c) ad):a<=c:=dC h g
def w5{a b c:Nat}(h:autoParam (a<b) a3)(g:autoParam (b<=c) ad):a<=c:=dC (cg h) g
def w6{a b c:Nat}(h:autoParam (a=b) a3)(g:autoParam (b<=c) ad):a<=c:=dC (ua h) g
def w7{a b c:Nat}(h:autoParam (a=b) a3)(g:autoParam (b<=c) a3):a<=c:=dC (ua h) g
def w8{a b c d:Nat}(h:autoParam (a=b) a3)(g:autoParam (b<=c) a3)(k:autoParam (c<=d) ad):a<=d:=dC (ua h)<|dC g k
def wa{a b c:Nat}(h:autoParam (a<b) a3)(g:autoParam (b<=c) ad):a<c:=ip h g
def wb{a b c:Nat}(h:autoParam (a<=b) a3)(g:autoParam (b<c) ad):a<c:=qf h g
def wd{a b c d:Nat}(h:autoParam (a=b) a3)(g:autoParam (b<=c) a3)(k:autoParam (c<d) ad):a<d:=qf (ua h)<|qf g k
def wf{a b c:Nat}(h:autoParam (a<b) a3)(g:autoParam (b=c) a3):a<c:=Jy h g
def wg{a b c:Nat}(h:autoParam (a<b) a3)(g:autoParam (c=b) a3):a<c:=Jy h g.g8
def wh{a b c:Nat}(h:autoParam (a<b) a3)(g:autoParam (b<=c) a3):a<c:=ip h g
def wi{a b c:Nat}(h:autoParam (a<=b) a3)(g:autoParam (b<c) a3):a<c:=qf h g
def wj{a b c:Nat}(h:autoParam (a<=b) a3)(g:autoParam (b<=c) a3):a<=c:=dC h g
def wk{a b c m:Nat}(h:autoParam (a=b+m*c) a3)(g:autoParam (a<b) ad):False:=by omega
def wl{a b c m:Nat}(h:autoParam (b+m*c=a) a3)(g:autoParam (a<b) ad):False:=by omega
def wo{a b c:Nat}(h:autoParam (a=b) a3)(g:autoParam (b=c) a3):a=c:=h.fT g
def wr{a b c:Nat}(h:autoParam (a=b) a3)(g:autoParam (c<b) a3):c<a:=Jy g h.g8
def ws{a b c:Nat}(h:autoParam (a=b) a3)(g:autoParam (b<=c) a3):a<=c:=dC (ua h) g
def wt{a b c d:Nat}(h:autoParam (a=b) a3)(g:autoParam (c=b) a3)(k:autoParam (a<=d) a3):c<=d:=dC (ua<|g.fT h.g8) k
def wu{a b c d e:Nat}(h:autoParam (a=b) a3)(g:autoParam (b=c) a3)(k:autoParam (c<=d) a3)(m:autoParam (d<=e) ad):a<=e:=dC (ua<|h.fT g)<|dC k m
def xd{a:Nat}: a<=a+1:=kr a
def xe{a b:Nat}(h:autoParam (a<b) a3):a<=b+1:=vx<|cg h
def xf{a b:Nat}(h:autoParam (a<b) a3):a+1<=b:=h
def xi{a b c e:Nat}(h:autoParam (a<=b+1) a3)(g:autoParam (b<=c) a3)(k:autoParam (c+1<e) ad):a<e:=qf h<|qf (zE g) k
def xk{a n:Nat}(h:autoParam (a<=n) a3):min a n=a:=Nat.min_eq_left h
def xl{a n:Nat}: min a n<=a:=zI a n
def xm{a:Int}(h:autoParam (0<=a) a3):a=(a.toNat:Int):=(SN h).g8
end L2
namespace L2
abbrev dL:=Option Int
noncomputable def alR:f_->Bool
 | .none=>c_
 | _=>d_
def Za:dL->f_->Bool
 | some k,v=>Value.isInt k v
 | none,v=>alR v
noncomputable def an4:dL->Int
 | some k=>hashInt k
 | none=>4238894112
def uc:∀{k:dL}{v:f_},Za k v=c_->(∃i t,k=a_ i/\v=iz i t)\/(k=b_/\v=gR)
 | some i,v,h=>by
  obtain⟨t,e⟩:=Value.isInt_shape (k:=i) (v:=v) h;exact .inl ⟨i,t,xz,e⟩
 | none,v,h=>by
  cases v <;> first | exact .inr ⟨xz,xz⟩ | cases h
def ajL(a b:Int):decide ((a_ a:dL)=a_ b)=(a==b):=by
 by_cases e:a=b
 .subst e;simp
 simp[e]
def aeq{w:j_}{Q:Int->g_->Prop}(h:Q 4238894112 {s with toks:=s.toks+1}):be (bn prog w) A (pyHash .none) Q E s:=by
 refine W.pyHash_slot xz F.slot_NoneType_hash F.entry_NoneType_hash (F.args_NoneType_hash_1 _) xz (.inl xz)<|ah<|aO ?_
 exact kP (wpAny_ret_mkInt (Q:=λv s'=>∃n t,v=iz n t/\Q (reduceHash n) s') ⟨_,_,xz,h⟩) (λb s' z=>by
  obtain⟨v,e,n,t,a,q⟩:=z;exact⟨n,t,by rw[e,a],q⟩) λ_ _ x=>x
def ahX(prog:k_)(w:j_):PySem.KeyKind prog w dL where
 is:=Za
 hash:=an4
 inj:=λv a b ha d=>by
  obtain⟨i,t,rfl,rfl⟩|⟨rfl,rfl⟩:=uc ha
  .obtain⟨j,u,rfl,e⟩|⟨rfl,e⟩:=uc d
   .injection e with f _;rw[f]
   .exact nomatch e
  .obtain⟨j,u,rfl,e⟩|⟨rfl,e⟩:=uc d
   .exact nomatch e
   .rfl
 byValue:=λk v h=>by
  rcases uc h with ⟨i,t,rfl,rfl⟩ | ⟨rfl,rfl⟩ <;> rfl
 pyHash:=λc h=>by
  obtain⟨i,t,rfl,rfl⟩|⟨rfl,rfl⟩:=uc c
  .exact SY h
  .exact aeq h
 eqBool:=λg c h=>by
  obtain⟨i,t,rfl,rfl⟩|⟨rfl,rfl⟩:=uc g
  .obtain⟨j,u,rfl,rfl⟩|⟨rfl,rfl⟩:=uc c
   .rw[ajL]at h;exact Ta h
   .exact abb i t _ _ _ _ h
  .obtain⟨j,u,rfl,rfl⟩|⟨rfl,rfl⟩:=uc c
   .exact aba j u _ _ _ _ h
   .exact mQ (wpAny_ite_split (λ_=>ah<|vD<|aO h) λz=>eu xz z)
 «strs»:=λk x t v h=>by
  rcases uc h with ⟨i,u,rfl,e⟩ | ⟨rfl,e⟩ <;> exact nomatch e
set_option genInjectivity true in
inductive V where
 | aR | bl (b:Bool) | int (i:Int) | str (x:cr) | oO (b:Array UInt8) | qV (b:UInt64) | ref (a:e_) | ty (n:String)
 deriving DecidableEq
def df:V->f_->Prop
 | .aR,u=>u=gR
 | .bl b,u=>u=lE b
 | .int i,u=>∃t,u=iz i t
 | .str x,u=>∃t,u=Ll x t
 | .oO b,u=>∃t,u=Value.bytes b t
 | .qV b,u=>∃t,u=Kl b t
 | .ref a,u=>u=dq a
 | .ty n,u=>u=iI n
abbrev di:List V->List f_->Prop:=bt df
def di.length(r:di xs us):xs.length=us.length:=r_ r
theorem di.get:∀{xs:List V}{us:List f_}{i:Nat}{x:V},di xs us->xs[i]?=a_ x->∃u,us[i]?=a_ u/\df x u
 | _,_,_,_,.nil,e=>by simp at e
 | _,_,0,_,.cons r _,e=>by simp at e;subst e;exact⟨_,xz,r⟩
 | _,_,i+1,x,.cons _ t,e=>by
  obtain⟨u,h1,h2⟩:=di.get (i:=i) (x:=x) t (by simpa using e);exact⟨u,by simpa using h1,h2⟩
theorem di.set(r:df x u):∀{xs:List V}{us:List f_}(i:Nat),di xs us->di (xs.set i x) (us.set i u)
 | _,_,_,.nil=>.nil
 | _,_,0,.cons _ t=>.cons r t
 | _,_,i+1,.cons q t=>.cons q<|di.set r i t
theorem di.append:∀{xs ys:List V}{us ws:List f_},di xs us->di ys ws->di (xs++ys) (us++ws)
 | _,_,_,_,.nil,s=>s
 | _,_,_,_,.cons r t,s=>.cons r<|di.append t s
theorem di.take:∀{xs:List V}{us:List f_}(n:Nat),di xs us->di (xs.take n) (us.take n)
 | _,_,0,_=>.nil
 | _,_,_+1,.nil=>.nil
 | _,_,n+1,.cons r t=>.cons r<|di.take n t
theorem di.drop:∀{xs:List V}{us:List f_}(n:Nat),di xs us->di (xs.drop n) (us.drop n)
 | _,_,0,r=>r
 | _,_,_+1,.nil=>.nil
 | _,_,n+1,.cons _ t=>di.drop n t
def di.none_of:∀{xs:List V}{us:List f_}{i:Nat},di xs us->xs[i]?=b_->us[i]?=none:=λ{xs us i}r e=>by
 have h1:=r.length;have h2:=xp.mp e;exact xp.mpr om
def sO:Option V->Option f_->Prop
 | some v,a_ u=>df v u
 | none,b_=>True
 | _,_=>False
def KV{κ:Type}:List (κ×V)->List (κ×f_)->Prop:=bt λ(p:κ×V)(q:κ×f_)=>p.1=q.1/\df p.2 q.2
noncomputable def CU:Nat->bD->Int
 | _,.int i=>hashInt i
 | n+1,.tuple xs=>reduceHash<|Sx<|xs.map<|CU n
 | _,_=>0
inductive HO where
  | lst (xs:List V)
  | tup (xs:List V)
  | dK (fL:List (dL×V)) | dT (fL:List (bD×e_))
  | set (S:Int->Bool) (n:Nat)
  | ins (C dx:e_) (fs:List (cr×V))
  | own (x:e_)
  | xd (fs:List (cr×V))
  | met (f x:e_)
  | Qo (lo hi:Int)
  | jZ (o:cP) (u:HO)
  | ft (ps:Array f_)
  | ext (φ:i_->Prop)
abbrev Hp:=e_->Option HO
noncomputable def db(H:Hp)(a:e_)(o:HO):Hp:=λb=>if b=a then a_ o else H b
def ao{o:HO}:db H a o a=a_ o:=by unfold db;rw[ei rfl]
def aj{o:HO}(h:b≠a):db H a o b=H b:=by unfold db;rw[ee h]
def oa{o u:HO}:db (db H a o) a u=db H a u:=by
 funext b;unfold db;split <;> rfl
def i5{H:Hp}{a b:e_}{o u:HO}(h:H a=a_ o)(h':H b=a_ u)(d:o≠u):a≠b:=by
 intro e;subst e;rw[h]at h';exact d<|dj h'
def bf{H:Hp}{a b:e_}{o:HO}(h:H a=a_ o)(h':H b=b_):a≠b:=by
 intro e;subst e;rw[h]at h';cases h'
section
variable(P:k_)(w:j_)
noncomputable def fq(H:Hp)(h:i_)(a:e_):HO->Prop
 | .lst xs=>xs.length<=bZ/\∃(b:List f_)(n:Nat),di xs b/\h.get? a=a_ {cls:=.type "list",data:=.seq b.toArray n}
 | .tup xs=>xs.length<=bZ/\∃b:List f_,di xs b/\IsTup h a b.toArray
 | .dK fL=>fL.length<=bZ/\(a==BO)=d_/\∃vs,KV fL vs/\h.DictOf (ahX P w) a vs
 | .dT fL=>(a==BO)=d_/\fL.length<=bZ/\
   ∃o es c,h.get? a=a_ o/\o.ExactDict/\o.data=.dict es c/\es.toList=fL.map (λx=>DictEntry.mk (CU 8 x.1) (.ref x.2)<|.bool c_)/\(fL.map (·.1)).Nodup
 | .set S n=>h.SetOf (intKind P w) a S n
 | .ins C dx fs=>H dx=a_ (.own a)/\fs.length<=1000/\dx≠a/\h.get? a=a_ (W.instObj C dx)/\
   ∃mA,h.Ns1 dx mA/\(∀f,sO (fs.lookup f)<|mA f)/\PySem.Within mA (fs.map (·.1))
 | .own _=>∃o,h.get? a=a_ o
 | .xd fs=>∃mA,h.Ns1 a mA/\∀f,sO (fs.lookup f)<|mA f
 | .Qo lo hi=>∃t u v,h.get? a=a_ {cls:=.type "range",data:=.fields #[.int lo t,.int hi u,.int 1 v]}
 | .jZ o u=>h.get? a=a_ o/\fq H h a u
 | .ft ps=>h.get? a=a_ {cls:=.none,data:=.fields ps}
 | .met f x=>h.get? a=a_ (W.methodObj (.ref f)<|.ref x)
 | .ext φ=>φ h/\(∃o,h.get? a=a_ o)/\∀h1 h2:i_,φ h1->(∀o,h1.get? a=a_ o->h2.get? a=a_ o)->φ h2
def iD(H:Hp)(h:i_):Prop:=∀a o,H a=a_ o->fq P w H h a o
end
section
variable{P:k_}{w:j_}{H H':Hp}{h h':i_}{a:e_}{o:HO}
def fq.lt(x:fq P w H h a o):a<h.zH:=by
 cases o with
 | lst xs=>obtain⟨_,_,_,_,e⟩:=x;exact bV e
 | tup xs=>obtain⟨_,_,_,p⟩:=x;exact p.lt
 | dK fL=>obtain⟨_,_,_,_,o,_,_,e,_⟩:=x;exact bV e
 | dT fL=>obtain⟨_,_,o,_,_,e,_⟩:=x;exact bV e
 | set S n=>obtain⟨o,_,_,_,e,_⟩:=x;exact bV e
 | ins C dx fs=>obtain⟨_,_,_,e,_⟩:=x;exact bV e
 | own y=>obtain⟨_,e⟩:=x;exact bV e
 | xd fs=>obtain⟨_,⟨_,_,_,e,_⟩,_⟩:=x;exact bV e
 | Qo lo hi=>obtain⟨_,_,_,e⟩:=x;exact bV e
 | jZ ob u=>obtain⟨e,_⟩:=x;exact bV e
 | ft ps=>exact bV x
 | met f y=>exact bV x
 | ext φ=>obtain⟨_,⟨_,e⟩,_⟩:=x;exact bV e
theorem Paired.bq{c d:Type}{F G:c->d->Prop}:∀{e:List c}{g:List d},bt F e g->(∀a b,F a b->G a b)->bt G e g
 | _,_,.nil,_=>.nil
 | _,_,.cons r t,f=>.cons (f _ _ r)<|Paired.bq t f
def fq.uz(x:fq P w H h a o)(k:∀b u,(b=a\/H b=a_ (.own a))->h.get? b=a_ u->h'.get? b=a_ u)(j:∀b,H b=a_ (.own a)->H' b=a_ (.own a))(m:∀b xs,H b=a_ (.tup xs)->H' b=a_ (.tup xs)):fq P w H' h' a o:=by
 induction o with
 | lst xs=>obtain⟨z,i,n,r,e⟩:=x;exact⟨z,i,n,r,k _ _ (.inl xz) e⟩
 | tup xs=>obtain⟨z,i,r,ob,e,c⟩:=x;exact⟨z,i,r,ob,k _ _ (.inl xz) e,c⟩
 | dK fL=>obtain⟨z,y,vs,r,ob,es,g,e,c⟩:=x;exact⟨z,y,vs,r,ob,es,g,k _ _ (.inl xz) e,c⟩
 | dT fL=>
  obtain⟨z,y,ob,es,g,e,c⟩:=x;exact⟨z,y,ob,es,g,k _ _ (.inl xz) e,c⟩
 | set S n=>obtain⟨ob,es,g,t,e,c⟩:=x;exact⟨ob,es,g,t,k _ _ (.inl xz) e,c⟩
 | ins C dx fs=>
  obtain⟨d,z,ne,e,mA,⟨od,es,g,l,c⟩,r⟩:=x;exact⟨j _ d,z,ne,k _ _ (.inl xz) e,mA,⟨od,es,g,k _ _ (.inr d) l,c⟩,r⟩
 | own y=>obtain⟨ob,e⟩:=x;exact⟨ob,k _ _ (.inl xz) e⟩
 | xd fs=>obtain⟨mA,⟨od,es,g,e,c⟩,r⟩:=x;exact⟨mA,⟨od,es,g,k _ _ (.inl xz) e,c⟩,r⟩
 | Qo lo hi=>obtain⟨t,u,v,e⟩:=x;exact⟨t,u,v,k _ _ (.inl xz) e⟩
 | jZ ob u ih=>obtain⟨e,q⟩:=x;exact⟨k _ _ (.inl xz) e,ih q⟩
 | ft ps=>
  have e:=x;exact k a _ (.inl xz) e
 | met f y=>
  have e:=x;exact k a _ (.inl xz) e
 | ext φ=>obtain⟨p,⟨o,e⟩,st⟩:=x;exact⟨st _ _ p λo q=>k _ _ (.inl xz) q,⟨o,k _ _ (.inl xz) e⟩,st⟩
def iD.lt(x:iD P w H h)(e:H a=a_ o):a<h.zH:=(x a o e).lt
def iD.fresh(x:iD P w H h)(e:h.zH<=a):H a=none:=by
 rcases q:H a with _|u;rfl;exact eu (ip (x.lt q) e)<|mU _
def iD.kept(x:iD P w H h)(k:∀b u,h.get? b=a_ u->h'.get? b=a_ u):iD P w H h':=λa o e=>
 (x a o e).uz (λb u _ q=>k b u q) (λ_ q=>q) λ_ _ q=>q
def iD.laid(x:iD P w H h)(k:∀b u,h.get? b=a_ u->h'.get? b=a_ u)(f:h.zH<=a)(new:fq P w (db H a o) h' a o):iD P w (db H a o) h':=λb u e=>by
 have hn:=x.fresh f
 by_cases d:b=a
 .subst d;rw[ao]at e;cases e;exact new
 rw[aj d]at e;exact(x b u e).uz (λc v _ q=>k c v q) (λc q=>by rw[aj<|bf q hn];exact q) λc xs q=>by rw[aj<|bf q hn];exact q
end
def Rd(H:Hp)(a:e_)(u:HO):Prop:=H a=a_ u\/∃o,H a=a_ (.jZ o u)
def Rd.ok{P:k_}{w:j_}{u:HO}(r:Rd H a u)(x:iD P w H h):fq P w H h a u:=by
 obtain r|⟨o,r⟩:=r
 .exact x a u r
 obtain⟨_,q⟩:=x a _ r;exact q
def HV:Option HO->Prop
 | some (.lst _)=>True
 | some (.dK _)=>True
 | some (.dT _)=>True
 | some (.set _ _)=>True
 | some (.ins _ _ _)=>True
 | some (.ext _)=>True
 | _=>False
section
variable{P:k_}{w:j_}{H:Hp}{h h':i_}{x e:e_}{o':HO}
def iD.write(ok:iD P w H h)(a:HV (H x))(i:e=x\/H e=a_ (.own x))(k:∀b u,b≠e->h.get? b=a_ u->h'.get? b=a_ u)(m:∃u,h'.get? e=a_ u)(new:fq P w (db H x o') h' x o'):iD P w (db H x o') h':=λb u q=>by
 have j:∀c y,H c=a_ (.own y)->c≠x:=λc y r z=>by subst z;rw[r]at a;exact a
 have n:∀c xs,H c=a_ (.tup xs)->c≠x:=λc xs r z=>by subst z;rw[r]at a;exact a
 by_cases d:b=x
 .subst d;rw[ao]at q;cases q;exact new
 rw[aj d]at q
 by_cases f:b=e
 .have l:H b=a_ (.own x):=by
   obtain z|z:=i
   .exact eu (f.fT z) d
   rw[f];exact z
  rw[q]at l;cases l;obtain⟨v,o⟩:=m;exact⟨v,by rw[f];exact o⟩
 refine(ok b u q).uz (λc v g r=>k c v ?_ r) (λc r=>by rw[aj<|j c b r];exact r) λc xs r=>by rw[aj<|n c _ r];exact r
 obtain rfl|g:=g
 .exact f
 rintro rfl;obtain z|z:=i
 .exact j c b g z
 rw[g]at z;cases z;exact d xz
end
structure Un(fs ex:List e_)(H H':Hp)(h h':i_):Prop where
 keep:∀b o,h.get? b=a_ o->H b=b_->b∉fs->b∉ex->h'.get? b=a_ o
 slot:∀b o,h.get? b=a_ o->H b=b_->b∈fs->b∉ex->∃sl,h'.get? b=a_ {o with slots:=sl}
 free:∀b o,h.get? b=a_ o->H b=b_->b∉ex->H' b=b_
 there:∀b o,h.get? b=a_ o->b∉ex->∃o',h'.get? b=a_ o'
 ux:∀b xs,H b=a_ (.tup xs)->H' b=a_ (.tup xs)
 sM:∀b o u,H b=a_ (.jZ o u)->H' b=a_ (.jZ o u)
 sF:∀b ps,H b=a_ (.ft ps)->∃more,H' b=a_ (.ft<|ps++more)
section
variable{fs mP ex ex':List e_}{H H1 H2:Hp}{h h1 h2 h':i_}{a x e:e_}{o:HO}
def Un.any(u:Un fs ex H H1 h h1)(q:h.get? b=a_ ob)(n:H b=b_)(c:b∉ex):∃sl,h1.get? b=a_ {ob with slots:=sl}:=by
 by_cases d:b∈fs
 .exact u.slot b _ q n d c
 exact⟨ob.slots,u.keep b _ q n d c⟩
def Un.kept(k:∀b u,h.get? b=a_ u->h'.get? b=a_ u):Un fs ex H H h h':=
 ⟨λb ob q _ _ _=>k b ob q,λb ob q _ _ _=>⟨ob.slots,k b ob q⟩,λ_ _ _ n _=>n,λb ob q _=>⟨ob,k b ob q⟩,λ_ _ q=>q,λ_ _ _ q=>q,λ_ ps q=>⟨#[],by rw[q];simp⟩⟩
def Un.refl:Un fs ex H H h h:=Un.kept λ_ _ q=>q
def Un.laid(k:∀b u,h.get? b=a_ u->h'.get? b=a_ u)(c:h.zH<=a)(hn:H a=b_):Un fs ex H (db H a o) h h' where
 keep:=λb u q _ _ _=>k b u q
 slot:=λb u q _ _ _=>⟨u.slots,k b u q⟩
 free:=λb u q n _=>by rw[aj<|dH<|ip (bV q) c];exact n
 there:=λb u q _=>⟨u,k b u q⟩
 ux:=λb xs q=>by rw[aj<|bf q hn];exact q
 sM:=λb u xs q=>by rw[aj<|bf q hn];exact q
 sF:=λb ps q=>⟨#[],by rw[aj<|bf q hn,q];simp⟩
def Un.write(c:HV (H x))(i:e=x\/H e=a_ (.own x))(k:∀b u,b≠e->h.get? b=a_ u->h'.get? b=a_ u)(j:∃u,h'.get? e=a_ u):Un fs ex H (db H x o) h h':=by
 have d:∀b,H b=b_->b≠x:=λb n z=>by subst z;rw[n]at c;exact c
 have f:∀b,H b=b_->b≠e:=λb n z=>by
  subst z;obtain r|r:=i
  .exact d b n r
  rw[n]at r;cases r
 have hm:∀b u,H b=a_ u->¬HV (a_ u)->b≠x:=λb u q nm z=>by subst z;rw[q]at c;exact nm c
 refine⟨λb u q n _ _=>k b u (f b n) q,λb u q n _ _=>⟨u.slots,k b u (f b n) q⟩,λb u q n _=>by rw[aj<|d b n];exact n,λb u q _=>?_,λb xs q=>by rw[aj (hm b _ q λz=>z)];exact q,λb u xs q=>by rw[aj (hm b _ q λz=>z)];exact q,λb ps q=>⟨#[],by rw[aj (hm b _ q λz=>z),q];simp⟩⟩
 by_cases g:b=e
 .subst g;exact j
 exact⟨u,k b u g q⟩
end
def HE(h:i_)(H:Hp):List Addr:=(List.range h.zH).filter λa=>(H a).isSome
def sJ(h:i_)(H:Hp):Heap:=W.hideAll h<|HE h H
def aep(h:i_)(H:Hp):(sJ h H).zH=h.zH:=W.hideAll_size _ _
def af5(e:h.get? b=a_ o)(n:H b=b_):(sJ h H).get? b=a_ o:=
 W.hideAll_get _ e λhm=>by
  have q:=(gz.mp hm).2;rw[n]at q;simp at q
def ahM(e:(sJ h H).get? b=a_ o):h.get? b=a_ o/\H b=none:=by
 have e':=W.of_hideAll _ e;refine⟨e',?_⟩;rcases q:H b with _|x;rfl;have hm:b∈HE h H:=gz.mpr ⟨nU.mpr<|bV e',by simp[q]⟩;have z:(sJ h H).get? b=none:=W.hideAll_none _ hm;rw[z]at e;cases e
def FV(g h:i_)(L:e_):List (e_×cP):=(List.range h.zH).filterMap λa=>if a=L\/(g.get? a).isSome=c_ then b_ else (h.get? a).map λo=>(a,o)
def acB(h1:a≠L)(h2:g.get? a=b_)(h3:h.get? a=a_ o):(a,o)∈FV g h L:=
 Jz.mpr ⟨a,nU.mpr<|bV h3,by simp[h1,h2,h3]⟩
def abV{p:e_×cP}(a:p∈FV g h L):p.1≠L/\g.get? p.1=b_/\h.get? p.1=a_ p.2:=by
 obtain⟨b,_,e⟩:=Jz.mp a
 split at e
 .cases e
 rename_i hn
 cases q:h.get? b with
 | none=>rw[q]at e;simp at e
 | some u=>
  rw[q]at e;simp only[Option.map_some,xx]at e;subst e;refine⟨λz=>hn<|.inl z,?_,q⟩;rcases r:g.get? b with _|v;rfl;exact(hn<|.inr<|by simp[r]).elim
def rest(g h:i_)(L d:e_):List (e_×cP):=(FV g h L).filter λp=>decide<|p.1≠d
def WO:∀p∈rest g h L d,p.1≠d:=λp a=>eF (gz.mp a).2
def afU(h1:a≠L)(h2:g.get? a=b_)(h3:h.get? a=a_ o)(h4:a≠d):(a,o)∈rest g h L d:=
 gz.mpr ⟨acB h1 h2 h3,eN h4⟩
def afL:News g L h (FV g h L):=λp d=>let ⟨a,b,c⟩:=abV d;⟨c,a,b⟩
def aci{m:cr->Option f_}(k:∀b o,g.get? b=a_ o->h.get? b=a_ o)(F:Fr g L h' m)(N:News g L h' (rest g h L d)):∀b o,b≠L->b≠d->h.get? b=a_ o->h'.get? b=a_ o:=λb o h1 h2 e=>by
 rcases q:g.get? b with _|u;exact(N _<|afU h1 q e h2).1;have:=k b u q;rw[e]at this;cases this;exact F.keep b _ q
structure Mod(K:u_)(mg:cr->Option f_)(base:i_):Prop where
 yD:K.In base
 glob:base.Ns ff mg
 blt:∃mb,base.Ns rZ mb/\∀x:cr,x ≠ "__name__"->mb x=rW x
 nolimit:base.NoLimit
structure Cx where
 prog:k_
 w:j_
 K:u_
 mg:cr->Option f_
 base:i_
 A:h_
 N:List cr
 s₀:g_
 H₀:Hp
 env:Env
 outer:List Env
 stack:List Env
 ex:List e_
 fn:cr->Bool
 calm:Bool
 pn:List (e_×cP)
 xe:f_->g_->Prop
noncomputable def qU(l:List Env):List Addr:=l.filterMap (·.frame)
abbrev Cx.fs(X:Cx):List Addr:=qU X.outer
def HP(sc:d5)(x:cr):Prop:=sc.names.lookup x=a_ .local\/sc.names.lookup x=a_ .cell\/sc.names.lookup x=a_ .free
def ld(sc:d5)(x:cr):Prop:=sc.names.lookup x=a_ .local\/sc.names.lookup x=a_ .cell
def Look(env:Env)(h:i_)(m:cr->Option f_)(x:cr)(u:f_):Prop:=
 (env.kindOf x=a_ .local/\m x=a_ u)\/((env.kindOf x=a_ .cell\/env.kindOf x=a_ .free)/\∃c,env.cells.lookup x=a_ c/\h.IsCell c (a_ u))
structure Cx.Ok(X:Cx):Prop where
 mod:Mod X.K X.mg X.base
 kind:X.env.scope.kind=.function
 glob:X.env.globals=ff
 blt:X.env.builtins=rZ
 above:X.s₀.zS<=X.env.locals
 inj:∀x y c,X.env.cells.lookup x=a_ c->X.env.cells.lookup y=a_ c->x=y
 has:∀x,(X.env.kindOf x=a_ .cell\/X.env.kindOf x=a_ .free)->∃c,X.env.cells.lookup x=a_ c
 yH:∀x c,X.fn x=c_->X.env.cells.lookup x=a_ c->X.s₀.zS<=c
 hd:X.calm=c_->X.A.handled=b_
 frames:X.A.frames=a_ X.stack
 AU:X.stack=X.outer\/(X.stack=X.env::X.outer/\X.env.frame=a_ X.env.locals)
 wO:∀b∈X.ex,b≠X.env.locals/\∀x c,X.env.cells.lookup x=a_ c->c≠b
 bs:∀b o,X.base.get? b=a_ o->X.s₀.heap.get? b=a_ o/\X.H₀ b=b_
 nK:X.base.zH<=X.s₀.zS
 yo:∀b o,X.base.get? b=a_ o->b∉X.ex
 wy:∀b∈X.ex,b∉X.fs
 nG:X.s₀.heap.FunFrames X.base X.outer
 uX:∀b∈X.fs,X.H₀ b=b_
structure dc(X:Cx)(p_:List (e_×cP))(σ:List (Option V))(H:Hp)(s:g_):Prop where
 ok:X.Ok
 os:s.os=X.s₀.os
 bare:AllBare s.gens
 base:Un X.fs X.ex X.H₀ H X.s₀.heap s.heap
 loc:∃m,s.heap.Ns X.env.locals m/\∀(i:Nat)(x:cr)(v:V),X.N[i]?=a_ x->σ[i]?=a_ (a_ v)->HP X.env.scope x->∃u,df v u/\Look X.env s.heap m x u
 cell:∀x c,X.env.cells.lookup x=a_ c->∃v,s.heap.IsCell c v
 free:H X.env.locals=b_
 my:∀x c,X.env.cells.lookup x=a_ c->H c=b_
 pin:∀p∈X.pn++p_,s.heap.get? p.1=a_ p.2/\H p.1=b_/\p.1≠X.env.locals/\p.1∉X.fs/\∀v,p.2.data≠.cell v
 aU:iD X.prog X.w H s.heap
 len:σ.length=X.N.length
section
variable{X:Cx}{p_:List (e_×cP)}{σ:List (Option V)}{H H':Hp}{s:g_}{h':i_}
def Cx.Ok.anW(ok:X.Ok)(e:X.base.get? b=a_ o):b∉X.fs:=λa=>by
 have:=(ok.nG.mem a).1;rw[e]at this;cases this
def dc.bs(I:dc X p_ σ H s):∀b o,X.base.get? b=a_ o->s.heap.get? b=a_ o/\H b=none:=λb o e=>
 ⟨I.base.keep b o (I.ok.bs b o e).1 (I.ok.bs b o e).2 (I.ok.anW e)<|I.ok.yo b o e,I.base.free b o (I.ok.bs b o e).1 (I.ok.bs b o e).2<|I.ok.yo b o e⟩
def dc.bk(I:dc X p_ σ H s):∀b o,X.base.get? b=a_ o->s.heap.get? b=a_ o:=λb o e=>(I.bs b o e).1
def dc.mod(I:dc X p_ σ H s):Mod X.K X.mg X.base:=I.ok.mod
def dc.dm(I:dc X p_ σ H s):X.K.In s.heap:=I.ok.mod.yD.keeps I.bk
def dc.nolimit(I:dc X p_ σ H s):s.heap.NoLimit:=I.ok.mod.nolimit.keeps I.bk
def dc.fr(I:dc X p_ σ H s):∃m,Fr X.base X.env.locals s.heap m:=
 let ⟨m,hn,_⟩:=I.loc
 ⟨m,hn,I.bk,dC I.ok.nK I.ok.above⟩
def dc.lt(I:dc X p_ σ H s):X.env.locals<s.zS:=let ⟨_,hn,_⟩:=I.loc;hn.lt
def dc.sz(I:dc X p_ σ H s):X.s₀.zS<=s.zS:=dC I.ok.above<|cg I.lt
def dc.ZN(I:dc X p_ σ H s)(h:s.zS<=a):a∉X.fs:=λb=>by
 obtain⟨_,o,c,_⟩:=I.ok.nG.mem b;exact eu (ip (bV c)<|dC I.sz h)<|mU _
def dc.yG(I:dc X p_ σ H s):∀x c,X.env.cells.lookup x=a_ c->c≠X.env.locals:=λx c e z=>by
 obtain⟨v,o,a,hd⟩:=I.cell x c e;obtain⟨m,⟨o',es,f,b,d,_⟩,_⟩:=I.loc;rw[z,b]at a;cases a;rw[d]at hd;cases hd
def dc.nG(I:dc X p_ σ H s):s.heap.FunFrames X.base X.outer:=by
 have all:∀(l:List Env),(∀b∈qU l,b∈X.fs)->X.s₀.heap.FunFrames X.base l->s.heap.FunFrames X.base l:=by
  intro l
  induction l with
  | nil=>intro _ _;trivial
  | cons env r ih=>
   intro f g;obtain⟨h,⟨L,o,a,hn,i,hd⟩,j⟩:=g;have c:=f L (by unfold qU;rw[Jw,a];exact b9);obtain⟨sl,e⟩:=I.base.slot L o i (I.ok.uX L c) c λz=>I.ok.wy L z c;exact⟨h,⟨L,_,a,hn,e,hd⟩,ih (λb d=>f b<|by unfold qU;rw[Jw,a];exact cx _ d) j⟩
 exact all _ (λ_ d=>d) I.ok.nG
def dc.stack(I:dc X p_ σ H s):s.heap.FunFrames X.base X.stack:=by
 obtain e|⟨e,a⟩:=I.ok.AU
 .rw[e];exact I.nG
 rw[e];obtain⟨m,hn,_⟩:=I.loc;exact .cons (by rw[I.ok.kind];decide) a hn (aa8<|dC I.ok.nK I.ok.above) I.nG
def dc.Na(I:dc X p_ σ H s):∀b∈qU X.stack,b∈X.env.locals::X.fs:=λb a=>by
 obtain e|⟨e,c⟩:=I.ok.AU
 .rw[e]at a;exact cx _ a
 rw[e]at a;unfold qU at a;rw[Jw,c]at a;exact a
def dc.Mr(I:dc X p_ σ H s):∀b∈qU X.stack,H b=none:=λb a=>by
 rcases bH.mp (I.Na b a)with e | a
 .rw[e];exact I.free
 obtain⟨_,o,c,_⟩:=I.ok.nG.mem a;exact I.base.free b o c (I.ok.uX b a) λz=>I.ok.wy b z a
def dc.step{g':Array GenState}{t':Nat}{d':Drawn}{ch:List e_}(I:dc X p_ σ H s)(j:∀b∈ch,(b∈X.ex\/X.s₀.zS<=b)/\b≠X.env.locals/\(∀x c,X.env.cells.lookup x=a_ c->c≠b)/\∀p∈X.pn++p_,p.1≠b)(keep:∀b o,b≠X.env.locals->b∉X.fs->b∉ch->s.heap.get? b=a_ o->H b=b_->h'.get? b=a_ o)(slot:∀b o,b≠X.env.locals->b∈X.fs->b∉ch->s.heap.get? b=a_ o->H b=b_->∃sl,h'.get? b=a_ {o with slots:=sl})(free:∀b o,b∉ch->s.heap.get? b=a_ o->H b=b_->H' b=b_)(there:∀b o,b∉ch->s.heap.get? b=a_ o->∃o',h'.get? b=a_ o')(ux:∀b xs,H b=a_ (.tup xs)->H' b=a_ (.tup xs))(sM:∀b o u,H b=a_ (.jZ o u)->H' b=a_ (.jZ o u))(sF:∀b ps,H b=a_ (.ft ps)->∃more,H' b=a_ (.ft<|ps++more))(ns:∀m,s.heap.Ns X.env.locals m->h'.Ns X.env.locals m)(aU:iD X.prog X.w H' h')(G:AllBare g'):dc X p_ σ H' {s with heap:=h',gens:=g',drawn:=d',toks:=t'}:=by
 have B:∀b o,X.s₀.heap.get? b=a_ o->b≠X.env.locals:=λb o e=>dH<|ip (bV e) I.ok.above
 have A:∀b o,X.s₀.heap.get? b=a_ o->b∉X.ex->b∉ch:=λb o e a g=>by
  rcases(j b g).1 with z | z
  .exact a z
  exact eu (ip (bV e) z) (mU _)
 have C:∀x c,X.env.cells.lookup x=a_ c->∀v,s.heap.IsCell c v->h'.IsCell c v:=λx c e v⟨o,h,hd⟩=>by
  have t:c∉ch:=λz=>(j c z).2.2.1 x c e xz
  by_cases D:c∈X.fs
  .obtain⟨sl,q⟩:=slot c o (I.yG x c e) D t h<|I.my x c e;exact⟨_,q,hd⟩
  exact⟨o,keep c o (I.yG x c e) D t h<|I.my x c e,hd⟩
 refine⟨I.ok,I.os,G,⟨λb o e n g a=>?_,λb o e n g a=>?_,λb o e n a=>?_,λb o e a=>?_,λb xs e=>ux b _<|I.base.ux b _ e,λb o xs e=>sM b o _<|I.base.sM b o _ e,λb ps e=>?_⟩,?_,λx c e=>?_,?_,λx c e=>?_,λp E=>?_,aU,I.len⟩
 .exact keep b o (B b o e) g (A b o e a) (I.base.keep b o e n g a) (I.base.free b o e n a)
 .obtain⟨sl,f⟩:=I.base.slot b o e n g a;obtain⟨J,y⟩:=slot b _ (B b o e) g (A b o e a) f<|I.base.free b o e n a;exact⟨J,y⟩
 .obtain⟨o',f⟩:=I.base.there b o e a;exact free b _ (A b o e a) f<|I.base.free b o e n a
 .obtain⟨o',f⟩:=I.base.there b o e a;exact there b _ (A b o e a) f
 .obtain⟨K,f⟩:=I.base.sF b _ e;obtain⟨L,y⟩:=sF b _ f;exact⟨K++L,by rw[y,Array.append_assoc]⟩
 .obtain⟨m,hn,M⟩:=I.loc;refine⟨m,ns m hn,λi x v f y N=>?_⟩;obtain⟨u,r,l⟩:=M i x v f y N;refine⟨u,r,?_⟩;obtain l|⟨k,c,e,z⟩:=l
  .exact .inl l
  exact .inr ⟨k,c,e,C x c e _ z⟩
 .obtain⟨v,z⟩:=I.cell x c e;exact⟨v,C x c e v z⟩
 .obtain⟨m,⟨o,_,_,h,_⟩,_⟩:=I.loc;exact free _ o (λz=>(j _ z).2.1 xz) h I.free
 .obtain⟨v,o,h,hd⟩:=I.cell x c e;exact free c o (λz=>(j c z).2.2.1 x c e xz) h<|I.my x c e
 obtain⟨e,n,ne,F,d⟩:=I.pin p E;have t:p.1∉ch:=λz=>(j _ z).2.2.2 p E rfl;exact⟨keep _ _ ne F t e n,free _ _ t e n,ne,F,d⟩
def dc.un{t':Nat}(I:dc X p_ σ H s)(u:Un X.fs [] H H' s.heap h')(aU:iD X.prog X.w H' h'):dc X p_ σ H' {s with heap:=h',toks:=t'}:=by
 obtain⟨m,⟨o,es,j,c,r⟩,_⟩:=id I.loc;obtain⟨sl,f⟩:=u.any c I.free (by simp)
 exact I.step (g':=s.gens) (d':=s.drawn) (ch:=[]) (λ_ z=>nomatch z) (λb o _ a _ e n=>u.keep b o e n a<|by simp) (λb o _ a _ e n=>u.slot b o e n a<|by simp) (λb o _ e n=>u.free b o e n<|by simp) (λb o _ e=>u.there b o e<|by simp) u.ux u.sM u.sF (λk hm=>by
  obtain⟨o',g,h,d,i⟩:=hm;rw[c]at d;cases d;exact⟨_,g,h,f,i⟩) aU I.bare
def dc.call{g':Array GenState}{t':Nat}{d':Drawn}{ch:List e_}(I:dc X p_ σ H s)(u:Un (qU X.stack) ch H H' s.heap h')(aU:iD X.prog X.w H' h')(i:AllBare g')(f:∀b∈ch,(b∈X.ex\/X.s₀.zS<=b)/\b≠X.env.locals/\(∀x c,X.env.cells.lookup x=a_ c->c≠b)/\∀p∈X.pn++p_,p.1≠b):dc X p_ σ H' {s with heap:=h',gens:=g',drawn:=d',toks:=t'}:=by
 obtain⟨m,⟨o,es,t,g,r⟩,_⟩:=id I.loc;obtain⟨sl,d⟩:=u.any g I.free λz=>(f _ z).2.1 xz
 exact I.step (ch:=ch) f (λb o d j a e n=>u.keep b o e n (λz=>(bH.mp<|I.Na b z).elim d j) a) (λb o _ _ a e n=>u.any e n a) (λb o a e n=>u.free b o e n a) (λb o a e=>u.there b o e a) u.ux u.sM u.sF (λv hm=>by
  obtain⟨o',k,l,h,q⟩:=hm;rw[g]at h;cases h;exact⟨_,k,l,d,q⟩) aU i
def dc.turned{t':Nat}{it:e_}(I:dc X p_ σ H s)(k:∀b o,b≠it->s.heap.get? b=a_ o->h'.get? b=a_ o)(hn:H it=b_)(d:it≠X.env.locals)(h1:it∈X.ex\/X.s₀.zS<=it)(h2:∀x c,X.env.cells.lookup x=a_ c->c≠it)(h3:∀p∈X.pn++p_,p.1≠it):dc X p_ σ H {s with heap:=h',toks:=t'}:=by
 have f:∀b u,H b=a_ u->b≠it:=λb u e z=>by rw[z,hn]at e;cases e
 refine I.step (g':=s.gens) (d':=s.drawn) (ch:=[it]) (λb g=>?_) (λb o _ _ a e _=>k b o (λz=>a<|by simp[z]) e) (λb o _ _ a e _=>⟨o.slots,k b o (λz=>a<|by simp[z]) e⟩) (λ_ _ _ _ n=>n)
  (λb o a e=>⟨o,k b o (λz=>a<|by simp[z]) e⟩) (λ_ _ e=>e) (λ_ _ _ e=>e) (λb ps e=>⟨#[],by rw[e];simp⟩) (λm hm=>?_) (λb u e=>?_) I.bare
 .have e:b=it:=by simpa using g
  subst e;exact⟨h1,d,h2,h3⟩
 .obtain⟨o,es,h,i,r⟩:=hm;exact⟨o,es,h,k _ o (iL d) i,r⟩
 refine(I.aU b u e).uz (λc v a q=>k c v ?_ q) (λ_ q=>q) λ_ _ q=>q;obtain z|z:=a
 .rw[z];exact f b u e
 exact f c _ z
def dc.tok(I:dc X p_ σ H s)(t:Nat):dc X p_ σ H {s with toks:=t}:=I.un Un.refl I.aU
def dc.kept{t':Nat}(I:dc X p_ σ H s)(k:∀b u,s.heap.get? b=a_ u->h'.get? b=a_ u):dc X p_ σ H {s with heap:=h',toks:=t'}:=I.un (Un.kept k)<|I.aU.kept k
def dc.laid{o:HO}{t':Nat}(I:dc X p_ σ H s)(k:∀b u,s.heap.get? b=a_ u->h'.get? b=a_ u)(c:s.zS<=a)(new:fq X.prog X.w (db H a o) h' a o):dc X p_ σ (db H a o) {s with heap:=h',toks:=t'}:=I.un (Un.laid k c<|I.aU.fresh c)<|I.aU.laid k c new
def dc.write{o:HO}{t':Nat}(I:dc X p_ σ H s)(a:HV (H x))(c:e=x\/H e=a_ (.own x))(k:∀b u,b≠e->s.heap.get? b=a_ u->h'.get? b=a_ u)(d:∃u,h'.get? e=a_ u)(new:fq X.prog X.w (db H x o) h' x o):dc X p_ σ (db H x o) {s with heap:=h',toks:=t'}:=I.un (Un.write a c k d)<|I.aU.write a c k d new
def dc.weak{a:List (Option V)}(I:dc X p_ σ H s)(b:a.length=σ.length)(w:∀(i:Nat)v,a[i]?=a_ (a_ v)->σ[i]?=a_ (a_ v)):dc X p_ a H s:=
 ⟨I.ok,I.os,I.bare,I.base,let ⟨m,hn,za⟩:=I.loc;⟨m,hn,λi x v c d e=>za i x v c (w i v d) e⟩,I.cell,I.free,I.my,I.pin,I.aU,b.fT I.len⟩
def dc.vN(I:dc X p_ σ H s)(h:∀p∈amZ,s.heap.get? p.1=a_ p.2/\H p.1=b_/\p.1≠X.env.locals/\p.1∉X.fs/\∀v,p.2.data≠.cell v):dc X amZ σ H s:=
 ⟨I.ok,I.os,I.bare,I.base,I.loc,I.cell,I.free,I.my,λp a=>(ir.mp a).elim (λz=>I.pin p<|pf _ z)<|h p,I.aU,I.len⟩
def V3{N:List cr}(c:N.Nodup){i j:Nat}{x:cr}(a:N[i]?=a_ x)(b:N[j]?=a_ x):i=j:=by
 obtain⟨h1,d⟩:=cb.mp a;obtain⟨h2,e⟩:=cb.mp b;exact(List.getElem_inj c).mp (d.fT e.g8)
def UQ{M:d6}{A:h_}{E:f_->g_->Prop}{i:Nat}{x:cr}{v:V}{u:f_}{Q:Unit->g_->Prop}(I:dc X p_ σ H s)(U:X.N.Nodup)(hi:X.N[i]?=a_ x)(t:ld X.env.scope x)(r:df v u)
  (h:∀s',dc X p_ (σ.set i<|a_ v) H s'->(∃a,gQ a s.heap s'.heap/\(a=X.env.locals\/X.env.cells.lookup x=a_ a))->Q () s') (hf:X.fn x=c_\/X.env.scope.names.lookup x=a_ .local:=by first | exact .inl xz | exact .inr xz | assumption):be M A (storeName X.env x u) Q E s:=by
 obtain⟨m,hn,W⟩:=id I.loc;have apj:(X.env.scope.kind==.class||(X.env.scope.kind==.module&&X.env.locals != X.env.globals))=false:=by rw[I.ok.kind];rfl
 have Y:i < σ.length:=by rw[I.len];exact(cb.mp hi).1
 have yG:=I.yG
 have Z:∀{a:e_}{h':i_},(∃o,s.heap.get? a=a_ o/\H a=b_)->gQ a s.heap h'->iD X.prog X.w H h':=λ{a h'}ha f b ob e=>by
  obtain⟨_,_,Zp⟩:=ha;refine(I.aU b _ e).uz (λc G l q=>(f.2 c ?_).fT q) (λ_ q=>q) λ_ _ q=>q;rintro rfl;obtain rfl|l:=l
  .rw[Zp]at e;cases e
  rw[Zp]at l;cases l
 obtain C|C:=t
 .refine wpAny_storeName_local C hn (λh' Eb f=>?_) apj;obtain⟨oL,_,_,hoL,_⟩:=id hn;refine h _ ⟨I.ok,I.os,I.bare,⟨λb o e n D t=>?_,λb o e n D t=>?_,I.base.free,λb o e t=>?_,I.base.ux,I.base.sM,I.base.sF⟩,⟨_,Eb,λj y J g B K=>?_⟩,λy c e=>?_,I.free,I.my,λp L=>?_,Z ⟨oL,hoL,I.free⟩ f,by simpa using I.len⟩ ⟨_,f,.inl xz⟩
  .exact(f.2 b<|dH<|ip (bV e) I.ok.above).fT (I.base.keep b o e n D t)
  .obtain⟨sl,g⟩:=I.base.slot b o e n D t;exact⟨sl,(f.2 b<|dH<|ip (bV e) I.ok.above).fT g⟩
  .obtain⟨o',g⟩:=I.base.there b o e t;exact⟨o',(f.2 b<|dH<|ip (bV e) I.ok.above).fT g⟩
  .by_cases F:j=i
   .subst F;rw[hi]at g;cases g;rw[fQ Y]at B;cases B;exact⟨u,r,.inl ⟨C,by simp⟩⟩
   rw[lC<|iL F]at B;obtain⟨O,P,q⟩:=W j y J g B K;refine⟨O,P,?_⟩;obtain⟨k,e⟩|⟨k,c,e,z⟩:=q
   .refine .inl ⟨k,?_⟩;have:y≠x:=λe=>F<|V3 U g<|e ▸ hi;simp[this,e]
   exact .inr ⟨k,c,e,z.sameBut f<|yG y c e⟩
  .obtain⟨G,z⟩:=I.cell y c e;exact⟨G,z.sameBut f<|yG y c e⟩
  obtain⟨e,n,ne,R,d⟩:=I.pin p L;exact⟨(f.2 _ ne).fT e,n,ne,R,d⟩
 have S:X.fn x=true:=by
  obtain z|z:=hf
  .exact z
  rw[z]at C;cases C
 obtain⟨c,l⟩:=I.ok.has x<|.inl C;obtain⟨G,z⟩:=I.cell x c l;refine wpAny_storeName_cell I.ok.kind C l z λh' lU f=>?_;obtain⟨oc,yZ,ao1⟩:=id z;refine h {s with heap:=h'} ⟨I.ok,I.os,I.bare,⟨λb o e n D t=>?_,λb o e n D t=>?_,I.base.free,λb o e t=>?_,I.base.ux,I.base.sM,I.base.sF⟩,⟨m,hn.sameBut f<|iL<|yG x c l,λj y J g B K=>?_⟩,λy T e=>?_,I.free,I.my,λp L=>?_,Z ⟨oc,yZ,I.my x c l⟩ f,by simpa using I.len⟩ ⟨c,f,.inr l⟩
 .exact(f.2 b<|dH<|ip (bV e)<|I.ok.yH x c S l).fT (I.base.keep b o e n D t)
 .obtain⟨sl,g⟩:=I.base.slot b o e n D t;exact⟨sl,(f.2 b<|dH<|ip (bV e)<|I.ok.yH x c S l).fT g⟩
 .obtain⟨o',g⟩:=I.base.there b o e t;exact⟨o',(f.2 b<|dH<|ip (bV e)<|I.ok.yH x c S l).fT g⟩
 .by_cases F:j=i
  .subst F;rw[hi]at g;cases g;rw[fQ Y]at B;cases B;exact⟨u,r,.inr ⟨.inl C,c,l,lU⟩⟩
  rw[lC<|iL F]at B;obtain⟨O,P,q⟩:=W j y J g B K;refine⟨O,P,?_⟩;obtain q|⟨k,T,e,z'⟩:=q
  .exact .inl q
  refine .inr ⟨k,T,e,z'.sameBut f ?_⟩;rintro rfl;exact F<|V3 U g<|I.ok.inj _ _ _ e l ▸ hi
 .by_cases hcc:T=c
  .subst hcc;exact⟨_,lU⟩
  obtain⟨w2,z2⟩:=I.cell y _ e;exact⟨w2,z2.sameBut f hcc⟩
 obtain⟨e,n,ne,R,d⟩:=I.pin p L;refine⟨(f.2 _ ?_).fT e,n,ne,R,d⟩;intro q;rw[q,yZ]at e;exact d _ (by rw[<-(dj e)];exact ao1)
def Lq{M:d6}{i:Nat}{Q:Unit->g_->Prop}(I:dc X p_ σ H s)(a:X.N.Nodup)(hi:X.N[i]?=a_ x)(b:ld X.env.scope x)(r:df v u)
  (h:∀s',dc X p_ (σ.set i<|a_ v) H s'->Q () s') (c:X.fn x=c_\/X.env.scope.names.lookup x=a_ .local:=by first | exact .inl xz | exact .inr xz | assumption):be M A (storeName X.env x u) Q E s:=
 UQ I a hi b r (λs' d _=>h s' d) c
def dc.Zj(I:dc X p_ σ H s)(a:s'.os=s.os)(u:Un (qU X.stack) ch H H' s.heap s'.heap)(aU:iD X.prog X.w H' s'.heap)(d:AllBare s'.gens)(f:∀b∈ch,(b∈X.ex\/X.s₀.zS<=b)/\b≠X.env.locals/\(∀x c,X.env.cells.lookup x=a_ c->c≠b)/\∀p∈X.pn++p_,p.1≠b):dc X p_ σ H' s':=by
 obtain⟨h',g',d',t',o'⟩:=s';have e:=a;subst e;exact I.call u aU d f
end
abbrev XK:=f_->Option e_->Hp->Prop
abbrev St:=List<|Option V
abbrev VK:=V->Hp->Prop
abbrev TE:=St->Hp->VK->Prop
abbrev TT:=St->Hp->(Bool->Hp->Prop)->Prop
abbrev TA:=St->Hp->(List V->Hp->Prop)->Prop
structure Ends where
 nx:St->Hp->Prop
 rt:VK
 bk:St->Hp->Prop:=λ_ _=>False
 ct:St->Hp->Prop:=λ_ _=>False
abbrev TS:=Ends->St->Hp->Prop
def EP(X:Cx)(p_:List (e_×cP))(σ:St)(Q:VK)(u:f_)(s':g_):Prop:=∃v H',dc X p_ σ H' s'/\df v u/\Q v H'
def TP(X:Cx)(p_:List (e_×cP))(σ:St)(Q:Bool->Hp->Prop)(b:Bool)(s':g_):Prop:=∃H',dc X p_ σ H' s'/\Q b H'
def AP(X:Cx)(p_:List (e_×cP))(σ:St)(Q:List V->Hp->Prop)(us:List f_)(s':g_):Prop:=∃vs H',dc X p_ σ H' s'/\di vs us/\Q vs H'
def SP(X:Cx)(p_:List (e_×cP))(D:Ends)(f:Flow)(s':g_):Prop:=
 match f with
 | .next=>∃a H',dc X p_ a H' s'/\D.nx a H'
 | .brk=>∃a H',dc X p_ a H' s'/\D.bk a H'
 | .cont=>∃a H',dc X p_ a H' s'/\D.ct a H'
 | .ret u=>∃v a H',dc X p_ a H' s'/\df v u/\D.rt v H'
def PE(X:Cx)(e:bw)(t:TE):Prop:=
 ∀(p_:List (e_×cP))(s:g_)(σ:St)(H:Hp)(Q:VK),dc X p_ σ H s->t σ H Q->be (bn X.prog X.w) X.A (eval e X.env) (EP X p_ σ Q) X.xe s
def PT(X:Cx)(e:bw)(t:TT):Prop:=
 ∀(p_:List (e_×cP))(s:g_)(σ:St)(H:Hp)(Q:Bool->Hp->Prop),dc X p_ σ H s->t σ H Q->be (bn X.prog X.w) X.A (isTrue e X.env<|eval e X.env) (TP X p_ σ Q) X.xe s
def PW(X:Cx)(e:bw)(t:TT):Prop:=
 ∀(a:Sem f_)(p_:List (e_×cP))(s:g_)(σ:St)(H:Hp)(Q:Bool->Hp->Prop),dc X p_ σ H s->t σ H Q->be (bn X.prog X.w) X.A (isTrue e X.env a) (TP X p_ σ Q) X.xe s
def PW.pt{X:Cx}(h:PW X e t):PT X e t:=h _
def PA(X:Cx)(es:List bw)(t:TA):Prop:=
 ∀(a:Pos)(p_:List (e_×cP))(s:g_)(σ:St)(H:Hp)(Q:List V->Hp->Prop),dc X p_ σ H s->t σ H Q->be (bn X.prog X.w) X.A (spliced<|bx a<|cA es X.env) (AP X p_ σ Q) X.xe s
def PS(X:Cx)(st:bv)(t:TS):Prop:=
 ∀(p_:List (e_×cP))(s:g_)(σ:St)(H:Hp)(D:Ends),dc X p_ σ H s->t D σ H->be (bn X.prog X.w) X.A (exec st X.env) (SP X p_ D) X.xe s
def fu(X:Cx)(st:List bv)(t:TS):Prop:=
 ∀(p_:List (e_×cP))(s:g_)(σ:St)(H:Hp)(D:Ends),dc X p_ σ H s->t D σ H->be (bn X.prog X.w) X.A (execs st X.env) (SP X p_ D) X.xe s
def aT{b:Type}{t:Sem b}{Q c:b->g_->Prop}{M:d6}(h:be M A t Q E s)(d:∀a s,Q a s->c a s):be M A t c E s:=kP h d λ_ _ x=>x
def lV{X:Cx}{K:VK}{t:Sem f_}{M:d6}(h:be M A t (EP X p_ σ K) E s)(k:∀v s x H,dc X p_ σ H s->df x v->K x H->Q' v s):be M A t Q' E s:=aT h λv s z=>fk z<|k v s
def thT{X:Cx}{K:Bool->Hp->Prop}{t:Sem Bool}{a:Bool->g_->Prop}{M:d6}(h:be M A t (TP X p_ σ K) E s)(k:∀v s H,dc X p_ σ H s->K v H->a v s):be M A t a E s:=aT h λv s z=>aB z<|k v s
def HF{X:Cx}{K:List V->Hp->Prop}{t:Sem (List f_)}{a:List f_->g_->Prop}{M:d6}(h:be M A t (AP X p_ σ K) E s)(k:∀v s x H,dc X p_ σ H s->di x v->K x H->a v s):be M A t a E s:=aT h λv s z=>fk z<|k v s
section
variable{X:Cx}
def nE(i:Nat):TE:=λσ H Q=>∃v,σ[i]?=a_ (a_ v)/\Q v H
abbrev tC(v:V):TE:=λ_ H Q=>Q v H
def ai6{i:Nat}(g:X.N[i]?=a_ x)(j:HP X.env.scope x)(hd:autoParam ((x==("__debug__":cr))=false) ad)(k:autoParam ((x==("__classdict__":cr))=false) ad):PE X (.Name x pos) (nE i):=by
 intro p_ s σ H Q I h;obtain⟨v,e,h⟩:=h;obtain⟨m,hn,n⟩:=I.loc;obtain⟨u,r,l⟩:=n i x v g e j;have b:EP X _ _ Q u s:=⟨v,H,I,r,h⟩;obtain⟨a,hm⟩|⟨a,c,d,f⟩:=l
 .exact wpAny_Name (wpAny_loadName_local I.ok.kind a hn hm b) hd
 obtain a|a:=a
 .exact wpAny_Name (wpAny_loadName_cell I.ok.kind a d f b) hd
 exact wpAny_Name (wpAny_loadName_free I.ok.kind a d f b k) hd
def ax{i j pos}:PE X (.Constant (.int i) j pos) (tC<|.int i):=λ_ _ _ H _ I h=>wpAny_Constant_int ⟨.int i,H,I.tok _,⟨_,xz⟩,h⟩
def gD{b j pos}:PE X (.Constant (.bool b) j pos) (tC<|.bl b):=λ_ _ _ H _ I h=>Constant_bool ⟨.bl b,H,I,xz,h⟩
def pD{j pos}:PE X (.Constant .none j pos) (tC .aR):=λ_ _ _ H _ I h=>Constant_none ⟨.aR,H,I,xz,h⟩
def cp{x j pos}:PE X (.Constant (.str x) j pos) (tC<|.str x):=λ_ _ _ H _ I h=>Calls.Constant_str ⟨.str x,H,I.tok _,⟨_,xz⟩,h⟩
def Gl(X:Cx)(x:cr):Prop:=X.env.kindOf x=a_ .globalImplicit
def FN(I:dc X p_ σ H s)(a:Gl X x)(hm:X.mg x=a_ u)(h:Q u s)
  (hd:autoParam ((x==("__debug__":cr))=false) ad):be (bn X.prog X.w) X.A (eval (.Name x pos) X.env) Q E s:=
 aaI I.ok.kind a (Calls.loadGlobal_global (by rw[I.ok.glob];exact I.mod.glob.keeps I.bk) hm h) hd
def vV(I:dc X p_ σ H s)(a:Gl X x)(hm:X.mg x=b_)(b:rW x=a_ u)(h:Q u s)
  (hn:autoParam (x ≠ "__name__") ad) (hd:autoParam ((x==("__debug__":cr))=false) ad):be (bn X.prog X.w) X.A (eval (.Name x pos) X.env) Q E s:=by
 obtain⟨mb,h1,h2⟩:=I.mod.blt;exact aaI I.ok.kind a (Calls.loadGlobal_builtin (I.ok.glob▸I.mod.glob.keeps I.bk) hm (I.ok.blt▸h1.keeps I.bk) ((h2 x hn).fT b) h) hd
def fh(a:Gl X x)(hm:X.mg x=a_ u)(r:df v u)(hd:autoParam ((x==("__debug__":cr))=false) ad):PE X (.Name x pos) (tC v):=
 λ_ _ _ H _ I h=>FN I a hm ⟨v,H,I,r,h⟩ hd
def oh(a:Gl X x)(hm:X.mg x=b_)(b:rW x=a_ u)(r:df v u)(hn:autoParam (x ≠ "__name__") ad)(hd:autoParam ((x==("__debug__":cr))=false) ad):PE X (.Name x pos) (tC v):=
 λ_ _ _ H _ I h=>vV I a hm b ⟨v,H,I,r,h⟩ hn hd
variable{a b:bw}{ta tb:TE}{pos:Pos}
def PC(X:Cx)(c:CmpOp)(a b:bw)(t:TE):Prop:=
 ∀(p_:List (e_×cP))(s:g_)(σ:St)(H:Hp)(Q:VK),dc X p_ σ H s->t σ H Q->
  be (bn X.prog X.w) X.A (eval a X.env) (λv d=>be (bn X.prog X.w) X.A (eval b X.env) (λu e=>be (bn X.prog X.w) X.A (iy c v u) (EP X p_ σ Q) X.xe e) X.xe d) X.xe s
def afJ(b:bw){c:CmpOp}(h:c≠.In)(h2:c≠.NotIn):zP c b=false:=by
 have d:(c==CmpOp.In)=false:=by cases c <;> first | rfl | exact eu xz h
 have e:(c==CmpOp.NotIn)=false:=by cases c <;> first | rfl | exact eu xz h2
 cases b <;> simp[zP,d,e]
def anz(ta:TE):TE:=λσ H Q=>ta σ H λx c=>Q (.bl<|decide<|x=.aR) c
def df.afI(r:df x v):(v==gR)=decide (x=.aR):=by
 cases x with
 | aR=>cases r;rfl
 | bl _=>cases r;rfl
 | int _=>obtain⟨t,rfl⟩:=r;rfl
 | str _=>obtain⟨t,rfl⟩:=r;rfl
 | oO _=>obtain⟨t,rfl⟩:=r;rfl
 | qV _=>obtain⟨t,rfl⟩:=r;rfl
 | ref _=>cases r;rfl
 | ty _=>cases r;rfl
def ai7{j pos'}(ha:PE X a ta):PC X .Is a (.Constant .none j pos') (anz ta):=by
 intro p_ s σ H Q I h;exact aT (ha _ s _ H _ I h) λv s1⟨x,c,d,e,f⟩=>Constant_none<|is_none_gen ⟨.bl _,c,d,by rw[e.afI];rfl,f⟩
def tB(t:TE):TT:=λσ H Q=>t σ H λx d=>∃c,x=.bl c/\Q c d
def XU{e:CmpOp}(h:PC X e a b t)(h1:zP e b=false:=by first | exact afJ _ qc qc | rfl):PT X (.Compare a [e] [b] pos) (tB t):=by
 refine λp_ s σ H Q I hw=>aaY (aT (h _ s _ H _ I hw) λv s1 h1=>aT h1 λu s2 h2=>aT h2 λc k⟨x,f,g,i,j⟩=>?_) h1;obtain⟨d,rfl,q⟩:=j;cases i;exact qg ⟨f,g,q⟩
def dr(h:PE X e t)(f:∀c,isTrue e X.env c=(do let v <-c;standAt e.pos;holding [v] (truthy v)):=by intro _;rfl):PT X e (tB t):=by
 refine λp_ s σ H Q I hw=>isTrue_plain (aT (h _ s _ H _ I hw) λv s1⟨x,g,i,j,k⟩=>?_)<|f _;obtain⟨d,rfl,q⟩:=k;cases j;exact qg ⟨g,i,q⟩
variable{tA Ib:TT}{rest:List bw}
def anD(t u:TT):TT:=λσ H Q=>t σ H λc d=>if c=c_ then u σ d Q else Q d_ d
def tOr(t u:TT):TT:=λσ H Q=>t σ H λc d=>if c=c_ then Q c_ d else u σ d Q
def anw(t:TT):TT:=λσ H Q=>t σ H λc d=>Q (!c) d
def pw_and1(ha:PT X a tA):PW X (.BoolOp .And [a] pos) tA:=by
 refine λwh p_ s σ H Q I h=>isTrue_and (aT (ha _ s _ H Q I h) λc s1 e=>?_);rcases c with _|_;exact e;exact isTrue_and_nil e
def pw_or1(ha:PT X a tA):PW X (.BoolOp .Or [a] pos) tA:=by
 refine λwh p_ s σ H Q I h=>isTrue_or (aT (ha _ s _ H Q I h) λc s1 e=>?_);rcases c with _|_;exact isTrue_or_nil e;exact e
def pw_and(ha:PT X a tA)(f:PW X (.BoolOp .And (b::rest) pos) Ib):PW X (.BoolOp .And (a::b::rest) pos) (anD tA Ib):=by
 refine λwh p_ s σ H Q I h=>isTrue_and (aT (ha _ s _ H _ I h) λc s1⟨g,d,e⟩=>?_);rcases c with _|_;exact⟨g,d,e⟩;exact f _ _ _ _ _ Q d e
def pw_or(ha:PT X a tA)(f:PW X (.BoolOp .Or (b::rest) pos) Ib):PW X (.BoolOp .Or (a::b::rest) pos) (tOr tA Ib):=by
 refine λwh p_ s σ H Q I h=>isTrue_or (aT (ha _ s _ H _ I h) λc s1⟨g,d,e⟩=>?_);rcases c with _|_;exact f _ _ _ _ _ Q d e;exact⟨g,d,e⟩
def jP(ha:PT X a tA):PT X (.UnaryOp .Not a pos) (anw tA):=by
 exact λp_ s σ H Q I h=>isTrue_not<|ha _ s _ H _ I h
def YF(ta tb:TE):TE:=λσ H Q=>ta σ H λx d=>∃c,x=.bl c/\if c=c_ then tb σ d Q else Q (.bl d_) d
def anv(ta tb:TE):TE:=λσ H Q=>ta σ H λx d=>∃c,x=.bl c/\if c=c_ then Q (.bl c_) d else tb σ d Q
def akX(ta:TE):TE:=λσ H Q=>ta σ H λx d=>∃c,x=.bl c/\Q (.bl<|!c) d
def oq{op}(h:PE X a t):PE X (.BoolOp op [a] pos) t:=λp_ s σ H Q I hw=>BoolOp_one<|h _ s _ H Q I hw
def m7(ha:PE X a ta)(f:PE X (.BoolOp .And (b::rest) pos) tb):PE X (.BoolOp .And (a::b::rest) pos) (YF ta tb):=by
 refine λp_ s σ H Q I h=>BoolOp_and (aT (ha _ s _ H _ I h) λv s1⟨x,g,e,i,d⟩=>?_);obtain⟨c,rfl,d⟩:=d;cases i;refine qg ?_;rcases c with _|_;exact⟨.bl _,g,e,xz,d⟩;exact f _ _ _ _ Q e d
def Ow(ha:PE X a ta)(f:PE X (.BoolOp .Or (b::rest) pos) tb):PE X (.BoolOp .Or (a::b::rest) pos) (anv ta tb):=by
 refine λp_ s σ H Q I h=>BoolOp_or (aT (ha _ s _ H _ I h) λv s1⟨x,g,e,i,d⟩=>?_);obtain⟨c,rfl,d⟩:=d;cases i;refine qg ?_;rcases c with _|_;exact f _ _ _ _ Q e d;exact⟨.bl _,g,e,xz,d⟩
def F'(ha:PE X a ta):PE X (.UnaryOp .Not a pos) (akX ta):=by
 refine λp_ s σ H Q I h=>UnaryOp_ (aT (ha _ s _ H _ I h) λv s1⟨x,e,f,g,d⟩=>?_);obtain⟨c,rfl,d⟩:=d;cases g;exact not_of<|qg ⟨.bl<|!c,e,f,xz,d⟩
def tIf(t:TT)(ta tb:TE):TE:=λσ H Q=>t σ H λc d=>if c=c_ then ta σ d Q else tb σ d Q
def Fl(g:PT X c tA)(ha:PE X a ta)(i:PE X b tb):PE X (.IfExp c a b pos) (tIf tA ta tb):=by
 refine λp_ s σ H Q I h=>wpAny_IfExp (aT (g _ s _ H _ I h) λd s1⟨j,e,f⟩=>?_);rcases d with _|_;exact i _ _ _ _ Q e f;exact ha _ _ _ _ Q e f
end
def ag(K:u_)(H:Hp)(a:e_)(xs:List V):Prop:=
 Rd H a (.lst xs)\/
  ∃(o:cP)(b:Array f_)(n:Nat),K.lookup a=a_ o/\o.cls=.type "list"/\o.dict=b_/\o.data=.seq b n/\b.size<=bZ/\di xs b.toList
def aq(K:u_)(H:Hp)(a:e_)(xs:List V):Prop:=
 Rd H a (.tup xs)\/
  ∃(o:cP)(b:Array f_)(n:Nat),K.lookup a=a_ o/\o.cls=.type "tuple"/\o.data=.seq b n/\b.size<=bZ/\di xs b.toList
noncomputable def aoa:f_->Option V
 | .none=>a_ .aR
 | .bool b=>a_<|.bl b
 | .int i _=>a_<|.int i
 | .str x _=>a_<|.str x
 | .bytes b _=>a_<|.oO b
 | .float b _=>a_<|.qV b
 | .ref a=>a_<|.ref a
 | .type n=>a_<|.ty n
 | _=>b_
def df.abs(r:df x u):aoa u=a_ x:=by
 cases x with
 | aR=>cases r;rfl
 | bl _=>cases r;rfl
 | int _=>obtain⟨t,rfl⟩:=r;rfl
 | str _=>obtain⟨t,rfl⟩:=r;rfl
 | oO _=>obtain⟨t,rfl⟩:=r;rfl
 | qV _=>obtain⟨t,rfl⟩:=r;rfl
 | ref _=>cases r;rfl
 | ty _=>cases r;rfl
def df.inj(r:df x u)(q:df y u):x=y:=dj<|r.abs.g8.fT q.abs
theorem di.inj:∀{xs ys:List V}{us:List f_},di xs us->di ys us->xs=ys
 | _,_,_,.nil,.nil=>rfl
 | _,_,_,.cons r t,.cons r' t'=>by rw[r.inj r',di.inj t t']
section
variable{X:Cx}{p_:List (e_×cP)}{σ:St}{H:Hp}{s:g_}{a:e_}{xs ys:List V}
def ag.of{K:u_}(h:H a=a_ (.lst xs)):ag K H a xs:=.inl<|.inl h
def aq.of{K:u_}(h:H a=a_ (.tup xs)):aq K H a xs:=.inl<|.inl h
def dc.list(I:dc X p_ σ H s)(h:ag X.K H a xs):∃b:List f_,di xs b/\PlainL s.heap a b.toArray/\xs.length<=bZ:=by
 obtain h|⟨o,b,n,c,d,hd,f,g,r⟩:=h
 .obtain⟨z,b,n,r,e⟩:=h.ok I.aU;exact⟨b,r,⟨_,n,e,xz,xz,xz⟩,z⟩
 refine⟨b.toList,r,⟨o,n,I.dm a o c,d,hd,by simpa using f⟩,?_⟩;have e:=r.length;simp only[ko]at e;omega
def dc.tuple(I:dc X p_ σ H s)(h:aq X.K H a xs):∃b:List f_,di xs b/\IsTup s.heap a b.toArray/\xs.length<=bZ:=by
 obtain h|⟨o,b,n,c,d,f,g,r⟩:=h
 .obtain⟨z,b,r,p⟩:=h.ok I.aU;exact⟨b,r,p,z⟩
 refine⟨b.toList,r,⟨o,I.dm a o c,d,n,by simpa using f⟩,?_⟩;have e:=r.length;simp only[ko]at e;omega
def dc.V8(I:dc X p_ σ H s)(h:ag X.K H a xs)(h':ag X.K H a ys):xs=ys:=by
 obtain⟨b,r,⟨o,n,e,_,_,d⟩,_⟩:=I.list h;obtain⟨c,f,⟨o',g,e',_,_,d'⟩,_⟩:=I.list h';rw[e]at e';cases e';rw[d]at d';injection d' with d1 _
 have:b=c:=by simpa using fF Array.toList d1
 subst this;exact r.inj f
def dc.UP(I:dc X p_ σ H s)(h:aq X.K H a xs)(h':aq X.K H a ys):xs=ys:=by
 obtain⟨b,r,⟨o,e,_,n,d⟩,_⟩:=I.tuple h;obtain⟨c,f,⟨o',e',_,g,d'⟩,_⟩:=I.tuple h';rw[e]at e';cases e';rw[d]at d';injection d' with d1 _
 have:b=c:=by simpa using fF Array.toList d1
 subst this;exact r.inj f
end
noncomputable abbrev Cx.sE(X:Cx)(E:f_->g_->Prop):Cx:={X with xe:=E}
abbrev Cx.oK(X:Cx):Cx:=X.sE λ_ _=>False
def Cx.Ok.sE{X:Cx}(ok:X.Ok)(E:f_->g_->Prop):(X.sE E).Ok:=
 ⟨ok.mod,ok.kind,ok.glob,ok.blt,ok.above,ok.inj,ok.has,ok.yH,ok.hd,ok.frames,ok.AU,ok.wO,ok.bs,ok.nK,ok.yo,ok.wy,ok.nG,ok.uX⟩
def Cx.Ok.vS{X:Cx}(ok:(X.sE E).Ok):X.Ok:=
 ⟨ok.mod,ok.kind,ok.glob,ok.blt,ok.above,ok.inj,ok.has,ok.yH,ok.hd,ok.frames,ok.AU,ok.wO,ok.bs,ok.nK,ok.yo,ok.wy,ok.nG,ok.uX⟩
section
variable{X:Cx}{p_:List (e_×cP)}{σ:St}{H:Hp}{s:g_}{E:f_->g_->Prop}
def dc.sE(I:dc X p_ σ H s)(E:f_->g_->Prop):dc (X.sE E) p_ σ H s:=⟨I.ok.sE E,I.os,I.bare,I.base,I.loc,I.cell,I.free,I.my,I.pin,I.aU,I.len⟩
def dc.vS(I:dc (X.sE E) p_ σ H s):dc X p_ σ H s:=⟨I.ok.vS,I.os,I.bare,I.base,I.loc,I.cell,I.free,I.my,I.pin,I.aU,I.len⟩
def SP.vS{f:Flow}(h:SP (X.sE E) p_ D f s'):SP X p_ D f s':=by
 rcases f with _|_|_|u
 ·obtain⟨a,H',I,q⟩:=h;exact⟨a,H',I.vS,q⟩
 ·obtain⟨a,H',I,q⟩:=h;exact⟨a,H',I.vS,q⟩
 ·obtain⟨a,H',I,q⟩:=h;exact⟨a,H',I.vS,q⟩
 obtain⟨v,a,H',I,r,q⟩:=h;exact⟨v,a,H',I.vS,r,q⟩
def fu.oK{st:List bv}(h:fu X.oK st t):fu X st t:=λp_ s σ H D I hw=>
 kP (h p_ s σ H D (I.sE _) hw) (λ_ _ q=>q.vS) λ_ _ z=>nY z
end
section
variable{X:Cx}{st:bv}{rest:List bv}{t u:TS}{e:bw}{te:TE}{pos:Pos}
abbrev akY:TS:=λD σ H=>D.nx σ H
abbrev ans(t u:TS):TS:=λD σ H=>t {D with nx:=u D} σ H
def b8:fu X [] akY:=λ_ _ σ H _ I h=>EG ⟨σ,H,I,h⟩
def aw(h1:PS X st t)(h2:fu X rest u):fu X (st::rest) (ans t u):=by
 refine λp_ s σ H D I h=>wpAny_execs_cons (aT (h1 _ s _ H {D with nx:=u D} I h) λf s1 q=>?_);rcases f with _|v|_|_
 ·obtain⟨b,H',a,q⟩:=q;exact h2 _ _ _ _ D a q
 ·exact q
 ·exact q
 exact q
def ar(h1:PS X st t):fu X [st] t:=by
 refine λp_ s σ H D I h=>wpAny_execs_cons (aT (h1 _ s _ H D I h) λf s1 q=>?_);rcases f with _|v|_|_;exact EG q;exact q;exact q;exact q
def dc.quiet(I:dc X p_ σ H s):interactive X.env=false:=by simp[interactive,I.ok.kind]
abbrev ak0(te:TE):TS:=λD σ H=>te σ H λ_ H1=>D.nx σ H1
def fg(a:PE X e te)(b:autoParam (Fb e b_ pos.line X.env=pure false) a8):PS X (.Expr e pos) (ak0 te):=by
 exact λp_ s σ H D I h=>wpAny_Expr_any (aT (a _ s _ H _ I h) λv s1⟨x,c,d,g,f⟩=>⟨σ,c,d,f⟩) I.quiet b
abbrev anu(te:TE):TS:=λD σ H=>te σ H D.rt
def aS(a:PE X e te):PS X (.Return (a_ e) pos) (anu te):=by
 exact λp_ s σ H D I h=>wpAny_Return_some (aT (a _ s _ H _ I h) λv s1⟨x,b,c,d,f⟩=>⟨x,σ,b,c,d,f⟩)
abbrev anA(c:TT)(t u:TS):TS:=λD σ H=>c σ H λb H1=>if b=c_ then t D σ H1 else u D σ H1
def bJ{a b:List bv}(i:PT X c tc)(ha:fu X a t)(j:fu X b u):PS X (.If c a b pos) (anA tc t u):=by
 refine λp_ s σ H D I h=>wpAny_If (aT (i _ s _ H _ I h) λd s1⟨k,f,g⟩=>?_);rcases d with _|_;exact j _ _ _ _ D f g;exact ha _ _ _ _ D f g
def aiB:TS:=λ_ _ _=>False
def vE{a:List bv}:fu X a aiB:=λ_ _ _ _ _ _ h=>h.elim
end
abbrev TG:=V->St->Hp->(St->Hp->Prop)->Prop
abbrev yM:=List V->St->Hp->(St->Hp->Prop)->Prop
def PG(X:Cx)(b:bw)(t:TG):Prop:=
 ∀(p_:List (e_×cP))(s:g_)(σ:St)(H:Hp)(v:V)(u:f_)(Q:St->Hp->Prop),dc X p_ σ H s->df v u->t v σ H Q->
  be (bn X.prog X.w) X.A (assign b X.env u) (λ_ s'=>∃a H',dc X p_ a H' s'/\Q a H') X.xe s
def HU(X:Cx)(ts:List bw)(t:yM):Prop:=
 ∀(p_:List (e_×cP))(s:g_)(σ:St)(H:Hp)(vs:List V)(us:List f_)(Q:St->Hp->Prop),dc X p_ σ H s->di vs us->t vs σ H Q->
  be (bn X.prog X.w) X.A (assignInOrder ((BP ts X.env).map (·.2)) us) (λ_ s'=>∃a H',dc X p_ a H' s'/\Q a H') X.xe s
abbrev Dh:=V->V->V->Hp->(Hp->Prop)->Prop
def PY(X:Cx)(t:Dh):Prop:=
 ∀(p_:List (e_×cP))(s:g_)(σ:St)(H:Hp)(o i v:V)(ov a u:f_)(Q:Hp->Prop),dc X p_ σ H s->df o ov->df i a->df v u->t o i v H Q->
  be (bn X.prog X.w) X.A (setItem ov a u) (λ_ s'=>∃H',dc X p_ σ H' s'/\Q H') X.xe s
abbrev A4:=V->V->Hp->VK->Prop
def Qz(X:Cx)(a:Operator)(t:A4):Prop:=
 ∀(p_:List (e_×cP))(s:g_)(σ:St)(H:Hp)(x y:V)(v u:f_)(Q:VK),dc X p_ σ H s->df x v->df y u->t x y H Q->
  be (bn X.prog X.w) X.A (inplaceOp a v u) (EP X p_ σ Q) X.xe s
section
variable{X:Cx}{pos:Pos}
abbrev hX(i:Nat):TG:=λv σ H Q=>Q (σ.set i<|a_ v) H
def bo{i:Nat}(a:X.N.Nodup)(hi:X.N[i]?=a_ x)(b:ld X.env.scope x)(c:X.fn x=c_\/X.env.scope.names.lookup x=a_ .local:=by first | exact .inl xz | exact .inr xz | assumption):PG X (.Name x pos) (hX i):=by
 exact λp_ s σ H v u Q I r h=>wpAny_assign_Name<|Lq I a hi b r (λs' d=>⟨_,H,d,h⟩) c
def ZT:yM:=λvs σ H Q=>vs=[]/\Q σ H
def OJ(t:TG)(u:yM):yM:=λvs σ H Q=>∃v r,vs=v::r/\t v σ H λa H'=>u r a H' Q
def og:HU X [] ZT:=by
 intro p_ s σ H vs us Q I r h;obtain⟨e,h⟩:=h;subst e;cases r;exact assignInOrder_nil ⟨σ,H,I,h⟩
def gU{es:List bw}{u:yM}(h1:PG X e t)(h2:HU X es u)
  (a:autoParam ((BP (e::es) X.env).map (·.2)=assign e X.env::(BP es X.env).map (·.2)) a8):HU X (e::es) (OJ t u):=by
 intro p_ s σ H vs us Q I r h;obtain⟨v,vr,b,h⟩:=h;subst b;cases r with
 | cons r rr=>
  rw[a];exact assignInOrder_cons (aT (h1 _ s _ H _ _ _ I r h) λ_ s1⟨f,g,c,d⟩=>h2 _ _ _ _ _ _ Q c rr d)
def ZS(K:u_)(n:Nat)(t:yM):TG:=λv σ H Q=>∃a xs,v=.ref a/\aq K H a xs/\xs.length=n/\t xs σ H Q
def oo{es:List bw}{k:Nat}{t:yM}{n:Nat}(d:X.calm=c_)(h:HU X es t)
  (hn:autoParam ((BP es X.env).length=n) a8) (f:autoParam ((BP es X.env).findIdx? (·.1)=none) a8):PG X (.Tuple es k pos) (ZS X.K n t):=by
 intro p_ s σ H v u Q I r hw;obtain⟨a,xs,g,i,j,hw⟩:=hw;subst g;cases r;obtain⟨p,c,l,q⟩:=I.tuple i;refine assign_Tuple_tuple (I.ok.hd d) l (by simp[hn,<-j,c.length]) f λh' m=>?_;exact h _ _ _ H _ _ Q (I.kept (t':=s.toks) λb o e=>m b o (dH<|bV e) e) (by simpa using c) hw
def an6(a b:TE)(t:Dh):TG:=λv σ H Q=>a σ H λo c=>b σ c λi d=>t o i v d λe=>Q σ e
def sr{t:Dh}(b:PE X o to)(hi:PE X i ti)(c:PY X t)
  (ha:∀v,assign (.Subscript o i pos) X.env v=(do
   let ov <-holding [v] (eval o X.env)
   let a <-holding [v,ov] (eval i X.env)
   standAt pos
   holding [v,ov,a] (setItem ov a v)
   release [v,ov,a] []):=by intro _;rfl):PG X (.Subscript o i pos) (an6 to ti t):=by
 intro p_ s σ H v u Q I r h;rw[ha];refine ah<|mQ (aT (b _ s _ H _ I h) λov s1⟨x,n,d,e,f⟩=>ah<|mQ<|aT (hi _ _ _ _ _ d f) λa s2⟨y,p,g,r2,j⟩=>?_);exact ah<|Tv<|ah<|mQ (aT (c _ _ _ _ x y v _ _ u _ g e r2 r j) λ_ q⟨k,l,m⟩=>wpAny_release ⟨σ,k,l,m⟩)
abbrev Ph(te:TE)(g:TG):TS:=λD σ H=>te σ H λx H1=>g x σ H1 D.nx
def qD(a:PE X e te)(b:PG X tg g)(c:autoParam (swapsWithSole [tg] e pos.line X.env=pure false) a8)(hw:autoParam (swappedStores [tg] e X.env=pure none) a8)
  (h1:autoParam ((BP [tg] X.env).map (·.2)=[assign tg X.env]) a8):PS X (.Assign [tg] e pos) (Ph te g):=by
 refine λp_ s σ H D I h=>wpAny_Assign_stores (aT (a _ s _ H _ I h) λv s1⟨x,j,d,f,i⟩=>?_) c hw;rw[h1];exact aT (b _ _ _ _ x v _ d f i) λ_ s2 q=>q
def bC{i:Nat}(a:X.N.Nodup)(hi:X.N[i]?=a_ x)(b:ld X.env.scope x)(c:PE X e te)(d:autoParam (Fb e (a_<|.Name x pos') pos.line X.env=pure false) a8)(f:X.fn x=c_\/X.env.scope.names.lookup x=a_ .local:=by first | exact .inl xz | exact .inr xz | assumption):
  PS X (.Assign [.Name x pos'] e pos) (Ph te<|hX i):=by
 intro p_ s σ H D I h;exact wpAny_Assign_Name (aT (c _ s _ H _ I h) λv s1⟨y,g,j,k,l⟩=>Lq j a hi b k (λs2 m=>⟨_,g,m,l⟩) f) d
def anC(i:Nat)(a:TE)(b:A4):TS:=λD σ H=>∃x,σ[i]?=a_ (a_ x)/\a σ H λy c=>b x y c λz d=>D.nx (σ.set i<|a_ z) d
def ai5{i:Nat}{b:Operator}{f:A4}(g:X.N.Nodup)(hi:X.N[i]?=a_ x)(d:ld X.env.scope x)(j:PE X e te)(n:Qz X b f)(o:X.fn x=c_\/X.env.scope.names.lookup x=a_ .local:=by first | exact .inl xz | exact .inr xz | assumption):
  PS X (.AugAssign (.Name x pos') b e pos) (anC i te f):=by
 intro p_ s σ H D I h;obtain⟨v,p,h⟩:=h;obtain⟨m,hn,q⟩:=I.loc;have t:HP X.env.scope x:=by obtain k|k:=d;exact .inl k;exact .inr (.inl k)
 obtain⟨u,r,l⟩:=q i x v hi p t;refine wpAny_AugAssign_Name ?_
 have go:be (bn X.prog X.w) X.A (eval e X.env) (λw B=>be (bn X.prog X.w) X.A (inplaceOp b u w) (λr C=>be (bn X.prog X.w) X.A (storeName X.env x r) (λ_=>SP X p_ D .next) X.xe C) X.xe B) X.xe s:=by
  refine aT (j _ s _ H _ I h) λw s1⟨y,Q,E,F,G⟩=>aT (n _ _ _ _ v y u w _ E r F G) λz s2⟨R,J,K,r2,L⟩=>?_;exact Lq K g hi d r2 (λS M=>⟨_,J,M,L⟩) o
 obtain⟨a,hm⟩|⟨a,c,O,P⟩:=l
 .exact wpAny_loadName_local I.ok.kind a hn hm go
 obtain a|a:=a
 .exact wpAny_loadName_cell I.ok.kind a O P go
 obtain k|k:=d
 .have:X.env.scope.names.lookup x=a_ .free:=a;rw[k]at this;cases this
 .have:X.env.scope.names.lookup x=a_ .free:=a;rw[k]at this;cases this
def ak1(a b c:TE)(d:V->V->Hp->VK->Prop)(e:A4)(f:Dh):TS:=λD σ H=>a σ H λo g=>b σ g λi h=>d o i h λx j=>c σ j λy k=>e x y k λz l=>f o i z l λm=>D.nx σ m
def Z0(X:Cx)(t:V->V->Hp->VK->Prop):Prop:=
 ∀(p_:List (e_×cP))(s:g_)(σ:St)(H:Hp)(o i:V)(ov a:f_)(Q:VK),dc X p_ σ H s->df o ov->df i a->t o i H Q->
  be (bn X.prog X.w) X.A (getItem ov a) (EP X p_ σ Q) X.xe s
def aho{b:V->V->Hp->VK->Prop}{c:A4}{d:Dh}{f:Operator}(j:PE X o to)(hi:PE X i ti)(k:Z0 X b)(l:PE X e te)(m:Qz X f c)(n:PY X d)
  (ha:∀ov a new,augStore i ov a new=(do holding [new,ov,a] (setItem ov a new);release [new,ov,a] [];pure .next):=by intros;rfl):PS X (.AugAssign (.Subscript o i Hl) f e pos) (ak1 to ti te b c d):=by
 intro p_ s σ H D I h;refine wpAny_AugAssign_SubscriptAny (aT (j _ s _ H _ I h) λov s1⟨J,K,p,g,q⟩=>aT (hi _ _ _ _ _ p q) λa s2⟨L,M,r,r2,t⟩=>?_) ha;refine aT (k _ _ _ _ _ _ _ _ _ r g r2 t) λN O⟨P,Q,u,r3,w⟩=>aT (l _ _ _ _ _ u w) λv R⟨S,T,x,y,z⟩=>?_;exact aT (m _ _ _ _ _ _ _ v _ x r3 y z) λnew U⟨W,Y,A,B,C⟩=>aT (n _ _ _ _ _ _ _ _ _ _ _ A g r2 B C) λ_ Z⟨E,F,G⟩=>⟨σ,E,F,G⟩
def ipI(f:Int->Int->Int):A4:=λx y H Q=>∃i j,x=.int i/\y=.int j/\Q (.int<|f i j) H
def Yj:Qz X .Add (ipI λi j=>i+j):=by
 intro p_ s σ H x y v u Q I a r2 h;obtain⟨i,j,b,c,q⟩:=h;subst b;subst c;obtain⟨t,rfl⟩:=a;obtain⟨t',rfl⟩:=r2;exact iadd_int ⟨.int _,H,I.tok _,⟨_,xz⟩,q⟩
end
section
variable{X:Cx}{pos:Pos}
def Xu(c:TT)(f:TS):TS:=λD σ H=>∃W:Nat->St->Hp->Prop,(∃m,W m σ H)/\∀m σ H,W m σ H->
 c σ H λb a=>if b=c_ then ∃N:St->Hp->Prop,(∀d H',N d H'->∃e,e<m/\W e d H')/\f {D with nx:=N,ct:=N,bk:=D.nx} σ a else D.nx σ a
def Fh{l:List bv}(m:gA (bn X.prog X.w) X.A X.env X.xe)(r:PT X c tc)(t:fu X l tb):PS X (.While c l [] pos) (Xu tc tb):=by
 intro p_ s σ H D I h;obtain⟨W,⟨u,w0⟩,turn⟩:=h;refine wpAny_While<|codeAny_whileLoop (λn s'=>∃o H',dc X p_ o H' s'/\W n o H') ?_ u ⟨σ,H,I,w0⟩;rintro n s1 ⟨x,B,y,w1⟩;refine zF m (aT (r _ _ _ _ _ y<|turn n _ _ w1) λb s2⟨z,p,e⟩=>?_);rcases b with _|_
 ·rw[ee dO];exact EG ⟨x,z,p,e⟩
 obtain⟨N,q,e⟩:=e;rw[ei rfl];refine zF m (aT (t _ _ _ _ _ p e) λf C g=>?_);cases f with
 | next=>
  obtain⟨a,d,i,j⟩:=g;obtain⟨k,hm,w3⟩:=q a d j;exact⟨k,hm,a,d,i,w3⟩
 | cont=>
  obtain⟨a,d,i,j⟩:=g;obtain⟨k,hm,w3⟩:=q a d j;exact⟨k,hm,a,d,i,w3⟩
 | brk=>exact g
 | ret v=>exact g
end
structure It where
 go:Nat->Hp->Prop
 wH:Nat->Hp->V->Hp->Prop
 stop:Nat->Hp->Prop
def jG(X:Cx)(p_:List (e_×cP))(H:Hp)(b:e_):Prop:=
 H b=b_/\b≠X.env.locals/\b∉X.fs/\(b∈X.ex\/X.s₀.zS<=b)/\(∀x c,X.env.cells.lookup x=a_ c->c≠b)/\∀p∈X.pn++p_,p.1≠b
def dc.jX{X:Cx}(I:dc X p_ σ H s)(a:s.zS<=b)(hn:H' b=b_):jG X p_ H' b:=by
 refine⟨hn,vA<|ip I.lt a,I.ZN a,.inr<|dC I.sz a,λx c e z=>?_,λp d z=>?_⟩
 .obtain⟨v,q⟩:=I.cell x c e;exact eu (ip q.lt<|by rw[z];exact a)<|mU _
 exact eu (ip (bV (I.pin p d).1)<|by rw[z];exact a)<|mU _
structure Turn(P:k_)(w:j_)(K:u_)(tg:bw)(J:It)(fp:List e_)(it:e_)(tn:Nat->i_->Prop):Prop where
 mem:it∈fp
 obj:∀i h,tn i h->∀b∈fp,∃o,h.get? b=a_ o/\∀v,o.data≠.cell v
 keep:∀i h h',tn i h->(∀b∈fp,∀o,h.get? b=a_ o->h'.get? b=a_ o)->tn i h'
 item:∀(X:Cx),X.prog=P->X.w=w->X.K=K->X.calm=c_->∀(i:Nat)(p_:List (e_×cP))(s:g_)(σ:St)(H:Hp)(E:f_->g_->Prop),dc X p_ σ H s->(∀b∈fp,jG X p_ H b)->tn i s.heap->J.go i H->
  be (bn P w) X.A (pyNext (.ref it)) (λr s1=>∃u,r=a_ u/\
   be (bn P w) X.A (JJ tg (.ref it) u) (λ_ s2=>∃x H',dc X p_ σ H' s2/\df x u/\J.wH i H x H'/\tn (i+1) s2.heap/\∀b∈fp,H' b=b_) E s1) E s
 done:∀(X:Cx),X.prog=P->X.w=w->X.K=K->X.calm=c_->∀(i:Nat)(p_:List (e_×cP))(s:g_)(σ:St)(H:Hp)(E:f_->g_->Prop),dc X p_ σ H s->(∀b∈fp,jG X p_ H b)->tn i s.heap->J.stop i H->
  be (bn P w) X.A (pyNext<|.ref it) (λr s1=>r=b_/\dc X p_ σ H s1) E s
 self:∀(A:h_)(i:Nat)(s:g_)(Q:f_->g_->Prop)(E:f_->g_->Prop),tn i s.heap->Q (.ref it) s->be (bn P w) A (pyIter<|.ref it) Q E s
abbrev TI:=St->Hp->(It->Hp->Prop)->Prop
def nh(X:Cx)(p_:List (e_×cP))(σ:St)(tg:bw)(R:It->Hp->Prop)(a:f_)(s2:g_):Prop:=
 ∃(it:e_)(fp:List e_)(tn:Nat->i_->Prop)(J:It)(H':Hp),a=.ref it/\dc X p_ σ H' s2/\Turn X.prog X.w X.K tg J fp it tn/\tn 0 s2.heap/\(∀b∈fp,jG X p_ H' b)/\R J H'
def PI(X:Cx)(tg a:bw)(wi:TI):Prop:=
 ∀(p_:List (e_×cP))(s:g_)(σ:St)(H:Hp)(R:It->Hp->Prop),dc X p_ σ H s->wi σ H R->
  be (bn X.prog X.w) X.A (eval a X.env) (λv s1=>be (bn X.prog X.w) X.A (pyIter v) (nh X p_ σ tg R) X.xe s1) X.xe s
def OI{M:d6}{n:String}{vs:Array f_}{Q:Unit->g_->Prop}(b:s.heap.get? it=a_ o)(c:o.cls=.type n)(hd:o.data=.fields vs)(hn:["enumerate","zip","dict_itemiterator","dict_reverseitemiterator","odict_iterator","itertools.zip_longest","itertools.pairwise"].contains n=d_)(a:Q () s):be M A (JJ tg (.ref it) u) Q E s:=by
 unfold JJ
 cases tg <;> first
  | exact aO a
  | (cases u <;> first
    | exact aO a
    | (refine ah (Kt b ?_);rw[c,hd];show be M A (if (["enumerate","zip","dict_itemiterator","dict_reverseitemiterator","odict_iterator","itertools.zip_longest","itertools.pairwise"].contains n&&vs[0]? == a_ (ci _))=c_ then _ else _) Q E s;rw[ee (by intro h;rw[hn,xA]at h;cases h)];exact aO a))
noncomputable def Dy(K:u_)(a:e_):It:=
 ⟨λi H=>∃xs x,ag K H a xs/\xs[i]?=a_ x,λi H x H'=>H'=H/\∀xs,ag K H a xs->xs[i]?=a_ x,λi H=>∃xs,ag K H a xs/\xs.length<=i⟩
noncomputable def QB(K:u_)(a:e_):It:=
 ⟨λi H=>∃xs x,aq K H a xs/\xs[i]?=a_ x,λi H x H'=>H'=H/\∀xs,aq K H a xs->xs[i]?=a_ x,λi H=>∃xs,aq K H a xs/\xs.length<=i⟩
def wR(lo:Int)(n:Nat):It:=⟨λi _=>i<n,λi H x H'=>H'=H/\x=.int (lo+i),λi _=>n<=i⟩
def adH{P:k_}{w:j_}{K:u_}(a it:e_):Turn P w K tg (Dy K a) [it] it (λi h=>h.IsListIter it a i) where
 mem:=by simp
 obj:=λi h st b f=>by
  have e:b=it:=by simpa using f
  subst e;obtain⟨o,e,c,d⟩:=st;exact⟨o,e,λv z=>by rw[d]at z;cases z⟩
 keep:=λi h h' st k=>st.at λo e=>k it (by simp) o e
 item:=by
  intro X l hw m D i p_ s σ H E I g st n;subst l hw m;obtain⟨xs,x,j,q⟩:=n;obtain⟨G,r,p,J⟩:=I.list j;obtain⟨u,L,M⟩:=r.get q;obtain⟨t,y,N,A,B,C⟩:=g it (by simp);refine wpAny_pyNext_list_item st p.isList (x:=u) (by simpa using L) λh' F O=>?_;have Q:dc X p_ σ H {s with heap:=h'}:=I.turned (t':=s.toks) (λb o f e=>(O.2 b f).fT e) t y A B C;obtain⟨o,e,c,d⟩:=id F;exact⟨u,xz,OI (s:={s with heap:=h'}) e c d qc ⟨x,H,Q,M,⟨xz,λys R=>by rw[I.V8 R j];exact q⟩,F,λb f=>(g b f).1⟩⟩
 done:=by
  intro X l hw m D i p_ s σ H E I g st n;subst l hw m;obtain⟨xs,j,q⟩:=n;obtain⟨G,r,p,J⟩:=I.list j;obtain⟨t,y,N,A,B,C⟩:=g it (by simp);have T:=r.length;exact wpAny_pyNext_list_end (I.ok.hd D) st p.isList (by simp;omega) λh' S=>⟨xz,I.turned (t':=s.toks) (λb o f e=>S b o f e) t y A B C⟩
 self:=λ_ _ _ _ _ st h=>wpAny_pyIter_listiter st h
def acO{P:k_}{w:j_}{K:u_}(a it:e_):Turn P w K tg (QB K a) [it] it (λi h=>h.IsTupleIter it a i) where
 mem:=by simp
 obj:=λi h st b f=>by
  have e:b=it:=by simpa using f
  subst e;obtain⟨o,e,c,d⟩:=st;exact⟨o,e,λv z=>by rw[d]at z;cases z⟩
 keep:=λi h h' st k=>st.at λo e=>k it (by simp) o e
 item:=by
  intro X l hw m F i p_ s σ H E I g st n;subst l hw m;obtain⟨xs,x,j,q⟩:=n;obtain⟨r,t,p,J⟩:=I.tuple j;obtain⟨u,L,M⟩:=t.get q;obtain⟨y,A,N,B,C,D⟩:=g it (by simp);refine wpAny_pyNext_tuple_item st (show s.heap.IsTuple a r.toArray from p) (x:=u) (by simpa using L) λh' G O=>?_;have Q:dc X p_ σ H {s with heap:=h'}:=I.turned (t':=s.toks) (λb o f e=>(O.2 b f).fT e) y A B C D;obtain⟨o,e,c,d⟩:=id G;exact⟨u,xz,OI (s:={s with heap:=h'}) e c d qc ⟨x,H,Q,M,⟨xz,λys R=>by rw[I.UP R j];exact q⟩,G,λb f=>(g b f).1⟩⟩
 done:=by
  intro X l hw m F i p_ s σ H E I g st n;subst l hw m;obtain⟨xs,j,q⟩:=n;obtain⟨r,t,p,J⟩:=I.tuple j;obtain⟨y,A,N,B,C,D⟩:=g it (by simp);have T:=t.length;exact wpAny_pyNext_tuple_end (I.ok.hd F) st (show s.heap.IsTuple a r.toArray from p) (by simp;omega) λh' S=>⟨xz,I.turned (t':=s.toks) (λb o f e=>S b o f e) y A B C D⟩
 self:=λ_ _ _ _ _ st h=>wpAny_pyIter_tupleiter st h
def acP{P:k_}{w:j_}{K:u_}(it:e_)(lo:Int)(n:Nat):Turn P w K tg (wR lo n) [it] it (λi h=>IsRangeIter h it (lo+(i:Nat)*1) ((n:Int)-(i:Nat)) 1) where
 mem:=by simp
 obj:=λi h st b a=>by
  have e:b=it:=by simpa using a
  subst e
  exact⟨_,st,λv z=>by
   have x:Data.fields _=Data.cell v:=z;cases x⟩
 keep:=λi h h' st k=>k it (by simp) _ st
 item:=by
  intro X d hw f g i p_ s σ H E I c st j;subst d hw f;obtain⟨l,m,y,p,q,r⟩:=c it (by simp);refine (Walks.range (prog:=X.prog) (w:=X.w) (I.ok.hd g) it lo 1 n).item i s _ _ j st λv h' tk A u B=>?_;obtain⟨t,rfl⟩:=A;have C:dc X p_ σ H {s with heap:=h',toks:=tk}:=I.turned (λb o a e=>B b o (by simpa using a) e) l m p q r;refine⟨_,xz,OI (s:={s with heap:=h',toks:=tk}) (n:="range_iterator") u xz xz qc ⟨.int<|lo+i,H,C,⟨t,?_⟩,⟨xz,xz⟩,u,λb a=>(c b a).1⟩⟩;rw[Int.mul_one]
 done:=by
  intro X d hw f g i p_ s σ H E I c st j;subst d hw f;obtain⟨l,m,y,p,q,r⟩:=c it (by simp);exact wpAny_pyNext_range_end (I.ok.hd g) st (by have:n<=i:=j;omega) λh' D=>⟨xz,I.turned (t':=s.toks) (λb o a e=>D b o a e) l m p q r⟩
 self:=λ_ _ _ _ _ st h=>wpAny_pyIter_rangeiter st h
section
variable{X:Cx}{tg:bw}
def alU(K:u_)(tl:TE):TI:=λσ H R=>tl σ H λx b=>∃a,x=.ref a/\(∃xs,ag K b a xs)/\R (Dy K a) b
def ZR(K:u_)(tl:TE):TI:=λσ H R=>tl σ H λx b=>∃a,x=.ref a/\(∃xs,aq K b a xs)/\R (QB K a) b
def kx(d:PE X l tl):PI X tg l (alU X.K tl):=by
 refine λp_ s σ H R I h=>aT (d _ s _ H _ I h) λv s1⟨x,f,c,g,i⟩=>?_;obtain⟨a,e,⟨xs,j⟩,q⟩:=i;subst e;cases g;obtain⟨m,n,p,r⟩:=c.list j;refine zB p.isList ⟨s1.zS,[s1.zS],_,_,f,xz,c.kept λb o e=>bE _ e,adH a _,⟨_,eO _ xz,xz,xz⟩,λb k=>?_,q⟩;have e:b=s1.zS:=by simpa using k
 subst e;exact c.jX (az _)<|c.aU.fresh<|az _
def mZ(d:PE X l tl):PI X tg l (ZR X.K tl):=by
 refine λp_ s σ H R I h=>aT (d _ s _ H _ I h) λv s1⟨x,f,c,g,i⟩=>?_;obtain⟨a,e,⟨xs,j⟩,q⟩:=i;subst e;cases g;obtain⟨m,n,p,r⟩:=c.tuple j;refine wpAny_pyIter_tuple p ⟨s1.zS,[s1.zS],_,_,f,xz,c.kept λb o e=>bE _ e,acO a _,⟨_,eO _ xz,xz,xz⟩,λb k=>?_,q⟩;have e:b=s1.zS:=by simpa using k
 subst e;exact c.jX (az _)<|c.aU.fresh<|az _
def VU{R:It->Hp->Prop}{lo hi:Int}{t u v:Tok}{tk:Nat}(I:dc X p_ σ H s)(h1:-(2^62)<=lo)(h2:lo<2^62)(h3:-(2^62)<=hi)(h4:hi<2^62)(q:R (wR lo (hi-lo).toNat) H):be (bn X.prog X.w) X.A (pyIter<|.ref s.zS) (nh X p_ σ tg R) E {s with heap:=s.heap.push {cls:=.type "range",data:=.fields #[.int lo t,.int hi u,.int 1 v]},toks:=tk}:=by
 refine wpAny_pyIter_range (IsRange.new ..) (small_one h1 h2 h3 h4) ?_;have a:dc X _ _ H {s with heap:=s.heap.push {cls:=.type "range",data:=.fields #[.int lo t,.int hi u,.int 1 v]},toks:=tk}:=I.kept λb o e=>bE _ e;refine⟨(s.heap.push {cls:=.type _,data:=.fields #[.int _ t,.int _ u,.int 1 v]}).zH,[(s.heap.push {cls:=.type _,data:=.fields #[.int _ t,.int _ u,.int 1 v]}).zH],_,_,H,xz,a.kept λb o e=>bE _ e,acP _ _ (hi-lo).toNat,?_,λb c=>?_,q⟩
 .have d:lo+((0:Nat):Int)*1=lo:=by simp
  have f:(((hi-lo).toNat:Nat):Int)-((0:Nat):Int)=Builtin.Range.rangeSize lo hi 1:=by rw[rangeSize_one];split <;> omega
  rw[d,f];exact eO _ xz
 have e:b=(s.heap.push {cls:=.type "range",data:=.fields #[.int lo t,.int hi u,.int 1 v]}).zH:=by simpa using c
 subst e;exact a.jX (az _)<|a.aU.fresh<|az _
def alT(a:TA):TI:=λσ H R=>a σ H λvs b=>∃j:Int,vs=[.int j]/\-(2^62)<=j/\j<2^62/\R (wR 0 j.toNat) b
def alS(a:TA):TI:=λσ H R=>a σ H λvs b=>∃i j:Int,vs=[.int i,.int j]/\(-(2^62)<=i/\i<2^62/\-(2^62)<=j/\j<2^62)/\R (wR i (j-i).toNat) b
def kT(c:Gl X "range")(hm:X.mg "range"=b_)(ha:PA X [a] ta)(d:autoParam (cA [a] X.env=[(d_,eval a X.env)]) a8):PI X tg (.Call (.Name "range" p) [a] [] pos) (alT ta):=by
 refine λp_ s σ H R I h=>Call_<|vV I c hm boot_range<|Eu (aT (ha _ _ s _ H _ I h) λus s1⟨vs,l,f,g,b⟩=>?_) d xz;obtain⟨j,e,b,i,q⟩:=b;subst e;cases g with
 | cons r k=>
  cases k;obtain⟨t,rfl⟩:=r;exact call_range_1<|VU f om om b i (by simpa using q)
def U3(g:Gl X "range")(hm:X.mg "range"=b_)(ha:PA X [a,b] ta)(k:autoParam (cA [a,b] X.env=[(d_,eval a X.env),(d_,eval b X.env)]) a8)(f:autoParam (cA [b] X.env=[(d_,eval b X.env)]) a8):
  PI X tg (.Call (.Name "range" p) [a,b] [] pos) (alS ta):=by
 refine λp_ s σ H R I h=>Call_<|vV I g hm boot_range<|Eu (aT (ha _ _ s _ H _ I h) λus s1⟨vs,v,l,m,c⟩=>?_) (by rw[k,f]) (by rw[f];rfl);obtain⟨i,j,e,⟨c,n,o,u⟩,q⟩:=c;subst e;cases m with
 | cons r d=>
  cases d with
  | cons r' d=>
   cases d;obtain⟨t,rfl⟩:=r;obtain⟨t',rfl⟩:=r';exact call_range_2<|VU l c n o u q
def anB(wi:TI)(g:TG)(c:TS):TS:=λD σ H=>wi σ H λJ d=>∃W:Nat->Nat->St->Hp->Prop,(∃m,W 0 m σ d)/\∀i m σ H,W i m σ H->
 (J.stop i H/\D.nx σ H)\/(J.go i H/\∃N:St->Hp->Prop,(∀a H',N a H'->∃b,b<m/\W (i+1) b a H')/\∀x H',J.wH i H x H'->g x σ H' λe f=>c {D with nx:=N,ct:=N,bk:=D.nx} e f)
def CD(fp:List e_)(h:i_):List (e_×cP):=fp.filterMap λb=>(h.get? b).map λo=>(b,o)
def Aa{fp:List e_}(a:b∈fp)(e:h.get? b=a_ o):(b,o)∈CD fp h:=Jz.mpr ⟨b,a,by rw[e];rfl⟩
def U7{fp:List e_}{p:e_×cP}(a:p∈CD fp h):p.1∈fp/\h.get? p.1=a_ p.2:=by
 obtain⟨b,c,e⟩:=Jz.mp a;rcases q:h.get? b with _|o
 ·rw[q]at e;cases e
 rw[q]at e;have e':=dj e;subst e';exact⟨c,q⟩
def dc.pinned{fp:List e_}(I:dc X p_ σ H s)(c:∀b∈fp,jG X p_ H b)(f:∀b∈fp,∃o,s.heap.get? b=a_ o/\∀v,o.data≠.cell v):dc X (p_++CD fp s.heap) σ H s:=
 I.vN λp g=>(ir.mp g).elim (λz=>I.pin p<|gh _ z) λz=>by
  obtain⟨a,e⟩:=U7 z;obtain⟨h,i,j,_⟩:=c p.1 a;obtain⟨o,e',d⟩:=f p.1 a;rw[e]at e';cases e';exact⟨e,h,i,j,d⟩
def dc.Fe(I:dc X (p_++pl) σ H s):dc X p_ σ H s:=I.vN λp a=>I.pin p<|gh _<|pf _ a
def i3{E:List bv}{wi:TI}(p:gA (bn X.prog X.w) X.A X.env X.xe)(F:X.calm=c_)(hi:PI X tg iter wi)(R:PG X tg g)(a:fu X E tb)
  (S:∀x,SU iter X.env x=pure x:=by intro _;rfl):PS X (.For tg iter E [] pos) (anB wi g tb):=by
 refine λp_ s σ H D I h=>wpAny_For (aT (hi _ s _ H _ I h) λv s1 h1=>aT h1 λIC s2 h2=>?_) S;obtain⟨it,fp,tn,J,U,e,V,T,Y,G,W,⟨Z,w0⟩,turn⟩:=h2;subst e;have y:∀{H':Hp},(∀b∈fp,H' b=b_)->∀b∈fp,jG X _ _ b:=λhn b a=>⟨hn b a,(G b a).2⟩;refine codeAny_forLoop_any (λn s'=>∃i q H',dc X p_ q H' s'/\tn i s'.heap/\(∀b∈fp,H' b=b_)/\W i n q H') ?_ Z ⟨0,σ,U,V,Y,λb a=>(G b a).1,w0⟩;rintro n s3 ⟨i,K,L,M,O,P,w3⟩;obtain⟨stop,qn⟩|⟨go,N,hN,step⟩:=turn i n K L w3
 .refine zF p (aT (T.done X xz xz xz F i _ _ _ _ _ M (y P) O stop) λr s4⟨z,I4⟩=>?_);subst z;exact EG ⟨K,L,I4,qn⟩
 refine zF p (aT (T.item X xz xz xz F i _ _ _ _ _ M (y P) O go) λr s4⟨u,z,h4⟩=>?_);subst z;refine zF p (aT h4 λ_ s5⟨x,H5,I5,r5,y5,B,Sf⟩=>?_);have Sr:=I5.pinned (y Sf)<|T.obj _ _ B;refine zF p (aT (R _ _ _ _ x u _ Sr r5<|step x _ y5) λ_ s6⟨σ6,H6,I6,q6⟩=>zF p<|aT (a _ _ _ _ _ I6 q6) λf C l=>?_)
 have Q:∀{c:St}{j:Hp},dc X (p_++CD fp s5.heap) c j C->N c j->∃m,m<n/\∃i q H',dc X p_ q H' C/\tn i C.heap/\(∀b∈fp,H' b=b_)/\W i m q H':=λ{c j}k t=>by
  obtain⟨m',hm,w7⟩:=hN c j t;refine⟨m',hm,i+1,c,j,k.Fe,T.keep _ _ _ B λb a o e=>(k.pin _<|gh _<|gh _<|Aa a e).1,λb a=>?_,w7⟩;obtain⟨o,e,d⟩:=T.obj _ _ B b a;exact(k.pin _<|gh _<|gh _<|Aa a e).2.1
 cases f with
 | next=>obtain⟨c,j,k,t⟩:=l;exact Q k t
 | cont=>obtain⟨c,j,k,t⟩:=l;exact Q k t
 | brk=>obtain⟨c,j,k,l⟩:=l;exact⟨c,j,k.Fe,l⟩
 | ret v=>obtain⟨x7,c,j,k,r7,l⟩:=l;exact⟨x7,c,j,k.Fe,r7,l⟩
end
def Cc{K:u_}{a:e_}{xs:List V}{g:TG}{f:TS}{D:Ends}{σ:St}{H:Hp}(Pv:Nat->St->Hp->Prop)(j:Pv 0 σ H)(k:∀i σ H,i<=xs.length->Pv i σ H->ag K H a xs)(l:∀i x σ H,xs[i]?=a_ x->Pv i σ H->g x σ H λb c=>f {D with nx:=Pv<|i+1,ct:=Pv<|i+1,bk:=D.nx} b c)(hd:∀σ H,Pv xs.length σ H->D.nx σ H):∃W:Nat->Nat->St->Hp->Prop,(∃m,W 0 m σ H)/\∀i m σ H,W i m σ H->((Dy K a).stop i H/\D.nx σ H)\/((Dy K a).go i H/\∃N:St->Hp->Prop,(∀d H',N d H'->∃h,h<m/\W (i+1) h d H')/\∀x H',(Dy K a).wH i H x H'->g x σ H' λb c=>f {D with nx:=N,ct:=N,bk:=D.nx} b c):=by
 refine⟨λi m σ H=>m=xs.length-i/\i<=xs.length/\Pv i σ H,⟨xs.length,by simp,ba _,j⟩,?_⟩;rintro i m σ H ⟨rfl,hi,p⟩;have q:=k i _ H hi p
 by_cases n:i<xs.length
 .refine .inr ⟨⟨xs,xs[i],q,by simp ⟩,Pv<|i+1,λd H' o=>⟨xs.length-(i+1),om,xz,n,o⟩,λx H' y=>?_⟩;obtain⟨e,y⟩:=y;subst e;exact l i x _ _ (y _ q) p
 have e:i=xs.length:=om;subst e;exact .inl ⟨⟨xs,q,az _⟩,hd _ H p⟩
def r6{lo:Int}{n:Nat}{g:TG}{f:TS}{D:Ends}{σ:St}{H:Hp}(Pv:Nat->St->Hp->Prop)(j:Pv 0 σ H)(k:∀i σ H,i<n->Pv i σ H->g (.int<|lo+i) σ H λa b=>f {D with nx:=Pv<|i+1,ct:=Pv<|i+1,bk:=D.nx} a b)(hd:∀σ H,Pv n σ H->D.nx σ H):∃W:Nat->Nat->St->Hp->Prop,(∃m,W 0 m σ H)/\∀i m σ H,W i m σ H->((wR lo n).stop i H/\D.nx σ H)\/((wR lo n).go i H/\∃N:St->Hp->Prop,(∀c H',N c H'->∃h,h<m/\W (i+1) h c H')/\∀x H',(wR lo n).wH i H x H'->g x σ H' λa b=>f {D with nx:=N,ct:=N,bk:=D.nx} a b):=by
 refine⟨λi m σ H=>m=n-i/\i<=n/\Pv i σ H,⟨n,by simp,ba _,j⟩,?_⟩;rintro i m σ H ⟨rfl,hi,p⟩
 by_cases d:i<n
 .refine .inr ⟨d,Pv<|i+1,λc H' l=>⟨n-(i+1),om,xz,d,l⟩,λx H' y=>?_⟩;obtain⟨e,y⟩:=y;subst e y;exact k i _ _ d p
 have e:i=n:=om;subst e;exact .inl ⟨az _,hd _ H p⟩
def Vt(Pv:St->Hp->Prop)(e:St->Hp->Nat)(g:Pv σ H)(h:∀σ H,Pv σ H->c σ H λb a=>if b=c_ then tb {D with nx:=λd H'=>Pv d H'/\e d H' < e σ H,ct:=λd H'=>Pv d H'/\e d H' < e σ H,bk:=D.nx} σ a else D.nx σ a)(mono:∀σ H Q f,(∀b a,Q b a->f b a)->c σ H Q->c σ H f):Xu c tb D σ H:=by
 refine⟨λm σ H=>m=e σ H/\Pv σ H,⟨_,xz,g⟩,?_⟩;rintro m σ H ⟨rfl,p⟩;refine mono _ H _ _ (λb a q=>?_)<|h _ H p;rcases b with _|_;exact q;exact⟨_,λd H'⟨i,l⟩=>⟨_,l,xz,i⟩,q⟩
abbrev R2:=V->V->Hp->VK->Prop
def dY(X:Cx)(f:f_->f_->Sem f_)(r:R2):Prop:=
 ∀(p_:List (e_×cP))(s:g_)(σ:St)(H:Hp)(x y:V)(v u:f_)(Q:VK),dc X p_ σ H s->df x v->df y u->r x y H Q->
  be (bn X.prog X.w) X.A (f v u) (EP X p_ σ Q) X.xe s
def HQ(X:Cx)(f:f_->Sem f_)(r:V->Hp->VK->Prop):Prop:=
 ∀(p_:List (e_×cP))(s:g_)(σ:St)(H:Hp)(x:V)(v:f_)(Q:VK),dc X p_ σ H s->df x v->r x H Q->
  be (bn X.prog X.w) X.A (f v) (EP X p_ σ Q) X.xe s
def i7(X:Cx)(f:f_)(r:List V->Hp->VK->Prop):Prop:=
 ∀(p_:List (e_×cP))(s:g_)(σ:St)(H:Hp)(xs:List V)(us:List f_)(Q:VK),dc X p_ σ H s->di xs us->r xs H Q->
  be (bn X.prog X.w) X.A (call f us) (EP X p_ σ Q) X.xe s
abbrev sQ(r:R2)(ta tb:TE):TE:=λσ H Q=>ta σ H λx H1=>tb σ H1 λy H2=>r x y H2 Q
abbrev tUn(r:V->Hp->VK->Prop)(ta:TE):TE:=λσ H Q=>ta σ H λx H1=>r x H1 Q
def rI(C:Int->Int->Prop)(g:Int->Int->V):R2:=λx y H Q=>∃i j,x=.int i/\y=.int j/\C i j/\Q (g i j) H
def uP(g:Int->Int->V):R2:=λx y H Q=>∃i j,x=.int i/\y=.int j/\Q (g i j) H
def rU(g:Int->V):V->Hp->VK->Prop:=λx H Q=>∃i,x=.int i/\Q (g i) H
section
variable{X:Cx}{a b c:bw}{ta tb tc:TE}{pos:Pos}
def PU(ha:PE X a ta)(g:PE X b tb){R:V->V->Hp->Prop}(I:dc X p_ σ H s)(h:ta σ H λx e=>tb σ e λy d=>R x y d){f:f_->f_->Sem f_}(i:∀v u s2 x y d,dc X p_ σ d s2->df x v->df y u->R x y d->be (bn X.prog X.w) X.A (f v u) Q X.xe s2):be (bn X.prog X.w) X.A (eval a X.env) (λv j=>be (bn X.prog X.w) X.A (eval b X.env) (λu k=>be (bn X.prog X.w) X.A (f v u) Q X.xe k) X.xe j) X.xe s:=by
 refine aT (ha _ s _ H _ I h) λv s1⟨x,e,l,m,n⟩=>aT (g _ _ _ _ _ l n) λu s2⟨y,d,o,r2,p⟩=>?_;exact i v u _ x y _ o m r2 p
def bp{d:Operator}{r:R2}(e:dY X (qw d) r)(ha:PE X a ta)(f:PE X b tb):PE X (.BinOp a d b pos) (sQ r ta tb):=by
 exact λp_ s σ H Q I h=>wpAny_BinOp (PU ha f I h λv u s2 x y k g i j q=>e _ _ _ _ x y v u Q g i j q)
def GK{d:UnaryOp}{r:V->Hp->VK->Prop}(e:HQ X (unaryOp d) r)(ha:PE X a ta):PE X (.UnaryOp d a pos) (tUn r ta):=by
 exact λp_ s σ H Q I h=>UnaryOp_ (aT (ha _ s _ H _ I h) λv s1⟨x,j,f,g,i⟩=>e _ _ _ _ x v Q f g i)
def Dr{f:f_->f_->Sem f_}{C:Int->Int->Prop}{g:Int->Int->Int}(d:∀(i j:Int)(t u:Tok)(s:g_)(Q:f_->g_->Prop)(E:f_->g_->Prop),C i j->Q (.int (g i j) s.toks) {s with toks:=s.toks+1}->be (bn X.prog X.w) X.A (f (.int i t)<|.int j u) Q E s):dY X f (rI C λi j=>.int<|g i j):=by
 intro p_ s σ H x y v u Q I e k h;obtain⟨i,j,rfl,rfl,l,q⟩:=h;obtain⟨t,rfl⟩:=e;obtain⟨t',rfl⟩:=k;exact d i j t _ s _ _ l ⟨.int<|g i j,H,I.tok _,⟨_,xz⟩,q⟩
def Hg{f:f_->f_->Sem f_}{g:Int->Int->Int}(d:∀(i j:Int)(t u:Tok)(s:g_)(Q:f_->g_->Prop)(E:f_->g_->Prop),Q (.int (g i j) s.toks) {s with toks:=s.toks+1}->be (bn X.prog X.w) X.A (f (.int i t)<|.int j u) Q E s):dY X f (uP λi j=>.int<|g i j):=by
 intro p_ s σ H x y v u Q I e k h;obtain⟨i,j,rfl,rfl,q⟩:=h;obtain⟨t,rfl⟩:=e;obtain⟨t',rfl⟩:=k;exact d i j t _ s _ _ ⟨.int<|g i j,H,I.tok _,⟨_,xz⟩,q⟩
def Pz{f:f_->f_->Sem f_}{g:Int->Int->Bool}(d:∀(i j:Int)(t u:Tok)(s:g_)(Q:f_->g_->Prop)(E:f_->g_->Prop),Q (.bool<|g i j) s->be (bn X.prog X.w) X.A (f (.int i t)<|.int j u) Q E s):dY X f (uP λi j=>.bl<|g i j):=by
 intro p_ s σ H x y v u Q I e k h;obtain⟨i,j,rfl,rfl,q⟩:=h;obtain⟨t,rfl⟩:=e;obtain⟨t',rfl⟩:=k;exact d i j t _ s _ _ ⟨.bl<|g i j,H,I,xz,q⟩
def aod(i j:Int):Prop:=0<j/\j<1073741824
def aoc(i j:Int):Prop:=0<=j/\j<=1000000/\i.natAbs<2^64
def P2(i j:Int):Prop:=(-(2^64)<i/\i<2^64)\/(-(2^64)<j/\j<2^64)
def P2.ok{i j:Int}(h:P2 i j):IntMulOk i j:=by
 obtain⟨h1,h2⟩|⟨h1,h2⟩:=h
 .exact .of_left (intBits_le_64 h1 h2)
 exact .of_right (intBits_le_64 h1 h2)
def acN(k:Nat):(0:Int)<=2^k:=by
 rw[two_pow_cast];exact xw _
def jR:dY X (qw .Add) (uP λi j=>.int<|i+j):=Hg λ_ _ _ _ _ _ _ q=>add_int q
def ai8:dY X (qw .Sub) (uP λi j=>.int<|i-j):=Hg λ_ _ _ _ _ _ _ q=>sub_int q
def Gb:dY X (qw .Mult) (rI P2 λi j=>.int<|i*j):=Dr λ_ _ _ _ _ _ _ d q=>mul_int q d.ok
def pC:dY X (qw .FloorDiv) (rI aod λi j=>.int<|i/j):=Dr λi j _ _ _ _ _ d q=>by
 have h1:=d.1;have h2:=d.2;exact floordiv_int om (by rw[aaH i om];exact q)<|.inl<|PyProof.noPylong_small om
def jQ:dY X (qw .Mod) (rI (λ_ j=>0<j) λi j=>.int<|i%j):=Dr λi j _ _ _ _ _ d q=>by
 exact mod_int' om (by rw[Int.fmod_eq_emod_of_nonneg i om];exact q)
def As:dY X (qw .LShift) (rI aoc λi j=>.int<|i*2^j.toNat):=Dr λ_ _ _ _ _ _ _ d q=>lshift_int_small d.1 d.2.1 d.2.2 q
def ai9:dY X (qw .RShift) (rI (λ_ j=>0<=j) λi j=>.int<|i/2^j.toNat):=Dr λi j _ _ _ _ _ d q=>
 rshift_int d (by rw[aaH i<|acN _];exact q)
def Gd:dY X (qw .BitAnd) (uP λi j=>.int<|EL i j):=Hg λ_ _ _ _ _ _ _ q=>and_int q
def GL:dY X (qw .BitOr) (uP λi j=>.int<|EN i j):=Hg λ_ _ _ _ _ _ _ q=>or_int q
def lQ{f:f_->Sem f_}{g:Int->Int}(d:∀(i:Int)(t:Tok)(s:g_)(Q:f_->g_->Prop)(E:f_->g_->Prop),Q (.int (g i) s.toks) {s with toks:=s.toks+1}->be (bn X.prog X.w) X.A (f<|.int i t) Q E s):HQ X f (rU λi=>.int<|g i):=by
 intro p_ s σ H x v Q I e h;obtain⟨i,rfl,q⟩:=h;obtain⟨t,rfl⟩:=e;exact d i t s _ _ ⟨.int<|g i,H,I.tok _,⟨_,xz⟩,q⟩
def Xq:HQ X (unaryOp .USub) (rU λi=>.int<|-i):=lQ λ_ _ _ _ _ q=>neg_int q
def Xr:HQ X (unaryOp .Invert) (rU λi=>.int<|Builtin.bitNot i):=lQ λ_ _ _ _ _ q=>invert_int q
end
noncomputable def He:V->V->Bool
 | .aR,.aR=>c_ | .aR,.int _=>c_ | .int _,.aR=>c_ | .aR,.bl _=>c_ | .bl _,.aR=>c_ | .aR,.str _=>c_ | .str _,.aR=>c_
 | .int _,.int _=>c_ | .bl _,.bl _=>c_ | .str _,.str _=>c_ | .oO _,.oO _=>c_
 | .int _,.str _=>c_ | .str _,.int _=>c_ | .bl _,.str _=>c_ | .str _,.bl _=>c_
 | _,_=>d_
def Qp:R2:=λx y H Q=>He x y=c_/\Q (.bl<|decide<|x=y) H
def rNe:R2:=λx y H Q=>He x y=c_/\Q (.bl<|!decide (x=y)) H
def FR{i j:Int}:decide (V.int i=V.int j)=(i==j):=by
 rw[JN];simp
def Yr{i j:Bool}:decide (V.bl i=V.bl j)=(i==j):=by
 rw[JN];simp
def Xf:decide (V.str i=V.str j)=(i==j):=by
 rw[JN];simp
def Xg{i j:Array UInt8}:decide (V.oO i=V.oO j)=(i.toList==j.toList):=by
 rw[JN];cases i;cases j;simp
section
variable{X:Cx}{a b c:bw}{ta tb tc:TE}{pos:Pos}
def eW{k k':Bool}(I:dc X p_ σ H s)(q:Q (.bl k) H)(e:k=k'):EP X p_ σ Q (.bool k') s:=by
 subst e;exact⟨.bl k,H,I,xz,q⟩
def c7:dY X (iy .Eq) Qp:=by
 intro p_ s σ H x y v u Q I f d h;obtain⟨e,q⟩:=h;cases x with
 | aR=>
  cases f;cases y with
  | aR=>cases d;exact PySem.EqNone.eq_none_none<|eW I q (by simp)
  | bl j=>cases d;exact PySem.EqNone.eq_none_bool<|eW I q (by simp)
  | int j=>obtain⟨t',rfl⟩:=d;exact PySem.EqNone.eq_none_int<|eW I q (by simp)
  | str j=>obtain⟨t',rfl⟩:=d;exact PySem.EqNone.eq_none_str<|eW I q (by simp)
  | _=>exact eu e dO
 | bl i=>
  cases f;cases y with
  | aR=>cases d;exact PySem.EqNone.eq_bool_none<|eW I q (by simp)
  | bl j=>cases d;exact eq_bool<|eW I q Yr
  | str j=>obtain⟨t',rfl⟩:=d;exact PySem.EqMixed.eq_bool_str<|eW I q (by simp)
  | _=>exact eu e dO
 | int i=>
  obtain⟨t,rfl⟩:=f;cases y with
  | aR=>cases d;exact PySem.EqNone.eq_int_none<|eW I q (by simp)
  | int j=>obtain⟨t',rfl⟩:=d;exact eq_int<|eW I q FR
  | str j=>obtain⟨t',rfl⟩:=d;exact PySem.EqMixed.eq_int_str<|eW I q (by simp)
  | _=>exact eu e dO
 | str i=>
  obtain⟨t,rfl⟩:=f;cases y with
  | aR=>cases d;exact PySem.EqNone.eq_str_none<|eW I q (by simp)
  | bl j=>cases d;exact PySem.EqMixed.eq_str_bool<|eW I q (by simp)
  | int j=>obtain⟨t',rfl⟩:=d;exact PySem.EqMixed.eq_str_int<|eW I q (by simp)
  | str j=>obtain⟨t',rfl⟩:=d;exact eq_str<|eW I q Xf
  | _=>exact eu e dO
 | oO i=>
  obtain⟨t,rfl⟩:=f;cases y with
  | oO j=>obtain⟨t',rfl⟩:=d;exact W.eq_bytes<|eW I q Xg
  | _=>exact eu e dO
 | _=>cases y <;> exact eu (show d_=c_ from e) dO
def pH:dY X (iy .NotEq) rNe:=by
 intro p_ s σ H x y v u Q I f d h;obtain⟨e,q⟩:=h;cases x with
 | aR=>
  cases f;cases y with
  | aR=>cases d;exact PySem.EqNone.ne_none_none<|eW I q (by simp)
  | bl j=>cases d;exact PySem.EqNone.ne_none_bool<|eW I q (by simp)
  | int j=>obtain⟨t',rfl⟩:=d;exact PySem.EqNone.ne_none_int<|eW I q (by simp)
  | str j=>obtain⟨t',rfl⟩:=d;exact PySem.EqNone.ne_none_str<|eW I q (by simp)
  | _=>exact eu e dO
 | bl i=>
  cases f;cases y with
  | aR=>cases d;exact PySem.EqNone.ne_bool_none<|eW I q (by simp)
  | bl j=>cases d;exact ne_bool<|eW I q<|fF _ Yr
  | str j=>obtain⟨t',rfl⟩:=d;exact PySem.EqMixed.ne_bool_str<|eW I q (by simp)
  | _=>exact eu e dO
 | int i=>
  obtain⟨t,rfl⟩:=f;cases y with
  | aR=>cases d;exact PySem.EqNone.ne_int_none<|eW I q (by simp)
  | int j=>obtain⟨t',rfl⟩:=d;exact ne_int<|eW I q<|fF _ FR
  | str j=>obtain⟨t',rfl⟩:=d;exact PySem.EqMixed.ne_int_str<|eW I q (by simp)
  | _=>exact eu e dO
 | str i=>
  obtain⟨t,rfl⟩:=f;cases y with
  | aR=>cases d;exact PySem.EqNone.ne_str_none<|eW I q (by simp)
  | bl j=>cases d;exact PySem.EqMixed.ne_str_bool<|eW I q (by simp)
  | int j=>obtain⟨t',rfl⟩:=d;exact PySem.EqMixed.ne_str_int<|eW I q (by simp)
  | str j=>obtain⟨t',rfl⟩:=d;exact ne_str<|eW I q<|fF _ Xf
  | _=>exact eu e dO
 | oO i=>
  obtain⟨t,rfl⟩:=f;cases y with
  | oO j=>obtain⟨t',rfl⟩:=d;exact W.ne_bytes<|eW I q<|fF _ Xg
  | _=>exact eu e dO
 | _=>cases y <;> exact eu (show d_=c_ from e) dO
def yc:dY X (iy .Lt) (uP λi j=>.bl<|decide<|i<j):=Pz λ_ _ _ _ _ _ _ q=>lt_int q
def CP:dY X (iy .LtE) (uP λi j=>.bl<|decide<|i<=j):=Pz λ_ _ _ _ _ _ _ q=>le_int q
def CQ:dY X (iy .Gt) (uP λi j=>.bl<|decide<|j<i):=Pz λ_ _ _ _ _ _ _ q=>gt_int q
def XZ:dY X (iy .Is) (λx y H Q=>y=.aR/\Q (.bl<|decide<|x=.aR) H):=by
 intro p_ s σ H x y v u Q I d e h;obtain⟨rfl,q⟩:=h;cases e;refine is_none_gen<|eW I q ?_
 cases x <;> first
  | (cases d;rfl)
  | (obtain⟨t,rfl⟩:=d;rfl)
def ahs:dY X (iy .IsNot) (λx y H Q=>y=.aR/\Q (.bl<|!decide (x=.aR)) H):=by
 intro p_ s σ H x y v u Q I d e h;obtain⟨rfl,q⟩:=h;cases e;refine isnot_none_gen<|eW I q ?_
 cases x <;> first
  | (cases d;rfl)
  | (obtain⟨t,rfl⟩:=d;rfl)
def br(b:bw){d:CmpOp}(h:autoParam (d≠.In) ad)(h2:autoParam (d≠.NotIn) ad):zP d b=false:=by
 have e:(d==CmpOp.In)=false:=by cases d <;> first | rfl | exact eu xz h
 have f:(d==CmpOp.NotIn)=false:=by cases d <;> first | rfl | exact eu xz h2
 cases b <;> simp[zP,e,f]
def jB{d:CmpOp}{r:R2}(e:dY X (iy d) r)(ha:PE X a ta)(f:PE X b tb)(hm:zP d b=d_):PE X (.Compare a [d] [b] pos) (sQ r ta tb):=by
 exact λp_ s σ H Q I h=>wpAny_Compare1 (PU ha f I h λv u s2 x y k g i j q=>e _ _ _ _ x y v u Q g i j q) hm
abbrev YD(t:TE):TT:=λσ H Q=>t σ H λx H'=>∃k,x=.bl k/\Q k H'
def b0{d:CmpOp}{r:R2}(f:dY X (iy d) r)(ha:PE X a ta)(g:PE X b tb)(hm:zP d b=d_):PT X (.Compare a [d] [b] pos) (YD<|sQ r ta tb):=by
 intro p_ s σ H Q I h
 refine aaY (aT (ha p_ s σ H _ I h) λv s1⟨x,i,j,l,m⟩=>aT (g p_ s1 σ i _ j m) λu s2⟨y,n,o,r2,p⟩=>
  aT (f p_ s2 σ n x y v u _ o l r2 p) λc A⟨z,q,t,r3,k,e,w⟩=>?_) hm
 subst e;cases r3;exact qg ⟨q,t,w⟩
def Xv(r e:R2)(ta tb tc:TE):TE:=λσ H Q=>ta σ H λx f=>tb σ f λy g=>r x y g λz d=>∃k,z=.bl k/\
 (if k=c_ then tc σ d λh i=>e y h i Q else Q (.bl d_) d)
def VX{f g:CmpOp}{r i:R2}(m:dY X (iy f) r)(n:dY X (iy g) i)(ha:PE X a ta)(o:PE X b tb)(p:PE X c tc)
  (hm:autoParam (lastMarks [f,g] [b,c]=false) am):PE X (.Compare a [f,g] [b,c] pos) (Xv r i ta tb tc):=by
 intro p_ s σ H Q I h
 refine Compare_chain (aT (ha p_ s σ H _ I h) λv s1⟨x,q,t,w,A⟩=>chain_link (aT (o p_ s1 σ q _ t A) λu s2⟨y,B,C,r2,D⟩=>
  aT (m p_ s2 σ B x y v u _ C w r2 D) λd K⟨z,E,j,r3,k,e,l⟩=>?_)) hm
 subst e;cases r3;refine qg ?_;rcases k with _|_;exact ite_ff ⟨.bl _,E,j,xz,l⟩;exact ite_tt<|chain_last (aT (p _ _ _ _ _ j l) λL M⟨N,O,F,G,J⟩=>n _ _ _ _ y _ u _ Q F r2 G J)
def afe{f g:CmpOp}{r i:R2}(m:dY X (iy f) r)(n:dY X (iy g) i)(ha:PE X a ta)(o:PE X b tb)(p:PE X c tc)
  (hm:autoParam (lastMarks [f,g] [b,c]=false) am):PT X (.Compare a [f,g] [b,c] pos) (YD<|Xv r i ta tb tc):=by
 intro p_ s σ H Q I h
 refine isTrue_chain (aT (ha p_ s σ H _ I h) λv s1⟨x,q,t,w,A⟩=>test_link (aT (o p_ s1 σ q _ t A) λu s2⟨y,B,C,r2,D⟩=>
  aT (m p_ s2 σ B x y v u _ C w r2 D) λd R⟨z,E,j,r3,k,e,l⟩=>?_)) hm
 subst e;cases r3;refine qg ?_;rcases k with _|_
 ·obtain⟨k',e',F⟩:=l;cases e';exact ite_ff ⟨E,j,F⟩
 refine ite_tt<|test_last (aT (p _ _ _ _ _ j l) λS T⟨U,V,G,J,K⟩=>aT (n _ _ _ _ y _ u _ _ G r2 J K) λd' W⟨Y,L,M,N,Z,O,P⟩=>?_);subst O;cases N;exact qg ⟨L,M,P⟩
def CG:(bZ:Nat)<2^63:=by rw[fR];decide
def vals1(r:di [x] us):∃u,us=[u]/\df x u:=by
 cases r with
 | cons r1 r2=>cases r2;exact⟨_,xz,r1⟩
def vals2(r:di [x,y] us):∃u d,us=[u,d]/\df x u/\df y d:=by
 cases r with
 | cons r1 r2=>
  cases r2 with
  | cons r3 e=>cases e;exact⟨_,_,xz,r1,r3⟩
def aeE(e:X.calm=c_):i7 X (.builtin "min") (λxs H Q=>∃i j,xs=[.int i,.int j]/\Q (.int (if j<i then j else i)) H):=by
 intro p_ s σ H xs us Q I r h;obtain⟨i,j,rfl,q⟩:=h;obtain⟨u,f,rfl,⟨t,rfl⟩,⟨t',rfl⟩⟩:=vals2 r;refine min_two_ints (I.ok.hd e) λh' tk k=>⟨_,H,I.kept k,?_,q⟩
 by_cases d:j<i
 .rw[ei d,ei d];exact⟨_,xz⟩
 rw[ee d,ee d];exact⟨_,xz⟩
def aeG:i7 X (.type "int") (λxs H Q=>(∃i,xs=[.int i]/\Q (.int i) H)\/∃k,xs=[.bl k]/\Q (.int (if k then 1 else 0)) H):=by
 intro p_ s σ H xs us Q I r h;obtain⟨i,rfl,q⟩|⟨k,rfl,q⟩:=h
 .obtain⟨u,rfl,t,rfl⟩:=vals1 r;exact call_int_int ⟨.int i,H,I,⟨_,xz⟩,q⟩
 obtain⟨u,rfl,d⟩:=vals1 r;cases d;exact call_int_bool ⟨.int _,H,I.tok _,⟨_,xz⟩,q⟩
end
structure yu(h:i_)(x dx C:e_)(mA:cr->Option f_):Prop where
 obj:h.get? x=a_ (W.instObj C dx)
 ns:h.Ns1 dx mA
 ne:dx≠x
def aeh{h:i_}{dx:e_}{mA:cr->Option f_}(n:h.Ns1 dx mA):∃od,h.get? dx=a_ od/\∀name,W.lookIn name od=a_ (mA name):=by
 obtain⟨o,es,i,b,hd,c,_,hm⟩:=n;refine⟨o,b,λname=>?_⟩;have e:=hm name;unfold nsFind findBy at e;rw[<-Array.find?_toList]at e;unfold W.lookIn;rw[hd];dsimp only
 split
 .rename_i y q
  rw[q]at e;exact fF _ e
 rename_i q
 rw[q]at e
 have a:es.toList.any (·.refKey)=false:=by
  rw[List.any_eq_false];intro y d;obtain⟨z,t,f⟩:=c y<|Array.mem_toList_iff.mp d;simp[DictEntry.refKey,f]
 have g:¬es.toList.any (·.refKey)=true:=by rw[a];exact dO
 rw[ee g];exact fF _ e
def yu.look{mA:cr->Option f_}(I:yu h x dx C mA):∃od,D_ h x (W.instObj C dx) C (a_ od)/\∀name,W.lookIn name od=a_ (mA name):=
 let ⟨od,ho,hl⟩:=aeh I.ns
 ⟨od,⟨I.obj,xz,xz,ho⟩,hl⟩
section
variable{prog:k_}{w:j_}{A:h_}{E:f_->g_->Prop}{s:g_}{K:u_}{x dx C f:e_}{mA:cr->Option f_}{name:cr}{v:f_}
def get_map{a:Bool}(X:K.In s.heap)(I:yu s.heap x dx C mA)(b:W.plainGet K C name=c_)(c:F_ K C=c_)(ha:w_ K (.ref C) name=a_ b_)(d:mA name=a_ v)(e:W.handedIn v=c_)(h:Q v {s with toks:=s.toks+1}):be (bn prog w) A (getAttr (.ref x) name a) Q E s:=by
 obtain⟨od,J,g⟩:=I.look;exact W.get_value X J (W.plainGet_of b).1 (W.findObj_own c ha xz<|by rw[g,d]) e h
def af8{pl:Sem Bool}{Q:f_×List f_->g_->Prop}(X:K.In s.heap)(I:yu s.heap x dx C mA)(a:W.plainGet K C name=c_)(b:w_ K (.ref C) name=a_ (a_<|.ref f))(c:W.isFn K (.ref f)=c_)(d:mA name=b_)(h:Q (.ref f,[.ref x]) s):be (bn prog w) A (vH (.ref x) name pl) Q E s:=by
 obtain⟨od,J,e⟩:=I.look;exact W.method_fn X J (W.plainGet_of a).1 (W.plainGet_of a).2 b (fC.mp c) (by show (W.lookIn _ _).map (·.isSome)=a_ _;rw[e,d];rfl) h
def agS{Q:Unit->g_->Prop}(X:K.In s.heap)(I:yu s.heap x dx C mA)(d:w_ K (.ref C) "__setattr__"=a_ (a_<|.builtin "object.__setattr__"))(e:W.plainOver K C=c_)(g:W.takerIn K C name=a_ b_)(i:F_ K C=c_)(hw:PySem.Within mA ns)(o:ns.length<=bZ)(h:∀h',yu h' x dx C (λy=>if y=name then a_ v else mA y)->gQ dx s.heap h'->Q () {s with heap:=h',toks:=s.toks+2}):be (bn prog w) A (setAttr (.ref x) name v) Q E s:=by
 obtain⟨od,J,p⟩:=I.look;refine W.set_plain X J d (W.osa_open X J e g λb=>?_);obtain⟨cd,j,k⟩:=W.any_some i;refine ah<|aO<|ah<|ah<|wpAny_loadPart I.obj<|ah<|W.Looks.here (W.looks_clsIn X j) ?_;rw[k];refine aO<|ah<|aO<|ah (wpAny_nsSet1 I.ns λh' a c=>?_);obtain⟨q,r,t,l,m,n⟩:=a.count<|PySem.Within.cons name v hw;exact ah<|wpAny_lookBehind l (by rw[m];exact pastItsLine_dict<|dC n<|by rw[eJ];omega)<|aO<|h _ ⟨(c.2 _<|iL I.ne).fT I.obj,a,I.ne⟩ c
def afV{R:Result->g_->Prop}{a:List (cr×f_)}(X:K.In s.heap)(hm:W.makesIn K C=c_)(hi:w_ K (.ref C) "__init__"=a_ (a_<|.ref f))(b:W.typeIn K (.ref f)=a_ (.type "function"))(h:codeAny (bn prog w) (A.under<|.builtin "type.__call__" ⟨.ref C::vs,a⟩) (.call (.ref f) ⟨.ref (s.zS+1)::vs,a⟩) (W.InitBack (s.zS+1) R) {s with heap:=(s.heap.push W.emptyDict).push (W.instObj C s.zS)}):codeAny (bn prog w) A (.call (.ref C) ⟨vs,a⟩) R s:=by
 obtain⟨c,g,d,t,os⟩:=s;exact W.make_core (W.makes_of X hm) (W.looks_findIn X hi) (λself=>W.bind_fn X _ b) (.inl xz) h
end
noncomputable def aJ(f:cr)(v:V):List (cr×V)->List (cr×V)
 | []=>[(f,v)]
 | (g,x)::r=>if g=f then (g,v)::r else (g,x)::aJ f v r
theorem dJ(f g:cr)(v:V):∀fs:List (cr×V),(aJ f v fs).lookup g=if g=f then a_ v else fs.lookup g
 | []=>by
  show zX g [(f,v)]=_
  by_cases h:g=f
  .have a:(g==f)=true:=fC.mpr h;simp only[zX,a,ei h]
  have a:(g==f)=false:=fi.mpr h;simp only[zX,a,ee h]
 | (k,x)::r=>by
  rw[show aJ f v ((k,x)::r)=(if k=f then (k,v)::r else (k,x)::aJ f v r) from rfl]
  by_cases b:k=f
  .rw[ei b]
   by_cases h:g=k
   .have a:(g==k)=true:=fC.mpr h;simp only[zX,a,ei<|h.fT b]
   have a:(g==k)=false:=fi.mpr h;simp only[zX,a,ee λe:g=f=>h<|e.fT b.g8]
  rw[ee b]
  by_cases h:g=k
  .have a:(g==k)=true:=fC.mpr h;simp only[zX,a,ee λe:g=f=>b<|h.g8.fT e]
  have a:(g==k)=false:=fi.mpr h;simp only[zX,a];exact dJ f g v r
theorem KU(f:cr)(v:V):∀fs:List (cr×V),f∈(aJ f v fs).map (·.1)/\∀g,g∈fs.map (·.1)->g∈(aJ f v fs).map (·.1)
 | []=>⟨by simp[aJ],λg h=>by simp at h⟩
 | (k,x)::r=>by
  obtain⟨b,c⟩:=KU f v r;rw[show aJ f v ((k,x)::r)=(if k=f then (k,v)::r else (k,x)::aJ f v r) from rfl]
  by_cases a:k=f
  .rw[ei a];subst a;exact⟨by simp,λg h=>by simpa using h⟩
  rw[ee a];refine⟨?_,λg h=>?_⟩
  .rw[fv];exact cx _ b
  rw[fv]at h ⊢;obtain e|e:=bH.mp h
  .exact bH.mpr (.inl e)
  exact cx _ (c g e)
theorem rY(f:cr)(v:V):∀fs:List (cr×V),(aJ f v fs).length<=fs.length+1
 | []=>by simp[aJ]
 | (k,x)::r=>by
  have ih:=rY f v r;rw[show aJ f v ((k,x)::r)=(if k=f then (k,v)::r else (k,x)::aJ f v r) from rfl]
  by_cases a:k=f
  .rw[ei a,eJ,eJ];omega
  rw[ee a,eJ,eJ];omega
def sO.some_of{o:Option f_}(r:sO (a_ v) o):∃u,o=a_ u/\df v u:=by
 rcases o with _|u;exact r.elim;exact⟨u,xz,r⟩
def sO.none_of{o:Option f_}(r:sO b_ o):o=none:=by
 rcases o with _|u;rfl;exact r.elim
def aer(r:df v u):W.handedIn u=true:=by
 cases v with
 | aR=>cases r;rfl
 | bl b=>cases r;rfl
 | int i=>obtain⟨t,e⟩:=r;cases e;rfl
 | str x=>obtain⟨t,e⟩:=r;cases e;rfl
 | oO b=>obtain⟨t,e⟩:=r;cases e;rfl
 | qV b=>obtain⟨t,e⟩:=r;cases e;rfl
 | ref a=>cases r;rfl
 | ty n=>cases r;rfl
section
variable{P:k_}{w:j_}{H H':Hp}{h h':i_}{a C dx:e_}{fs mP:List (cr×V)}
def Cu(aU:iD P w H h)(e:H a=a_ (.ins C dx fs)):∃mA,yu h a dx C mA/\(∀f,sO (fs.lookup f)<|mA f)/\PySem.Within mA (fs.map (·.1))/\fs.length<=1000/\H dx=a_ (.own a):=by
 obtain⟨d,z,ne,ob,mA,n,r,q⟩:=(aU a _ e);exact⟨mA,⟨ob,n,ne⟩,r,q,z,d⟩
end
structure da(K:u_)(C:e_):Prop where
 pg:W.plainGet K C Str.empty=c_
 hd:F_ K C=c_
 po:W.plainOver K C=c_
 sa:w_ K (.ref C) "__setattr__"=a_ (a_<|.builtin "object.__setattr__")
def da.get{K:u_}(c:da K C)(f:cr):W.plainGet K C f=true:=c.pg
def bM(K:u_)(C:e_)(f:cr):Prop:=w_ K (.ref C) f=a_ b_
def bM.akV{K:u_}(n:bM K C f):W.takerIn K C f=a_ none:=by
 unfold W.takerIn;rw[show w_ K _ f=a_ _ from n];rfl
structure Meth(K:u_)(C:e_)(m:cr)(f:e_):Prop where
 at_:w_ K (.ref C) m=a_ (a_<|.ref f)
 fn:W.isFn K (.ref f)=c_
 kp:x_ K (.ref f)=c_
section
variable{X:Cx}{p_:List (e_×cP)}{σ:St}{H:Hp}{s:g_}{a C dx:e_}{fs:List (cr×V)}{f:cr}{v:V}{A:h_}{E:f_->g_->Prop}
def Ut{b:Bool}(I:dc X p_ σ H s)(e:H a=a_ (.ins C dx fs))(c:da X.K C)(n:bM X.K C f)(l:fs.lookup f=a_ v)(h:∀u s',dc X p_ σ H s'->df v u->Q u s'):be (bn X.prog X.w) A (getAttr (.ref a) f b) Q E s:=by
 obtain⟨mA,O,r,_,_,_⟩:=Cu I.aU e;obtain⟨u,g,d⟩:=sO.some_of (v:=v) (o:=mA f) (by rw[<-l];exact r f);exact get_map I.dm O (c.get f) c.hd n g (aer d)<|h u _ (I.tok _) d
def EV{pl:Sem Bool}{Q:f_×List f_->g_->Prop}(I:dc X p_ σ H s)(e:H a=a_ (.ins C dx fs))(c:da X.K C)(k:Meth X.K C m g)(l:fs.lookup m=b_)(h:Q (.ref g,[.ref a]) s):be (bn X.prog X.w) A (vH (.ref a) m pl) Q E s:=by
 obtain⟨mA,O,r,_,_,_⟩:=Cu I.aU e;exact af8 I.dm O (c.get m) k.at_ k.fn (sO.none_of<|by rw[<-l];exact r m) h
def Uk{Q:Unit->g_->Prop}(I:dc X p_ σ H s)(e:H a=a_ (.ins C dx fs))(c:da X.K C)(n:bM X.K C f)(t:fs.length<1000)(j:df y u)(h:∀s',dc X p_ σ (db H a<|.ins C dx<|aJ f y fs) s'->Q () s'):be (bn X.prog X.w) A (setAttr (.ref a) f u) Q E s:=by
 obtain⟨mA,O,r,wi,_,i⟩:=Cu I.aU e;have k:(fs.map (·.1)).length<=bZ:=by rw[aA,fR];omega
 refine agS I.dm O c.sa c.po n.akV c.hd wi k λh' d l=>h _ ?_;have hd:∃o,h'.get? dx=a_ o:=let ⟨o,_,_,e',_⟩:=d.ns;⟨o,e'⟩
 refine I.write (e▸mY) (.inr i) (λb q m z=>(l.2 b m).fT z) hd ⟨by rw[aj O.ne];exact i,?_,O.ne,d.obj,_,d.ns,λg=>?_,λg p=>?_⟩
 .have:=rY f y fs;omega
 .rw[dJ]
  by_cases q:g=f
  .rw[ei q,ei q];exact j
  rw[ee q,ee q];exact r g
 by_cases q:g=f
 .rw[q];exact(KU f y _).1
 refine(KU f y _).2 g (wi g λz=>p ?_);show (if g=f then a_ u else mA g)=b_;rw[ee q];exact z
def dc.made(I:dc X p_ σ H s):dc X p_ σ (db (db H s.zS<|.own<|s.zS+1) (s.zS+1)<|.ins C s.zS []) {s with heap:=(s.heap.push W.emptyDict).push (W.instObj C s.zS)}:=by
 have c:(s.heap.push _).get? _=a_ W.emptyDict:=eO _ xz
 have d:((s.heap.push W.emptyDict).push<|W.instObj C s.zS).get? (s.zS+1)=a_ (W.instObj C s.zS):=by
  have:=eO (s.heap.push W.emptyDict) (o:=W.instObj C s.zS) rfl;rwa[lZ]at this
 have g:(s.heap.push _).Ns _ _:=⟨W.emptyDict,#[],_,c,xz,(λe h=>eu h<|by simp),λ_=>rfl⟩;refine (I.laid (o:=.own<|s.zS+1) (t':=s.toks) (λb u q=>bE _ q) (az _) ⟨_,c⟩).laid (λb u q=>bE _ q) (ua<|lZ _ _) ?_;have ne:s.zS≠s.zS+1:=dH<|rP _;refine⟨by rw[aj ne,ao],ba _,ne,d,λ_=>b_,(Heap.Ns1.of_empty g).at λo q=>bE _ q,λ_=>mY,λy i=>eu xz i⟩
def air{w:j_}{env:Env}(b:JS e f env (eval e env)=eval e env)(h:be (bn prog w) A (eval e env) (λo c=>be (bn prog w) A (getAttr o f c_) Q E c) E s):be (bn prog w) A (eval (.Attribute e f pos) env) Q E s:=
 Attribute_any_ h (by rw[arm_eval_Attribute,b])
end
def Hd(K:u_)(c:TE)(f:cr):TE:=λσ H Q=>c σ H λx b=>∃a C dx fs v,x=.ref a/\b a=a_ (.ins C dx fs)/\da K C/\bM K C f/\fs.lookup f=a_ v/\Q v b
def Px(K:u_)(c tv:TE)(f:cr):TS:=λD σ H=>tv σ H λy d=>c σ d λx b=>∃a C dx fs,x=.ref a/\b a=a_ (.ins C dx fs)/\da K C/\bM K C f/\fs.length<1000/\
 D.nx σ (db b a<|.ins C dx<|aJ f y fs)
def Z2(X:Cx)(a:Operator)(rd:V->V->Hp->VK->Prop):Prop:=
 ∀(p_:List (e_×cP))(s:g_)(σ:St)(H:Hp)(x y:V)(u v:f_)(Q:VK),dc X p_ σ H s->df x u->df y v->rd x y H Q->be (bn X.prog X.w) X.A (inplaceOp a u v) (EP X p_ σ Q) X.xe s
def ahd(K:u_)(g tv:TE)(rd:V->V->Hp->VK->Prop)(f:cr):TS:=λD σ H=>g σ H λx c=>∃a C dx fs v,x=.ref a/\c a=a_ (.ins C dx fs)/\da K C/\bM K C f/\fs.lookup f=a_ v/\
 tv σ c λy h=>rd v y h λz d=>∃e b,d a=a_ (.ins C e b)/\b.length<1000/\D.nx σ (db d a<|.ins C e<|aJ f z b)
section
variable{X:Cx}{o e value:bw}{f:cr}{pos pos' Hl:Pos}{ta tv:TE}
def a7(b:PE X e ta)(d:JS e f X.env (eval e X.env)=eval e X.env):PE X (.Attribute e f pos) (Hd X.K ta f):=by
 refine λp_ s σ H Q I h=>air d (aT (b _ s _ H _ I h) λu s1⟨x,g,i,j,a,C,dx,fs,v,ex,k,c,n,l,q⟩=>?_);subst ex;obtain rfl:u=dq a:=j;exact Ut i k c n l λr s2 m p=>⟨v,g,m,p,q⟩
def dP(ha:PE X o ta)(b:PE X value tv)(d:Fb value (a_<|.Attribute o f pos') pos.line X.env=pure d_):PS X (.Assign [.Attribute o f pos'] value pos) (Px X.K ta tv f):=by
 refine λp_ s σ H D I h=>plainObj_wpAny_Assign_Attribute (aT (b _ s _ H _ I h) λu s1⟨y,t,g,i,q⟩=>aT (ha _ _ _ _ _ g q) λov s2⟨x,v,j,k,a,C,dx,fs,ex,m,c,n,l,p⟩=>?_) d;subst ex;obtain rfl:ov=dq a:=k;exact Uk j m c n l i λw r=>⟨σ,_,r,p⟩
def adW{b:Operator}{rd:V->V->Hp->VK->Prop}(ha:PE X o ta)(d:PE X value tv)(g:Z2 X b rd):PS X (.AugAssign (.Attribute o f Hl) b value pos) (ahd X.K ta tv rd f):=by
 refine λp_ s σ H D I h=>wpAny_AugAssign_AttributeAny (aT (ha _ s _ H _ I h) λov s1⟨x,L,i,j,a,C,dx,fs,v,ex,k,c,n,l,q⟩=>?_);subst ex;obtain rfl:ov=dq a:=j;exact Ut i k c n l λu s2 m p=>aT (d _ _ _ _ _ m q) λw3 M⟨y,N,r,t,w⟩=>aT (g _ _ _ _ v y u _ _ r p t w) λw4 O⟨z,P,A,B,Q,R,E,F,G⟩=>Uk A E c n F B λS J=>⟨σ,_,J,G⟩
def anR:V->V->Hp->VK->Prop:=λx y H Q=>∃i j,x=.int i/\y=.int j/\Q (.int<|i+j) H
def ajO:Z2 X .Add anR:=by
 rintro p_ s σ H x y u v Q I a b ⟨i,j,rfl,rfl,q⟩;obtain⟨t,rfl⟩:=a;obtain⟨t',rfl⟩:=b;exact PyProof.Rows.iadd_int ⟨.int<|i+j,H,I.tok _,⟨_,xz⟩,q⟩
end
section
variable{X:Cx}{p_:List (e_×cP)}{σ:St}{H:Hp}{s:g_}{A:h_}{E:f_->g_->Prop}{Q:f_->g_->Prop}{c:f_}{b:Bool}
inductive gE (K:u_) (H:Hp):V->f_->Prop where
 | aR:gE K H .aR (.type "NoneType")
 | bl (x:Bool):gE K H (.bl x) (.type "bool")
 | int (i:Int):gE K H (.int i) (.type "int")
 | str (x:cr):gE K H (.str x) (.type "str")
 | qV (x:UInt64):gE K H (.qV x) (.type "float")
 | lst {a:e_} {xs:List V} (e:H a=a_ (.lst xs)):gE K H (.ref a) (.type "list")
 | jZ {a:e_} {o:cP} {xs:List V} (e:H a=a_ (.jZ o (.lst xs))):gE K H (.ref a) (.type "list")
 | tup {a:e_} {xs:List V} (e:H a=a_ (.tup xs)):gE K H (.ref a) (.type "tuple")
 | dK {a:e_} {fL:List (dL×V)} (e:H a=a_ (.dK fL)):gE K H (.ref a) (.type "dict")
 | dT {a:e_} {fL:List (bD×e_)} (e:H a=a_ (.dT fL)):gE K H (.ref a) (.type "dict")
 | ins {a C dx:e_} {fs:List (cr×V)} (e:H a=a_ (.ins C dx fs)) (cl:da K C) (ha:w_ K (.ref C) "__class__"=a_ (a_ (.builtin "object.__class__")))
   (hn:W.specialIn K (.builtin "object.__class__") "__get__"=a_ (a_<|.builtin "getset_descriptor.__get__")) (Bg:W.takesIn K (.builtin "object.__class__")=a_ c_)
   (hm:A_ K C (.type "object")=a_ c_):gE K H (.ref a) (.ref C)
def aen(I:dc X p_ σ H s)(d:df x u)(ty:gE X.K H x t)(e:v_ X.K t c=a_ b)(h:∀tk,Q (.bool b) {s with toks:=tk}):be (bn X.prog X.w) A (call (.builtin "isinstance") [u,c]) Q E s:=by
 cases ty with
 | aR=>cases d;exact E_ W.kitx_none I.dm mY e (λz=>nomatch z) h
 | bl y=>cases (show u=lE y from d);exact E_ W.kitx_bool I.dm mY e (λz=>nomatch z) h
 | int i=>obtain⟨t,q⟩:=(show ∃t,u=iz i t from d);cases q;exact E_ W.kitx_int I.dm mY e (λz=>nomatch z) h
 | str y=>obtain⟨t,q⟩:=(show ∃t,u=Ll y t from d);cases q;exact E_ W.kitx_str I.dm mY e (λz=>nomatch z) h
 | qV y=>obtain⟨t,q⟩:=(show ∃t,u=Kl y t from d);cases q;exact E_ W.kitx_float I.dm mY e (λz=>nomatch z) h
 | @lst a xs ea=>
  cases (show u=dq a from d);obtain⟨_,_,n,_,h1⟩:=(show fq X.prog X.w H s.heap a (.lst xs) from I.aU a _ ea);exact E_ W.kitx_list I.dm ⟨_,h1,xz⟩ e (λz=>nomatch z) h
 | @jZ a ob xs ea=>
  cases (show u=dq a from d);obtain⟨_,_,_,n,_,h1⟩:=(show fq X.prog X.w H s.heap a (.jZ ob<|.lst xs) from I.aU a _ ea);exact E_ W.kitx_list I.dm ⟨_,h1,xz⟩ e (λz=>nomatch z) h
 | @tup a xs ea=>
  cases (show u=dq a from d);obtain⟨_,_,_,p⟩:=(show fq X.prog X.w H s.heap a (.tup xs) from I.aU a _ ea);obtain⟨o,h1,h2,_⟩:=p;exact E_ W.kitx_tuple I.dm ⟨o,h1,h2⟩ e (λz=>nomatch z) h
 | @dK a fL ea=>
  cases (show u=dq a from d);obtain⟨_,_,vs,_,p⟩:=(show fq X.prog X.w H s.heap a (.dK fL) from I.aU a _ ea);obtain⟨o,es,f,h1,h2,_⟩:=p;exact E_ W.kitx_dict I.dm ⟨o,h1,h2.1⟩ e (λz=>nomatch z) h
 | @dT a fL ea=>
  cases (show u=dq a from d);obtain⟨_,_,o,es,f,h1,h2,_⟩:=(show fq X.prog X.w H s.heap a (.dT fL) from I.aU a _ ea);exact E_ W.kitx_dict I.dm ⟨o,h1,h2.1⟩ e (λz=>nomatch z) h
 | @ins a C dx fs ea cl ha hn Bg hm=>
  cases (show u=dq a from d);obtain⟨mA,O,_⟩:=Cu I.aU ea;obtain⟨od,J,_⟩:=O.look;exact E_ (W.kitx_own (cl.get _) cl.hd ha hn Bg hm) I.dm J e (λz=>nomatch z) h
end
structure fJ(k:Nat)(A:h_):Prop where
 hd:A.handled=b_
 dp:A.depth+3*k+5<EK
 un:A.units+16*k+200<cLine
def fJ.mono{j k:Nat}(r:fJ k A)(h:j<=k):fJ j A:=⟨r.hd,by have:=r.dp;omega,by have:=r.un;omega⟩
def fJ.deeper{k:Nat}(r:fJ (k+1) A)(env:Env):fJ k (A.deeper env):=
 ⟨r.hd,by have:=r.dp;show A.depth+1+3*k+5<_;omega,by have:=r.un;show A.units+3+16*k+200<_;omega⟩
def adk{A:h_}{C:e_}{us:List f_}{a:List (cr×f_)}:(A.under<|.builtin "type.__call__" ⟨.ref C::us,a⟩).depth=A.depth+1:=by
 first | rfl | simp[T5,Code.weight,Code.isCreation,Code.isGuard,Code.isCaller,Code.frames,Code.isFrame,guardIds]
def adj{A:h_}{C:e_}{us:List f_}{a:List (cr×f_)}:(A.under<|.builtin "type.__call__" ⟨.ref C::us,a⟩).units=A.units+1:=by
 first | rfl | simp[T5,Code.cUnits,Code.frames,Code.isFrame]
def fJ.make{k:Nat}(r:fJ (k+1) A)(C:e_)(us:List f_)(a:List (cr×f_)):fJ k (A.under<|.builtin "type.__call__" ⟨.ref C::us,a⟩):=
 ⟨r.hd,by have:=r.dp;rw[adk];omega,by have:=r.un;rw[adj];omega⟩
def fJ.depth{k:Nat}(r:fJ k A):A.depth<EK:=by have:=r.dp;omega
abbrev Hc:TA:=λ_ H Q=>Q [] H
abbrev YE(ta:TE)(tr:TA):TA:=λσ H Q=>ta σ H λx H1=>tr σ H1 λxs H2=>Q (x::xs) H2
section
variable{X:Cx}{e:bw}{es:List bw}{te:TE}{t:TA}{pos:Pos}
def af:PA X [] Hc:=λ_ _ _ _ H Q I h=>Calls.spliced_nil ⟨[],H,I,.nil,h⟩
def aa(ha:PE X e te)(a:PA X es t)(b:autoParam (cA (e::es) X.env=(d_,eval e X.env)::cA es X.env) a8):PA X (e::es) (YE te t):=by
 intro pos p_ s σ H Q I h;rw[b];exact Calls.spliced_cons (aT (ha _ s _ H _ I h) λu s1⟨x,k,c,d,f⟩=>aT (a _ _ _ _ _ _ c f) λus s2⟨xs,g,i,r2,j⟩=>⟨x::xs,g,i,.cons d r2,j⟩)
def anr(t:TA):TE:=λσ H Q=>t σ H λxs a=>xs.length<=bZ/\∀p,a p=b_->Q (.ref p) (db a p<|.tup xs)
def anx(t:TA):TE:=λσ H Q=>t σ H λxs a=>xs.length<=bZ/\∀p,a p=b_->Q (.ref p) (db a p<|.lst xs)
def fj{x1}(h:PA X es t):PE X (.Tuple es x1 pos) (anr t):=by
 refine λp_ s σ H Q I c=>wpAny_Tuple_spliced (aT (h _ _ s _ H _ I c) λus s1⟨xs,d,a,r,z,q⟩=>⟨by rw[<-r.length];exact z,?_⟩);refine⟨.ref _,db _ _<|.tup _,a.laid (λb u e=>bE _ e) (az _) ?_,xz,q _<|a.aU.fresh<|az _⟩;exact⟨z,us,r,⟨_,eO _ xz,xz,_,xz⟩⟩
def eC(h:PA X es t):PE X (.List es pos) (anx t):=by
 refine λp_ s σ H Q I c=>wpAny_List_spliced (aT (h _ _ s _ H _ I c) λus s1⟨xs,d,a,r,z,q⟩=>⟨by rw[<-r.length];exact z,?_⟩);refine⟨.ref _,db _ _<|.lst _,a.laid (λb u e=>bE _ e) (az _) ?_,xz,q _<|a.aU.fresh<|az _⟩;exact⟨z,us,0,r,eO _ xz⟩
end
abbrev Sp:=List V->Hp->VK->XK->Prop
abbrev p6:=List Env->Hp->g_->XK->f_->g_->Prop
structure yv(P:k_)(w:j_)(K:u_)(mg:cr->Option f_)(base:i_)(A:h_)(outer:List Env)(s:g_)(H:Hp):Prop where
 frames:A.frames=a_ outer
 mod:Mod K mg base
 bs:∀b o,base.get? b=a_ o->s.heap.get? b=a_ o/\H b=b_
 nK:base.zH<=s.zS
 nG:s.heap.FunFrames base outer
 uX:∀b∈qU outer,H b=b_
 aU:iD P w H s.heap
 bare:AllBare s.gens
def CE(outer:List Env)(P:k_)(w:j_)(H:Hp)(s:g_)(Q:VK)(u:f_)(s':g_):Prop:=
 ∃v H',s'.os=s.os/\AllBare s'.gens/\Un (qU outer) [] H H' s.heap s'.heap/\iD P w H' s'.heap/\df v u/\Q v H'
def CR(CX:p6)(outer:List Env)(P:k_)(w:j_)(H:Hp)(s:g_)(Q:VK)(E:XK)(r:Result)(s':g_):Prop:=
 match r with
 | .ok (.ret u)=>CE outer P w H s Q u s'
 | .ok _=>False
 | .error e=>CX outer H s E e s'
structure aF(P:k_)(w:j_)(K:u_)(mg:cr->Option f_)(base:i_)(CX:p6)(k:Nat)(f:e_)(fd:jO)(ps:List cr)(sp:Sp):Prop where
 len:∀vs H Q E,sp vs H Q E->vs.length=ps.length
 run:∀(A:h_)(outer:List Env)(s:g_)(H:Hp)(args:Args)(us:List f_)(vs:List V)(Q:VK)(E:XK),fJ k A->yv P w K mg base A outer s H->BindsTo s fd args (ps.zip us)->di vs us->sp vs H Q E->
  codeAny (bn P w) A (.call (.ref f) args) (CR CX outer P w H s Q E) s
def yv.make{P:k_}{w:j_}{K:u_}{mg:cr->Option f_}{gl:i_}{outer:List Env}(e:yv P w K mg gl A outer s H)(C:e_)(us:List f_)(a:List (cr×f_)):yv P w K mg gl (A.under<|.builtin "type.__call__" ⟨.ref C::us,a⟩) outer s H:=⟨by first | exact e.frames | (simpa[T5,Code.envs,Code.isFrame,pushEnvs]using e.frames),e.mod,e.bs,e.nK,e.nG,e.uX,e.aU,e.bare⟩
section
variable{X:Cx}{p_:List (e_×cP)}{σ:St}{H:Hp}{s s':g_}
def dc.ZW(I:dc X p_ σ H s):yv X.prog X.w X.K X.mg X.base X.A X.stack s H:=
 ⟨I.ok.frames,I.ok.mod,I.bs,dC I.ok.nK I.sz,I.stack,I.Mr,I.aU,I.bare⟩
def dc.after(I:dc X p_ σ H s)(h:CE X.stack X.prog X.w H s Q u s'):EP X p_ σ Q u s':=by
 obtain⟨v,H',os,bare,un,aU,r,q⟩:=h;obtain⟨c,g,d,t,a⟩:=s';obtain rfl:a=s.os:=os;exact⟨v,H',I.call un aU bare λb z=>eu z (by simp),r,q⟩
end
abbrev Oc(sp:Sp)(dvs:List V)(E:XK)(t:TA):TE:=λσ H Q=>t σ H λvs H1=>sp (vs++dvs) H1 Q E
def CL(C:e_)(m:cr)(sp:Sp)(c:List V)(E:XK)(d:TE)(t:TA):TE:=λσ H Q=>d σ H λx b=>∃a dx fs,x=.ref a/\b a=a_ (.ins C dx fs)/\fs.lookup m=b_/\
 t σ b λvs e=>sp (x::(vs++c)) e Q E
def akZ(C:e_)(sp:Sp)(b:List V)(E:XK)(t:TA):TE:=λσ H Q=>t σ H λvs a=>∀x dx,a x=b_->a dx=b_->dx≠x->
 sp (.ref x::(vs++b)) (db (db a dx<|.own x) x<|.ins C dx []) (λv c=>v=.aR/\Q (.ref x) c) E
def dn(K:u_)(fd:jO)(ps:List cr)(ds:List f_):Prop:=
 ∀(s:g_)(us:List f_),K.In s.heap->(us++ds).length=ps.length->BindsTo s fd ⟨us,[]⟩ (ps.zip<|us++ds)
def dn.all{K:u_}(h:∀us:List f_,us.length=ps.length->ue fd ⟨us,[]⟩=pure (ps.zip us)):dn K fd ps []:=λs us _ a=>by
 rw[qj]at a ⊢;exact .of_eq<|h _ a
def Passes(CX:p6)(X:Cx)(E:XK):Prop:=∀(p_:List (e_×cP))(σ:St)(H:Hp)(s:g_)(e:f_)(s':g_),dc X p_ σ H s->CX X.stack H s E e s'->X.xe e s'
section
variable{X:Cx}{CX:p6}{k:Nat}{f C:e_}{fd:jO}{ps:List cr}{sp:Sp}{dvs:List V}{ds:List f_}{E:XK}{x m:cr}{p pos apos:Pos}{e o:bw}{es:List bw}{ta:TE}{t:TA}
def Aq(F:aF X.prog X.w X.K X.mg X.base CX k f fd ps sp)(b:fJ k X.A)(c:dn X.K fd ps ds)(hd:di dvs ds)(d:Passes CX X E)(I:dc X p_ σ H s)(r:di vs us)(h:sp (vs++dvs) H Q E):be (bn X.prog X.w) X.A (call (.ref f) us) (EP X p_ σ Q) X.xe s:=by
 have r2:=r.append hd;have g:(us++ds).length=ps.length:=by rw[<-r2.length];exact F.len _ _ _ _ h
 refine Ku (BE (F.run _ _ s H ⟨us,[]⟩ _ _ Q E b I.ZW (c s _ I.dm g) r2 h) λr s' a=>?_);rcases r with e|i;exact d _ _ H s e _ I a
 cases i with
 | ret u=>exact I.after a
 | next=>exact nY a
 | brk=>exact nY a
 | cont=>exact nY a
def pB(F:aF X.prog X.w X.K X.mg X.base CX k f fd ps sp)(b:fJ k X.A)(c:Gl X x)(hm:X.mg x=a_ (.ref f))(d:x_ X.K (.ref f)=c_)(g:dn X.K fd ps ds)(hd:di dvs ds)(i:Passes CX X E)
  (ha:PA X (e::es) t) (j:autoParam ((x==("__debug__":cr))=false) ad) (l:autoParam (cA (e::es) X.env=(d_,eval e X.env)::cA es X.env) a8) (n:autoParam ((bx pos<|cA es X.env).any (·.1)=false) a8) :
  PE X (.Call (.Name x p) (e::es) [] pos) (Oc sp dvs E t):=by
 refine λp_ s σ H Q I h=>Ez<|FN I c hm ?_ j;exact G_ I.ok.mod.yD d (aT (ha _ _ s _ H _ I h) λus s1⟨vs,u,a,r,q⟩=>⟨a.dm,Aq F b g hd i a r q⟩) l n
def FK{pl:Sem Bool}(g:PE X o ta)(c:da X.K C)(hm:Meth X.K C m f)(F:aF X.prog X.w X.K X.mg X.base CX k f fd ps sp)(i:fJ k X.A)(j:dn X.K fd ps ds)(hd:di dvs ds)(n:Passes CX X E)(ha:PA X (e::es) t)
  (v:autoParam (cA (e::es) X.env=(d_,eval e X.env)::cA es X.env) a8) (y:autoParam ((bx pos<|cA es X.env).any (·.1)=false) a8)
  (z:autoParam (eval (.Call (.Attribute o m apos) (e::es) [] pos) X.env=(do
   let ov <-eval o X.env
   standAt apos.atName
   let (f,first) <-holding [ov] (vH ov m pl)
   Ah pos f first (bx pos<|cA (e::es) X.env) (xP pos<|xG [] X.env))) a8) :
  PE X (.Call (.Attribute o m apos) (e::es) [] pos) (CL C m sp dvs E ta t):=by
 refine λp_ s σ H Q I h=>W.methodCall_KW (aT (g _ s _ H _ I h) λu s1⟨x,J,b,B,a,dx,fs,ex,D,l,q⟩=>?_) z;subst ex;obtain rfl:u=dq a:=B;refine EV b D c hm l ?_;exact G_ I.ok.mod.yD hm.kp (aT (ha _ _ _ _ _ _ b q) λus s2⟨vs,L,d,r,G⟩=>⟨d.dm,Aq (vs:=.ref a::vs) F i j hd n d (.cons xz r) G⟩) v y
def Fj{pl:Sem Bool}(d:PE X o ta)(c:da X.K C)(hm:Meth X.K C m f)(F:aF X.prog X.w X.K X.mg X.base CX k f fd ps sp)(g:fJ k X.A)(i:dn X.K fd ps ds)(hd:di dvs ds)(j:Passes CX X E)
  (n:autoParam (eval (.Call (.Attribute o m apos) [] [] pos) X.env=(do
   let ov <-eval o X.env
   standAt apos.atName
   let (f,first) <-holding [ov] (vH ov m pl)
   Ah pos f first (bx pos<|cA [] X.env) (xP pos<|xG [] X.env))) a8) :
  PE X (.Call (.Attribute o m apos) [] [] pos) (CL C m sp dvs E ta Hc):=by
 refine λp_ s σ H Q I h=>W.methodCall_KW (aT (d _ s _ H _ I h) λu s1⟨x,y,b,r,a,dx,fs,ex,v,l,q⟩=>?_) n;subst ex;obtain rfl:u=dq a:=r;exact EV b v c hm l<|W.callWith_K0 b.dm hm.kp<|Aq (vs:=[.ref a]) F g i hd j b (.cons xz .nil) q
structure Mk(K:u_)(C f:e_):Prop where
 makes:W.makesIn K C=c_
 init:w_ K (.ref C) "__init__"=a_ (a_<|.ref f)
 fn:W.isFn K (.ref f)=c_
 kp:x_ K (.ref C)=c_
def ae9(M:Mk X.K C f)(F:aF X.prog X.w X.K X.mg X.base CX k f fd ps sp)(d:fJ (k+1) X.A)(g:dn X.K fd ps ds)(hd:di dvs ds)(i:Passes CX X E)(I:dc X p_ σ H s)(r:di vs us)(h:∀x dx,H x=b_->H dx=b_->dx≠x->sp (.ref x::(vs++dvs)) (db (db H dx<|.own x) x<|.ins C dx []) (λv j=>v=.aR/\Q (.ref x) j) E):be (bn X.prog X.w) X.A (call (.ref C) us) (EP X p_ σ Q) X.xe s:=by
 have c:=h _ _ (I.aU.fresh<|kr _) (I.aU.fresh<|az _)<|dH<|rP _;have b:=dc.made (C:=C) I;have r2:di (V.ref (s.zS+1)::(vs++dvs)) _:=.cons xz<|r.append hd
 have l:(dq (s.zS+1)::us++ds).length=ps.length:=by
  have e:=r2.length;rw[F.len _ _ _ _ c]at e;exact e.g8
 refine Ku<|afV I.dm M.makes M.init (fC.mp M.fn) (BE (F.run _ _ _ _ ⟨dq (s.zS+1)::us,[]⟩ _ _ _ E (d.make C _ []) (b.ZW.make C _ []) (g _ _ b.dm l) r2 c) λr s' a=>?_);rcases r with e|n;exact i _ _ _ _ e _ b a
 cases n with
 | ret u=>
  obtain⟨v,H',q,y,z,B⟩:=b.after a;subst z;exact⟨y,⟨V.ref<|s.zS+1,H',q,xz,B⟩⟩
 | next=>exact nY a
 | brk=>exact nY a
 | cont=>exact nY a
def pA(M:Mk X.K C f)(F:aF X.prog X.w X.K X.mg X.base CX k f fd ps sp)(b:fJ (k+1) X.A)(c:Gl X x)(hm:X.mg x=a_ (.ref C))(d:dn X.K fd ps ds)(hd:di dvs ds)(g:Passes CX X E)
  (ha:PA X (e::es) t) (i:autoParam ((x==("__debug__":cr))=false) ad) (j:autoParam (cA (e::es) X.env=(d_,eval e X.env)::cA es X.env) a8) (l:autoParam ((bx pos<|cA es X.env).any (·.1)=false) a8) :
  PE X (.Call (.Name x p) (e::es) [] pos) (akZ C sp dvs E t):=by
 refine λp_ s σ H Q I h=>Ez<|FN I c hm ?_ i;exact G_ I.ok.mod.yD M.kp (aT (ha _ _ s _ H _ I h) λus s1⟨vs,n,a,r,q⟩=>⟨a.dm,ae9 M F b d hd g a r q⟩) j l
end
structure aV(N P:List cr)(sc:d5):Prop where
 kind:sc.kind=.function
 co:sc.isCoroutine=d_
 gen:sc.isGenerator=d_
 nd:N.Nodup
 pre:N.take P.length=P
 par:∀x∈P,sc.names.lookup x=a_ .local\/sc.names.lookup x=a_ .cell
 ajq:∀y∈sc.names,y.2≠.free
def aZ{N P:List cr}{sc:d5}(a:autoParam (sc.kind=.function) a8)(b:autoParam (sc.isCoroutine=false) a8)(c:autoParam (sc.isGenerator=false) a8)(d:N.Nodup:=by decide +kernel)(e:autoParam (N.take P.length=P) a8)(f:∀x∈P,sc.names.lookup x=a_ .local\/ sc.names.lookup x=a_ .cell:=by decide +kernel)(g:∀y∈sc.names,y.2≠.free:=by decide +kernel):aV N P sc:=⟨a,b,c,d,e,f,g⟩
theorem Vp{kindOf:cr->Option gV}:∀{binds:List (cr×f_)}{m:cr->Option f_},(∀v,(x,v)∉binds)->bindL kindOf binds m x=m x
 | [],_,_=>rfl
 | (n,v)::r,m,h=>by
  unfold bindL;rw[Vp λw hw=>h w<|cx _ hw]
  split
  .have:x≠n:=by rintro rfl;exact h v b9
   simp[this]
  rfl
theorem Vr{kindOf:cr->Option gV}:∀{binds:List (cr×f_)}{m:cr->Option f_},(∀v,(x,v)∉binds)->bindC kindOf binds m x=m x
 | [],_,_=>rfl
 | (n,v)::r,m,h=>by
  unfold bindC;rw[Vr λw hw=>h w<|cx _ hw]
  split
  .rfl
  .have:x≠n:=by rintro rfl;exact h v b9
   simp[this]
theorem Vq{kindOf:cr->Option gV}:∀{P:List cr}{vs:List f_}{i:Nat}{m:cr->Option f_},P.Nodup->P[i]?=a_ x->vs[i]?=a_ v->kindOf x=a_ .local->bindL kindOf (P.zip vs) m x=a_ v
 | [],_,_,_,_,h,_,_=>by simp at h
 | _::_,[],_,_,_,_,h,_=>by simp at h
 | p::P,w::vs,0,m,nd,h1,h2,hk=>by
  simp at h1 h2;subst h1;subst h2;show bindL kindOf ((p,w)::P.zip vs) m p=_;unfold bindL;rw[Vp λv a=>(zJ.mp nd).1 (EI a).1,ei hk];simp
 | p::P,w::vs,i+1,m,nd,h1,h2,hk=>by
  unfold bindL;exact Vq (i:=i) (zJ.mp nd).2 (by simpa using h1) (by simpa using h2) hk
theorem Vs{kindOf:cr->Option gV}:∀{P:List cr}{vs:List f_}{i:Nat}{m:cr->Option f_},P.Nodup->P[i]?=a_ x->vs[i]?=a_ v->kindOf x≠a_ .local->bindC kindOf (P.zip vs) m x=a_ v
 | [],_,_,_,_,h,_,_=>by simp at h
 | _::_,[],_,_,_,_,h,_=>by simp at h
 | p::P,w::vs,0,m,nd,h1,h2,hk=>by
  simp at h1 h2;subst h1;subst h2;show bindC kindOf ((p,w)::P.zip vs) m p=_;unfold bindC;rw[Vr λv a=>(zJ.mp nd).1 (EI a).1,ee hk];simp
 | p::P,w::vs,i+1,m,nd,h1,h2,hk=>by
  unfold bindC;exact Vs (i:=i) (zJ.mp nd).2 (by simpa using h1) (by simpa using h2) hk
noncomputable def start(N:List cr)(vs:List V):St:=vs.map a_++cQ (N.length-vs.length) b_
def oG(CX:p6)(P:k_)(w:j_)(K:u_)(mg:cr->Option f_)(base:i_)(N:List cr)(qual:cr)(scope:d5)(f:e_)(cd:f_)(A:h_)(outer:List Env)(s:g_)(H:Hp)(E:XK):Cx where
 prog:=P
 w:=w
 K:=K
 mg:=mg
 base:=base
 A:=A.deeper<|d8 qual scope s.zS f cd
 N:=N
 s₀:=s
 H₀:=H
 env:=d8 qual scope s.zS f cd
 outer:=outer
 stack:=d8 qual scope s.zS f cd::outer
 ex:=[]
 calm:=c_
 fn:=λ_=>c_
 pn:=[]
 xe:=λe s'=>be (bn P w) (A.deeper<|d8 qual scope s.zS f cd) (leaving (d8 qual scope s.zS f cd) e) (λ_ a=>CX outer H s E e a) (λe' a=>CX outer H s E e' a) s'
def Wn{sc:d5}{n:Nat}(h:sc.names.lookup x=a_ .cell):∃c,(cellsFrom n sc.names []).lookup x=a_ c:=by
 exact Option.isSome_iff_exists.mp<|W.cellsFrom_some _ n [] (.inl h)
def aeo{CX:p6}{P:k_}{w:j_}{K:u_}{mg:cr->Option f_}{gl:i_}{scope:d5}{outer:List Env}(S:aV N ps scope)(hd:A.handled=b_)(d:yv P w K mg gl A outer s H)(B:vs.length=ps.length)(r:di vs us)(x:InCallC s s.zS (bindL (d8 qual scope s.zS f cd).kindOf (ps.zip us) λ_=>b_) (cellsFrom (s.zS+1) scope.names []) (bindC (d8 qual scope s.zS f cd).kindOf (ps.zip us) λ_=>b_) s1):dc (oG CX P w K mg gl N qual scope f cd A outer s H E) [] (start N vs) H s1:=by
 have C:ps.length<=N.length:=by have:=fF kM S.pre;rw[eZ]at this;omega
 obtain⟨h1,tk,rfl,m⟩:=x.done;have l:∀b:e_,b∉(oG CX P w K mg gl N qual scope f cd A outer s H E).ex:=λb z=>eu (show b∈([]:List _) from z) (by simp);refine⟨⟨d.mod,S.kind,xz,xz,az _,λy z c h1 h2=>?_,λy g=>?_,λy c _ h=>?_,λ_=>hd,aa9 d.frames,.inr ⟨xz,xz⟩,λb z=>eu z<|l b,d.bs,d.nK,λb _ _=>l b,λb z=>eu z<|l b,d.nG,d.uX⟩,xz,d.bare,Un.kept m,⟨_,x.toInCall.ns,λi y v h1 h2 h3=>?_⟩,λy c h=>⟨_,x.cell y c h⟩,d.aU.fresh<|az _,λy c h=>?_,λp j=>eu (show p∈([]:List (e_×cP)) from j) (by simp),d.aU.kept m,?_⟩
 .exact name_of_addr x.apart (t_ h1) (t_ h2)
 .have g:=g;obtain g|g:=g
  .exact Wn g
  exact eu xz (S.ajq _<|t_ g)
 .exact cg (x.above y c<|t_ h)
 .have hi:i<vs.length:=by
   unfold start at h2
   by_cases hi:i<vs.length
   .exact hi
   rw[Jk (by simpa using hi)]at h2;rw[SD]at h2
   split at h2 <;> cases h2
  have ha:vs[i]?=a_ v:=by
   unfold start at h2;rw[Bv (by simpa using hi),cc]at h2;rcases e:vs[i]? with _|a
   ·rw[e]at h2;cases h2
   rw[e]at h2;cases h2;rfl
  obtain⟨u,n,t⟩:=r.get ha
  have j:ps[i]?=a_ y:=by
   rw[<-S.pre,List.getElem?_take_of_lt om];exact h1
  have o:ps.Nodup:=by rw[<-S.pre];exact S.nd.sublist<|abv _ _
  refine⟨u,t,?_⟩;rcases S.par y (aW j)with k | k
  .exact .inl ⟨k,Vq o j n k⟩
  obtain⟨c,e⟩:=Wn k;refine .inr ⟨.inl k,c,e,?_⟩;have q:=x.cell y c e;rw[Vs o j n (by show scope.names.lookup y≠_;rw[k];decide)]at q;exact q
 .exact d.aU.fresh (cg<|x.above y c<|t_ h)
 unfold start;show _=N.length;rw[dG,aA,tV];omega
def yh{CX:p6}{P:k_}{w:j_}{K:u_}{mg:cr->Option f_}{gl:i_}{k:Nat}{j:Arguments}{g:List bv}{scope:d5}{an od:Option e_}{jc:Array (Option f_)}{sp:Sp}(lk:K.lookup f=a_ ⟨oc,od,.func<|B_ name qual j g scope dV kV doc pm an aH ct,jc⟩)(z:W.codeIn K aH qual=c_)(S:aV N ps scope)(len:∀vs H Q E,sp vs H Q E->vs.length=ps.length)(B:∀(A:h_)(outer:List Env)(s:g_)(H:Hp)(vs:List V)(Q:VK)(E:XK),fJ k (A.deeper<|d8 qual scope s.zS f aH)->sp vs H Q E->∃t,fu (oG CX P w K mg gl N qual scope f aH A outer s H E) g t/\t {nx:=λ_ H'=>Q .aR H',rt:=Q} (start N vs) H):aF P w K mg gl CX (k+1) f (B_ name qual j g scope dV kV doc pm an aH ct) ps sp:=by
 refine⟨len,λA outer s H args us vs Q E h c C r l=>?_⟩;have m:=c.mod.yD.keeps λb o e=>(c.bs b o e).1;have D:=c.mod.nolimit.keeps λb o e=>(c.bs b o e).1
 have F:∀y∈ps.zip us,scope.names.lookup y.1=a_ .local\/(scope.names.lookup y.1=a_ .cell/\((cellsFrom (s.zS+1) scope.names []).lookup y.1).isSome=c_):=λ⟨n,v⟩G=>by
  obtain q|q:=S.par n (EI G).1
  .exact .inl q
  exact .inr ⟨q,W.cellsFrom_some _ _ _<|.inl q⟩
 refine codeAny_call_function h.depth (m _ _ lk) xz S.co S.gen xz (W.codeRec_of m z)<|C _ _ _ _ ?_;refine wpAny_newFunctionEnv_cells S.kind F λenv L s1 x=>?_;subst L;refine⟨D.keeps x.toInCall.keep,codeAny_func ?_⟩;obtain⟨t,M,O⟩:=B A outer s H vs Q E (h.deeper _) l;have I:dc (oG CX P w K _ _ N _ _ f _ A _ s H E) [] (start N _) H s1:=aeo S h.hd c (len _ _ _ _ l) r x;refine kP (M [] s1 _ H _ I O) (λR s' a=>?_) λe s' a=>a
 have p:∀{d:St}{H':Hp}{v:V}{u:f_},dc (oG CX P w K mg gl N qual scope f aH A outer s H E) [] d H' s'->df v u->Q v H'->CE outer P w H s Q u s':=
  λ{d H' v u}J i q=>⟨v,H',J.os,J.bare,J.base,J.aU,i,q⟩
 cases R with
 | ret u=>
  obtain⟨v,d,H',J,i,q⟩:=a;exact p J i q
 | next=>
  obtain⟨d,H',J,q⟩:=a;exact p (v:=V.aR) J xz q
 | brk=>
  obtain⟨_,_,_,q⟩:=a;exact nY q
 | cont=>
  obtain⟨_,_,_,q⟩:=a;exact nY q
section
variable{X:Cx}{x:cr}{p pos:Pos}{e:bw}{es:List bw}{t:TA}{id T:String}{r:List V->Hp->VK->Prop}
def Qn(r:List V->Hp->VK->Prop)(t:TA):TE:=λσ H Q=>t σ H λvs a=>r vs a Q
def bu(a:i7 X (.builtin id) r)(b:Gl X x)(hm:X.mg x=b_)(c:rW x=a_ (.builtin id))(ha:PA X (e::es) t)(hn:autoParam (x ≠ "__name__") ad)(d:autoParam ((x==("__debug__":cr))=false) ad)
  (f:autoParam (cA (e::es) X.env=(d_,eval e X.env)::cA es X.env) a8) (g:autoParam ((bx pos<|cA es X.env).any (·.1)=false) a8):PE X (.Call (.Name x p) (e::es) [] pos) (Qn r t):=by
 intro p_ s σ H Q I h;exact Ez<|vV I b hm c (PyProof.Rows.callWith_builtin1 (aT (ha _ _ s _ H _ I h) λus s1⟨vs,l,i,j,k⟩=>a _ _ _ _ _ _ Q i j k) f g) hn d
def fw(a:i7 X (.type T) r)(b:Gl X x)(hm:X.mg x=b_)(c:rW x=a_ (.type T))(ha:PA X (e::es) t)(hn:autoParam (x ≠ "__name__") ad)(d:autoParam ((x==("__debug__":cr))=false) ad)
  (f:autoParam (cA (e::es) X.env=(d_,eval e X.env)::cA es X.env) a8) (g:autoParam ((bx pos<|cA es X.env).any (·.1)=false) a8):PE X (.Call (.Name x p) (e::es) [] pos) (Qn r t):=by
 intro p_ s σ H Q I h;exact Ez<|vV I b hm c (Eu (aT (ha _ _ s _ H _ I h) λus s1⟨vs,l,i,j,k⟩=>a _ _ _ _ _ _ Q i j k) f g) hn d
end
end L2
namespace HT
section
variable{prog:k_}{w:j_}{A:h_}{E:f_->g_->Prop}{s:g_}
noncomputable def cq(n d:Nat):Option Int->Nat
 | none=>d
 | some v=>if v<0 then (v+(n:Int)).toNat else min v.toNat n
def ae8(n d:Nat):cq n d b_=d:=rfl
def ahc(n d k:Nat):cq n d (a_ (k:Int))=min k n:=by
 show (if k<0 then (k+(n:Int)).toNat else min (k:Int).toNat n)=min k n;rw[ee om,eP]
def ai0(n d:Nat)(hd:d<=n)(o:Option Int):cq n d o<=n:=by
 rcases o with _|v;exact hd
 show (if v<0 then (v+n).toNat else min _ n)<=n
 by_cases a:v<0
 .rw[ei a];omega
 rw[ee a];exact Nat.min_le_right _ _
def Xh(v:Int)(n d:Nat):(if v<0 then max (v+(n:Int)) 0 else min v (n:Int))=((cq n d (a_ v):Nat):Int):=by
 show (if v<0 then max _ 0 else min v _)=(((if v<0 then (v+n).toNat else min _ n):Nat):Int)
 by_cases a:v<0
 .simp only[ei a];omega
 simp only[ee a];omega
def adx(lo hi:Option Int)(n:Nat):Sy lo hi 1 (n:Int)=(((cq n 0 lo:Nat):Int),((cq n n hi:Nat):Int)):=by
 have h1:¬(1<0):=om;unfold Sy;refine Prod.ext ?_ ?_
 .rcases lo with _|v;rfl;exact Xh v n 0
 rcases hi with _|v;rfl;exact Xh v n n
def acY(i j:Nat):Jl (i:Int) (j:Int) 1=j-i:=by
 unfold Jl;have h1:1 > 0:=om;simp only[h1,if_true,Int.ediv_one]
 split <;> omega
def Uj{o:Option Int}{Q:Option Int->g_->Prop}(p:IsPart v o)(h:Q o s):be (bn prog w) A (Builtin.Slice.slicePartIndex v) Q E s:=by
 rcases p with _|⟨i,t⟩;exact slicePart_none h;exact slicePart_int h
def abz{sl:e_}{lo hi:Option Int}{n:Nat}{Q:Int×Int×Nat->g_->Prop}(c:s.heap.IsSliceOf sl vl vu .none)(pl:IsPart vl lo)(d:IsPart vu hi)(h:Q (((cq n 0 lo:Nat):Int),1,cq n n hi-cq n 0 lo) s):be (bn prog w) A (aaJ (.ref sl)<|pure (n:Int)) Q E s:=by
 obtain⟨os,a,e,b⟩:=id c;refine ah<|ah<|mf a b xz<|ah<|mf a b xz<|ah<|mf a b xz<|aO<|ah<|slicePart_none ?_;rw[ee qc];refine ah<|Uj pl<|ah<|Uj d<|ah<|aO ?_;show be _ _ (match Sy lo hi 1 (n:Int)with | (lo,hi)=>pure (lo,(1:Int),Jl lo hi 1)) _ _ s;rw[adx _ _ n];show be _ _ (pure (((cq n 0 lo:Nat):Int),(1:Int),Jl ((cq n 0 lo:Nat):Int) ((cq n n hi:Nat):Int) 1)) _ _ s;rw[acY];exact aO h
def afg(xs:Array f_)(i k:Nat):((List.range k).filterMap λ(m:Nat)=>xs[((i:Int)+(m:Int)*1).toNat]?).toArray=((xs.toList.drop i).take k).toArray:=by
 have e:(λ(m:Nat)=>xs[((i:Int)+(m:Int)*1).toNat]?)=λm=>xs[i+m]?:=by
  funext m
  have:(i+(m:Int)*1).toNat=i+m:=om;rw[this]
 rw[e];have:=pick_run xs i k;rw[List.filterMap_map]at this;have a:((λx=>xs[x]?) ∘ λx=>i+x)=λm=>xs[i+m]?:=rfl;rw[a]at this;rw[this]
def abm{t sl:e_}{items:Array f_}{lo hi:Option Int}(a:IsTup s.heap t items)(c:s.heap.IsSliceOf sl vl vu .none)(pl:IsPart vl lo)(d:IsPart vu hi)(hw:¬(cq items.size 0 lo=0/\cq items.size items.size hi=items.size))(h:Q (.ref s.zS) {s with heap:=s.heap.push {cls:=.type "tuple",data:=.seq ((items.toList.drop<|cq items.size 0 lo).take<|cq items.size items.size hi-cq items.size 0 lo).toArray}})(j:items.size<=bZ):be (bn prog w) A (getItem (.ref t)<|.ref sl) Q E s:=by
 have b:sizeOk (.seq ((items.toList.drop<|cq items.size 0 lo).take<|cq items.size items.size hi-cq items.size 0 lo).toArray):=by
  show ((items.toList.drop<|cq _ 0 _).take<|cq _ _ _-cq _ 0 _).toArray.size<=bZ;rw[dA,eZ,Tc,ko];omega
 have k:cq _ _ _<=items.size:=ai0 _ _ (az _) hi;obtain⟨os,e,f,l⟩:=id c;have g:s.TypeIs (.ref _) "slice":=⟨os,e,f⟩;unfold getItem
 try with_reducible refine mQ ?_
 first | refine ah (aO ?_) | skip
 refine ah<|wpAny_sequenceKey a.typeIs qc (ah<|xq a.typeIs Sv<|rO Sv a.typeIs entry_tuple_getitem ?_<|args_tuple_getitem _ _);show be _ _ (Builtin.Tuple.tupleItemsOf (.ref t) >>= _) _ _ s;refine ah<|tupleItemsOf_ a (ah<|J' g ?_);rw[ei qc];refine ah<|abz c pl d ?_
 have i:¬((((cq items.size 0 lo:Nat):Int)==0&&(1:Int)==1&&(cq items.size items.size hi-cq items.size 0 lo)==items.size)=c_):=by
  intro q;rw[jy,jy]at q;have n:=eq_of_beq q.1.1;have o:=eq_of_beq q.2;exact hw ⟨om,om⟩
 show be _ _ (if (((cq items.size 0 lo:Nat):Int)==0&&(1:Int)==1&&(cq items.size items.size hi-cq items.size 0 lo)==items.size)=c_ then _ else _) _ _ s;rw[ee i,afg]
 first
  | exact ah (m:=Jm _) (rK (aO ⟨_,rfl,aO h⟩) b)
  | exact ah (m:=Jm _) (rK (ah (aO (aO ⟨_,rfl,aO h⟩))) b)
  | exact ah (ah (m:=Jm _) (rK (aO (aO ⟨_,rfl,aO h⟩)) b))
  | exact ah (ah (m:=Jm _) (rK (aO ⟨_,rfl,aO h⟩) b))
end
end HT
namespace L2
abbrev TO:=St->Hp->(Option Int->Hp->Prop)->Prop
def PO(X:Cx)(e:Option bw)(t:TO):Prop:=
 ∀(p_:List (e_×cP))(s:g_)(σ:St)(H:Hp)(Q:Option Int->Hp->Prop),dc X p_ σ H s->t σ H Q->
  be (bn X.prog X.w) X.A (evalPart e X.env) (λu s'=>∃o H',dc X p_ σ H' s'/\IsPart u o/\Q o H') X.xe s
def agF:TO:=λ_ H Q=>Q b_ H
def akW(t:TE):TO:=λσ H Q=>t σ H λx a=>∃i,x=.int i/\Q (a_ i) a
def intsAre_of:∀{us:List f_},di (ns.map V.int) us->IntsAre us ns:=by
 induction ns with
 | nil=>intro us r;rw[TY]at r;cases r;exact .nil
 | cons n ns ih=>
  intro us r;rw[fv]at r;cases r with
  | cons r1 r2=>
   obtain⟨t,e⟩:=r1;subst e;exact .cons n t<|ih r2
section
variable{X:Cx}{e:bw}{te:TE}{lo hi:Option bw}{tl th:TO}{pos p2:Pos}
def FJ:PO X b_ agF:=by
 intro p_ s σ H Q I h;rw[evalPart_none];exact aO ⟨b_,H,I,.none,h⟩
def FH(h:PE X e te):PO X (a_ e) (akW te):=by
 intro p_ s σ H Q I hw;rw[evalPart_some];refine aT (h _ s _ H _ I hw) λu s1⟨x,a,b,c,d⟩=>?_;obtain⟨i,rfl,q⟩:=d;obtain⟨t,rfl⟩:=c;exact⟨a_ i,a,b,.int i t,q⟩
def HS(X:Cx)(r:V->Option Int->Option Int->Hp->VK->Prop):Prop:=
 ∀(p_:List (e_×cP))(s:g_)(σ:St)(H:Hp)(x:V)(v a b:f_)(lo hi:Option Int)(sl:e_)(Q:VK),dc X p_ σ H s->df x v->s.heap.IsSliceOf sl a b .none->IsPart a lo->IsPart b hi->r x lo hi H Q->
  ∃T id,typeLookup (.type T) "__getitem__"=pure (a_<|.builtin id)/\s.TypeIs v T/\be (bn X.prog X.w) X.A (getItem v<|.ref sl) (EP X p_ σ Q) X.xe s
def tSl(r:V->Option Int->Option Int->Hp->VK->Prop)(te:TE)(tl th:TO):TE:=λσ H Q=>te σ H λx a=>tl σ a λl b=>th σ b λu c=>r x l u c Q
def Fi{r:V->Option Int->Option Int->Hp->VK->Prop}(f:HS X r)(g:PE X e te)(i:PO X lo tl)(j:PO X hi th):PE X (.Subscript e (.Slice lo hi b_ p2) pos) (tSl r te tl th):=by
 intro p_ s σ H Q I h;refine Subscript_ (aT (g _ s _ H _ I h) λv s1⟨x,E,k,m,n⟩=>wpAny_Slice<|aT (i _ _ _ _ _ k n) λc s2⟨l,F,o,pl,p⟩=>aT (j _ _ _ _ _ o p) λd a⟨u,t,w,y,z⟩=>?_);rw[evalPart_none];refine aO ?_;have A:dc X _ _ _ {a with heap:=a.heap.push {cls:=.type "slice",data:=.fields #[c,d,.none]}}:=w.kept λb ob q=>bE _ q;obtain⟨T,id,B,C,D⟩:=f p_ {a with heap:=a.heap.push {cls:=.type "slice",data:=.fields #[c,d,.none]}} σ t x v c d l u a.zS Q A m (Heap.IsSliceOf.new ..) pl y z;exact tail_any C B D (by with_unfolding_all rfl)
def pU(xs:List V)(lo hi:Option Int):List V:=(xs.drop<|HT.cq xs.length 0 lo).take<|HT.cq xs.length xs.length hi-HT.cq xs.length 0 lo
def Ud(xs:List V)(lo hi:Option Int):(pU xs lo hi).length<=xs.length:=by
 unfold pU;rw[eZ,Tc];omega
def ZG(K:u_):V->Option Int->Option Int->Hp->VK->Prop:=λx lo hi H Q=>∃a xs,x=.ref a/\aq K H a xs/\
 ¬(HT.cq xs.length 0 lo=0/\HT.cq xs.length xs.length hi=xs.length)/\∀p,H p=b_->Q (.ref p) (db H p<|.tup<|pU xs lo hi)
def Nj:HS X (ZG X.K):=by
 intro p_ s σ H x v m n lo hi sl Q I g i pl j h;obtain⟨a,xs,rfl,k,hw,q⟩:=h;cases g;obtain⟨l,r,d,f⟩:=I.tuple k;have c:l.toArray.size=xs.length:=by rw[dA];exact r.length.g8
 refine⟨"tuple",_,Sv.lookup,d.typeIs,HT.abm d i pl j (c▸hw) ?_<|c▸f⟩;rw[c];refine⟨.ref _,_,I.laid (λb ob q=>bE _ q) (az _) ?_,xz,q _<|I.aU.fresh<|az _⟩;exact⟨dC (Ud _ _ _) f,_,(r.drop<|HT.cq _ 0 _).take<|HT.cq _ _ _-HT.cq _ 0 _,IsTup.new _ _⟩
end
noncomputable def oN(n:Nat)(i:Int):Option Nat:=if 0<=i then (if i<n then a_ i.toNat else b_) else if -(n:Int)<=i then a_ (i+n).toNat else b_
def iQ{a:Type}(xs:List a)(i:Int):Option a:=(oN xs.length i).bind λj=>xs[j]?
def W6{n:Nat}{i:Int}{j:Nat}(h:oN n i=a_ j):Lj i n=a_ j/\j<n/\-(n:Int)<=i/\i<n:=by
 unfold oN at h
 by_cases a:0<=i
 .rw[ei a]at h
  by_cases h1:i<n
  .rw[ei h1]at h;have e:=dj h;exact⟨by rw[seqIndex_of a h1,e],om,om,h1⟩
  rw[ee h1]at h;cases h
 rw[ee a]at h
 by_cases h1:-n<=i
 .rw[ei h1]at h;have e:=dj h;exact⟨by rw[TN om h1,e],om,h1,om⟩
 rw[ee h1]at h;cases h
def Xj{a:Type}{xs:List a}{i:Int}{v:a}(h:iQ xs i=a_ v):∃j,Lj i xs.length=a_ j/\xs[j]?=a_ v/\j<xs.length/\-(xs.length:Int)<=i/\i<xs.length:=by
 unfold iQ at h;rcases e:oN xs.length i with _|j
 ·rw[e]at h;cases h
 rw[e]at h;obtain⟨h1,h2,h3,h4⟩:=W6 e;exact⟨j,h1,h,h2,h3,h4⟩
def bA{a:Type}{xs:List a}{j:Nat}{v:a}(h:xs[j]?=a_ v):iQ xs (j:Int)=a_ v:=by
 have b:=(cb.mp h).1
 have e:oN xs.length (j:Int)=a_ j:=by
  unfold oN;rw[ei om,ei om];simp
 unfold iQ;rw[e];exact h
def Wr{a:Type}(xs:List a)(v:a):iQ (xs++[v]) (-1)=a_ v:=by
 have b:(xs++[v]).length=xs.length+1:=by simp
 have e:oN (xs++[v]).length (-1)=a_ xs.length:=by
  unfold oN;rw[b,ee qc,ei om]
  congr 1
  omega
 unfold iQ;rw[e];simp
def ait(b:bw):Prop:=∀o i,subscripted b d_ o i=operate [o,i] (getItem o i)
def A5(X:Cx)(r:R2):Prop:=
 ∀(b a:bw)(p_:List (e_×cP))(s:g_)(σ:St)(H:Hp)(x y:V)(v u:f_)(Q:VK),dc X p_ σ H s->df x v->df y u->r x y H Q->
  subscripted a d_ v u=operate [v,u] (getItem v u)->be (bn X.prog X.w) X.A (subscriptTail b a v u) (EP X p_ σ Q) X.xe s
def MtR(X:Cx)(id:String)(r:V->List V->Hp->VK->Prop):Prop:=
 ∀(p_:List (e_×cP))(s:g_)(σ:St)(H:Hp)(x:V)(xs:List V)(v:f_)(us:List f_)(Q:VK),dc X p_ σ H s->df x v->di xs us->r x xs H Q->
  be (bn X.prog X.w) X.A (call (.builtin id) (v::us)) (EP X p_ σ Q) X.xe s
section
variable{X:Cx}{a b:bw}{ta tb:TE}{pos:Pos}
def aN{r:R2}(c:A5 X r)(ha:PE X a ta)(d:PE X b tb)(e:ait b:=by intro _ _;rfl):PE X (.Subscript a b pos) (sQ r ta tb):=by
 exact λp_ s σ H Q I h=>Subscript_ (PU ha d I h λv u s2 x y j f g i q=>c a b _ _ _ _ x y v u Q f g i q<|e _ _)
def AD(K:u_):R2:=λx y H Q=>∃p xs i v,x=.ref p/\y=.int i/\ag K H p xs/\iQ xs i=a_ v/\Q v H
def wm(K:u_):R2:=λx y H Q=>∃p xs i v,x=.ref p/\y=.int i/\aq K H p xs/\iQ xs i=a_ v/\Q v H
def bQ:A5 X (AD X.K):=by
 intro C D p_ s σ H x y v u Q I k l h d;obtain⟨p,xs,i,z,rfl,rfl,m,n,q⟩:=h;cases k;obtain⟨t,rfl⟩:=l;obtain⟨o,r,pl,E⟩:=I.list m;obtain⟨j,h1,h2,h3,h4,h5⟩:=Xj n;obtain⟨w,e,A⟩:=r.get h2;have B:=r.length;have hn:=CG;have f:EP X _ _ Q w s:=⟨z,H,I,A,q⟩
 by_cases g:0<=i
 .have c:i.toNat=j:=by
   rw[seqIndex_of g h5]at h1;exact dj h1
  exact item_listR pl.isList g om (by rw[c];simpa using e) f d
 have c:(i+(o.toArray.size:Int)).toNat=j:=by
  rw[TN om h4]at h1;rw[dA,<-B];exact dj h1
 exact aaT (x:=w) pl.isList.typeIs slot_list_getitem.lookup
  (wpAny_getItem_list_neg (Q:=λr s'=>r=w/\EP X p_ σ Q r s') pl.isList om (by rw[dA] <;> omega) om (by rw[c];simpa using e) ⟨xz,f⟩) d
def bX:A5 X (wm X.K):=by
 intro n o p_ s σ H x y v u Q I c d h e;obtain⟨p,xs,i,z,rfl,rfl,f,g,q⟩:=h;cases c;obtain⟨t,rfl⟩:=d;obtain⟨A,r,pl,B⟩:=I.tuple f;obtain⟨j,h1,h2,h3,h4,h5⟩:=Xj g;obtain⟨w,k,l⟩:=r.get h2;have hn:=CG;have m:EP X _ _ Q w s:=⟨z,H,I,l,q⟩
 exact aaT (x:=w) pl.typeIs slot_tuple_getitem.lookup
  (getItem_tuple (j:=j) (Q:=λr s'=>r=w/\EP X p_ σ Q r s') pl om om (by rw[dA,<-r.length];exact h1) (by simpa using k) ⟨xz,m⟩) e
def adi(c:List f_)(n j:Nat)(u:f_):jz (·.setIfInBounds j u) {cls:=.type "list",data:=.seq c.toArray n}={cls:=.type "list",data:=.seq (c.set j u).toArray n}:=by
 simp[jz]
def dc.lst(I:dc X p_ σ H s)(h:H p=a_ (.lst xs)):∃(c:List f_)(n:Nat),di xs c/\s.heap.get? p=a_ {cls:=.type "list",data:=.seq c.toArray n}/\xs.length<=bZ:=by
 obtain⟨z,c,n,r,e⟩:=I.aU p _ h;exact⟨c,n,r,e,z⟩
def dc.ajH{p_:List (e_×cP)}{σ:St}{H:Hp}{s:g_}{p:e_}{xs ys:List V}{g c:List f_}{n d:Nat}{f:cP->cP}(I:dc X p_ σ H s)(h:H p=a_ (.lst xs))(j:s.heap.get? p=a_ {cls:=.type "list",data:=.seq g.toArray n})(i:f {cls:=.type "list",data:=.seq g.toArray n}={cls:=.type "list",data:=.seq c.toArray d})(r:di ys c)(k:ys.length<=bZ)(t:Nat):dc X p_ σ (db H p<|.lst ys) {s with heap:=s.heap.update p f,toks:=t}:=by
 have e:(s.heap.update p f).get? p=a_ {cls:=.type "list",data:=.seq c.toArray d}:=by
  rw[zx f j (by rw[i] <;> rfl),i]
 exact I.write (by rw[h];trivial) (.inl xz) (λb u l q=>(aaX _ _<|iL l).fT q) ⟨_,e⟩ ⟨k,c,d,r,e⟩
def alb:V->V->V->Hp->(Hp->Prop)->Prop:=λo i v H Q=>∃p xs k j,o=.ref p/\i=.int k/\H p=a_ (.lst xs)/\oN xs.length k=a_ j/\Q (db H p<|.lst<|xs.set j v)
def set_list:PY X alb:=by
 intro p_ s σ H o i v ov B u Q I w x y h;obtain⟨p,xs,k,j,rfl,rfl,f,z,q⟩:=h;cases w;obtain⟨t,rfl⟩:=x;obtain⟨g,n,r,c,A⟩:=I.lst f;obtain⟨h1,h2,h3,h4⟩:=W6 z;have d:=r.length;have hn:=CG
 have l:dc X p_ σ (db H p<|.lst<|xs.set j v) {s with heap:=s.heap.update p (jz (·.setIfInBounds j u))}:=
  I.ajH f c (adi g n j u) (r.set y j) (by rw[fe];exact A) s.toks
 by_cases m:0<=k
 .have e:k.toNat=j:=by
   rw[seqIndex_of m h4]at h1;exact dj h1
  exact W.ki_setAt c m om (by rw[dA,<-d];exact h4)<|e▸⟨_,l,q⟩
 have e:(k+(g.toArray.size:Int)).toNat=j:=by
  rw[TN om h3]at h1;rw[dA,<-d];exact dj h1
 exact W.ki_setBack c om (by rw[dA,<-d];exact h3) om<|e▸⟨_,l,q⟩
def md(i:Int)(n d:Nat):max 0 (min (if i<0 then i+(n:Int) else i) (n:Int))=((HT.cq n d (a_ i):Nat):Int):=by
 show _=(((if i<0 then (i+n).toNat else min i.toNat n:Nat)):Int)
 by_cases h:i<0
 .rw[ei h,ei h];lia
 rw[ee h,ee h];lia
def acd(lo hi:Option Int)(n:Nat):(sliceBounds lo hi b_ n).1=((HT.cq n 0 lo:Nat):Int)/\(sliceBounds lo hi b_ n).2.1=((HT.cq n n hi:Nat):Int)/\(sliceBounds lo hi b_ n).2.2=1:=by
 refine⟨?_,?_,xz⟩
 .rcases lo with _|i;rfl;exact(md i n 0)
 rcases hi with _|i;rfl;exact(md i n n)
def ab2(c:List f_)(lo hi:Option Int):slicePick c.toArray lo hi b_=((c.drop<|HT.cq c.length 0 lo).take<|HT.cq c.length c.length hi-HT.cq c.length 0 lo).toArray:=by
 obtain⟨h1,h2,h3⟩:=acd _ _ _;unfold slicePick;rw[h1,h2,h3];simp only[sliceRange_one,pick_run,dA] <;> rfl
def anM(K:u_):V->Option Int->Option Int->Hp->VK->Prop:=λx lo hi H Q=>∃a xs,x=.ref a/\ag K H a xs/\∀p,H p=b_->Q (.ref p) (db H p<|.lst<|pU xs lo hi)
def agO:HS X (anM X.K):=by
 intro p_ s σ H x v k l lo hi sl Q I d e pl f h;obtain⟨a,xs,rfl,g,q⟩:=h;cases d;obtain⟨m,r,c,i⟩:=I.list g;have j:=r.length;refine⟨"list",_,slot_list_getitem.lookup,c.isList.typeIs,wpAny_getItem_list_slice c.isList e pl f .none (by simp) ?_<|by rw[dA] <;> omega⟩;rw[ab2,<-j];refine⟨.ref _,_,I.laid (λb ob q=>bE _ q) (az _) ?_,xz,q _<|I.aU.fresh<|az _⟩;exact⟨dC (Ud _ _ _) i,_,0,(r.drop<|HT.cq _ 0 _).take<|HT.cq _ _ _-HT.cq _ 0 _,eO _ xz⟩
noncomputable def uu:V->Bool
 | .aR=>c_
 | .bl _=>c_
 | .int _=>c_
 | .str _=>c_
 | _=>d_
noncomputable def qW:V->V->Bool
 | .aR,.aR=>c_
 | .bl a,.bl b=>a==b
 | .bl a,.int b=>(if a then 1 else 0)==b
 | .int a,.bl b=>a==(if b then 1 else 0)
 | .int a,.int b=>a==b
 | .str a,.str b=>a==b
 | _,_=>d_
def ajZ(d:df y u)(c:df x v)(f:uu y=c_)(e:uu x=c_):jM A s u v (qW y x):=by
 cases y with
 | aR=>
  cases d;cases x with
  | aR=>cases c;exact jM.same _
  | bl b=>cases c;exact jM.none_bool b
  | int b=>obtain⟨t,rfl⟩:=c;exact aba b t
  | str b=>obtain⟨t,rfl⟩:=c;exact jM.none_str b t
  | _=>exact eu e dO
 | bl a=>
  cases d;cases x with
  | aR=>cases c;exact jM.bool_none a
  | bl b=>cases c;exact jM.bool_bool a b
  | int b=>obtain⟨t,rfl⟩:=c;exact jM.bool_int a b t
  | str b=>obtain⟨t,rfl⟩:=c;exact jM.bool_str a b t
  | _=>exact eu e dO
 | int a=>
  obtain⟨t',rfl⟩:=d;cases x with
  | aR=>cases c;exact abb a _
  | bl b=>cases c;exact jM.int_bool a _ b
  | int b=>obtain⟨t,rfl⟩:=c;exact jM.int_int a _ b t
  | str b=>obtain⟨t,rfl⟩:=c;exact jM.int_str a _ b t
  | _=>exact eu e dO
 | str a=>
  obtain⟨t',rfl⟩:=d;cases x with
  | aR=>cases c;exact jM.str_none a _
  | bl b=>cases c;exact jM.str_bool a _ b
  | int b=>obtain⟨t,rfl⟩:=c;exact jM.str_int a _ b t
  | str b=>obtain⟨t,rfl⟩:=c;exact jM.str_str a _ b t
  | _=>exact eu e dO
 | _=>exact eu f dO
def uZ(x:V)(u:f_):Bool:=match u with
 | .none=>qW .aR x
 | .bool b=>qW (.bl b) x
 | .int i _=>qW (.int i) x
 | .str z _=>qW (.str z) x
 | _=>d_
def Yo(r:df y u)(f:uu y=c_):uZ x u=qW y x:=by
 cases y with
 | aR=>cases r;rfl
 | bl b=>cases r;rfl
 | int i=>obtain⟨t,rfl⟩:=r;rfl
 | str z=>obtain⟨t,rfl⟩:=r;rfl
 | _=>exact eu f dO
theorem MZ:∀{xs:List V}{us:List f_},di xs us->xs.all uu=c_->us.any (uZ x)=xs.any λy=>qW y x
 | _,_,.nil,_=>rfl
 | y::xs,u::us,.cons r t,f=>by
  rw[BD,jy]at f;rw[xC,xC,Yo r f.1,MZ t f.2]
theorem LU(d:df x v)(e:uu x=c_):∀{xs:List V}{us:List f_},di xs us->xs.all uu=c_->∀u∈us,jM A s u v<|uZ x u
 | _,_,.nil,_=>λu c=>by cases c
 | y::xs,u::us,.cons r t,f=>λg c=>by
  rw[BD,jy]at f;obtain rfl|c:=bH.mp c
  .rw[Yo r f.1];exact ajZ r d f.1 e
  exact LU d e t f.2 g c
def Du(x:V)(xs:List V):Bool:=xs.any λy=>qW y x
def rIn(K:u_)(c:Bool):R2:=λx y H Q=>∃p xs,y=.ref p/\(ag K H p xs\/aq K H p xs)/\uu x=c_/\xs.all uu=c_/\Q (.bl (if c then !Du x xs else Du x xs)) H
def TM:dY X (iy .NotIn) (rIn X.K c_):=by
 intro p_ s σ H x y v u Q I e g h;obtain⟨p,xs,rfl,c,f,fs,q⟩:=h;cases g;obtain c|c:=c
 .obtain⟨d,r,pl,i⟩:=I.list c;refine SeqAt.notIn_listAt _ pl.isList (λw hw=>LU e f r fs w<|by simpa using hw) ⟨.bl _,H,I,xz,?_⟩;rw[show d.toArray.any (uZ x)=d.any (uZ x) by simp,MZ r fs];exact q
 obtain⟨d,r,pl,i⟩:=I.tuple c;refine SeqAt.notIn_tupleAt _ pl (λw hw=>LU e f r fs w<|by simpa using hw) ⟨.bl _,H,I,xz,?_⟩;rw[show d.toArray.any (uZ x)=d.any (uZ x) by simp,MZ r fs];exact q
def dS:i7 X (.builtin "len") (λxs H Q=>∃p ys,xs=[.ref p]/\(ag X.K H p ys\/aq X.K H p ys)/\Q (.int ys.length) H):=by
 intro p_ s σ H xs us Q I r h;obtain⟨p,ys,rfl,c,q⟩:=h;obtain⟨u,rfl,f⟩:=vals1 r;cases f;have hn:=CG;obtain c|c:=c
 .obtain⟨g,d,pl,i⟩:=I.list c;have e:=d.length;exact Calls.call_len_list pl.isList (by simp only[dA] <;> omega) ⟨.int _,H,I.tok _,⟨s.toks+1,by rw[dA,e]⟩,q⟩
 obtain⟨g,d,pl,i⟩:=I.tuple c;have e:=d.length;exact len_tuple pl (by simp only[dA] <;> omega) ⟨.int _,H,I.tok _,⟨s.toks+1,by rw[dA,e]⟩,q⟩
def xD:i7 X (.type "list") (λxs H Q=>∃p ys,xs=[.ref p]/\(ag X.K H p ys\/aq X.K H p ys)/\∀l,H l=b_->Q (.ref l) (db H l<|.lst ys)):=by
 intro p_ s σ H xs us Q I r h;obtain⟨p,ys,rfl,g,q⟩:=h;obtain⟨u,rfl,t⟩:=vals1 r;cases t
 have m:∀(c:List f_),di ys c->ys.length<=bZ->∀(h':i_)(d:Nat),(∀b o',s.heap.get? b=a_ o'->h'.get? b=a_ o')->
   h'.get? s.zS=a_ {cls:=.type "list",dict:=b_,data:=.seq c.toArray d,slots:=#[]}->EP X p_ σ Q (.ref s.zS) {s with heap:=h'}:=λc f i h' d kp e=>
  ⟨.ref s.zS,_,I.laid (t':=s.toks) kp (az _) (show fq X.prog X.w _ h' _ (.lst ys) from ⟨i,c,d,f,e⟩),xz,q _<|I.aU.fresh<|az _⟩
 obtain g|g:=g
 .obtain⟨c,f,pl,i⟩:=I.list g;have v:=f.length;obtain⟨o,j,k,n,hd⟩:=pl.isList;exact call_list_seq p (.inl xz) j k hd (λh' d kp e=>m c f i h' d kp e) (by simp only[dA] <;> omega)
 obtain⟨c,f,pl,i⟩:=I.tuple g;have v:=f.length;obtain⟨o,j,k,n,hd⟩:=pl;exact call_list_seq p (.inr xz) j k hd (λh' d kp e=>m c f i h' d kp e) (by simp only[dA] <;> omega)
def ma:i7 X (.type "tuple") (λxs H Q=>∃p ys,xs=[.ref p]/\((ag X.K H p ys/\∀l,H l=b_->Q (.ref l) (db H l<|.tup ys))\/(aq X.K H p ys/\Q (.ref p) H))):=by
 intro p_ s σ H xs us Q I r h;obtain⟨p,ys,rfl,h⟩:=h;obtain⟨u,rfl,j⟩:=vals1 r;cases j;obtain⟨c,q⟩|⟨c,q⟩:=h
 .obtain⟨d,f,pl,g⟩:=I.list c;have m:=f.length;refine call_tuple_list pl.isList (λh' kp=>?_) (by simp only[dA] <;> omega);have i:=I.kept (t':=s.toks) kp
  have k:dc X p_ σ (db H h'.zH<|.tup ys) {s with heap:=h'.push {cls:=.type "tuple",data:=.seq d.toArray}}:=
   i.laid (t':=s.toks) (λb o e=>bE _ e) (az _) (show fq X.prog X.w _ _ _ (.tup ys) from ⟨g,d,f,IsTup.new _ _⟩)
  exact⟨.ref _,_,k,xz,q _<|i.aU.fresh<|az _⟩
 obtain⟨d,f,pl,g⟩:=I.tuple c;exact call_tuple_same pl ⟨.ref p,H,I,xz,q⟩
def lT(K:u_)(T:String)(x:V)(H:Hp):Prop:=match x with
 | .str _=>T="str"
 | .int _=>T="int"
 | .ref p=>(T="list"/\∃xs,ag K H p xs)\/(T="tuple"/\∃o,K.lookup p=a_ o/\o.cls=.type "tuple"/\o.dict=b_)\/
   (T="dict"/\((∃fL,H p=a_ (.dK fL))\/∃fL,H p=a_ (.dT fL)))\/(T="set"/\∃S n,H p=a_ (.set S n))
 | _=>False
def aix{T:String}(I:dc X p_ σ H s)(r:df x v)(ty:lT X.K T x H):s.TypeIs v T/\∀a,v=.ref a->∃ob,s.heap.get? a=a_ ob/\ob.dict=none:=by
 cases x with
 | str z=>
  obtain⟨t,rfl⟩:=r;cases ty;exact⟨typeIs_str s z t,λ_ e=>nomatch e⟩
 | int i=>
  obtain⟨t,rfl⟩:=r;cases ty;exact⟨typeIs_int s i t,λ_ e=>nomatch e⟩
 | ref p=>
  cases r;obtain⟨rfl,xs,g⟩|⟨rfl,o,d,h,hd⟩|⟨rfl,d⟩|⟨rfl,S,n,d⟩:=ty
  .obtain⟨j,_,pl,_⟩:=I.list g;refine⟨pl.isList.typeIs,λa e=>?_⟩;cases e;obtain⟨o,n,e,c,hd,_⟩:=pl;exact⟨o,e,hd⟩
  .refine⟨⟨o,I.dm p o d,h⟩,λa e=>?_⟩;cases e;exact⟨o,I.dm _ o d,hd⟩
  .have z:∃o,s.heap.get? p=a_ o/\o.ExactDict:=by
    obtain⟨fL,d⟩|⟨fL,d⟩:=d
    .obtain⟨_,_,_,_,o,_,_,e,ex,_⟩:=I.aU p _ d;exact⟨o,e,ex⟩
    obtain⟨_,_,o,_,_,e,ex,_⟩:=I.aU p _ d;exact⟨o,e,ex⟩
   obtain⟨o,e,ex⟩:=z;refine⟨⟨o,e,ex.1⟩,λa f=>?_⟩;cases f;exact⟨o,e,ex.2.1⟩
  obtain⟨o,_,_,_,e,ex,_⟩:=I.aU p _ d;refine⟨⟨o,e,ex.1⟩,λa f=>?_⟩;cases f;exact⟨o,e,ex.2.1⟩
 | _=>exact nY ty
abbrev tBM(K:u_)(T:String)(r:V->List V->Hp->VK->Prop)(to:TE)(t:TA):TE:=λσ H Q=>to σ H λx H1=>lT K T x H1/\t σ H1 λxs H2=>r x xs H2 Q
variable{o e:bw}{es:List bw}{to:TE}{t:TA}{name:cr}{apos yz:Pos}{T id:String}{r:V->List V->Hp->VK->Prop}
def nu(g:PlainAttrs T)(slot:Slot T name id)(i:typeOf (.builtin id)=pure (.type "method_descriptor"))(hm:MtR X id r)(j:PE X o to)(ha:PA X (e::es) t)
  (k:autoParam (JS o name X.env (eval o X.env)=eval o X.env) a8)
  (l:autoParam (((bx yz<|cA (e::es) X.env).all (λx=>!x.1)&&(xP yz<|xG [] X.env).all (λx=>x.1.isSome)
   && decide ((e::es).length+([]:List Keyword).length+(if ([]:List Keyword).isEmpty then 0 else 1)<30))=true) a8)
  (m:autoParam ((apos.endLine==yz.line)=true) a8) (n:autoParam (cA (e::es) X.env=(d_,eval e X.env)::cA es X.env) a8) (p:autoParam ((bx yz<|cA es X.env).any (·.1)=false) a8) :
  PE X (.Call (.Attribute o name apos) (e::es) [] yz) (tBM X.K T r to t):=by
 refine λp_ s σ H Q I h=>wpAny_Call_method_late k l m xz (aT (j _ s _ H _ I h) λv s1⟨x,y,c,d,ty,q⟩=>?_);obtain⟨h1,h2⟩:=aix c d ty;refine⟨T,id,g,slot,i,h1,h2,?_⟩;have f:=ha yz _ _ _ _ _ c q;rw[n]at f ⊢;exact Calls.callWith_builtin (by show (d_||(bx _<|cA _ _).any (·.1))=d_;rw[p] <;> rfl)<|Calls.evalArgs_plain (aT f λus s2⟨vs,z,u,r2,w⟩=>hm _ _ _ _ x _ v _ Q u d r2 w)
end
def QA(X:Cx)(id:String)(r:V->List V->Hp->VK->Prop):Prop:=
 ∀(p_:List (e_×cP))(s:g_)(σ:St)(H:Hp)(x:V)(xs:List V)(v:f_)(us:List f_)(Q:VK),dc X p_ σ H s->df x v->di xs us->r x xs H Q->
  be (bn X.prog X.w) X.A (call (.builtin id) (v::us)) (EP X p_ σ Q) X.xe s
def di.one:∀{x:V}{us:List f_},di [x] us->∃u,us=[u]/\df x u
 | _,_,.cons r .nil=>⟨_,xz,r⟩
theorem di.eraseIdx:∀{xs:List V}{us:List f_}(i:Nat),di xs us->di (xs.eraseIdx i) (us.eraseIdx i)
 | _,_,_,.nil=>.nil
 | _,_,0,.cons _ t=>t
 | _,_,i+1,.cons r t=>.cons r<|di.eraseIdx i t
theorem di.rep(h:di xs us):∀k:Nat,di (cQ k xs).flatten (cQ k us).flatten
 | 0=>.nil
 | k+1=>by
  rw[xu,xu,EC,EC];exact di.append h<|di.rep h k
theorem Vc{a:Type}:∀(l:List a)(i:Nat),(l.eraseIdx i).length<=l.length
 | [],_=>az _
 | _::_,0=>kr _
 | _::r,i+1=>zE<|Vc r i
theorem foldl_rep(a:List f_):∀(k:Nat)(b:List f_),UJ (λc d=>c++d) b.toArray (cQ k a.toArray)=(b++(cQ k a).flatten).toArray
 | 0,b=>by simp
 | k+1,b=>by
  have e:b.toArray++a.toArray=(b++a).toArray:=by simp
  have f:(b++a)++(cQ k a).flatten=b++(cQ (k+1) a).flatten:=by
   rw[xu,EC,List.append_assoc]
  rw[<-f,<-foldl_rep a k<|b++a,<-e,xu,List.foldl_cons]
section
variable{X:Cx}{p_:List (e_×cP)}{σ:St}{H:Hp}{s:g_}{l b:e_}{xs ys zs:List V}
def dc.PB{c a:List f_}{n:Nat}{f:Array f_->Array f_}{t':Nat}(I:dc X p_ σ H s)(d:H l=a_ (.lst xs))(e:s.heap.get? l=a_ {cls:=.type "list",data:=.seq c.toArray n})(g:f c.toArray=a.toArray)(h:di ys a)(i:ys.length<=bZ):dc X p_ σ (db H l<|.lst ys) {s with heap:=s.heap.update l<|jz f,toks:=t'}:=by
 have q:=PySem.IsL.update e f;rw[g]at q;exact I.write (d▸trivial) (.inl xz) (λm u j k=>(aaX _ _<|iL j).fT k) ⟨_,q⟩ ⟨i,a,_,h,q⟩
def dc.ZP{t':Nat}(I:dc X p_ σ H s)(a:di ys ak)(c:ys.length<=bZ):dc X p_ σ (db H s.zS<|.lst ys) {s with heap:=s.heap.push {cls:=.type "list",data:=.seq ak.toArray},toks:=t'}:=
 I.laid (λ_ _ q=>bE _ q) (az _) ⟨c,ak,0,a,eO _ xz⟩
def dc.fresh(I:dc X p_ σ H s):H s.zS=none:=I.aU.fresh<|az _
def dc.qP(I:dc X p_ σ H s)(c:H l=a_ (.lst xs)):xs.length<=bZ/\∃(a:List f_)(n:Nat),di xs a/\xs.length=a.length/\s.heap.get? l=a_ {cls:=.type "list",data:=.seq a.toArray n}:=by
 obtain⟨z,a,n,r,e⟩:=I.aU l _ c;exact⟨z,a,n,r,r.length,e⟩
def V1{n:Nat}(h:n<=bZ):Jn n=false:=by
 exact eT om
end
section
variable{X:Cx}
def ahi:V->List V->Hp->VK->Prop:=λx vs H Q=>∃l xs y,x=.ref l/\vs=[y]/\H l=a_ (.lst xs)/\xs.length<bZ/\Q .aR (db H l<|.lst<|xs++[y])
def qp:QA X "list.append" ahi:=by
 intro p_ s σ H x vs v us Q I b c h;obtain⟨l,xs,y,rfl,rfl,a,f,q⟩:=h;cases b;obtain⟨u,rfl,d⟩:=c.one;obtain⟨z,g,n,r,i,e⟩:=I.qP a;refine EX F.slot_list_append ⟨_,e,xz⟩ F.entry_list_append (F.args_list_append_2 _ _) (PySem.list_append l _ n u<|by rw[dA];omega) ⟨e,⟨.aR,_,I.PB a e (by simp) (r.append<|.cons d .nil) ?_,xz,q⟩⟩;rw[dG,aa1];omega
def ahh:V->List V->Hp->VK->Prop:=λx vs H Q=>∃l b xs a,x=.ref l/\vs=[.ref b]/\H l=a_ (.lst xs)/\H b=a_ (.lst a)/\xs.length+a.length<=bZ/\Q .aR (db H l<|.lst<|xs++a)
def Va:QA X "list.extend" ahh:=by
 intro p_ s σ H x vs v us Q I f g h;obtain⟨l,b,xs,t,rfl,rfl,d,i,w,q⟩:=h;cases f;obtain⟨u,rfl,j⟩:=g.one;cases j;obtain⟨z,a,n,r,y,e⟩:=I.qP d;obtain⟨A,c,k,r2,B,m⟩:=I.qP i;have o:a.toArray.size+c.toArray.size<=bZ:=by rw[dA,dA];omega
 have p:¬(!a.toArray.isEmpty&&Jn (a.toArray.size+c.toArray.size))=true:=by
  rw[V1 o,Bool.and_false];exact dO
 refine EX F.slot_list_extend ⟨_,e,xz⟩ F.entry_list_extend (F.args_list_extend_2 _ _)
  (AutoSeq1.list_extend_list_list_0 l a.toArray n b c.toArray k p (by rw[dA];omega) om) ⟨e,m,?_⟩
 refine⟨.aR,_,I.PB d e (by simp) (r.append r2) ?_,xz,q⟩;rw[dG];omega
def ai4:V->List V->Hp->VK->Prop:=λx vs H Q=>∃l xs i k y,x=.ref l/\vs=[.int i]/\H l=a_ (.lst xs)/\-(2^63)<=i/\i<2^63/\Lj i xs.length=a_ k/\xs[k]?=a_ y/\Q y (db H l<|.lst<|xs.eraseIdx k)
def afQ:QA X "list.pop" ai4:=by
 intro p_ s σ H x vs v us Q I b c h;obtain⟨l,xs,i,k,y,rfl,rfl,a,h1,h2,d,f,q⟩:=h;cases b;obtain⟨u,rfl,g⟩:=c.one;obtain⟨t,rfl⟩:=g;obtain⟨z,j,n,r,m,e⟩:=I.qP a;obtain⟨w,hw,o⟩:=r.get f
 refine EX F.slot_list_pop ⟨_,e,xz⟩ F.entry_list_pop (F.args_list_pop_2 _ _)
  (MeetsSeq.list_pop_at l j.toArray n i t k w (fitsIndex_both h1 h2) (by rw[dA,<-m];exact d) (by rw[<-zy];exact hw)<|by rw[dA];omega) ⟨e,?_⟩
 refine⟨y,_,I.PB a e ?_ (r.eraseIdx k) ?_,o,q⟩
 .rw[List.eraseIdxIfInBounds_toArray]
 .have:=Vc xs k;omega
def anO:R2:=λx y H Q=>∃l b xs a,x=.ref l/\y=.ref b/\H l=a_ (.lst xs)/\H b=a_ (.lst a)/\xs.length+a.length<=bZ/\∀p,H p=b_->Q (.ref p) (db H p<|.lst<|xs++a)
def X0:dY X (qw .Add) anO:=by
 intro p_ s σ H x y v u Q I d f h;obtain⟨l,b,xs,m,rfl,rfl,g,i,o,q⟩:=h;cases d;cases f;obtain⟨z,a,n,r,p,e⟩:=I.qP g;obtain⟨t,c,w,r2,A,j⟩:=I.qP i;refine PySem.P.add_list e j ?_ (by rw[dA,dA];omega);have k:a.toArray++c.toArray=(a++c).toArray:=by simp
 rw[k];exact⟨.ref _,_,I.ZP (r.append r2) (by rw[dG];omega),xz,q _ I.fresh⟩
def anN:R2:=λx y H Q=>∃l k xs,x=.ref l/\y=.int k/\H l=a_ (.lst xs)/\-(2^63)<=k/\k<2^63/\xs.length*k.toNat<=bZ/\
 ∀p,H p=b_->Q (.ref p) (db H p<|.lst (cQ k.toNat xs).flatten)
def len_rep{a:Type}(xs:List a)(k:Nat):(cQ k xs).flatten.length=k*xs.length:=by
 induction k with
 | zero=>simp
 | succ k ih=>rw[xu,EC,dG,ih,TV,Nat.add_comm]
def Ga:dY X (qw .Mult) anN:=by
 intro p_ s σ H x y v u Q I g i h;obtain⟨l,k,xs,rfl,rfl,j,h1,h2,f,q⟩:=h;cases g;obtain⟨t,rfl⟩:=i;obtain⟨z,b,n,r,o,e⟩:=I.qP j;have p:b.toArray.size*k.toNat<=bZ:=by rw[dA,<-o];exact f
 have w:¬b.toArray.size*k.toNat > (2^63-1)/8:=by
  have:bZ<=(2^63-1)/8:=qc;omega
 have A:¬(!Builtin.List.listFitsIndex k)=true:=by
  rw[fitsIndex_both h1 h2];exact dO
 have B:¬Jn (b.toArray.size*k.toNat)=true:=by
  rw[V1 p];exact dO
 have C:UJ (λc d=>c++d) #[] (cQ (if b.toArray.isEmpty=c_ then 0 else k.toNat) b.toArray)=(cQ k.toNat b).flatten.toArray:=by
  have D:∀m:Nat,UJ (λc d=>c++d) #[] (cQ m b.toArray)=(cQ m b).flatten.toArray:=λm=>by
   have:=foldl_rep b m [];rw[List.nil_append]at this;exact this
  rw[D];rcases b with _|⟨a,E⟩;simp;rw[ee (by simp)]
 refine wpAny_binaryOp_repeat_ref (T:="list") (U:="int") qc ⟨_,e,xz⟩ (λs'=>typeIs_int s' k t) noFill_list_mul F.fills_int_mul F.slot_int_rmul repeat_list F.slot_int_index.lookup
  (EX F.slot_int_rmul (typeIs_int s k t) F.entry_int_rmul (F.args_int_rmul_2 _ _) (int___rmul___int_list k t l b.toArray n) ⟨e,xz,⟨_,e,xz⟩,EX F.slot_list_mul ⟨_,e,xz⟩ F.entry_list_mul (F.args_list_mul_2 _ _) (AutoListH.list___mul___list_int_3 l b.toArray n k t A w B) ⟨e,?_⟩⟩)
 rw[C];exact⟨.ref _,_,I.ZP (r.rep _) (by rw[len_rep,Nat.mul_comm];exact f),xz,q _ I.fresh⟩
end
section
variable{prog:k_}{w:j_}{A:h_}{E:f_->g_->Prop}{s:g_}
end
end L2
namespace Att
open PySem.W PySem.Calls
def abK{P:Params}:∀(ns:List Int)(vs:List f_),WellAll P h vs (ns.map WData.int)->IntsAre vs ns:=by
 intro ns
 induction ns with
 | nil=>
  intro vs w;rw[TY]at w;cases w;exact .nil
 | cons n ns ih=>
  intro vs w;rw[fv]at w;cases w with
  | cons a b=>
   cases a;exact .cons _ _<|ih _ b
def adQ{l:OpenLaw}{n:Nat}(hn:l.most=a_ n){P:Params}{args:List WData}(b:l.row.toRowW.claim.pre args=c_)(e:WellAll P h vals args):∃a vs ns,vals=[dq a]/\args=[WData.list (ns.map WData.int)]/\h.get? a=a_ {cls:=.type "list",data:=.seq vs.toArray}/\IntsAre vs ns/\ns.length<=n:=by
 have c:l.pre.holds [] {args:=args}=true:=(pre_splitW b).2;obtain⟨d,r,rfl,h1,h2⟩:=hasAllW_cons<|(pre_splitW b).1;obtain rfl:=hasAllW_nil h2;obtain⟨xs,rfl,h3⟩:=hasW_list h1;obtain⟨ns,rfl⟩:=items_int h3
 have f:ns.length<=n:=by
  unfold OpenLaw.pre at c
  have h4:(WTm.not<|.lt (.lit<|.int (n:Int))<|.len<|.arg 0).holds [] {args:=[.list (ns.map .int)]}=true:=by
   have h4:=(holds_andW c).1;rw[hn]at h4;exact h4
  have h5:=condW_of h4<|w_not<|w_lt w_lit<|w_len_list<|w_arg xz;rw[aA]at h5;refine Nat.le_of_not_lt λq=>?_;have g:=om
  first
   | (rw[eN g]at h5;exact eu h5 qc)
   | (simp at h5;omega)
 cases e with
 | cons w1 w2=>
  cases w2;cases w1 with
  | list ho yy=>exact⟨_,_,ns,xz,xz,ho,abK _ _ yy,f⟩
def adX(l:OpenLaw)(args:List WData):l.row.toRowW.claim.post args (.bool c_) args=true:=
 postW_of (r:=l.row.toRowW) (X:=(c_==c_))
  (show WShape.has [] (.bool c_) .bool=c_ by first | rfl | decide | simp[WShape.has,WShape.arms,WShape.armsAll])
  (show (WTm.eq .res<|.lit<|.bool c_).value [] {args:=args,res:=a_<|.bool c_,after:=args}=a_ (.bool<|c_==c_) from w_eq_bool (w_res xz) w_lit) xz
def acD{l:OpenLaw}{n:Nat}{XP:(cr->Option f_)->i_->Prop}{YP:j_->i_->Prop}{d:DefRec}(hn:l.most=a_ n)(e:d.params.defaults=[])(call:∀(w:j_)(s₀ b:g_)(mg mb:cr->Option f_)(fa:e_)(o:cP)(pm cd doc:f_)(a:e_)(vs:List f_)(ns:List Int),Ground q loose [] XP w s₀ mg mb b.heap->YP w b.heap->b.heap.get? fa=a_ o->o.data=.func (docDef d.name d.params d.body d.scope pm cd doc)->b.heap.CodeRec cd d.name->mg d.name=a_ (.ref fa)->b.heap.get? a=a_ {cls:=.type "list",data:=.seq vs.toArray}->IntsAre vs ns->ns.length<=n->b.gens=#[]->codeAny (bn l.prog w) callerA (.call (.ref fa) ⟨[.ref a],[]⟩) (λr s'=>r=.ok (.ret<|.bool c_)/\OldK b.heap s'.heap/\s'.os=b.os/\AllBare s'.gens) b):WalkO q loose XP YP l.row.toRowW d [] (λf vs=>PySem.call f vs):=by
 intro w s₀ b mg mb G Y fa o pm cd doc g kV h hd i c j k args x y m z A p B;obtain rfl:g=.none:=Dflts.none c e;obtain rfl:kV=.none:=Dflts.noKw c;obtain⟨a,vs,ns,rfl,rfl,s,t,u⟩:=adQ hn m p;refine enter_call (BE (call w _ _ _ _ _ o _ _ _ a _ _ G Y h (fd_plain hd) i j s t u k) λr s' v=>?_);obtain⟨rfl,h2,h3,h4⟩:=v;exact⟨.inl ⟨.bool _,.bool _,[],xz,λ_=>rfl,.bool _,adX l _,λ_=>⟨List.Pairwise.nil,λ_ hm=>(nomatch hm)⟩⟩,h2,h3,h4⟩
end Att
namespace L2
theorem Ky:∀{vs:List f_}{ns:List Int},IntsAre vs ns->di (ns.map V.int) vs
 | _,_,.nil=>.nil
 | _,_,.cons n t h=>.cons ⟨t,xz⟩<|Ky h
abbrev aE:p6:=λ_ _ _ _ _ _=>False
abbrev E0:XK:=λ_ _ _=>False
def dh{X:Cx}:Passes aE X E0:=λ_ _ _ _ _ _ _ h=>h.elim
structure aQ(K:u_)(x qual:cr)(st:bv)(f:e_)(fd:jO):Prop where
 ex:∃(oc:f_)(od:Option e_)(kV doc pm:f_)(an:Option e_)(aH ct:f_)(jc:Array (Option f_)),fd=B_ x qual (lF st) (iZ st) (aP st) .none kV doc pm an aH ct/\K.lookup f=a_ ⟨oc,od,.func fd,jc⟩/\W.codeIn K aH qual=c_
 kp:x_ K (.ref f)=c_
section
variable{P:k_}{w:j_}{K:u_}{mg:cr->Option f_}{gl:i_}
def aQ.ok{st:bv}{k:Nat}{sp:Sp}(F:aQ K x qual st f fd)(S:aV N ps (aP st))
  (a:∀(aH:f_)(A:h_)(outer:List Env)(s:g_)(H:Hp)(vs:List V)(Q:VK)(E:XK),fJ k (A.deeper<|d8 qual (aP st) s.zS f aH)->sp vs H Q E->
   ∃t,fu (oG aE P w K mg gl N qual (aP st) f aH A outer s H E).oK (iZ st) t/\t {nx:=λ_ H'=>Q .aR H',rt:=Q} (start N vs) H) (len:∀vs H Q E,sp vs H Q E->vs.length=ps.length:=by intro _ _ _ _ h;(repeat obtain⟨_,h⟩:=h);subst_vars;rfl):aF P w K mg gl aE (k+1) f fd ps sp:=by
 obtain⟨oc,od,kV,doc,pm,an,aH,ct,jc,rfl,lk,b⟩:=F.ex;refine yh lk b S len λA outer s H vs Q E c d=>?_;obtain⟨t,h,q⟩:=a aH A outer s H vs Q E c d;exact⟨t,h.oK,q⟩
def aQ.binds{st:bv}(F:aQ K x qual st f fd)(h:∀(kV doc pm:f_)(an:Option e_)(aH ct:f_)(us:List f_),us.length=ps.length->ue (B_ x qual (lF st) (iZ st) (aP st) .none kV doc pm an aH ct) ⟨us,[]⟩=pure (ps.zip us)):dn K fd ps []:=by
 obtain⟨oc,od,kV,doc,pm,an,aH,ct,jc,rfl,lk,a⟩:=F.ex;exact .all<|h _ _ _ _ _ _
def Yk{st:bv}{od an:Option e_}{jc:Array (Option f_)}(l:K.lookup f=a_ ⟨oc,od,.func<|B_ x qual (lF st) (iZ st) (aP st) .none kV doc pm an aH ct,jc⟩)(c:W.codeIn K aH qual=c_)(k:x_ K (.ref f)=c_):aQ K x qual st f (B_ x qual (lF st) (iZ st) (aP st) .none kV doc pm an aH ct):=⟨⟨oc,od,kV,doc,pm,an,aH,ct,jc,xz,l,c⟩,k⟩
end
def cy{n:Nat}(h:n<=1000):n<bZ:=qf h qc
section
variable{X:Cx}
def pv(i:Nat)(a:autoParam (X.N[i]?=a_ x) a8)(b:HP X.env.scope x:=by first | exact aI xz | exact uo (aI xz) | exact uo (uo xz))(hd:autoParam ((x==("__debug__":cr))=false) ad)
  (c:autoParam ((x==("__classdict__":cr))=false) ad):PE X (.Name x pos) (nE i):=ai6 a b hd c
end
def eU{A B:Prop}(h:B):if d_=c_ then A else B:=by
 rw[ee dO];exact h
def jq{A B:Prop}(h:A):if c_=c_ then A else B:=by
 rw[ei rfl];exact h
def ae(H H':Hp):Prop:=∀b o,H b=a_ o->H' b=a_ o
def ae.refl(H:Hp):ae H H:=λ_ _ h=>h
def ae.fT(a:ae H H1)(b:ae H1 H2):ae H H2:=λc o h=>b c o<|a c o h
def ae.free(e:ae H H')(h:H' l=Option.none):H l=Option.none:=by
 rcases q:H l with _|o;rfl;rw[e l o q]at h;cases h
section
variable{K:u_}{σ:St}{H:Hp}{Q:VK}{p C dx:e_}{xs:List V}{v:V}{i:Nat}{j:Int}{fs:List (cr×V)}{f:cr}
def vr(h:σ[i]?=a_ (a_ v))(q:Q v H):nE i σ H Q:=⟨v,h,q⟩
def rT(s:aq K H p xs)(a:iQ xs j=a_ v)(q:Q v H):wm K (.ref p) (.int j) H Q:=⟨_,_,_,_,xz,xz,s,a,q⟩
def rL(s:ag K H p xs)(a:iQ xs j=a_ v)(q:Q v H):AD K (.ref p) (.int j) H Q:=⟨_,_,_,_,xz,xz,s,a,q⟩
def cL(s:ag K H p xs)(a:iQ xs j=a_ v)(q:Q v H):tC (.int j) σ H λy b=>AD K (.ref p) y b Q:=⟨_,_,_,_,xz,xz,s,a,q⟩
def vT(h:σ[i]?=a_ (a_<|.ref p))(s:aq K H p xs)(a:iQ xs j=a_ v)(q:Q v H):sQ (wm K) (nE i) (tC<|.int j) σ H Q:=⟨_,h,_,_,_,_,xz,xz,s,a,q⟩
def vF(h:σ[i]?=a_ (a_<|.ref p))(e:H p=a_ (.ins C dx fs))(c:da K C)(n:bM K C f)(l:fs.lookup f=a_ v)(q:Q v H):Hd K (nE i) f σ H Q:=⟨_,h,_,_,_,_,_,xz,e,c,n,l,q⟩
def vM(h:σ[i]?=a_ (a_<|.ref p))(e:H p=a_ (.ins C dx fs))(l:fs.lookup m=b_)(q:t σ H λvs a=>sp (.ref p::(vs++dvs)) a Q E):CL C m sp dvs E (nE i) t σ H Q:=⟨_,h,_,_,_,xz,e,l,q⟩
end
section
variable{K:u_}{σ:St}{H:Hp}{Q:VK}{p C dx:e_}{v:V}{fs:List (cr×V)}{f:cr}
def rM{R:Prop}(e:H p=a_ (.ins C dx fs))(l:fs.lookup m=b_)(q:R):∃a dx fs,V.ref p=.ref a/\H a=a_ (.ins C dx fs)/\fs.lookup m=b_/\R:=⟨_,_,_,xz,e,l,q⟩
def tk{R:Bool->Prop}{k:Bool}(q:R k):∃k',V.bl k=.bl k'/\R k':=⟨k,xz,q⟩
end
def sP(h:fu X ss t)(q:t D σ H):∃t,fu X ss t/\t D σ H:=⟨t,h,q⟩
section
variable{K:u_}{σ:St}{H:Hp}{Q:VK}{p:e_}{xs:List V}{v:V}{i j:Nat}
def kC(h:σ[i]?=a_ (a_<|.ref p))(e:H p=a_ (.tup xs))(a:xs[j]?=a_ v)(q:Q v H):sQ (wm K) (nE i) (tC<|.int (j:Int)) σ H Q:=vT h (aq.of e) (bA a) q
def Qx(e:H p=a_ (.lst xs))(a:xs[j]?=a_ v)(q:Q v H):tC (.int (j:Int)) σ H λy b=>AD K (.ref p) y b Q:=cL (σ:=σ) (ag.of e) (bA a) q
end
end L2
namespace L3
noncomputable def tests(a:List bw)(env:Env):Sem Bool:=
 forIn a c_ λc r=>if r=c_ then (do let ok <-isTrue c env (eval c env);pure (JM ok)) else pure (JM r)
section
variable{prog:k_}{w:j_}{A:h_}{R:Result->g_->Prop}{s:g_}
def aeB(J:Nat->g_->Prop)(k:∀e s',EE e s'->notedBy (bn prog w) A env (λe s'=>R (.error e) s') e s')(turn:∀n s,J n s->be (bn prog w) A (pyNext it) (λr a=>(r=b_->R (.ok .next) a)/\∀v,r=a_ v->be (bn prog w) A (JJ tg it v) (λ_ c=>be (bn prog w) A (assign tg env v) (λ_ d=>be (bn prog w) A (tests ifs env) (λok b=> (ok=c_->be (bn prog w) A (eval elt env) (λx f=>be (bn prog w) A (call (.builtin "list.append") [acc,x]) (λ_ g=>∃m,m<n/\J m g) EE f) EE b)/\ (ok=d_->∃m,m<n/\J m b)) EE d) EE c) EE a) EE s)(n:Nat)(h:J n s):codeAny (bn prog w) A (.compLoop (.ListComp elt [⟨tg,iter,ifs,0⟩] sc pos) 0 it acc env) R s:=by
 refine codeAny_loop xz J (λn s l=>?_) n h;refine wpAny_noted<|kP ?_ (λ_ _ q=>q) k;rw[compTurn_list];refine ah<|Tv<|ah (kP (turn n s l) (λr a i=>?_) λ_ _ q=>q);rcases r with _|v;exact aO<|i.1 xz
 refine ah (kP (i.2 v xz) (λ_ c o=>?_) λ_ _ q=>q);refine ah (kP o (λ_ d p=>?_) λ_ _ q=>q);refine ah (kP p (λok b j=>?_) λ_ _ q=>q);cases ok with
 | false=>exact aO ⟨xz,j.2 xz⟩
 | true=>
  refine ah<|ah (kP (j.1 xz) (λx f t=>?_) λ_ _ q=>q);exact ah (kP t (λ_ g u=>aO<|aO ⟨xz,u⟩) λ_ _ q=>q)
def adK(h:Q c_ s):be (bn prog w) A (tests [] env) Q E s:=aO h
def adJ(h:be (bn prog w) A (isTrue c env<|eval c env) Q E s):be (bn prog w) A (tests [c] env) Q E s:=by
 unfold tests;rw[JK];exact ah<|ah (kP h (λok s' q=>aO<|aO q) λ_ _ q=>q)
noncomputable def gZ(cells:List (cr×e_)):List (cr×gV)->List (cr×e_)->List (cr×e_)
 | [],acc=>acc
 | (n,k)::r,acc=>if k==.free then gZ cells r (match cells.lookup n with | some c=>(n,c)::acc | none=>acc) else gZ cells r acc
theorem UC:∀(names:List (cr×gV))(a:List (cr×e_)),(∀p∈names,p.2=.free->∃c,env.cells.lookup p.1=a_ c)->
  (forIn names a λ(x:cr×gV)(cs:List (cr×e_))=>match x with
   | (name,kind)=>if (kind==rV)=c_ then (do let c <-cellOf env name;pure (JM ((name,c)::cs))) else (pure (JM cs):Sem (ForInStep<|List<|cr×e_)))=pure (gZ env.cells names a)
 | [],a,_=>rfl
 | (n,k)::r,a,h=>by
  have ih:=λa=>UC r a λp f=>h p<|cx _ f;rw[JK]
  by_cases b:(k==rV)=c_
  .obtain⟨c,d⟩:=h (n,k) b9 (by simpa using b);have e:cellOf env n=pure c:=by unfold cellOf;rw[d]
   dsimp only;rw[ei b,e];unfold gZ;rw[ei b,d];exact ih _
  dsimp only;rw[ee b];unfold gZ;rw[ee b];exact ih _
def Kr(h:∀p∈sc.names,p.2=.free->∃c,env.cells.lookup p.1=a_ c):closureFor sc env=pure (gZ env.cells sc.names []):=by
 unfold closureFor;simp only[(UC sc.names [] h)];rfl
theorem Fp:∀(names:List (cr×gV))(a:List (cr×e_)),(∀x c,a.lookup x=a_ c->cells.lookup x=a_ c)->∀x c,(gZ cells names a).lookup x=a_ c->cells.lookup x=a_ c
 | [],a,h,x,c,e=>h x c e
 | (n,k)::r,a,h,x,c,e=>by
  unfold gZ at e
  split at e
  .refine Fp r _ (λy d q=>?_) x c e
   split at q
   .rename_i g f
    by_cases b:y=n
    .subst b;rw[Bx]at q;cases q;exact f
    rw[rS,(fi.mpr b)]at q;exact h y d q
   exact h y d q
  exact Fp r a h x c e
theorem Le:∀(names:List (cr×gV))(a:List (cr×e_))(x:cr),(∃c,a.lookup x=a_ c)->∃c,(gZ cells names a).lookup x=a_ c
 | [],a,x,h=>h
 | (n,k)::r,a,x,h=>by
  unfold gZ
  split
  .refine Le r _ x ?_
   split
   .rename_i d e
    by_cases b:x=n
    .subst b;exact⟨d,Bx⟩
    rw[rS,(fi.mpr b)];exact h
   exact h
  exact Le r a x h
theorem Fq:∀(names:List (cr×gV))(b:List (cr×e_))(x:cr),(x,rV)∈names->(∃c,cells.lookup x=a_ c)->∃c,(gZ cells names b).lookup x=a_ c
 | [],b,x,h,_=>by cases h
 | (n,k)::r,b,x,h,a=>by
  unfold gZ;obtain e|e:=bH.mp h
  .cases e;obtain⟨c,a⟩:=a;rw[ei<|beq_self_eq_true _,a];exact Le r _ n ⟨c,Bx⟩
  split
  .exact Fq r _ x e a
  exact Fq r b x e a
end
end L3
namespace L2
open L3
def nH(X:Cx)(sc:d5)(N:List cr)(s:g_)(H:Hp)(ex:List e_)(C:e_)(EE:f_->g_->Prop):Cx:=
 {X with N:=N,s₀:=s,H₀:=H,env:=compEnvC sc (gZ X.env.cells sc.names []) C X.env,outer:=X.stack,ex:=ex,fn:=λ_=>d_,pn:=[],xe:=EE}
def A0(X:Cx)(sc:d5)(N:List cr)(s:g_)(H:Hp)(ex:List e_)(C:e_):Cx:=nH X sc N s H ex C λ_ _=>False
structure cF(X:Cx)(sc:d5)(N:List cr)(idx:List Nat):Prop where
 kind:sc.kind=.function
 Ge:∀y∈sc.names,y.2≠.cell
 locs:∀y∈sc.names,y.2=.local->sc.names.lookup y.1=a_ .local
 frees:∀y∈sc.names,y.2=.free->X.env.scope.names.lookup y.1=a_ .cell
 le:idx.length<=N.length
 cap:∀(k i:Nat)(x:cr),idx[k]?=a_ i->N[k]?=a_ x->X.N[i]?=a_ x/\sc.names.lookup x=a_ .free
noncomputable def lH(idx:List Nat)(n:Nat)(σ:St):St:=idx.map (λi=>(σ[i]?).join)++cQ (n-idx.length) b_
def Mh(h:idx.length<=n):(lH idx n σ).length=n:=by
 unfold lH;rw[dG,aA,tV];lia
def Mi{idx:List Nat}{n k:Nat}(h:(lH idx n σ)[k]?=a_ (a_ v)):∃i,idx[k]?=a_ i/\σ[i]?=a_ (a_ v):=by
 unfold lH at h
 by_cases a:k<idx.length
 .rw[Bv (by simpa using a),cc]at h;rcases e:idx[k]? with _|i
  ·rw[e]at h;cases h
  rw[e]at h;have h':(σ[i]?).join=a_ v:=dj h;refine ay i xz ?_;cases b:σ[i]? with
  | none=>rw[b]at h';cases h'
  | some o=>rw[b]at h';rw[show o=a_ v from h']
 rw[Jk (by simpa using a),SD]at h
 split at h
 .cases h
 cases h
noncomputable def rl(env:Env)(p:cr×gV):cr×gV:=if (p.2==rV&&env.scope.kind==.function&&env.kindOf p.1==a_ .cell)=c_ then (p.1,gV.cell) else p
def NG(h:(k==rV&&env.scope.kind==.function&&env.kindOf n==a_ .cell)=c_):rl env (n,k)=(n,.cell):=ei h
def WM(h:¬(k==rV&&env.scope.kind==.function&&env.kindOf n==a_ .cell)=c_):rl env (n,k)=(n,k):=ee h
theorem TH(b:env.scope.kind=.function):∀{names:List (cr×gV)}{x:cr},names.lookup x=a_ .free->env.kindOf x=a_ .cell->(names.map<|rl env).lookup x=a_ .cell
 | [],_,h,_=>by simp at h
 | (n,k)::r,x,h,hc=>by
  rw[fv]
  by_cases c:x=n
  .subst c;rw[Bx]at h;cases h;rw[NG (by rw[b,hc];decide),Bx]
  have a:=fi.mpr c;rw[rS,a]at h;have e:=(@TH env b r x) h hc
  by_cases q:(k==rV&&env.scope.kind==.function&&env.kindOf n==a_ .cell)=c_
  .rw[NG q,rS,a];exact e
  rw[WM q,rS,a];exact e
theorem JW:∀{names:List (cr×gV)}{x:cr}{kd:gV},(names.map<|rl env).lookup x=a_ kd->(x,kd)∈names\/(x,rV)∈names
 | [],_,_,h=>by simp at h
 | (n,k)::r,x,kd,h=>by
  have ih:=@JW env r x kd;rw[fv]at h
  by_cases q:(k==rV&&env.scope.kind==.function&&env.kindOf n==a_ .cell)=c_
  .rw[NG q]at h
   by_cases a:x=n
   .subst a
    have b:k=.free:=by
     rw[jy,jy]at q;exact eq_of_beq q.1.1
    subst b;exact .inr b9
   have c:=fi.mpr a;rw[rS,c]at h;exact(ih h).elim (λe=>.inl<|cx _ e) λe=>.inr<|cx _ e
  rw[WM q]at h
  by_cases a:x=n
  .subst a;rw[Bx]at h;cases h;exact .inl b9
  rw[rS,(fi.mpr a)]at h;exact(ih h).elim (λe=>.inl<|cx _ e) λe=>.inr<|cx _ e
def dc.adopt(I:dc X p_ σ H s)(hn:H a=b_)(g:X.s₀.zS<=a)(h:a≠X.env.locals)(i:∀x c,X.env.cells.lookup x=a_ c->c≠a)(j:∀p∈X.pn++p_,p.1≠a)(new:fq X.prog X.w (db H a o) s.heap a o):dc X p_ σ (db H a o) s:=by
 have ne:∀b u,H b=a_ u->b≠a:=λb u e=>bf e hn;refine⟨I.ok,I.os,I.bare,⟨I.base.keep,I.base.slot,λb u q n k=>?_,I.base.there,λb xs q=>?_,λb u xs q=>?_,λb ps q=>?_⟩,I.loc,I.cell,?_,λx c e=>?_,λp d=>?_,λb u q=>?_,I.len⟩
 .rw[aj<|dH<|ip (bV q) g];exact I.base.free b u q n k
 .have e:=I.base.ux b _ q;rw[aj<|ne b _ e];exact e
 .have e:=I.base.sM b u _ q;rw[aj<|ne b _ e];exact e
 .exact oE (I.base.sF b _ q) λm e=>⟨m,by rw[aj<|ne b _ e];exact e⟩
 .rw[aj<|iL h];exact I.free
 .rw[aj<|i x c e];exact I.my x c e
 .exact gH (I.pin p d) λl r t=>gg l ((aj<|j p d)▸r) t
 by_cases f:b=a
 .subst f;rw[ao]at q;cases q;exact new
 rw[aj f]at q;exact(I.aU b u q).uz (λ_ _ _ z=>z) (λc z=>by rw[aj<|ne c _ z];exact z) λc xs z=>by rw[aj<|ne c _ z];exact z
section
variable{X:Cx}{p_:List (e_×cP)}{σ:St}{H:Hp}{s:g_}{sc:d5}{N:List cr}{idx:List Nat}{fp:List e_}
noncomputable abbrev eV:cP:={cls:=.type "list",data:=.seq ([]:List f_).toArray}
abbrev mj(s:g_):Shared:={s with heap:=s.heap.push eV}
def aeQ(I:dc X p_ σ H s)(h:jG X p_ H b):X.base.get? b=none:=by
 rcases e:X.base.get? b with _|o;rfl
 obtain z|z:=h.2.2.2.1
 .exact eu z (I.ok.yo b o e)
 exact eu (ip (bV e)<|dC I.ok.nK z) (mU _)
def ago(I:dc X p_ σ H s)(S:cF X sc N idx)(g:∀b∈fp,jG X p_ H b)(G:∀b∈fp,∃o,s.heap.get? b=a_ o){m:cr->Option f_}{t:Nat}(J:h'.Ns (s.heap.push eV).zH m)(j:∀b o,(s.heap.push eV).get? b=a_ o->h'.get? b=a_ o):dc (nH X sc N (mj s) H (s.zS::fp) (s.heap.push eV).zH EE) [] (lH idx N.length σ) H {mj s with heap:=h',toks:=t}:=by
 have f:dc X _ _ H (mj s):=I.kept λb o e=>bE _ e;have B:(s.heap.push eV).zH=s.zS+1:=lZ _ _;have d:∀x c,(gZ _ _ []).lookup x=a_ c->X.env.cells.lookup x=a_ c:=Fp sc.names [] (λx c e=>by cases e)
 have K:∀x c,(gZ X.env.cells sc.names []).lookup x=a_ c->c<s.zS:=λx c e=>by
  exact oE (I.cell x c<|d x c e) λv z=>z.lt
 have qV:∀b∈fp,b<s.zS:=λb a=>by
  exact oE (G b a) λo e=>bV e
 have L:∀x,((relabel sc X.env).names.lookup x=a_ .cell\/(relabel sc X.env).names.lookup x=a_ .free)->(x,rV)∈sc.names:=λx h=>by
  obtain h|h:=h
  .rcases JW h with e | e
   .exact eu xz (S.Ge _ e)
   exact e
  rcases JW h with e | e
  .exact e
  exact e
 have has:∀x,(x,rV)∈sc.names->∃c,(gZ X.env.cells sc.names []).lookup x=a_ c:=λx e=>
  Fq sc.names [] x e (I.ok.has x<|.inl<|S.frees _ e xz)
 refine⟨⟨I.ok.mod,S.kind,I.ok.glob,I.ok.blt,az _,λx y c n w=>I.ok.inj x y c (d x c n)<|d y c w,λx h=>has x<|L x h,λx c h=>(by cases h),I.ok.hd,I.ok.frames,.inl xz,λb a=>?_,f.bs,dC I.ok.nK f.sz,λb o e a=>?_,λb a=>?_,f.stack,f.Mr⟩,I.os ▸ xz,I.bare,Un.kept j,⟨m,J,λk x v n w R=>?_⟩,λx c e=>?_,f.aU.fresh<|az _,λx c e=>I.my x c<|d x c e,λp M=>eu (show p∈([]:List (e_×cP)) from M) (by simp),f.aU.kept j,Mh S.le⟩
 .obtain e|a:=bH.mp a
  .subst e;exact⟨by rw[B];exact dH<|rP _,λx c e=>dH<|K x c e⟩
  refine⟨by rw[B];exact dH<|EA<|qV b a,λx c e=>(g b a).2.2.2.2.1 x c<|d x c e⟩
 .obtain z|a:=bH.mp a
  .subst z;exact eu (bV<|I.bk _ _ e)<|mU _
  have e':X.base.get? b=a_ o:=e;rw[aeQ I<|g b a]at e';cases e'
 .intro O;have C:=I.Na b O;obtain z|a:=bH.mp a
  .subst z;obtain e|e:=bH.mp C
   .exact eu I.lt (by rw[<-e];exact mU _)
   exact I.ZN (az _) e
  obtain e|e:=bH.mp C
  .exact(g b a).2.1 e
  exact(g b a).2.2.1 e
 .refine aB (Mi w) λi h1 h2=>oA (S.cap k i x h1 n) λh3 h4=>?_;have D:=t_ h4;have A:=S.frees _ D rfl;refine aB I.loc λT U P=>aB (P i x v h3 h2<|.inr<|.inl A) λu r l=>ay u r<|.inr ⟨.inl<|TH I.ok.kind h4 A,?_⟩;obtain⟨q,_⟩|⟨_,c,Q,z⟩:=l
  .have E:X.env.scope.names.lookup x=a_ .local:=q;rw[A]at E;cases E
  refine oE (has x D) λV F=>?_;have:=d x _ F;rw[Q]at this;cases this;exact ay c F (z.keeps λb o e=>j b o<|bE _ e)
 exact oE (I.cell x c<|d x c e) λv z=>⟨v,z.keeps λb o e=>j b o<|bE _ e⟩
def agn(I:dc X p_ σ H s)(d:∀b∈fp,jG X p_ H b)(a:dc (nH X sc N (mj s) H (s.zS::fp) (s.heap.push eV).zH EE) pl σ' H' s'):dc X p_ σ H' s':=by
 have f:dc X _ _ H (mj s):=I.kept λb o e=>bE _ e;refine f.Zj (a.os.fT xz) a.base a.aU a.bare λb c=>?_
 have q:jG X p_ H b:=by
  obtain e|c:=bH.mp c
  .subst e;exact I.jX (az _)<|I.aU.fresh<|az _
  exact d b c
 exact⟨q.2.2.2.1,q.2.1,q.2.2.2.2.1,q.2.2.2.2.2⟩
end
abbrev Dv:=St->Hp->(Bool->Hp->Prop)->Prop
def jo:Dv:=λ_ H Q=>Q c_ H
def Dx(X:Cx)(a:List bw)(t:Dv):Prop:=
 ∀(p_:List (e_×cP))(s:g_)(σ:St)(H:Hp)(Q:Bool->Hp->Prop),dc X p_ σ H s->t σ H Q->be (bn X.prog X.w) X.A (tests a X.env) (TP X p_ σ Q) X.xe s
def eQ:Dx X [] jo:=λ_ _ _ H _ I h=>adK ⟨H,I,h⟩
def xS(h:PT X c t):Dx X [c] t:=λp_ s σ H Q I q=>adJ<|h _ s _ H Q I q
def CY(n:Nat)(σ a:St):Prop:=a.length=σ.length/\∀i,i<n->a[i]?=σ[i]?
def C0(J:It)(g:TG)(f:Dv)(h:TE)(j:St)(k:Hp)(K:List V->Hp->Prop):Prop:=
 ∃W:Nat->Nat->List V->Hp->Prop,(∃m,W 0 m [] k)/\∀i m ys H,W i m ys H->
  (J.stop i H/\K ys H)\/
  (J.go i H/\ys.length<bZ/\∃N:List V->Hp->Prop,(∀a H',N a H'->∃c,c<m/\W (i+1) c a H')/\
   ∀x H',J.wH i H x H'->g x j H' λd l=>f d l λb e=>if b=c_ then h d e (λy n=>N (ys++[y]) n) else N ys e)
def Ob(wi:TI)(g:TG)(b:Dv)(c:TE)(idx:List Nat)(n:Nat):TE:=λσ H Q=>wi σ H λJ d=>
 C0 J g b c (lH idx n σ) d λys a=>ys.length<=bZ/\∀p,a p=b_->Q (.ref p) (db a p<|.lst ys)
def CZ(n:Nat)(g:TG):Prop:=∀x σ H Q,g x σ H Q->g x σ H λa b=>Q a b/\CY n σ a
def L6(h:n<=k):CY n σ (σ.set k v):=⟨fe,λi hi=>lC li⟩
def eA(h:n<=k):CZ n (hX k):=λx σ H Q q=>⟨q,L6 h⟩
def BN{K:u_}(h:n<=k)(h':n<=l):CZ n (ZS K 2<|OJ (hX k)<|OJ (hX l) ZT):=λx σ H Q q=>by
 refine ou q λa xs e f g b=>cG b λv r j b=>fk b λc m o p q=>⟨a,⟨xs,e,f,g,v,r,j,c,m,o,p,q,?_⟩⟩;have k1:CY n _ (σ.set k<|a_ v):=L6 h;have d:CY n _ ((σ.set k<|a_ v).set l<|a_ c):=L6 h';exact⟨d.1.fT k1.1,λi hi=>(d.2 i hi).fT<|k1.2 i hi⟩
def Vu{X:Cx}{idx:List Nat}{n:Nat}(I:dc X p_ σ2 H s)(k:CY idx.length (lH idx n σ) σ2):dc X p_ (lH idx n σ) H s:=
 I.weak k.1.g8 λi v e=>by
  refine aB (Mi e) λj h1 _=>?_;rw[k.2 i (cb.mp h1).1];exact e
def dU{K:List V->Hp->Prop}(P:Nat->List V->Hp->Prop)(hn:n<=bZ)(f:P 0 [] H1)(h:∀i ys H,P i ys H->ys.length<=i)(j:∀i ys H,i<n->P i ys H->J.go i H)(k:∀ys H,P n ys H->J.stop n H)(l:∀i ys H,i<n->P i ys H->∀x H',J.wH i H x H'->g x σ0 H' λc o=>tc c o λb d=>if b=c_ then te c d (λy q=>P (i+1) (ys++[y]) q) else P (i+1) ys d)(hd:∀ys H,P n ys H->K ys H):C0 J g tc te σ0 H1 K:=by
 refine⟨λi m ys H=>m=n-i/\i<=n/\P i ys H,⟨n,by simp,ba _,f⟩,?_⟩;rintro i m ys H ⟨rfl,hi,p⟩
 by_cases a:i<n
 .refine .inr (gg (j i _ H a p) (by have:=h i _ H p;lia) ⟨P<|i+1,λs H' r=>⟨n-(i+1),om,xz,a,r⟩,l i _ H a p⟩)
 have e:i=n:=li;subst e;exact .inl ⟨k _ H p,hd _ H p⟩
section
variable{X:Cx}{tg elt iter:bw}{ifs:List bw}{wi:TI}{g:TG}{tc:Dv}{te:TE}{sc:d5}{N:List cr}{idx:List Nat}{pos:Pos}
def Wm{K:List V->Hp->Prop}{RR:e_->f_->Result->g_->Prop}(hc:X.calm=c_)(S:cF X sc N idx)(gk:CZ idx.length g){fp:List e_}{tn:Nat->i_->Prop}{J:It}(hg:PG (nH X sc N (mj s) H (s.zS::fp) (s.heap.push eV).zH EE) tg g)(ht:Dx (nH X sc N (mj s) H (s.zS::fp) (s.heap.push eV).zH EE) ifs tc)(he:PE (nH X sc N (mj s) H (s.zS::fp) (s.heap.push eV).zH EE) elt te)(I:dc X p_ σ H s)(T:Turn X.prog X.w X.K tg J fp it tn)(st:tn 0 s.heap)(R:∀b∈fp,jG X p_ H b)(hW:C0 J g tc te (lH idx N.length σ) H K)(Sb:∀e s',EE e s'->notedBy (bn X.prog X.w) X.A (compEnvC sc (gZ X.env.cells sc.names []) (s.heap.push eV).zH X.env) (λe s'=>RR (s.heap.push eV).zH (.ref s.zS) (.error e) s') e s')(hR:∀(s':g_)(ys:List V)(H':Hp)(m:cr->Option f_)(c:List f_)(n:Nat),K ys H'->dc X p_ σ H' s'->s'.heap.Ns (s.heap.push eV).zH m->H' (s.heap.push eV).zH=b_->H' s.zS=b_->di ys c->s'.heap.get? s.zS=a_ {cls:=.type "list",data:=.seq c.toArray n}->RR (s.heap.push eV).zH (.ref s.zS) (.ok .next) s'):be (bn X.prog X.w) X.A (newList []) (λacc s₃=>be (bn X.prog X.w) X.A (newFunctionEnv sc X.env.globals (gZ X.env.cells sc.names []) [] X.env.qual b_ .none (a_ X.env)) (λaas s₄=>codeAny (bn X.prog X.w) X.A (.compStart (.ListComp elt [⟨tg,iter,ifs,0⟩] sc pos) 0 (.ref it) acc {aas with scope:=relabel sc X.env}) (RR aas.locals acc) s₄) E s₃) E s:=by
 refine aB hW λW ab turn=>oE ab λm0 w0=>rK<|wpAny_newFunctionEnv S.Ge (by intro y hy;cases hy) (λh' jJ IH=>?_) S.kind;have hC:(s.heap.push eV).zH=s.zS+1:=lZ _ _;have F:∀b o,(s.heap.push _).get? b=a_ o->h'.get? b=a_ o:=λb o e=>(IH.2 b<|dH<|bV e).fT<|bE _ e;have ho:∀b∈fp,∃o,s.heap.get? b=a_ o:=λb a=>let ⟨o,e,_⟩:=T.obj _ _ st b a;⟨o,e⟩
 have j:=ago (EE:=EE) (t:=s.toks+([]:List (cr×f_)).length) I S R ho jJ F
 have fn:∀b∈fp,b≠s.zS:=λb a=>by
  exact oE (ho b a) λo e=>dH<|bV e
 have U:∀{H':Hp}{pl:List (e_×cP)},(∀b∈fp,H' b=b_)->(∀p∈pl,p.1=s.zS)->∀b∈fp,jG (nH X sc N (mj s) H (s.zS::fp) (s.heap.push eV).zH EE) pl H' b:=λ{H' pl}hn d b a=>by
  refine⟨(hn b a),((j.ok.wO b<|cx _ a).1),(j.ok.wy b<|cx _ a),(.inl<|cx _ a),((j.ok.wO b<|cx _ a).2),(λp Y=>?_)⟩;have yX:p∈pl:=by simpa[nH]using Y
  rw[d p yX];exact iL<|fn b a
 have loop:codeAny (bn X.prog X.w) X.A (.compLoop (.ListComp elt [⟨tg,iter,ifs,0⟩] sc pos) 0 (.ref it) (.ref s.zS)<|compEnvC sc (gZ X.env.cells sc.names []) (s.heap.push eV).zH X.env)
   (RR (s.heap.push eV).zH<|.ref s.zS) {mj s with heap:=h',toks:=s.toks+([]:List (cr×f_)).length}:=by
  refine aeB (EE:=EE) (λn s'=>∃i ys H' c k,dc (nH X sc N (mj s) H (s.zS::fp) (s.heap.push eV).zH EE) [] (lH idx N.length σ) H' s'/\tn i s'.heap/\(∀b∈fp,H' b=b_)/\H' s.zS=b_/\
   di ys c/\s'.heap.get? s.zS=a_ {cls:=.type "list",data:=.seq c.toArray k}/\W i n ys H') Sb ?_ m0 ?_
  .rintro n Z ⟨i,ys,l,c,f,I3,rm,Ei,G,L,ac3,w3⟩
   have M:∀{H':Hp},H' s.zS=b_->jG (nH X sc N (mj s) H (s.zS::fp) (s.heap.push eV).zH EE) [] H' s.zS:=λ{H'}hn=>
    ⟨hn,(j.ok.wO _ b9).1,j.ok.wy _ b9,.inl b9,(j.ok.wO _ b9).2,λp Y=>eu (show p∈([]:List (e_×cP)) from Y)<|by simp⟩
   have P3:dc (nH X sc N (mj s) H (s.zS::fp) (s.heap.push eV).zH EE) [(s.zS,{cls:=.type "list",data:=.seq c.toArray f})] (lH idx N.length σ) l Z:=I3.vN λp d=>by
    have e:p=(s.zS,{cls:=.type "list",data:=.seq c.toArray f}):=by simpa using d
    subst e;exact⟨ac3,G,((M G).2.1),((M G).2.2.1),(λv z=>by cases z)⟩
   have one:∀p∈[((s.zS,{cls:=.type "list",data:=.seq c.toArray f}):e_×cP)],p.1=s.zS:=λp d=>by
    have e:p=(s.zS,{cls:=.type "list",data:=.seq c.toArray f}):=by simpa using d
    rw[e]
   obtain⟨stop,kq⟩|⟨go,hz,NN,hNN,step⟩:=turn i n ys l w3
   .refine aT (T.done (nH X sc N (mj s) H (s.zS::fp) (s.heap.push eV).zH EE) xz xz xz hc i _ Z _ l _ P3 (U Ei one) rm stop) λr s4⟨O,P⟩=>⟨λ_=>?_,λv e=>(by rw[O]at e;cases e)⟩;exact aB P.loc λB Eb _=>hR s4 ys l B c f kq (agn I R P) Eb P.free G L (P.pin _<|gh _ b9).1
   refine aT (T.item (nH X sc N (mj s) H (s.zS::fp) (s.heap.push eV).zH EE) xz xz xz hc i _ Z _ l _ P3 (U Ei one) rm go) λr s4⟨u,O,h4⟩=>⟨λe=>(by rw[O]at e;cases e),λv e=>?_⟩;rw[O]at e;cases e;refine aT h4 λ_ s5⟨x,H5,I5,r5,y5,C,Sf⟩=>?_;have Sr:=I5.pinned (U Sf one)<|T.obj _ _ C;refine aT (hg _ s5 _ H5 x u _ Sr r5<|gk _ _ _ _<|step x H5 y5) λ_ s6 zq=>fk zq λσ6 H6 I6 q6 k6=>thT (ht _ s6 σ6 H6 _ I6 q6) λok s7 H7 D Q=>⟨λe=>?_,λe=>?_⟩
   .subst e;rw[ei rfl]at Q;refine lV (he _ s7 σ6 H7 _ D Q) λv s8 y H8 I8 r8 n8=>aB (hNN _ _ n8) λB hm w8=>?_;have h:=I8.pin (s.zS,{cls:=.type "list",data:=.seq c.toArray f})<|gh _<|pf _ b9;have hlen:=L.length;refine wpAny_list_append_plain (items:=c.toArray) ⟨f,h.1⟩ (λh9 pl9 sb9=>?_) (by rw[dA];lia);have So:=I8.vN λp d=>I8.pin p (gh _<|gh _ d)
    have I9:=So.turned (h':=h9) (t':=s8.toks) (it:=s.zS) (λb o a e=>(sb9.2 b a).fT e) h.2.1 (M h.2.1).2.1 (.inl b9) (M h.2.1).2.2.2.2.1 (λp d=>by
     have iV:p∈CD fp s5.heap:=by simpa[nH]using d
     exact fn p.1 (U7 iV).1)
    refine oE pl9 λk9 e9=>⟨B,⟨hm,i+1,ys++[y],H8,c++[v],k9,Vu (I9.vN λp d=>eu d<|by simp) k6,T.keep _ _ _ C λb a o e=>?_,λb a=>?_,h.2.1,L.append<|.cons r8 .nil,?_,w8⟩⟩
    .have q:=(So.pin (b,o)<|gh _<|Aa a e).1;exact(sb9.2 b<|fn b a).fT q
    .exact aB (T.obj _ _ C b a) λo e _=>(So.pin (b,o)<|gh _<|Aa a e).2.1
    rw[e9];simp
   subst e;rw[ee dO]at Q;refine aB (hNN _ _ Q) λB hm w7=>?_;have h:=D.pin (s.zS,{cls:=.type "list",data:=.seq c.toArray f})<|gh _<|pf _ b9;exact⟨B,⟨hm,i+1,ys,H7,c,f,Vu (D.vN λp d=>eu d<|by simp) k6,T.keep _ _ _ C λb a o e=>(D.pin (b,o)<|gh _<|gh _<|Aa a e).1,λb a=>aB (T.obj _ _ C b a) λo e _=>(D.pin (b,o)<|gh _<|gh _<|Aa a e).2.1,h.2.1,L,h.1,w7⟩⟩
  exact⟨0,([]),H,([]),0,j,(T.keep _ _ _ st λb a o e=>F b o<|bE _ e),(λb a=>(R b a).1),I.aU.fresh<|az _,.nil,(F _ _<|eO _ xz),w0⟩
 exact codeAny_compStart_list loop<|T.self _ 0 _ _ _ (T.keep _ _ _ st λb a o e=>F b o<|bE _ e) loop
def eB(k:X.calm=c_)(S:cF X sc N idx)(l:CZ idx.length g)(hi:PI X tg iter wi)
  (q:∀s H ex C,PG (A0 X sc N s H ex C) tg g) (r:∀s H ex C,Dx (A0 X sc N s H ex C) ifs tc) (t:∀s H ex C,PE (A0 X sc N s H ex C) elt te)
  (u:∀x,SU iter X.env x=pure x:=by intro _;rfl):PE X (.ListComp elt [⟨tg,iter,ifs,0⟩] sc pos) (Ob wi g tc te idx N.length):=by
 intro p_ s σ H Q I h;rw[eval_ListComp];refine aaO xz u (Kr λp w e=>I.ok.has _<|.inl<|S.frees p w e) S.kind S.locs (aT (hi _ s _ H _ I h) λv s1 h1=>aT h1 λP s2 h2=>BJ h2 λit fp tn J R e a T y A B=>?_);subst e;refine Wm (RR:=λC U=>compPost _ _ _ _ _ _ C) k S l (q _ _ _ _) (r _ _ _ _) (t _ _ _ _) a T y A B (λ_ _ z=>z.elim) λs' ys H' m D n f E F G i K L=>?_;have c:(s2.heap.push eV).zH=s2.zS+1:=lZ _ _;have fa:=a.jX (az _)<|a.aU.fresh<|az _;have d:jG X _ _ (s2.heap.push eV).zH:=a.jX (c▸kr _)<|a.aU.fresh<|c▸kr _;have j:=a.sz;refine ay m F λh' M=>(dN (.ref _) _ ((dc.adopt (o:=.lst _) E i j fa.2.1 fa.2.2.2.2.1 fa.2.2.2.2.2 ⟨f.1,D,n,K,L⟩).turned (λb o O e=>(M.2 b O).fT e) ?_ d.2.1 (.inr<|by rw[c];exact vx j) d.2.2.2.2.1 d.2.2.2.2.2) xz<|f.2 _ i);rw[aj<|c▸JF _];exact G
def BK(t:X.N.Nodup)(u:X.N[i]?=a_ x)(j:X.env.scope.names.lookup x=a_ .local)(w:X.calm=c_)(S:cF X sc N idx)(y:CZ idx.length g)(hi:PI X tg iter wi)
  (A:∀s H ex C,PG (A0 X sc N s H ex C) tg g) (B:∀s H ex C,Dx (A0 X sc N s H ex C) ifs tc) (E:∀s H ex C,PE (A0 X sc N s H ex C) elt te)
  (F:autoParam (Fb (.ListComp elt [⟨tg,iter,ifs,0⟩] sc pos) (a_<|.Name x pos') aoe.line X.env=pure true) a8)
  (G:∀x,SU iter X.env x=pure x:=by intro _;rfl):PS X (.Assign [.Name x pos'] (.ListComp elt [⟨tg,iter,ifs,0⟩] sc pos) aoe) (Ph (Ob wi g tc te idx N.length)<|hX i):=by
 intro p_ s σ H D I h;rw[exec_Assign_Name_used _ _ _ _ F];refine ah<|Tv<|ah ?_;have K:=Kr λp L e=>I.ok.has _<|.inl<|S.frees p L e;refine ah (kP (aaO xz G K S.kind S.locs<|aT (hi _ s _ H _ I h) λv s1 h1=>aT h1 λIC s2 h2=>?_) (λ_ s' q=>aO<|aO q) λ_ _ q=>q);obtain⟨it,fp,tn,J,H2,e,c,T,M,O,P⟩:=h2;subst e;refine Wm (RR:=λC acc=>compPost _ _ _ _ _ _ C) w S y (A _ _ _ _) (B _ _ _ _) (E _ _ _ _) c T M O P (λ_ _ z=>z.elim) λs' ys H' m Q n k R U V l W Y=>?_;have f:(s2.heap.push eV).zH=s2.zS+1:=lZ _ _;have fa:=c.jX (az _)<|c.aU.fresh<|az _;have d:jG X _ _ (s2.heap.push eV).zH:=c.jX (f▸kr _)<|c.aU.fresh<|f▸kr _;have r:=c.sz;have Z:=dc.adopt (o:=.lst _) R l r fa.2.1 fa.2.2.2.2.1 fa.2.2.2.2.2 ⟨k.1,Q,n,W,Y⟩
 have apn:db H' s2.zS (.lst ys) (s2.heap.push eV).zH=none:=by
  rw[aj<|f▸JF _];exact V
 refine wpAny_assign_Name<|UQ (v:=.ref _) Z t u (.inl j) xz (λs3 I3⟨a,sb,ha⟩=>?_)<|.inr j
 have aC:(s2.heap.push eV).zH≠a:=by
  obtain e|e:=ha
  .rw[e];exact d.2.1
  exact iL (d.2.2.2.2.1 x a e)
 refine ay m (U.sameBut sb aC) λh' sb'=>(gm _ _ (I3.turned (λb o hb e=>(sb'.2 b hb).fT e) apn d.2.1 (.inr<|by rw[f];exact vx r) d.2.2.2.2.1 d.2.2.2.2.2)<|k.2 _ l)
end
end L2
namespace L2
open PySem.W
section
variable{cmp:Nat->Nat->(Bool->g_->Prop)->g_->Prop}{r:Nat->Int}{n:Nat}{p:Array Nat}{s:g_}
noncomputable def rk(r:Nat->Int)(p:Array Nat)(k:Nat):Int:=r<|p.getD k 0
def i6(n:Nat)(p:Array Nat):Prop:=p.Perm (List.range n).toArray
def um(r:Nat->Int)(p:Array Nat)(m:Nat):Prop:=∀i j,i<j->j<m->rk r p i<rk r p j
def i6.size(g:i6 n p):p.size=n:=by
 have:=g.size_eq;simpa using this
def i6.lt(g:i6 n p)(a:k<n):p.getD k 0<n:=by
 have b:=g.size;have hm:p[k]'(by exact wg)∈p:=Array.getElem_mem _;have:=(g.mem_iff).mp hm;simp only[xJ,show k<p.size by exact wg,dif_pos];simpa using this
def i6.ne(g:i6 n p)(hi:i<n)(a:j<n)(h:i≠j):p.getD i 0≠p.getD j 0:=by
 have b:=g.size;have nd:=(Sw.mp g).nodup_iff.mpr (by simpa using List.nodup_range);intro e;simp only[xJ,show i<p.size by exact wg,show j<p.size by exact wg,dif_pos]at e;have e':p.toList[i]'(by simpa using (by exact wg:i<p.size))=p.toList[j]'(by simpa using (by exact wg:j<p.size)):=by simpa using e
 obtain q|q:=SQ h
 .exact km.mp nd i j _ _ q e'
 exact km.mp nd j i _ _ q e'.g8
variable(hr:∀i j,i<n->j<n->r i=r j->i=j)(hc:∀i j(C:Bool->g_->Prop),i<n->j<n->i≠j->C (decide (r i<r j)) s->cmp i j C s)
include hr hc
theorem Ov(g:i6 n p)(hi:i<n)(a:j<n)(h:i≠j):rk r p i≠rk r p j:=λe=>g.ne hi a h<|hr _ _ (g.lt hi) (g.lt a) e
theorem NX(g:i6 n p):∀f m,1<=m->m+f<=n->um r p m->(∀l,m<=l->l<=m+f->um r p l->(l<m+f->rk r p l<rk r p (l-1))->Q l s)->(kas_asc p f m).kasWp cmp Q s
 | 0,m,h1,h2,ri,k=>k m (az _) (az _) ri λh=>eu h<|mU _
 | f+1,m,h1,h2,ri,k=>by
  refine hc _ _ _ (g.lt li) (g.lt li) (g.ne om om li) ?_
  by_cases o:r (p.getD m 0)<r (p.getD (m-1) 0)
  .simp only[o,decide_true,if_true];exact k m (az _) li ri λ_=>o
  .simp only[o,decide_false,tX,if_false];refine NX g f (m+1) li li (λi j q u=>?_) λl a b c d=>k l li li c λh=>d li
   by_cases e:j=m
   .subst e
    have h3:rk r p (j-1)<rk r p j:=by
     have:=Ov hr hc g (i:=j-1) (j:=j) li li li;unfold rk at this ⊢;omega
    by_cases t:i=j-1
    .subst t;exact h3
    .have:=ri i (j-1) li om;lia
   .exact ri i j q li
theorem Xe(g:i6 n p):∀f m,1<=m->m+f<=n->(∀i j,i<j->j<m->rk r p j<rk r p i)->(∀d,m<=d->d<=m+f->(∀i j,i<j->j<d->rk r p j<rk r p i)->Q (p,d,0) s)->(kas_desc f p m 0).kasWp cmp Q s
 | 0,m,h1,h2,ri,k=>k m (az _) (az _) ri
 | f+1,m,h1,h2,ri,k=>by
  refine hc _ _ _ (g.lt om) (g.lt om) (g.ne om om om) ?_
  by_cases h:r (p.getD m 0)<r (p.getD (m-1) 0)
  .simp only[h,decide_true,if_true];rw[ee li];refine Xe g f (m+1) om om (λi j l q=>?_) λd a b c=>k d om om c
   by_cases e:j=m
   .subst e;have h3:rk r p j<rk r p (j-1):=h
    by_cases o:i=j-1
    .subst o;exact h3
    .have:=ri i (j-1) om om;lia
   .exact ri i j l om
  .simp only[h,decide_false,tX,if_false];refine hc _ _ _ (g.lt li) (g.lt li) (g.ne om om li) ?_
   have h3:r (p.getD (m-1) 0)<r (p.getD m 0):=by
    have:=Ov hr hc g (i:=m-1) (j:=m) om om om;unfold rk at this;omega
   simp only[h3,decide_true,if_true];exact k m (az _) om ri
theorem XS(g:i6 n p)(hm:m<=n)(a:k<m):rk r (kas_rev p 0 m) k=rk r p (m-1-k):=by
 have b:=g.size;unfold rk kas_rev;rw[Jj,getElem?_mirror_all li,ei ⟨ba _,a⟩,Jj]
 congr 3
 lia
theorem aeT(g:i6 n p)(h1:1<=m)(hm:m<=n)(f:∀i j,i<j->j<m->rk r p j<rk r p i)(k:∀d e,1<=d->d<=n->i6 n e->um r e d->Q (d,e) s):(kas_tail3 m n p).kasWp cmp Q s:=by
 unfold kas_tail3;rw[EJ];have g':i6 n (kas_rev p 0 m):=(mirror_perm _ _ _ _).fT g;refine NX hr hc g' _ _ h1 li (λi j l h=>?_) λd a b c _=>k _ _ (by exact wj) li g' c;rw[XS hr hc g hm li,XS hr hc g hm h];exact f _ _ om om
theorem agm(g:i6 n p)(h1:1<=n)(k:∀c d,1<=c->c<=n->i6 n d->um r d c->Q (c,d) s):(kas_count n p).kasWp cmp Q s:=by
 unfold kas_count;rw[EJ];refine NX hr hc g _ _ (az _) om (λi j h l=>eu h li) λm a b f o=>?_
 by_cases e:m=n
 .rw[ei (by simpa using e)];exact k m p (by exact w0) li g f
 rw[ee (by simpa using e)]
 by_cases h2:m > 1
 .rw[ei h2];refine hc _ _ _ (g.lt li) (g.lt li) (g.ne om om li) ?_;have h3:=f 0 (m-1) om om;unfold rk at h3;simp only[h3,decide_true,if_true];exact k m p (by exact w0) li g f
 rw[ee h2];have hm:m=1:=li;subst hm;unfold kas_descPart;rw[EJ];refine Xe hr hc g _ _ (by exact xd) li (λi j h l=>?_) λc a b q=>?_
 .have:i=0/\j=1:=li;rw[this.1,this.2];exact o li
 exact aeT hr hc g li li q k
theorem LO(g:i6 n p)(c:k<n)(d:um r p k):∀f l u,l<=u->u<=k->u-l<=f->(∀i,i<l->rk r p i<rk r p k)->(∀i,u<=i->i<k->rk r p k<rk r p i)->(∀l,l<=k->(∀i,i<l->rk r p i<rk r p k)->(∀i,l<=i->i<k->rk r p k<rk r p i)->Q l s)->(kas_place p k f l u).kasWp cmp Q s
 | 0,l,u,h1,h2,h3,a,b,q=>q l (by exact wj) a λi hi c=>b i li c
 | f+1,l,u,h1,h2,h3,a,b,q=>by
  unfold kas_place
  by_cases e:l ≥ u
  .rw[ei e];exact q l (by exact wj) a λi hi c=>b i (by exact wj) c
  .rw[ee e];refine hc _ _ _ (g.lt c) (g.lt li) (g.ne c om li) ?_;have hm:(l+u)/2<u:=li;have t:l<=(l+u)/2:=li
   by_cases h:r (p.getD k 0)<r (p.getD ((l+u)/2) 0)
   .simp only[h,decide_true,if_true];refine LO g c d f l ((l+u)/2) t li om a (λi hi v=>?_) q
    by_cases m:i=(l+u)/2
    .subst m;exact h
    .have:=d ((l+u)/2) i li v;have o:rk r p k<rk r p ((l+u)/2):=h;lia
   .simp only[h,decide_false,tX,if_false]
    have o:rk r p ((l+u)/2)<rk r p k:=by
     have:=Ov hr hc g (i:=(l+u)/2) (j:=k) li c li;unfold rk at this ⊢;omega
    refine LO g c d f ((l+u)/2+1) u (by exact xf) h2 om (λi hi=>?_) b q
    by_cases m:i=(l+u)/2
    .subst m;exact o
    .have:=d i ((l+u)/2) li (by exact wh);lia
theorem Ys(g:i6 n p)(a:k<n)(b:l<=k)(j:Nat):rk r (bubble p k<|k-l) j=if j=l then rk r p k else if l<j/\j<=k then rk r p (j-1) else rk r p j:=by
 have c:=g.size;unfold rk;rw[Jj,getElem?_bubble (by exact wg) _ li,show k-(k-l)=l by lia];simp only[Jj]
 repeat' split
 all_goals first | rfl | (exfalso;omega)
theorem Yt(q:∀c,i6 n c->um r c n->Q c s):∀f k(p:Array Nat),i6 n p->k+f=n->um r p k->(kas_bin f p k).kasWp cmp Q s
 | 0,k,p,g,h,ri=>q p g (by have:k=n:=om;rwa[this]at ri)
 | f+1,k,p,g,h,ri=>by
  unfold kas_bin;rw[EJ];refine LO hr hc g li ri k 0 k (ba _) (az _) (by exact w1) (λi hi=>eu hi li) (λi hi o=>eu o li) λl d a b=>Yt q f (k+1) _ ((bubble_perm _ _ _).fT g) li λi j t u=>?_;rw[Ys hr hc g li d,Ys hr hc g om d]
  by_cases e:i=l
  .rw[ei e,ee li,ei li];exact b _ li li
  .rw[ee e]
   by_cases m:j=l
   .rw[ei m,ee li];exact a i (by exact wf)
   .rw[ee m]
    by_cases h3:l<i/\i<=k
    .rw[ei h3,ei li];exact ri _ _ om li
    .rw[ee h3]
     by_cases h4:l<j/\j<=k
     .rw[ei h4]
      by_cases v:i=j-1
      .lia
      .exact ri _ _ li om
     .rw[ee h4];exact ri _ _ t li
theorem agM(h1:1<=n)(q:∀c,i6 n c->um r c n->Q c s):(kas_sort n).kasWp cmp Q s:=by
 unfold kas_sort;rw[EJ];refine agm hr hc (abT _) h1 λm c a b g d=>?_;dsimp only
 by_cases h:m<n
 .rw[ei h];exact Yt hr hc q _ _ _ g li (by rw[show max m 1=m by lia];exact d)
 rw[ee h];have:m=n:=li;rw[this]at d;exact q _ g d
end
end L2
namespace L2
open PySem.W
def ahP{h:i_}{a:e_}{m b:cr->Option f_}(x:h.Ns a m)(y:h.Ns a b):m=b:=by
 obtain⟨o,es,g,e,d,_,f⟩:=x;obtain⟨o',i,j,e',d',_,c⟩:=y;rw[e]at e';cases e';rw[d]at d';cases d'
 funext n
 exact(f n).g8.fT (c n)
section
variable{X:Cx}{p_:List (e_×cP)}{σ:St}{H:Hp}{s:g_}
def dc.regrown{h':i_}{m:cr->Option f_}{t':Nat}{d':Drawn}(I:dc X p_ σ H s)(h1:s.heap.Ns X.env.locals m)(h2:h'.Ns X.env.locals m)(k:∀b o,b≠X.env.locals->s.heap.get? b=a_ o->h'.get? b=a_ o):dc X p_ σ H {s with heap:=h',drawn:=d',toks:=t'}:=by
 refine I.step (g':=s.gens) (d':=d') (ch:=[]) (λ_ z=>nomatch z) (λb o a _ _ e _=>k b o a e) (λb o a _ _ e _=>⟨o.slots,k b o a e⟩) (λ_ _ _ _ n=>n) (λb o _ e=>?_) (λ_ _ e=>e) (λ_ _ _ e=>e)
  (λb ps e=>⟨#[],by rw[e];simp⟩) (λc hm=>by rw[ahP hm h1];exact h2) (λb u e=>?_) I.bare
 .by_cases z:b=X.env.locals
  .obtain⟨o',_,_,q,_⟩:=h2;exact⟨o',by rw[z];exact q⟩
  exact⟨o,k b o z e⟩
 refine(I.aU b u e).uz (λd v hd q=>k d v (λz=>?_) q) (λ_ q=>q) λ_ _ q=>q;have fr:=I.free;rw[<-z]at fr;obtain y|y:=hd
 .rw[y,e]at fr;cases fr
 rw[y]at fr;cases fr
structure Srt(P:k_)(w:j_)(A:h_)(L:e_)(h:i_)(vs:List f_)(r:Nat->Int):Prop where
 small:vs.length<64
 inj:∀i j,i<vs.length->j<vs.length->r i=r j->i=j
 ask:2<=vs.length->∃κ,∀(s':g_),(∀b o,b≠L->h.get? b=a_ o->s'.heap.get? b=a_ o)->
  (∀Q:SortKind->g_->Prop,Q κ s'->be (bn P w) A (keyKind' vs.toArray) Q (λ_ _=>False) s')/\
  ∀i j(C:Bool->g_->Prop),i<vs.length->j<vs.length->i≠j->C (decide<|r i<r j) s'->kas_ask P w A κ vs i j C s'
def Gs(ys:List V)(r:Nat->Int)(a:List V):Prop:=∃p:Array Nat,i6 ys.length p/\um r p ys.length/\a=p.toList.map λi=>ys.getD i .aR
def acT{P:k_}{w:j_}{A:h_}{E:f_->g_->Prop}{a:e_}{vs:List f_}{n:Nat}{R:PySem.Fin->g_->Prop}(c:s.heap.get? a=a_ (d7 "list" vs.toArray n))(h1:vs.length<2)(k:∀h' e,(∀b o,b≠a->s.heap.get? b=a_ o->h'.get? b=a_ o)->h'.get? a=a_ (d7 "list" vs.toArray e)->R (.done<|.ret .none) {s with heap:=h'}):be (bn P w) A (Builtin.«list.sort» ⟨[.ref a],[]⟩) R E s:=by
 have hn:vs.toArray.size<2:=by rw[dA];exact h1
 have d:∀m:Nat,m<2->m<=bZ:=λm hm=>by rw[fR];exact w5
 obtain⟨g,h⟩:∃g,(s.heap.update a<|jz λ_=>(#[]:Array f_)).get? a=a_ (d7 "list" #[] g):=⟨_,Tg c λ_=>#[]⟩;rw[list_sort_plain];refine ah<|listItems_at c xz<|ah<|listUpdate_at c xz (ah<|seqEpoch_at h xz<|ah<|Th (ah<|Tw (mQ ?_)<|ba _)<|d _<|by simpa using h1) (d _<|by simpa using h1)<|ba _;have f:=bE (d7 "list" #[] 0)<|bE (d7 "tuple" vs.toArray 0) h;dsimp only;rw[ei hn,ei hn];refine ah<|aO ?_;rw[StateT.run_pure];refine ah<|aO ?_;dsimp only
 have j:(arrOf<|SortSt.mk' general' (vs.toArray.zip vs.toArray) #[] 7 b_).map (·.2)=vs.toArray:=by
  apply Array.toList_inj.mp;rw[Array.toList_map,Array.toList_zip];rw[List.map_snd_zip<|az _]
 rw[j];refine ah<|seqEpoch_at f xz<|ah<|listUpdate_at f xz ?_ (ba _)<|dC (d _<|by simpa using h1)<|kr _;rw[ee (by simp)];refine aO<|k _ _ (λb o i e=>?_) (Tg f λ_=>vs.toArray);rw[Jx _ _ _ _ i];exact bE _<|bE _ (by rw[Jx _ _ _ _ i];exact e)
theorem UN(a:di ys vs):∀l:List Nat,di (l.map λi=>ys.getD i .aR) (l.map λi=>vs.getD i gR)
 | []=>.nil
 | i::l=>by
  refine .cons ?_<|UN a l;dsimp only;rw[eG,eG];rcases e:ys[i]? with _|y
  ·rw[a.none_of e];rfl
  obtain⟨u,e',q⟩:=a.get e;rw[e'];exact q
def acZ(ys:List V):(List.range ys.length).map (λi=>ys.getD i .aR)=ys:=by
 apply JI
 .simp
 intro i h1 h2;simp[h2]
def KQ(g:i6 n p):p.toList.length=n:=by rw[ko,g.size]
def KC(T:be (bn X.prog X.w) X.A.in1 (collect x) (λvs s1=>∃ys r,dc X p_ σ H s1/\di ys vs/\Srt X.prog X.w X.A.in1.in1 X.env.locals s1.heap vs r/\∀l h,H l=b_->Gs ys r h->Q (.ref l) (db H l<|.lst h)) X.xe s):be (bn X.prog X.w) X.A (call (.builtin "sorted") [x]) (EP X p_ σ Q) X.xe s:=by
 refine Calls.call_function_entry kind_sorted plain_sorted entry_sorted (args_sorted1 _) ?_;refine ah<|aO<|ah (kP T (λvs s1 U=>?_) λ_ _ z=>z);obtain⟨ys,r,I,t,S,q⟩:=U;have B:=t.length;have D:vs.length<=bZ:=by have:=S.small;rw[fR];exact w5
 refine ah<|Tw ?_ D;obtain⟨a,g,d,tk,os⟩:=s1;have u:(a.push<|d7 "list" vs.toArray 0).get? _=a_ _:=eO _ rfl;obtain⟨m,v⟩:=I.fr;have y:=dC I.ok.nK I.sz
 have E:∀(h2:i_)(c:Nat)(h:List V)(n:List f_),h2.Ns X.env.locals m->(∀b o,b≠X.env.locals->a.get? b=a_ o->h2.get? b=a_ o)->h2.get? a.zH=a_ (d7 "list" n.toArray c)->
   di h n->h.length<=bZ->Gs ys r h->EP X p_ σ Q (.ref a.zH) ⟨h2,g,d,tk,os⟩:=λh2 c h n W Y Z v2 l2 so=>by
  have hn:H a.zH=none:=I.aU.fresh<|az _;have f:=I.jX (b:=a.zH) (az _) hn;have J:=dc.regrown (s:=⟨a,g,d,tk,os⟩) (t':=tk) (d':=d) I v.ns W Y;exact⟨.ref a.zH,_,dc.adopt (o:=.lst h) J hn I.sz f.2.1 f.2.2.2.2.1 f.2.2.2.2.2 ⟨l2,n,c,v2,Z⟩,xz,q _ _ hn so⟩
 refine ah<|mQ<|rO slot_list_sort ⟨_,u,xz⟩ entry_list_sort ?_<|args_list_sort _;have kp:∀b o,a.get? b=a_ o->(a.push<|d7 "list" vs.toArray 0).get? b=a_ o:=λb o e=>bE _ e
 by_cases h2:vs.length<2
 .refine acT (s:=⟨a.push<|d7 "list" vs.toArray 0,g,d,tk,os⟩) u h2 λh' e k' e'=>⟨_,xz,aO ⟨_,xz,?_⟩⟩;have ne:∀b o,a.get? b=a_ o->b≠a.zH:=λb o z=>dH<|bV z;refine E h' e ys vs ?_ (λb o _ z=>k' b o (ne b o z)<|kp b o z) e' t w7 ⟨(List.range ys.length).toArray,abT _,λi j mI F=>eu mI li,(acZ ys).g8⟩;obtain⟨o,es,ep,z,rr⟩:=v.ns;exact⟨o,es,ep,k' _ _ (ne _ _ z)<|kp _ _ z,rr⟩
 have h3:2<=vs.length:=li
 refine kat_list_sort (s:=⟨a.push<|d7 "list" vs.toArray 0,g,d,tk,os⟩) (h₀:=X.base) (L:=X.env.locals) (m:=m) (news:=rest X.base (a.push<|d7 "list" vs.toArray 0) X.env.locals a.zH) (v.push _)
  (λp k=>afL p (gz.mp k).1) u (vA I.lt) (aa8 y) WO h3 S.small λe1 h' G K=>?_
 have keep:∀h3:i_,Fr X.base X.env.locals h3 m->News X.base X.env.locals h3 (rest X.base (a.push<|d7 "list" vs.toArray 0) X.env.locals a.zH)->∀b o,b≠X.env.locals->a.get? b=a_ o->h3.get? b=a_ o:=λh3 F3 N3 b o y z=>
  aci (λb o z=>kp b o<|I.bk b o z) F3 N3 b o y (dH<|bV z) (kp b o z)
 obtain⟨κ,hκ⟩:=S.ask h3;have M:=hκ ⟨h',g,d,tk,os⟩ (keep h' G λp k=>K p<|.tail _ k);refine M.1 _ (agM (r:=r) S.inj (λi j C hi F ne c=>M.2 i j C hi F ne c) li λN O ri=>KasFin.intro G K (.head WO) λh4 c P R=>⟨_,rfl,aO ⟨_,rfl,E h4 c (N.toList.map λi=>ys.getD i .aR) _ P.ns (keep h4 P λp k=>R p<|.tail _ k) (R _<|.head _).1 (UN t _) ?_ ⟨N,by rw[B];exact O,by rw[B];exact ri,rfl⟩⟩⟩);rw[aA,KQ O];exact D
end
end L2
namespace L2
open PySem.W L3
abbrev NP(X:Cx)(sc:d5)(qual:cr)(f:e_)(cd:f_)(L:e_):Env:=envX qual sc L f cd<|gZ X.env.cells sc.names []
def HL(X:Cx)(A:h_)(sc:d5)(N:List cr)(qual:cr)(f:e_)(cd:f_)(s:g_)(H:Hp):Cx:=
 {X with A:=A.deeper<|NP X sc qual f cd s.zS,N:=N,s₀:=s,H₀:=H,env:=NP X sc qual f cd s.zS,outer:=X.stack,stack:=NP X sc qual f cd s.zS::X.stack,ex:=[],fn:=λ_=>d_,calm:=c_,pn:=[],xe:=λ_ _=>False}
section
variable{X:Cx}{p_:List (e_×cP)}{σ:St}{H:Hp}{s:g_}{sc:d5}{N:List cr}{idx:List Nat}{A:h_}{f:e_}{cd:f_}{qual px:cr}{k:Nat}{v:V}{u:f_}
def ah7(I:dc X p_ σ H s)(S:cF X sc N idx)(K:A.frames=a_ X.stack)(L:A.handled=b_)(C:N[k]?=a_ px)(M:sc.names.lookup px=a_ .local)(hi:idx.length<=k)(r:df v u)(O:h'.Ns s.zS m)(hm:m px=a_ u)(kp:∀b o,s.heap.get? b=a_ o->h'.get? b=a_ o):dc (HL X A sc N qual f cd s H) [] ((lH idx N.length σ).set k<|a_ v) H {s with heap:=h',toks:=t}:=by
 have d:∀x c,(gZ _ _ []).lookup x=a_ c->X.env.cells.lookup x=a_ c:=Fp sc.names [] (λx c e=>by cases e);have has:=λx e=>Fq _ [] x e (I.ok.has x<|.inl<|S.frees _ e xz);have g:∀b:e_,b∉(HL X A sc N qual f cd s H).ex:=λb z=>eu (show b∈([]:List _) from z) (by simp);refine⟨⟨I.ok.mod,S.kind,xz,xz,az _,λx y c n a=>I.ok.inj x y c (d x c n)<|d y c a,λx h=>?_,λx c h=>(by cases h),λ_=>L,aa9 K,.inr ⟨xz,xz⟩,λb z=>eu z<|g b,I.bs,dC I.ok.nK I.sz,λb _ _=>g b,λb z=>eu z<|g b,I.stack,I.Mr⟩,xz,I.bare,Un.kept kp,⟨m,O,λj x w n a Y=>?_⟩,λx c e=>?_,I.aU.fresh<|az _,λx c e=>I.my x c<|d x c e,λp P=>eu (show p∈([]:List (e_×cP)) from P) (by simp),I.aU.kept kp,by rw[fe];exact Mh S.le⟩
 .have h2:=h;obtain z|z:=h2
  .exact eu xz (S.Ge _<|t_ z)
  exact has x (t_ z)
 .have B:N[j]?=a_ x:=n
  by_cases D:j=k
  .subst D;rw[C]at B;cases B;have Q:j<(lH idx N.length σ).length:=by rw[Mh S.le];exact(cb.mp C).1
   rw[fQ Q]at a;cases a;exact⟨u,r,.inl ⟨M,hm⟩⟩
  rw[lC<|iL D]at a;obtain⟨i,h1,h2⟩:=Mi a;obtain⟨h3,h4⟩:=S.cap j i x h1 B;have E:=t_ h4;have F:=S.frees _ E rfl;obtain⟨Z,Eb,R⟩:=I.loc;obtain⟨T,U,l⟩:=R i x w h3 h2<|.inr<|.inl F;refine⟨T,U,.inr ⟨.inr h4,?_⟩⟩;obtain⟨q,_⟩|⟨_,c,V,z⟩:=l
  .have G:X.env.scope.names.lookup x=a_ .local:=q;rw[F]at G;cases G
  obtain⟨c',J⟩:=has x E;have:=d x _ J;rw[V]at this;cases this;exact⟨c,J,z.keeps kp⟩
 obtain⟨W,z⟩:=I.cell x c<|d x c e;exact⟨W,z.keeps kp⟩
def afY(I:dc X p_ σ H s)(S:cF X sc N idx)(g:A.frames=a_ X.stack)(h:A.handled=b_)(i:A.depth<EK)(j:N[k]?=a_ px)(c:sc.names.lookup px=a_ .local)(hi:idx.length<=k)(r:df v u)(l:s.heap.get? f=a_ (kla_obj "<lambda>" qual params body sc (gZ X.env.cells sc.names []) pm c' qd))(m:s.heap.CodeRec (.ref c') qual)(n:ue (kla_fn "<lambda>" qual params body sc (gZ X.env.cells sc.names []) pm (.ref c') qd) ⟨[u],[]⟩=pure [(px,u)])(p:sc.isCoroutine=d_)(x:sc.isGenerator=d_)(B:PE (HL X A sc N qual f (.ref c') s H) body te)(q:te ((lH idx N.length σ).set k<|a_ v) H Q):be (bn X.prog X.w) A (call (.ref f) [u]) (EP X p_ σ Q) E s:=by
 refine Ku<|kla_callFunE i l xz p x xz m ?_;rw[n];refine aO<|wpAny_newFunctionEnv S.Ge (λy C=>?_) (λh1 D d=>⟨I.nolimit.fresh _ d,?_⟩) S.kind
 .have e:y=(px,u):=by simpa using C
  rw[e];exact c
 have kp:∀b o,s.heap.get? b=a_ o->h1.get? b=a_ o:=λb o e=>d.extBut b o (dH<|bV e)<|bE _ e;refine kla_codeExpr (kP (B [] _ _ H _ (ah7 (f:=f) (cd:=.ref c') (qual:=qual) (t:=s.toks+[(px,u)].length) I S g h j c hi r D (by simp ) kp) q) (λw s2 hw=>?_) λ_ _ z=>nY z);obtain⟨F,G,a,r2,J⟩:=hw;exact⟨F,G,I.Zj (ch:=[]) (a.os.fT xz) a.base a.aU a.bare λb z=>eu z (by simp),r2,J⟩
end
noncomputable def A3(c:e_)(qual:cr):HO:=.ext λh=>h.CodeRec (.ref c) qual
def aj4{P:k_}{w:j_}(x:h.CodeRec (.ref c) qual):fq P w H h c (A3 c qual):=by
 obtain⟨j,o,vs,t,e,q,r⟩:=id x;cases e;refine⟨x,⟨o,q⟩,λh1 h2 y k=>?_⟩;obtain⟨c1,a,b,d,f,g,i⟩:=y;cases f;exact⟨c,a,b,d,xz,k _ g,i⟩
def cE(P:e_)(a:Pos)(qual:cr)(H:Hp):Prop:=∃ps,H P=a_ (.ft ps)/\(ps=#[]\/∃c,ps=#[ci a.line,ci a.col,.ref c]/\H c=a_ (A3 c qual))
def we(P:e_)(H H':Hp):Prop:=∀b o,b≠P->H b=a_ o->H' b=a_ o
def we.refl{P:e_}(H:Hp):we P H H:=λ_ _ _ e=>e
def uK(mg:cr->Option f_)(gl:i_):Prop:=∃a ob,mg "__builtins__"=a_ (.ref a)/\a≠rZ/\a≠ff/\gl.get? a=a_ ob/\ob.cls=.type "module"/\ob.dict=a_ rZ/\ob.data=.plain
section
variable{X:Cx}{p_:List (e_×cP)}{σ:St}{H:Hp}{s:g_}
def dc.grow{P:e_}(I:dc X p_ σ H s)(a:H P=a_ (.ft ps))(k:∀b o,b≠P->s.heap.get? b=a_ o->h'.get? b=a_ o)(e:h'.get? P=a_ (tabObj<|ps++more)):dc X p_ σ (db H P<|.ft<|ps++more) {s with heap:=h',toks:=t'}:=by
 have ne:∀b,H b=b_->b≠P:=λb n z=>by rw[z,a]at n;cases n
 refine I.step (g':=s.gens) (d':=s.drawn) (ch:=[]) (λ_ z=>nomatch z) (λb o _ _ _ q n=>k b o (ne b n) q) (λb o _ _ _ q n=>⟨o.slots,k b o (ne b n) q⟩) (λb o _ q n=>by rw[aj<|ne b n];exact n) (λb o _ q=>?_) (λb xs q=>?_) (λb o u q=>?_) (λb qs q=>?_)
  (λm hm=>?_) (λb u q=>?_) I.bare
 .by_cases z:b=P
  .exact⟨_,by rw[z];exact e⟩
  exact⟨o,k b o z q⟩
 .rw[aj<|i5 q a (by intro z;cases z)];exact q
 .rw[aj<|i5 q a (by intro z;cases z)];exact q
 .by_cases z:b=P
  .subst z;rw[a]at q;cases q;exact⟨more,ao⟩
  exact⟨#[],by rw[aj z,q];simp⟩
 .obtain⟨o,es,g,q,r⟩:=hm;exact⟨o,es,g,k _ o (ne _ I.free) q,r⟩
 by_cases z:b=P
 .subst z;rw[ao]at q;cases q;exact e
 rw[aj z]at q;refine(I.aU b u q).uz (λd v hd y=>k d v (λw=>?_) y) (λc y=>?_) λc xs y=>?_
 .obtain f|f:=hd
  .exact z (f.g8.fT w)
  rw[w,a]at f;cases f
 .rw[aj<|i5 y a (by intro z;cases z)];exact y
 rw[aj<|i5 y a (by intro z;cases z)];exact y
def dc.Hf(I:dc X p_ σ H s)(g:jG X p_ H f)(e:s.heap.get? f=a_ o)(n:∀v,o.data≠.cell v):dc X (p_++[(f,o)]) σ H s:=
 I.vN λp a=>by
  obtain z|z:=ir.mp a
  .exact I.pin p (gh _ z)
  have b:p=(f,o):=by simpa using z
  rw[b];exact⟨e,g.1,g.2.1,g.2.2.1,n⟩
def afX{c P:e_}(I:dc X p_ σ H s)(S:cF X sc N idx)(t:X.env.code=.ref c)(C:CodeHd X.base c P)(B:uK X.mg X.base)(O:defaultsOf params X.env=([],[]))(h:cE P pos (X.env.qual++"<lambda>") H)(k:∀f a H' pm g s',dc X (p_++[(f,kla_obj "<lambda>" (X.env.qual++"<lambda>") params body sc (gZ X.env.cells sc.names []) pm a g)]) σ H' s'->we P H H'->cE P pos (X.env.qual++"<lambda>") H'->H' a=a_ (A3 a<|X.env.qual++"<lambda>")->R (.ref f) s'):be (bn X.prog X.w) X.A (eval (.Lambda params body sc pos) X.env) R E s:=by
 have u:=Kr λp Q e=>I.ok.has _<|.inl<|S.frees p Q e;obtain⟨ps,i,T⟩:=h;have l:=I.aU P _ i;obtain⟨U,ob,b1,b2,V,x,W,Y,Z⟩:=B
 have y:∀b o,X.base.get? b=a_ o->b≠P:=λb o e z=>by
  have:=(I.bs b o e).2;rw[z,i]at this;cases this
 have D:=I.mod.glob.keeps I.bk
 have gP:ff≠P:=by
  obtain⟨o,es,ep,e,_⟩:=I.mod.glob;exact y _ _ e
 have F:s.heap.BuiltinsAt _ P:=⟨U,ob,b1,b2,V,y _ _ x,I.bk _ _ x,W,Y,Z⟩;have G:=C.keeps I.bk;refine kla_eval O ?_;obtain rfl|⟨j,rfl,J⟩:=T
 .refine kla_makeFunction u I.ok.glob D t G l mY xz gP F λa g h' tk hx d K aoW Rg=>?_
  have m:dc X p_ σ (db H P<|.ft<|#[] ++ #[ci pos.line,ci pos.col,.ref a]) {s with heap:=h'.push<|kla_obj "<lambda>" (X.env.qual++"<lambda>") params body sc (gZ X.env.cells sc.names []) ((X.mg "__name__").getD .none) a g,toks:=tk}:=
   I.grow i (λb o n e=>bE _<|hx b o n e) (bE _ Rg)
  have L:=bV l;have q:=I.aU.fresh d;have M:=vA<|ip L d;have nc1:db H P (.ft<|#[] ++ #[ci pos.line,ci pos.col,.ref a]) a=none:=by rw[aj M];exact q
  have fc:=I.jX d q;have r:=dC d<|cg K;have fP:=vA<|ip L r
  have nf:db (db H P<|.ft<|#[] ++ #[ci pos.line,ci pos.col,.ref a]) a (A3 a<|X.env.qual++"<lambda>") h'.zH=none:=by
   rw[aj<|vA K,aj fP];exact I.aU.fresh r
  have I3:=(dc.adopt m nc1 (dC I.sz d) fc.2.1 fc.2.2.2.2.1 fc.2.2.2.2.2<|aj4<|aoW.push _).Hf (I.jX r nf) (eO _ xz) (λv z=>by cases z);refine k _ _ _ _ _ _ I3 (λb o n e=>?_) ⟨_,by rw[aj<|iL M,ao],.inr ⟨a,by simp,ao⟩⟩ ao;rw[aj<|bf e q,aj n];exact e
 have hf:codeAmong pos (#[ci pos.line,ci pos.col,dq j]:Array _).toList=a_ (.ref j):=by simp[codeAmong,ci]
 refine kla_makeFunctionHit u I.ok.glob D t G l mY hf F λg h' tk kk d=>?_;have m:dc X _ _ H {s with heap:=h'.push<|kla_obj "<lambda>" (X.env.qual++"<lambda>") params body sc (gZ X.env.cells sc.names []) ((X.mg "__name__").getD .none) j g,toks:=tk}:=I.kept λb o e=>bE _<|kk b o e;exact k _ _ _ _ _ _ (m.Hf (I.jX d<|I.aU.fresh d) (eO _ xz)<|λv z=>by cases z) (we.refl H) ⟨_,i,.inr ⟨j,xz,J⟩⟩ J
end
end L2
namespace L2
open PySem.W
def Zk(ts:List e_)(H:Hp):Prop:=(∀b,H b=b_\/(∃o xs,H b=a_ (.jZ o<|.lst xs))\/(b∈ts/\H b=a_ (.ft #[])))/\∀b∈ts,H b=a_ (.ft #[])
def aei{P:k_}{w:j_}{K:u_}{mg mb:cr->Option f_}(C:K.In s₁.heap)(D:s₁.heap.Ns ff mg)(c:s₁.heap.Ns rZ mb)(T:∀x:cr,x ≠ "__name__"->mb x=rW x)(U:s₁.heap.NoLimit)(W:s₁.gens=#[])(X:uK mg s₁.heap)(g:∀b∈ts,s₁.heap.get? b=a_ (tabObj #[]))(Y:∀b∈ts,isCodeTable s₁.heap b)(Bg:∀b∈ts,K.lookup b=b_)(ha:s₁.heap.get? a=a_ {cls:=.type "list",data:=.seq vs.toArray})(hi:IntsAre vs ns)(E:ns.length<=bZ)(Z:fJ k callerA)(F:∀gl:i_,K.In gl->gl.Ns ff mg->uK mg gl->aF P w K mg gl CX k fa fd [x] sp)(C5:∀(s:g_)(u:f_),BindsTo s fd ⟨[u],[]⟩ [(x,u)])(p9:∀H:Hp,Zk ts H->ag K H a (ns.map V.int)->sp [.ref a] H (λv _=>v=.bl c_) λ_ _ _=>False)(hCX:∀H e s',CX [] H s₁ (λ_ _ _=>False) e s'->False):codeAny (bn P w) callerA (.call (.ref fa) ⟨[.ref a],[]⟩) (λr s'=>r=.ok (.ret<|.bool c_)/\OldK s₁.heap s'.heap/\s'.os=s₁.os/\AllBare s'.gens) s₁:=by
 have G:=Ky hi;have fH:=hi.length
 have I:a∉ts:=λz=>by
  have e:=g a z;rw[ha]at e;cases e
 have J:∀H:Hp,Zk ts H->ag K H a (ns.map V.int)->iD P w H s₁.heap->(∀b,H b≠b_->b=a\/b∈ts)->(H a≠b_->K.lookup a=b_)->
   codeAny (bn P w) callerA (.call (.ref fa) ⟨[.ref a],[]⟩) (λr s'=>r=.ok (.ret<|.bool c_)/\OldK s₁.heap s'.heap/\s'.os=s₁.os/\AllBare s'.gens) s₁:=by
  intro H L hS aU M hK;have p:∀{b:e_}{o:cP},s₁.heap.get? b=a_ o->H b=b_->(sJ s₁.heap H).get? b=a_ o:=λe n=>af5 e n
  have N:∀{b:e_}{o:cP},s₁.heap.get? b=a_ o->(∀xs n,o.data≠.seq xs n)->(∀xs,o.data≠.fields xs)->H b=none:=λ{b o}e d1 d2=>by
   rcases q:H b with _|u;rfl
   rcases M b (by rw[q];simp)with z | z
   .subst z;rw[ha]at e;cases e;exact eu xz<|d1 _ _
   rw[g b z]at e;cases e;exact eu xz<|d2 _
  have l:∀{b:e_}{m:cr->Option f_},s₁.heap.Ns b m->(sJ s₁.heap H).Ns b m:=λ{b m}⟨o,es,ep,e,d,r⟩=>⟨o,es,ep,p e (N e (λ_ _ z=>by rw[d]at z;cases z) λ_ z=>by rw[d]at z;cases z),d,r⟩
  have O:K.In (sJ s₁.heap H):=λb o e=>p (C b o e) (by
   rcases q:H b with _|u;rfl
   rcases M b (by rw[q];simp)with z | z
   .subst z;rw[hK (by rw[q];simp)]at e;cases e
   rw[Bg b z]at e;cases e)
  have hB:uK mg (sJ s₁.heap H):=by
   obtain⟨bm,ob,b1,b2,b3,Q,b5,b6,t⟩:=X;exact⟨bm,ob,b1,b2,b3,p Q (N Q (λ_ _ z=>by rw[t]at z;cases z) λ_ z=>by rw[t]at z;cases z),b5,b6,t⟩
  have hM:Mod K mg (sJ s₁.heap H):=⟨O,l D,⟨mb,l c,T⟩,let ⟨mc,h1,h2⟩:=U;⟨mc,l h1,h2⟩⟩;have e0:yv P w K mg (sJ s₁.heap H) callerA [] s₁ H:=⟨xz,hM,λb o e=>ahM e,ua<|aep _ _,trivial,λb c=>eu (show b∈([]:List e_) from c) (by simp),aU,.of_eq W⟩;refine BE ((F _ O (l D) hB).run callerA [] s₁ H ⟨[.ref a],[]⟩ [.ref a] [.ref a] _ _ Z e0 (C5 s₁<|.ref a) (.cons xz .nil) (p9 H L hS)) λr s' h=>?_;cases r with
  | error e=>exact(hCX H e s' h).elim
  | ok fl=>
   rcases fl with _|_|_|u;exact nY h;exact nY h;exact nY h
   obtain⟨v,H',os,bare,un,R,r',q⟩:=h;have q':=q;subst q';obtain rfl:u=lE true:=r'
   have S:∀b o,s₁.heap.get? b=a_ o->asItWas s₁.heap s'.heap b o/\∃o',s'.heap.get? b=a_ o':=λb o e=>by
    cases q:H b with
    | none=>
     have:=un.keep b o e q (by intro z;exact eu (show b∈([]:List e_) from z)<|by simp) (by simp);exact⟨.inl this,_,this⟩
    | some u=>
     obtain z|⟨ob,xs,z⟩|⟨hm,z⟩:=L.1 b
     .rw[q]at z;cases z
     .have y:=un.sM b ob _ z;obtain⟨i,_⟩:=aU b _ z;obtain⟨j,_⟩:=R b _ y;rw[e]at i;cases i;exact⟨.inl j,_,j⟩
     obtain⟨more,y⟩:=un.sF b _ z;have j:s'.heap.get? b=a_ (tabObj<|#[]++more):=R b _ y;have i:=g b hm;rw[e]at i;cases i;exact⟨.inr<|.inl ⟨Y b hm,xz,#[],more,xz,j⟩,_,j⟩
   exact⟨xz,⟨λb o e=>(S b o e).1,λb o e=>(S b o e).2⟩,os,bare⟩
 have tok:∀b,b∈ts->fq P w (λb=>if b=a then b_ else if b∈ts then a_ (.ft #[]) else b_) s₁.heap b (.ft #[]):=λb c=>g b c;rcases A:K.lookup a with _|o
 ·have ne:∀b∈ts,b≠a:=λb c z=>I<|z ▸ c;refine J (λb=>if b=a then a_ (.jZ {cls:=.type "list",data:=.seq vs.toArray} (.lst<|ns.map V.int)) else if b∈ts then a_ (.ft #[]) else b_) ⟨λb=>?_,λb c=>?_⟩ (.inl<|.inr ⟨{cls:=.type "list",data:=.seq vs.toArray},ei xz⟩) (λb u z=>?_) (λb z=>?_) λ_=>A
  .by_cases c:b=a
   .exact .inr (.inl ⟨_,_,ei c⟩)
   by_cases f:b∈ts
   .exact .inr (.inr ⟨f,by dsimp only;rw[ee c,ei f]⟩)
   exact .inl (by dsimp only;rw[ee c,ee f])
  .dsimp only;rw[ee<|ne b c,ei c]
  .dsimp only at z
   by_cases c:b=a
   .rw[ei c]at z;cases z;subst c;exact⟨ha,by rw[aA];exact E,vs,_,G,ha⟩
   rw[ee c]at z
   by_cases f:b∈ts
   .rw[ei f]at z;cases z;exact g b f
   rw[ee f]at z;cases z
  by_cases c:b=a
  .exact .inl c
  by_cases f:b∈ts
  .exact .inr f
  exact eu (show (if b=a then _ else if b∈ts then _ else b_)=b_ by rw[ee c,ee f]) z
 have e:=C a o A;rw[ha]at e;cases e;have hta:∀b∈ts,(λb=>if b∈ts then a_ (HO.ft #[]) else b_) b=a_ (.ft #[]):=λb c=>ei c;refine J (λb=>if b∈ts then a_ (.ft #[]) else b_) ⟨λb=>?_,hta⟩ (.inr ⟨_,vs.toArray,_,A,xz,xz,xz,by rw[dA,fH];exact E,by simpa using G⟩) (λb u z=>?_) (λb z=>?_) λz=>eu (ee I) z
 .by_cases c:b∈ts
  .exact .inr (.inr ⟨c,ei c⟩)
  exact .inl<|ee c
 .by_cases c:b∈ts
  .have B:=(ei c).g8.fT z;cases B;exact g b c
  have B:=(ee c).g8.fT z;cases B
 by_cases c:b∈ts
 .exact .inr c
 exact eu (ee c) z
end L2
namespace HT
open PySem.W L2
theorem TC:∀{us:List f_}{xs:List cr},sg us xs=c_->di (xs.map V.str) us/\us.length=xs.length
 | [],[],_=>⟨.nil,xz⟩
 | .str y t::us,x::xs,h=>by
  have h:(decide (y=x)&&sg us xs)=true:=h;rw[jy]at h;obtain⟨a,b⟩:=TC h.2;have e:=eF h.1;subst e;exact⟨.cons ⟨t,xz⟩ a,by rw[eJ,eJ,b]⟩
 | [],_::_,h=>by simp[sg]at h
 | u::us,[],h=>by cases u <;> simp[sg]at h
 | .none::_,_::_,h=>by simp[sg]at h
 | .ref _::_,_::_,h=>by simp[sg]at h
 | .int _ _::_,_::_,h=>by simp[sg]at h
 | .bool _::_,_::_,h=>by simp[sg]at h
def agB{K:Frag}(h:tupS K a xs=c_)(b:xs.length<=bZ)(H:Hp):aq K H a (xs.map V.str):=by
 unfold tupS at h
 split at h
 .rename_i d c n sl e
  obtain⟨r,l⟩:=TC h;exact .inr ⟨_,c,n,e,xz,xz,by rw[<-ko,l];exact b,r⟩
 cases h
end HT
namespace L3
def gX(b:Bool)(h:i_)(it l:e_)(i:Nat):Prop:=if b=c_ then h.IsListIter it l i else h.IsTupleIter it l i
def gY(b:Bool)(h:i_)(l:e_)(xs:Array f_):Prop:=if b=c_ then h.IsList l xs else h.IsTuple l xs
def gX.ext(x:gX b h it l i)(e:Km c h h')(n:it≠c):gX b h' it l i:=by
 rcases b with _|_;exact x.extBut e n;exact x.extBut e n
def gY.ext(x:gY b h l xs)(e:Km c h h')(n:l≠c):gY b h' l xs:=by
 rcases b with _|_;exact x.extBut e n;exact x.extBut e n
def gX.at(x:gX b h it l i)(e:∀o,h.get? it=a_ o->h'.get? it=a_ o):gX b h' it l i:=by
 rcases b with _|_
 ·obtain⟨o,a,r⟩:=x;exact⟨o,e o a,r⟩
 exact(show h.IsListIter it l i from x).at e
def gY.at(x:gY b h l xs)(e:∀o,h.get? l=a_ o->h'.get? l=a_ o):gY b h' l xs:=by
 rcases b with _|_
 ·obtain⟨o,a,r⟩:=x;exact⟨o,e o a,r⟩
 exact(show h.IsList l xs from x).at e
def gX.obj(x:gX b h it l i):∃o vs,h.get? it=a_ o/\o.data=.fields vs:=by
 rcases b with _|_
 ·obtain⟨o,e,_,d⟩:=x;exact⟨o,_,e,d⟩
 obtain⟨o,e,_,d⟩:=x;exact⟨o,_,e,d⟩
section
variable{prog:k_}{w:j_}{A:h_}{E:f_->g_->Prop}{s:g_}
def ab4(a:s.heap.IsTupleIter it t i)(b:s.heap.IsTuple t ak)(f:ak[i]?=a_ x)(k:∀h',h'.IsTupleIter it t (i+1)->gQ it s.heap h'->Q x {s with heap:=h'}):be (bn prog w) A (tT<|.ref it) Q E s:=by
 obtain⟨o,e,c,d⟩:=id a;obtain⟨j,g,_,l,h⟩:=b;refine ah<|xq a.typeIs F.slot_tuple_iterator_next<|rO F.slot_tuple_iterator_next a.typeIs F.entry_tuple_iterator_next ?_<|F.args_tuple_iterator_next_1 _;show be _ _ (field (.ref it) 0 >>= _) _ _ s;refine ah<|mf e d xz ?_;rw[ee (by exact dO)];refine ah<|mf e d xz ?_;refine ah<|ph g h ?_;simp only[eP,f];refine ah<|xy e d (by simp)<|aO ⟨x,xz,aO<|k _ ⟨_,zx _ e<|Obj.isFreed_of_fields<|abh d _,(Obj.cls_mapFields ..).fT c,?_⟩<|lD ..⟩;rw[abh d];simp[ci]
def ach(b:A.handled=b_)(a:s.heap.IsTupleIter it t i)(f:s.heap.IsTuple t ak)(g:ak[i]?=b_)(k:∀h' x,Km it s.heap h'->(∃o,h'.get? x=a_ o/\o.cls=.type "StopIteration")->E (.ref x) {s with heap:=h'}):be (bn prog w) A (tT<|.ref it) Q E s:=by
 obtain⟨o,e,c,d⟩:=id a;obtain⟨l,h,_,m,j⟩:=f;refine ah<|xq a.typeIs F.slot_tuple_iterator_next<|rO F.slot_tuple_iterator_next a.typeIs F.entry_tuple_iterator_next ?_<|F.args_tuple_iterator_next_1 _;show be _ _ (field (.ref it) 0 >>= _) _ _ s;refine ah<|mf e d xz ?_;rw[ee (by exact dO)];refine ah<|mf e d xz ?_;refine ah<|ph h j ?_;simp only[eP,g];refine ah<|vD<|ah<|xy e d (by simp) ?_;refine ah ?_;refine ah<|rK ?_ (by size_fits);refine ah<|Kj (by first | rfl | (rfl))<|rK ?_ (by size_fits);refine ah<|wpAny_handled ?_
 first | rw[show A.in1.handled=b_ from b] | rw[b]
 exact ah<|aO<|wpAny_throw<|k _ _ (((lD ..).extBut.push _).push _) ⟨_,eO _ xz,xz⟩
def next_item(a:gX b s.heap it l i)(c:gY b s.heap l xs)(d:xs[i]?=a_ x)(k:∀h',gX b h' it l (i+1)->gQ it s.heap h'->Q x {s with heap:=h'}):be (bn prog w) A (tT<|.ref it) Q E s:=by
 rcases b with _|_;exact ab4 a c d k;exact wpAny_nextOf_list_item a c d k
def next_end(a:A.handled=b_)(c:gX b s.heap it l i)(d:gY b s.heap l xs)(e:xs[i]?=b_)(k:∀h' x,Km it s.heap h'->(∃o,h'.get? x=a_ o/\o.cls=.type "StopIteration")->E (.ref x) {s with heap:=h'}):be (bn prog w) A (tT<|.ref it) Q E s:=by
 rcases b with _|_;exact ach a c d e k;exact wpAny_nextOf_list_end a c d e k
def aeO{z TI TO f g l1 l2:e_}(D:ZipApart z TI TO f g l1 l2)(h:IsZip s.heap z TI TO .none)(N:IsPair s.heap TI (.ref f) (.ref g))(O:IsPair s.heap TO a b)(n1:gX b1 s.heap f l1 k1)(P:gX b2 s.heap g l2 k2)(R:gY b1 s.heap l1 xs)(S:gY b2 s.heap l2 ys)(T:xs[k1]?=a_ x)(U:ys[k2]?=a_ y)(V:∀h',IsZip h' z TI TO (ci s.heap.objs.size)->IsPair h' TO x y->gX b1 h' f l1 (k1+1)->gX b2 h' g l2 (k2+1)->IsPair h' s.heap.objs.size x y-> (∀c o,c≠z->c≠TO->c≠f->c≠g->s.heap.get? c=a_ o->h'.get? c=a_ o)->Q (a_<|.ref s.heap.objs.size) {s with heap:=h'}):be (bn prog w) A (pyNext<|.ref z) Q E s:=by
 have B:s.TypeIs (.ref z) "zip":=⟨_,h,xz⟩;refine ah<|EM<|xq (name:=rX "__next__") B F.slot_zip_next<|rO F.slot_zip_next B F.entry_zip_next ?_<|F.args_zip_next_1 _;show be _ _ (field (.ref z) 2 >>= _) _ _ s;refine ah<|mf h xz (x:=.bool d_) xz ?_;refine ah<|mf h xz (x:=.ref TI) xz<|ah<|ph N xz ?_;refine ah<|ah<|mf h xz (x:=.none) xz<|aO ?_;refine ah<|vD<|ah<|mf h xz (x:=.ref TO) xz<|ah (By h (by simp) λW q s1=>?_);have q:IsZip W z TI TO .ellipsis:=q;refine ah<|ah<|ah<|JR ?_;refine ah (next_item (n1.ext s1.extBut D.i1z) (R.ext s1.extBut D.l1z) T λg2 X s2=>aO ?_);have C:IsPair g2 TO a b:=s2.extBut _ _ D.TOi1<|s1.extBut _ _ D.TOz O;refine ah<|ph C xz<|ah (SH C λY r i=>ah<|zV<|aO ?_);have r:IsPair Y TO x b:=r;refine ah<|ah<|JR ?_;refine ah (next_item (((P.ext s1.extBut D.i2z).ext s2.extBut D.i12.g8).ext i.extBut D.TOi2.g8) (((S.ext s1.extBut D.l2z).ext s2.extBut D.l2i1).ext i.extBut D.l2TO) U λZ n2' j=>aO ?_);have G:IsPair Z TO x b:=j.extBut _ _ D.TOi2 r;refine ah<|ph G xz<|ah (SH G λd l k=>ah<|zV<|aO<|aO ?_);have l:IsPair d TO x y:=l;refine ah<|ph l xz<|ah<|Th ?_;have H:d.objs.size=s.heap.objs.size:=by rw[k.1,j.1,i.1,s2.1,s1.1]
 have I:IsZip d z TI TO .ellipsis:=k.extBut _ _ D.TOz.g8<|j.extBut _ _ D.i2z.g8<|i.extBut _ _ D.TOz.g8<|s2.extBut _ _ D.i1z.g8 q
 have k5:∀c o,c≠z->c≠TO->c≠f->c≠g->s.heap.get? c=a_ o->d.get? c=a_ o:=λc o c1 m t u e=>
  k.extBut _ _ m (j.extBut _ _ u<|i.extBut _ _ m<|s2.extBut _ _ t<|s1.extBut _ _ c1 e)
 have D2:=((X.ext i.extBut D.TOi1.g8).ext j.extBut D.i12).ext k.extBut D.TOi1.g8;have n25:=n2'.ext k.extBut D.TOi2.g8;have J:=bV I;have Q5:IsZip (d.push {cls:=.type "tuple",data:=.seq #[x,y]}) z TI TO .ellipsis:=bE _ I;refine ah<|ah (By Q5 (by simp) λg7 v K=>?_);have v:IsZip g7 z TI TO (ci d.objs.size):=v;refine By v (by simp) λn p L=>?_;have p:IsZip n z TI TO (ci d.objs.size):=p;have up:∀c o,c≠z->d.get? c=a_ o->n.get? c=a_ o:=λc o c1 e=>L.extBut _ _ c1<|K.extBut _ _ c1<|bE _ e;have M:IsPair n d.objs.size x y:=L.extBut _ _ (vA J)<|K.extBut _ _ (vA J)<|eO _ xz;rw[H]at p M;refine aO ⟨_,xz,?_⟩;rw[H];exact aO (V n p (up _ _ D.TOz l) (D2.at λo e=>up _ o D.i1z e) (n25.at λo e=>up _ o D.i2z e) M λc o c1 m t u e=>up c o c1<|k5 c o c1 m t u e)
def agy{z TI TO h i l1 l2:e_}(t:A.handled=b_)(D:ZipApart z TI TO h i l1 l2)(g:IsZip s.heap z TI TO .none)(K:IsPair s.heap TI (.ref h) (.ref i))(L:IsPair s.heap TO a b)(n1:gX b1 s.heap h l1 k1)(M:gX b2 s.heap i l2 k2)(u:gY b1 s.heap l1 xs)(N:gY b2 s.heap l2 ys)(O:xs[k1]?=b_\/ys[k2]?=b_)(P:∀h',(∀c o,c≠z->c≠TO->c≠h->c≠i->s.heap.get? c=a_ o->h'.get? c=a_ o)->Q b_ {s with heap:=h'}):be (bn prog w) A (pyNext<|.ref z) Q E s:=by
 have v:s.TypeIs (.ref z) "zip":=⟨_,g,xz⟩
 have y:∀(h':i_)(e:e_),(∀c o,c≠z->c≠TO->c≠h->c≠i->s.heap.get? c=a_ o->h'.get? c=a_ o)->(∃o,h'.get? e=a_ o/\o.cls=.type "StopIteration")->
   be (bn prog w) A (do if <-Kv (.ref e) (.type "StopIteration") then pure b_ else throw (.ref e)) Q E {s with heap:=h'}:=λh' e R⟨o,S,U⟩=>
  ah (BB (T:="StopIteration") (b:=c_) ⟨o,S,U⟩ Ti<|aO<|P _ R)
 refine ah<|EM<|xq (name:=rX "__next__") v F.slot_zip_next<|rO F.slot_zip_next v F.entry_zip_next ?_<|F.args_zip_next_1 _;show be _ _ (field (.ref z) 2 >>= _) _ _ s;refine ah<|mf g xz (x:=.bool d_) xz ?_;refine ah<|mf g xz (x:=.ref TI) xz<|ah<|ph K xz ?_;refine ah<|ah<|mf g xz (x:=.none) xz<|aO ?_;refine ah<|vD<|ah<|mf g xz (x:=.ref TO) xz<|ah (By g (by simp) λV k s1=>?_);have k:IsZip V z TI TO .ellipsis:=k;refine ah<|ah<|ah<|JR ?_;cases l:xs[k1]? with
 | none=>
  refine ah (next_end t (n1.ext s1.extBut D.i1z) (u.ext s1.extBut D.l1z) l λg2 e s2 m=>?_);obtain⟨n,d,j⟩:=m;have B:IsZip g2 z TI TO .ellipsis:=s2 _ _ D.i1z.g8 k;have p:e≠z:=λq=>by subst q;rw[B]at d;cases d;simp at j
  exact By B (by simp) λC _ f=>y C e (λc o c1 _ r _ q=>f.extBut _ _ c1<|s2 _ _ r<|s1.extBut _ _ c1 q) ⟨n,f.extBut _ _ p d,j⟩
 | some x=>
  have W:ys[k2]?=none:=by
   obtain q|q:=O
   .rw[l]at q;cases q
   exact q
  refine ah (next_item (n1.ext s1.extBut D.i1z) (u.ext s1.extBut D.l1z) l λg2 n1' s2=>aO ?_);have G:IsPair g2 TO a b:=s2.extBut _ _ D.TOi1<|s1.extBut _ _ D.TOz L;refine ah<|ph G xz<|ah (SH G λC t3 f=>ah<|zV<|aO<|ah<|ah<|JR ?_);refine ah (next_end t (((M.ext s1.extBut D.i2z).ext s2.extBut D.i12.g8).ext f.extBut D.TOi2.g8) (((N.ext s1.extBut D.l2z).ext s2.extBut D.l2i1).ext f.extBut D.l2TO) W λX e H m=>?_);obtain⟨n,d,j⟩:=m;have I:IsZip X z TI TO .ellipsis:=H _ _ D.i2z.g8<|f.extBut _ _ D.TOz.g8<|s2.extBut _ _ D.i1z.g8 k;have p:e≠z:=λq=>by subst q;rw[I]at d;cases d;simp at j
  exact By I (by simp) λY _ J=>y Y e (λc o c1 Z r c4 q=>J.extBut _ _ c1<|H _ _ c4<|f.extBut _ _ Z<|s2.extBut _ _ r<|s1.extBut _ _ c1 q) ⟨n,J.extBut _ _ p d,j⟩
noncomputable abbrev sC(b:Bool)(l:e_):cP:={cls:=.type (if b=c_ then "list_iterator" else "tuple_iterator"),data:=.fields #[.ref l,.int 0 0]}
def Fn(m:gY b s.heap l xs)(k:Q (.ref s.heap.objs.size) {s with heap:=s.heap.push (sC b l)}):be (bn prog w) A (pyIter<|.ref l) Q E s:=by
 rcases b with _|_;exact wpAny_pyIter_tuple m k;exact zB m k
def V9(e:h.get? a=a_ (sC b l)):gX b h a l 0:=by
 rcases b with _|_;exact⟨_,e,xz,xz⟩;exact⟨_,e,xz,xz⟩
end
abbrev HD(b1:Bool)(h:i_)(l1:e_):Heap:=h.push<|sC b1 l1
abbrev HC(b1 b2:Bool)(h:i_)(l1 l2:e_):Heap:=(HD b1 h l1).push<|sC b2 l2
abbrev HB(b1 b2:Bool)(h:i_)(l1 l2:e_):Heap:=(HC b1 b2 h l1 l2).push {cls:=.type "tuple",data:=.seq #[.ref h.objs.size,.ref (HD b1 h l1).objs.size]}
abbrev HA(b1 b2:Bool)(h:i_)(l1 l2:e_):Heap:=(HB b1 b2 h l1 l2).push {cls:=.type "tuple",data:=.seq #[.none,.none]}
abbrev AS(b1 b2:Bool)(h:i_)(l1 l2:e_):Heap:=(HA b1 b2 h l1 l2).push {cls:=.type "zip",data:=.fields #[.none,.bool d_,.bool d_,.ref (HC b1 b2 h l1 l2).objs.size,.ref (HB b1 b2 h l1 l2).objs.size]}
def gY.push(x:gY b h l xs)(o:cP):gY b (h.push o) l xs:=x.at λ_ e=>bE _ e
def agx(b1 b2:Bool)(l1 l2:e_)(xs ys:Array f_):Meets (Builtin.«zip.__new__» ⟨[.type "zip",.ref l1,.ref l2],[]⟩) (λ_ R s=>gY b1 s.heap l1 xs/\gY b2 s.heap l2 ys/\R (.ok<|.ret<|.ref (HA b1 b2 s.heap l1 l2).objs.size) {s with heap:=AS b1 b2 s.heap l1 l2}):=
 .of_wp λprog w A R s h=>by
  obtain⟨a,g,d,tk,os⟩:=s;obtain⟨b,c,h⟩:=h;have f:=sub_zip;have e:gY _ (Shared.heap ⟨a.push<|sC b1 l1,g,d,tk,os⟩) _ ys:=gY.push c _
  wp_walk using Fn b,Fn e
  exact⟨_,xz,h⟩
section
variable{prog:k_}{w:j_}{A:h_}{E:f_->g_->Prop}{s:g_}
def aeP{l1 l2:e_}(j:gY b1 s.heap l1 xs)(l:gY b2 s.heap l2 ys)(k:∀h',IsZip h' (s.heap.objs.size+4) (s.heap.objs.size+2) (s.heap.objs.size+3) .none->IsPair h' (s.heap.objs.size+2) (.ref s.heap.objs.size) (.ref<|s.heap.objs.size+1)->IsPair h' (s.heap.objs.size+3) .none .none->gX b1 h' s.heap.objs.size l1 0->gX b2 h' (s.heap.objs.size+1) l2 0->(∀c o,s.heap.get? c=a_ o->h'.get? c=a_ o)->Q (.ref<|s.heap.objs.size+4) {s with heap:=h'}):be (bn prog w) A (call (.type "zip") [.ref l1,.ref l2]) Q E s:=by
 refine callType_new F.called_zip qc (F.typeCall_zip_2 _ _) (F.newCall_zip_2 _ _) (λobj=>F.args_object_init_3 _ _ _) F.entry_zip_new (agx _ _ _ _ _ _) ⟨j,l,?_⟩;have a:(HD b1 _ l1).objs.size=s.heap.objs.size+1:=lZ ..;have b:(HC b1 b2 s.heap l1 l2).objs.size=s.heap.objs.size+2:=by rw[lZ,a]
 have d:(HB b1 b2 s.heap l1 l2).objs.size=s.heap.objs.size+3:=by rw[lZ,b]
 have f:(HA b1 b2 s.heap l1 l2).objs.size=s.heap.objs.size+4:=by rw[lZ,d]
 have e:(AS b1 b2 _ l1 l2).get? (HA b1 b2 s.heap l1 l2).objs.size=a_ _:=eO _ rfl;have g:(AS b1 b2 _ l1 l2).get? (HB b1 b2 s.heap l1 l2).objs.size=a_ _:=bE _<|eO _ xz;have h:(AS b1 b2 _ l1 l2).get? (HC b1 b2 s.heap l1 l2).objs.size=a_ _:=bE _<|bE _<|eO _ xz;have i:(AS b1 b2 _ l1 l2).get? (HD b1 s.heap l1).objs.size=a_ _:=bE _<|bE _<|bE _<|eO _ xz;have m:(AS b1 b2 s.heap l1 l2).get? _=a_ _:=bE _<|bE _<|bE _<|bE _<|eO _ xz;rw[b,d,f]at e;rw[a,b]at h;rw[d]at g;rw[a]at i;rw[f];exact⟨⟨_,e,xz⟩,k _ e h g (V9 m) (V9 i) λc o x=>bE _<|bE _<|bE _<|bE _<|bE _ x⟩
end
end L3
namespace L3
open AutoSeq1 (wpAny_loadPart')
def aeu(l:e_)(a:Array f_)(n:Nat)(yF:Option e_)(sl:Array (Option f_)):Meets (Builtin.«enumerate.__new__» ⟨[.type "enumerate",.ref l],[]⟩) (λ_ R s=>s.heap.get? l=a_ {cls:=.type "tuple",dict:=yF,data:=.seq a n,slots:=sl}/\R (.ok<|.ret<|.ref (s.heap.push<|sC d_ l).objs.size) {s with heap:=(s.heap.push<|sC d_ l).push {cls:=.type "enumerate",data:=.fields #[.none,.bool d_,.ref s.heap.objs.size,ci 0,.none,.none]}}):=
 .of_wp λprog w A R s h=>by
  obtain⟨b,g,d,tk,os⟩:=s;obtain⟨q,h⟩:=h;have e:=sub_enumerate;have M:gY d_ _ l a:=⟨_,q,xz,n,xz⟩
  wp_walk using Tf q
  refine wpAny_stack_any λst=>aO ?_
  split
  .rename_i c _ _ _ _ _
   cases (c==iI "enumerate") <;> (wp_walk using Tf q,Fn M;exact⟨_,xz,h⟩)
  .wp_walk using Tf q,Fn M
   exact⟨_,xz,h⟩
section
variable{prog:k_}{w:j_}{A:h_}{E:f_->g_->Prop}{s:g_}
def aev(m:gY b s.heap l xs)(k:∀h',IsEnum h' (s.heap.objs.size+1) s.heap.objs.size 0 .none->gX b h' s.heap.objs.size l 0->(∀c o,s.heap.get? c=a_ o->h'.get? c=a_ o)->Q (.ref<|s.heap.objs.size+1) {s with heap:=h'}):be (bn prog w) A (call (.type "enumerate") [.ref l]) Q E s:=by
 rcases b with _|_
 ·obtain⟨⟨c,yF,j,sl⟩,f,a,n,hd⟩:=m;have a:=a;have hd:=hd;subst a hd;refine callType_new F.called_enumerate qc (F.typeCall_enumerate_1 _) (F.newCall_enumerate_1 _) (λobj=>F.args_object_init_2 _ _) F.entry_enumerate_new (aeu l _ n _ _) ⟨f,?_⟩;have d:(s.heap.push<|sC d_ l).objs.size=s.heap.objs.size+1:=lZ ..
  have e:IsEnum ((s.heap.push<|sC d_ l).push {cls:=.type "enumerate",data:=.fields #[.none,.bool d_,.ref s.heap.objs.size,ci 0,.none,.none]}) (s.heap.objs.size+1) s.heap.objs.size 0 .none:=by
   have q:=eO (s.heap.push<|sC d_ l) (o:={cls:=.type "enumerate",data:=.fields #[.none,.bool d_,.ref s.heap.objs.size,ci 0,.none,.none]}) rfl;rw[d]at q;exact q
  show _/\_;rw[d];exact⟨⟨_,e,xz⟩,k _ e ⟨_,bE _<|eO _ xz,xz,xz⟩ λc o x=>bE _<|bE _ x⟩
 exact call_enumerate_list m λh' g h _ i=>k _ g h i
def aez(d:A.handled=b_)(it l:e_)(f:l≠it)(xs:Array f_):Draws prog w A it [it,l] xs.size (λi v=>xs[i]?=a_ v) (λi h=>gX b h it l i/\gY b h l xs) where
 live:=λ_ _ st=>let ⟨o,_,e,_⟩:=st.1.obj;⟨o,e⟩
 frame:=λ_ _ _ st a=>⟨st.1.at λo e=>a it (by simp) o e,st.2.at λo e=>a l (by simp) o e⟩
 item:=λi s Q E hi st g=>next_item st.1 st.2 (x:=xs[i]) (by simp[hi]) λh' j c=>g _ h' s.toks (by simp[hi]) ⟨j,st.2.ext c.extBut f⟩ c
 done:=λs Q E st k=>next_end d st.1 st.2 (by simp) k
end
end L3
namespace L2
open L3
def dc.Mq{X:Cx}{p_:List (e_×cP)}{σ:St}{H:Hp}{s:g_}{h':i_}{t':Nat}{ch:List e_}(I:dc X p_ σ H s)(k:∀b o,b∉ch->s.heap.get? b=a_ o->h'.get? b=a_ o)(a:∀b∈ch,jG X p_ H b):dc X p_ σ H {s with heap:=h',toks:=t'}:=by
 have f:∀b u,H b=a_ u->b∉ch:=λb u e z=>by rw[(a b z).1]at e;cases e
 refine I.step (g':=s.gens) (d':=s.drawn) (ch:=ch) (λb d=>⟨(a b d).2.2.2.1,(a b d).2.1,(a b d).2.2.2.2.1,(a b d).2.2.2.2.2⟩) (λb o _ _ z e _=>k b o z e) (λb o _ _ z e _=>⟨o.slots,k b o z e⟩) (λ_ _ _ _ n=>n)
  (λb o z e=>⟨o,k b o z e⟩) (λ_ _ e=>e) (λ_ _ _ e=>e) (λb ps e=>⟨#[],by rw[e];simp⟩) (λm hm=>?_) (λb u e=>?_) I.bare
 .exact CS hm λo es g h r=>⟨o,es,g,(k _ o (λz=>(a _ z).2.1 xz) h),r⟩
 refine(I.aU b u e).uz (λc v i q=>k c v ?_ q) (λ_ q=>q) λ_ _ q=>q;obtain z|z:=i
 .rw[z];exact f b u e
 exact f c _ z
def Sq(b:Bool)(K:u_)(H:Hp)(a:e_)(xs:List V):Prop:=if b=c_ then ag K H a xs else aq K H a xs
def sA(I:dc X p_ σ H s)(h:Sq b X.K H a xs):∃c:List f_,di xs c/\gY b s.heap a c.toArray/\xs.length<=bZ:=by
 rcases b with _|_;exact aY (I.tuple h) dQ;exact aY (I.list h) λc r p z=>dQ _ r p.isList z
def Nb(I:dc X p_ σ H s)(h:Sq b X.K H a xs)(h':Sq b X.K H a ys):xs=ys:=by
 rcases b with _|_;exact I.UP h h';exact I.V8 h h'
def Od(I:dc X p_ σ H s)(h:Sq b X.K H a xs):a<s.zS:=by
 refine aY (sA I h) λc r p z=>?_;rcases b with _|_
 ·obtain⟨o,e,_⟩:=p;exact bV e
 obtain⟨o,e,_⟩:=p;exact bV e
def ni(b1 b2:Bool)(K:u_)(l1 l2:e_):It:=
 ⟨λi H=>∃xs ys x y,Sq b1 K H l1 xs/\Sq b2 K H l2 ys/\xs[i]?=a_ x/\ys[i]?=a_ y,λi H v H'=>∃p x y,H p=b_/\v=.ref p/\H'=db H p (.tup [x,y])/\∀xs ys,Sq b1 K H l1 xs->Sq b2 K H l2 ys->xs[i]?=a_ x/\ys[i]?=a_ y,λi H=>∃xs ys,Sq b1 K H l1 xs/\Sq b2 K H l2 ys/\(xs.length<=i\/ys.length<=i)⟩
def zY(x:gX b h it l i):∃o,h.get? it=a_ o/\∀v,o.data≠.cell v:=by
 exact cG x.obj λo vs e d=>ay o e (λv z=>by rw[d]at z;cases z)
def aeS{P:k_}{w:j_}{K:u_}{es:List bw}{T:Nat}{U:Pos}{b1 b2:Bool}{z TI TO f g l1 l2:e_}(D:ZipApart z TI TO f g l1 l2):Turn P w K (.Tuple es T U) (ni b1 b2 K l1 l2) [z,TI,TO,f,g] z (λi h=>IsZip h z TI TO .none/\IsPair h TI (.ref f) (.ref g)/\(∃a b,IsPair h TO a b)/\gX b1 h f l1 i/\gX b2 h g l2 i) where
 mem:=by simp
 obj:=λi h⟨l,j,⟨a,b,m⟩,n,p⟩c d=>by
  simp only[bH,rQ,or_false]at d;obtain rfl|rfl|rfl|rfl|rfl:=d
  .exact ay _ l (λv z=>by cases z)
  .exact ay _ j (λv z=>by cases z)
  .exact ay _ m (λv z=>by cases z)
  .exact zY n
  exact zY p
 keep:=λi h h'⟨l,j,⟨a,b,m⟩,n,p⟩k=>⟨k z (by simp) _ l,k TI (by simp) _ j,⟨a,b,k TO (by simp) _ m⟩,n.at λo e=>k f (by simp) o e,p.at λo e=>k g (by simp) o e⟩
 item:=by
  intro X F hw G d i p_ s σ H E I t ⟨l,j,⟨a,b,m⟩,n,p⟩ hg;subst F hw G;refine Au hg λxs ys x y A V=>gH V λB R S=>aY (sA I A) λW J L _=>aY (sA I B) λY r2 M _=>aB (J.get R) λu Z ru=>aB (r2.get S) λv hv rv=>aeO D l j m n p L M (x:=u) (y:=v) (by simpa using Z) (by simpa using hv) λh' c1 c2 c3 c4 c5 C=>?_;have N:=I.aU.fresh<|az _
  have lts:∀c∈[z,TI,TO,f,g],c<s.zS:=λc d=>by
   simp only[bH,rQ,or_false]at d;obtain rfl|rfl|rfl|rfl|rfl:=d
   .exact bV l
   .exact bV j
   .exact bV m
   .obtain⟨o,e,_⟩:=zY n;exact bV e
   obtain⟨o,e,_⟩:=zY p;exact bV e
  refine ay _ xz (wpAny_letOwnedTupleGo_zip c1 λO d1 r=>?_);have sz:∀c∈[z,TI,TO,f,g],c≠s.zS:=λc d=>dH<|lts c d
  have k2:∀c o,c∉[z,TO,f,g]->s.heap.get? c=a_ o->O.get? c=a_ o:=λc o d e=>by
   simp only[bH,rQ,or_false,not_or]at d;exact(r.2 c d.1).fT (C c o d.1 d.2.1 d.2.2.1 d.2.2.2 e)
  have fz:∀c∈[z,TO,f,g],jG X p_ H c:=λc d=>t c (by
   simp only[bH,rQ,or_false]at d ⊢;rcases d with rfl | rfl | rfl | rfl <;> simp)
  have pT:IsPair O s.zS u v:=(r.2 _<|iL<|sz z<|by simp).fT c5;have Q:=I.jX (az _) N;have I2:dc X p_ σ (db H s.zS<|.tup [x,y]) {s with heap:=O}:=dc.adopt (dc.Mq (t':=s.toks) I k2 fz) N I.sz Q.2.1 Q.2.2.2.2.1 Q.2.2.2.2.2 ⟨by show 2<=bZ;decide,[u,v],.cons ru<|.cons rv .nil,⟨_,pT,xz,_,xz⟩⟩;refine⟨.ref s.zS,_,I2,xz,⟨_,x,y,N,xz,xz,λxs' ys' p1 p2=>⟨by rw[Nb I p1 A];exact R,by rw[Nb I p2 B];exact S⟩⟩,⟨d1,(r.2 _ D.TIz).fT<|C _ _ D.TIz D.TITO D.TIi1 D.TIi2 j,⟨u,v,(r.2 _ D.TOz).fT c2⟩,c3.at λo e=>(r.2 _ D.i1z).fT e,c4.at λo e=>(r.2 _ D.i2z).fT e⟩,λc d=>?_⟩;rw[aj<|sz c d];exact(t c d).1
 done:=by
  intro X F hw G d i p_ s σ H E I t ⟨l,j,⟨a,b,m⟩,n,p⟩ hg;subst F hw G;refine fk hg λxs ys A B AR=>aY (sA I A) λW J L _=>aY (sA I B) λY r2 M _=>?_;have l1':=J.length;have l2':=r2.length;refine agy (I.ok.hd d) D l j m n p L M (by obtain q|q:=AR;exact .inl (by simp;lia);exact .inr (by simp;lia)) λh' C=>⟨xz,?_⟩
  refine dc.Mq (t':=s.toks) (ch:=[z,TO,f,g]) I (λc o d e=>?_) λc d=>t c (by
   simp only[bH,rQ,or_false]at d ⊢;rcases d with rfl | rfl | rfl | rfl <;> simp)
  simp only[bH,rQ,or_false,not_or]at d;exact C c o d.1 d.2.1 d.2.2.1 d.2.2.2 e
 self:=λ_ _ _ _ _ st h=>wpAny_pyIter_zip st.1 h
section
variable{X:Cx}{pos:Pos}
def an5(b1 b2:Bool)(K:u_)(b:TA):TI:=λσ H R=>b σ H λvs a=>∃l1 l2 xs ys,vs=[.ref l1,.ref l2]/\Sq b1 K a l1 xs/\Sq b2 K a l2 ys/\R (ni b1 b2 K l1 l2) a
def XX(m:Gl X "zip")(hm:X.mg "zip"=b_)(ha:PA X [a,b] ta)
  (n:autoParam (cA [a,b] X.env=[(d_,eval a X.env),(d_,eval b X.env)]) a8) (i:autoParam (cA [b] X.env=[(d_,eval b X.env)]) a8):PI X (.Tuple es x1 Hl) (.Call (.Name "zip" p) [a,b] [] pos) (an5 b1 b2 X.K ta):=by
 refine λp_ s σ H R I h=>Call_<|vV I m hm boot_zip<|Eu (HF (ha _ _ s _ H _ I h) λus s1 vs C d o f=>?_) (by rw[n,i]) (by rw[i];rfl);obtain⟨l1,l2,xs,ys,e,f,j,q⟩:=f;subst e;cases o with
 | cons r g=>
  cases g with
  | cons t g=>
   cases g;cases r;cases t;obtain⟨E,_,u,_⟩:=sA d f;obtain⟨F,_,v,_⟩:=sA d j;have w:=Od d j;refine aeP u v λh' c1 x y z A B=>wpAny_pyIter_zip c1<|qo _ _ _ _ _ xz (d.kept B) (aeS (D:=zipApart_new (Od d f) w)) ⟨c1,x,⟨_,_,y⟩,z,A⟩ (λc k=>?_) q
   have l:s1.zS<=c:=by
    simp only[bH,rQ,or_false]at k;rcases k with rfl | rfl | rfl | rfl | rfl <;> lia
   exact d.jX l<|d.aU.fresh l
def nP(b:Bool)(K:u_)(l:e_):It:=
 ⟨λi H=>∃xs x,Sq b K H l xs/\xs[i]?=a_ x,λi H v H'=>∃p x,H p=b_/\v=.ref p/\H'=db H p (.tup [.int i,x])/\∀xs,Sq b K H l xs->xs[i]?=a_ x,λi H=>∃xs,Sq b K H l xs/\xs.length<=i⟩
end
def adI{P:k_}{w:j_}{K:u_}{es:List bw}{Q:Nat}{R:Pos}{b:Bool}{e it l:e_}(n1:e≠it)(S:l≠it)(U:e≠l):Turn P w K (.Tuple es Q R) (nP b K l) [e,it] e (λi h=>(∃j,IsEnum h e it i j)/\gX b h it l i) where
 mem:=by simp
 obj:=λi h⟨⟨j,d⟩,g⟩c a=>by
  simp only[bH,rQ,or_false]at a;obtain rfl|rfl:=a
  .exact ay _ d (λv z=>by cases z)
  exact zY g
 keep:=λi h h'⟨⟨j,d⟩,g⟩k=>⟨⟨j,k e (by simp) _ d⟩,g.at λo q=>k it (by simp) o q⟩
 item:=by
  intro X p hw r a i p_ s σ H E I f ⟨⟨j,d⟩,g⟩ hg;subst p hw r;refine cG hg λxs x m L=>aY (sA I m) λvs t B _=>aB (t.get L) λu M V=>?_
  have W:i<vs.toArray.size:=by
   have:=(cb.mp M).1;simpa using this
  have Y:X.A.in1.handled=none:=I.ok.hd a;refine wpAny_pyNext_enum_itemD (n:=vs.toArray.size) (aez (b:=b) Y it l S vs.toArray) d ⟨g,B⟩ W n1 (by simp;exact⟨n1,U⟩) λy h' tk Z c1 c2 c3 c4 kk=>?_
  have ey:y=u:=by
   have:vs[i]?=a_ y:=by simpa using Z
   rw[M]at this;exact(dj this).g8
  subst ey;have C:=I.aU.fresh<|az _;have N:e≠s.zS:=dH<|bV d
  have iS:it≠s.zS:=by
   exact aB (zY g) λo q _=>dH<|bV q
  refine ay _ xz (wpAny_letOwnedTupleGo_enum c1 λD d1 G=>?_)
  have k2:∀c o,c∉[e,it]->s.heap.get? c=a_ o->D.get? c=a_ o:=λc o a q=>by
   simp only[bH,rQ,or_false,not_or]at a;exact(G.2 c a.1).fT (kk c o a.1 a.2 q)
  have I1:dc X p_ σ H {s with heap:=D,toks:=tk+1}:=dc.Mq I k2 f;have J:=I.jX (az _) C
  have I2:dc X p_ σ (db H s.zS<|.tup [.int i,x]) {s with heap:=D,toks:=tk+1}:=dc.adopt I1 C I.sz J.2.1 J.2.2.2.2.1 J.2.2.2.2.2
   ⟨by show 2<=bZ;decide,[.int i tk,y],.cons ⟨_,xz⟩<|.cons V .nil,⟨_,(G.2 _<|iL N).fT c3,xz,_,xz⟩⟩
  refine⟨(.ref s.zS),_,I2,xz,⟨_,x,C,xz,xz,λxs' p1=>by rw[Nb I p1 m];exact L⟩,⟨⟨_,by simpa using d1⟩,c2.1.at λo q=>(G.2 _<|iL n1).fT q⟩,(λc a=>?_)⟩;simp only[bH,rQ,or_false]at a;obtain rfl|rfl:=a
  .rw[aj N];exact(f _<|by simp).1
  rw[aj iS];exact(f _<|by simp).1
 done:=by
  intro X p hw r a i p_ s σ H E I f ⟨⟨j,d⟩,g⟩ hg;subst p hw r;refine aB hg λxs m AR=>aY (sA I m) λvs t B _=>?_;have hl:=t.length;have O:s.TypeIs (.ref e) "enumerate":=⟨_,d,xz⟩;refine ah<|EM<|xq (name:=rX "__next__") O F.slot_enumerate_next<|rO F.slot_enumerate_next O F.entry_enumerate_next ?_<|F.args_enumerate_next_1 _;show be _ _ (field (.ref e) 2 >>= _) _ _ s;refine ah<|mf d xz (x:=.ref it) xz<|ah (next_end (show X.A.in1.handled=b_ from I.ok.hd a) g B (by simp;lia) λh' y hk⟨o,ho,yZ⟩=>ah<|BB (T:="StopIteration") (b:=c_) ⟨o,ho,yZ⟩ Ti<|aO ⟨xz,I.turned (t':=s.toks) (it:=it) (λc q a z=>hk c q a z) (f it<|by simp).1 (f it<|by simp).2.1 (f it<|by simp).2.2.2.1 (f it<|by simp).2.2.2.2.1 (f it<|by simp).2.2.2.2.2⟩)
 self:=λ_ _ _ _ _ st h=>let ⟨_,d⟩:=st.1;wpAny_pyIter_enum d h
section
variable{X:Cx}{pos:Pos}
def alV(b:Bool)(K:u_)(c:TA):TI:=λσ H R=>c σ H λvs a=>∃l xs,vs=[.ref l]/\Sq b K a l xs/\R (nP b K l) a
def ui(j:Gl X "enumerate")(hm:X.mg "enumerate"=b_)(ha:PA X [a] ta)
  (k:autoParam (cA [a] X.env=[(d_,eval a X.env)]) a8):PI X (.Tuple es x1 Hl) (.Call (.Name "enumerate" p) [a] [] pos) (alV b X.K ta):=by
 refine λp_ s σ H R I h=>Call_<|vV I j hm boot_enumerate<|Eu (HF (ha _ _ s _ H _ I h) λus s1 vs v d m f=>?_) k xz;obtain⟨l,xs,e,f,q⟩:=f;subst e;cases m with
 | cons r n=>
  cases n;cases r;obtain⟨w,_,o,_⟩:=sA d f;have n1:=Od d f;refine aev o λh' c1 t u=>wpAny_pyIter_enum c1<|qo _ _ _ _ _ xz (d.kept u) (adI (JF _) (dH n1)<|iL<|dH<|EA n1) ⟨⟨_,c1⟩,t⟩ (λc g=>?_) q
  have i:s1.zS<=c:=by
   simp only[bH,rQ,or_false]at g;rcases g with rfl | rfl <;> lia
  exact d.jX i<|d.aU.fresh i
end
end L2
namespace L2
open PySem.SeqAt L3
noncomputable def ZY:V->Option f_
 | .ty n=>a_<|.type n
 | .ref a=>a_<|.ref a
 | _=>b_
def agp(h:ZY c=a_ cv)(r:df c u):u=cv:=by
 cases c with
 | ty n=>cases h;exact r
 | ref a=>cases h;exact r
 | _=>cases h
def ZI(K:u_):List V->Hp->VK->Prop:=λxs H Q=>∃x c t a b,xs=[x,c]/\gE K H x t/\ZY c=a_ a/\v_ K t a=a_ b/\Q (.bl b) H
section
variable{X:Cx}
def ji:i7 X (.builtin "isinstance") (ZI X.K):=by
 refine λp_ s σ H xs us Q I r h=>jk h λx c t g b a=>Oy a λe ty d f q=>?_;subst e;cases r with
 | cons r1 r2=>
  cases r2 with
  | cons r2 r3=>
   cases r3;cases agp d r2;exact aen I r1 ty f λtk=>(dN (.bl b) H (I.tok _) xz q)
def range_all(bs:List Bool):(List.range bs.length).all (λi=>bs.getD i d_)=bs.all id:=by
 induction bs with
 | nil=>rfl
 | cons b r ih=>
  rw[eJ,aaV,BD,zR,BD];simp only[id]
  congr 1
def range_any(bs:List Bool):(List.range bs.length).any (λi=>bs.getD i d_)=bs.any id:=by
 induction bs with
 | nil=>rfl
 | cons b r ih=>
  rw[eJ,aaV,xC,TZ,xC];simp only[id]
  congr 1
theorem Lf:∀{bs:List Bool}{us:List f_},di (bs.map V.bl) us->us=bs.map lE
 | [],_,r=>by cases r;rfl
 | b::bs,_,r=>by
  cases r with
  | cons a r2=>
   cases a;rw[fv,Lf r2]
def T7(bs:List Bool):TruthOf X.prog X.w A (λi v=>(bs.map lE).toArray[i]?=a_ v) (λi=>bs.getD i d_):=by
 intro i v s Q E h q;have h':(bs.map lE)[i]?=a_ v:=by simpa using h
 rw[cc]at h';rcases e:bs[i]? with _|b
 ·rw[e]at h';cases h'
 rw[e]at h';have c:=(dj h').g8;subst c;have d:bs.getD i d_=b:=by rw[eG,e];rfl
 have a:Q (bs.getD i d_) s:=q;rw[d]at a;exact qg a
def anQ(K:u_):List V->Hp->VK->Prop:=λxs H Q=>∃(p:e_)(bs:List Bool),xs=[.ref p]/\ag K H p (bs.map V.bl)/\Q (.bl<|bs.all id) H
def anP(K:u_):List V->Hp->VK->Prop:=λxs H Q=>∃(p:e_)(bs:List Bool),xs=[.ref p]/\ag K H p (bs.map V.bl)/\Q (.bl<|bs.any id) H
def Ag(a:X.calm=c_):i7 X (.builtin "all") (anQ X.K):=by
 refine λp_ s σ H xs us Q I r h=>fk h λp bs e c q=>?_;subst e;refine aB (vals1 r) λu d f=>?_;subst d;cases f;refine aY (I.list c) λt g pl v=>?_;have j:=Lf g;subst j
 have k:p≠s.zS:=by
  exact aB pl.isList λo e _=>dH<|bV e
 refine call_all_walk<|zB pl.isList<|⟨_,_,_,_,_,_,(iA _ xz (BQ (show X.A.in1.handled=b_ from I.ok.hd a) _ p k (bs.map _).toArray) ⟨⟨_,eO _ xz,xz,xz⟩,pl.isList.push _⟩ (T7 _) λh' tk l=>?_)⟩
 have m:(List.range (bs.map lE).toArray.size).all (λi=>bs.getD i d_)=bs.all id:=by
  rw[dA,aA];exact range_all _
 rw[m];refine dN (.bl _) H (I.kept λb o e=>l b o (λz=>?_)<|bE _ e) xz q;have n:b=s.zS:=by simpa using z
 rw[n]at e;exact eu (bV e)<|mU _
def Wo(a:X.calm=c_):i7 X (.builtin "any") (anP X.K):=by
 refine λp_ s σ H xs us Q I r h=>fk h λp bs e c q=>?_;subst e;refine aB (vals1 r) λu d f=>?_;subst d;cases f;refine aY (I.list c) λt g pl v=>?_;have j:=Lf g;subst j
 have k:p≠s.zS:=by
  exact aB pl.isList λo e _=>dH<|bV e
 refine call_any_walk<|zB pl.isList<|⟨_,_,_,_,_,_,(iA _ xz (BQ (show X.A.in1.handled=b_ from I.ok.hd a) _ p k (bs.map _).toArray) ⟨⟨_,eO _ xz,xz,xz⟩,pl.isList.push _⟩ (T7 _) λh' tk l=>?_)⟩
 have m:(List.range (bs.map lE).toArray.size).any (λi=>bs.getD i d_)=bs.any id:=by
  rw[dA,aA];exact range_any _
 rw[m];refine dN (.bl _) H (I.kept λb o e=>l b o (λz=>?_)<|bE _ e) xz q;have n:b=s.zS:=by simpa using z
 rw[n]at e;exact eu (bV e)<|mU _
mutual
inductive eX (K:u_) (H:Hp):V->bD->Prop
 | aR:eX K H .aR .none
 | bl (b:Bool):eX K H (.bl b) (.bool b)
 | int (i:Int):eX K H (.int i) (.int i)
 | str (x:cr):eX K H (.str x) (.str x)
 | lst {a:e_} {xs:List V} {ds:List bD}:ag K H a xs->fG K H xs ds->eX K H (.ref a) (.list ds)
 | tup {a:e_} {xs:List V} {ds:List bD}:aq K H a xs->fG K H xs ds->eX K H (.ref a) (.tuple ds)
inductive fG (K:u_) (H:Hp):List V->List bD->Prop
 | nil:fG K H [] []
 | cons {x:V} {d:bD} {xs:List V} {ds:List bD}:eX K H x d->fG K H xs ds->fG K H (x::xs) (d::ds)
end
variable{p_:List (e_×cP)}{σ:St}{H:Hp}{s:g_}
mutual
theorem eX.reads(I:dc X p_ σ H s):∀{v:V}{d:bD}{u:f_},eX X.K H v d->df v u->∃a,Reads s.heap u d a
 | _,_,_,.aR,r=>by cases r;exact⟨_,.none⟩
 | _,_,_,.bl b,r=>by cases r;exact⟨_,.bool b⟩
 | _,_,_,.int i,r=>by obtain⟨t,e⟩:=r;subst e;exact⟨_,.int i t⟩
 | _,_,_,.str x,r=>by obtain⟨t,e⟩:=r;subst e;exact⟨_,.str x t⟩
 | _,_,_,.lst hq hs,r=>by
  cases r;exact aY (I.list hq) λk c pl l=>oE (fG.reads I hs c) λa h=>aY pl.isList λo f g j=>oE j λn hd=>⟨_,.list f g hd<|by simpa using h⟩
 | _,_,_,.tup hq hs,r=>by
  cases r;exact aY (I.tuple hq) λk c pl l=>oE (fG.reads I hs c) λa h=>aY pl λo f g j=>oE j λn hd=>⟨_,.tuple f g hd<|by simpa using h⟩
theorem fG.reads(I:dc X p_ σ H s):∀{vs:List V}{ds:List bD}{us:List f_},fG X.K H vs ds->di vs us->∃a,Ci s.heap us ds a
 | _,_,_,.nil,r=>by cases r;exact⟨_,.nil⟩
 | _,_,_,.cons h t,r=>by
  cases r with
  | cons r1 r2=>
   exact oE (eX.reads I h r1) λa b=>oE (fG.reads I t r2) λbs c=>⟨_,.cons b c⟩
end
def ZJ(K:u_)(a:Bool):R2:=λx y H Q=>∃d e,eX K H x d/\eX K H y e/\shaped d=c_/\shaped e=c_/\noMix d e=c_/\Q (.bl (if a=c_ then !same d e else same d e)) H
def ajb(a:X.A.units+64<cLine):dY X (iy .Eq) (ZJ X.K d_):=by
 exact λp_ s σ H x y v u Q I b c h=>eK h λd e h1 h2 h3 h4 h5 q=>oE (h1.reads I b) λi f=>oE (h2.reads I c) λbs g=>eq_dataH_same f g h3 h4 a h5<|dN (.bl _) H I xz q
def ai'(a:X.A.units+64<cLine):dY X (iy .NotEq) (ZJ X.K c_):=by
 exact λp_ s σ H x y v u Q I b c h=>eK h λd e h1 h2 h3 h4 h5 q=>oE (h1.reads I b) λi f=>oE (h2.reads I c) λbs g=>ne_dataH_same f g h3 h4 a h5<|dN (.bl _) H I xz q
end
structure OY(K:u_)(C:e_)(m:cr)(f:e_):Prop where
 sp:W.specialIn K (.ref C) "__getattribute__"=a_ (a_<|.builtin "type.__getattribute__")
 rd:W.readsIn K C (.type "type")=c_
 fc:W.findCls K (.ref C) (.type "type") m=a_ (.val<|.ref f)
 kp:x_ K (.ref f)=c_
section
variable{X:Cx}{CX:p6}{k:Nat}{f C:e_}{fd:jO}{ps:List cr}{sp:Sp}{dvs:List V}{ds:List f_}{E:XK}{x m:cr}{p pos apos:Pos}{e o:bw}{es:List bw}{ta:TE}{t:TA}
def zZ(c:OY X.K C m f)(F:aF X.prog X.w X.K X.mg X.base CX k f fd ps sp)(b:fJ k X.A)(d:Gl X x)(hm:X.mg x=a_ (.ref C))(g:dn X.K fd ps ds)(hd:di dvs ds)(i:Passes CX X E)(ha:PA X (e::es) t)
  (j:autoParam ((x==("__debug__":cr))=false) ad) (l:autoParam (cA (e::es) X.env=(d_,eval e X.env)::cA es X.env) a8) (n:autoParam ((bx pos<|cA es X.env).any (·.1)=false) a8)
  (q:autoParam (eval (.Call (.Attribute (.Name x p) m apos) (e::es) [] pos) X.env=(do
   let ov <-eval (.Name x p) X.env
   standAt apos.atName
   let (f,first) <-holding [ov] (vH ov m pl)
   Ah pos f first (bx pos<|cA (e::es) X.env) (xP pos<|xG [] X.env))) a8) :
  PE X (.Call (.Attribute (.Name x p) m apos) (e::es) [] pos) (Oc sp dvs E t):=by
 intro p_ s σ H Q I h;refine W.methodCall_KW (FN I d hm (W.method_cls I.dm c.sp<|W.cls_value I.dm c.rd c.fc xz ?_) j) q;have u:=I.tok<|s.toks+1;exact G_ I.ok.mod.yD c.kp (HF (ha _ _ _ _ H _ u h) λus s2 vs y a r v=>⟨a.dm,Aq F b g hd i a r v⟩) l n
def aiD(P:k_)(w:j_)(K:u_)(mg:cr->Option f_)(gl:i_)(CX:p6)(k:Nat)(m:cr)(E:XK)(ta:TE):TE:=λσ H Q=>ta σ H λx b=>∃a C dx fs f fd ps sp,x=.ref a/\b a=a_ (.ins C dx fs)/\fs.lookup m=b_/\da K C/\Meth K C m f/\
 aF P w K mg gl CX k f fd ps sp/\dn K fd ps []/\sp [.ref a] b Q E
def LR{P:k_}{w:j_}{K:u_}{mg:cr->Option f_}{gl:i_}(g:PE X o ta)(i:fJ k X.A)(j:Passes CX X E)(n:autoParam (X.prog=P) a8)(hw:autoParam (X.w=w) a8)(r:autoParam (X.K=K) a8)(v:autoParam (X.mg=mg) a8)(y:autoParam (X.base=gl) a8)
  (z:autoParam (eval (.Call (.Attribute o m apos) [] [] pos) X.env=(do
   let ov <-eval o X.env
   standAt apos.atName
   let (f,first) <-holding [ov] (vH ov m pl)
   Ah pos f first (bx pos<|cA [] X.env) (xP pos<|xG [] X.env))) a8) :
  PE X (.Call (.Attribute o m apos) [] [] pos) (aiD P w K mg gl CX k m E ta):=by
 subst n hw r v y;intro p_ s σ H Q I h;refine W.methodCall_KW (aT (g _ s _ H _ I h) λu s1 B=>fk B λx L d D b=>jk b λa C dx fs f b=>lG b λfd ps sp ex G b=>qE b λl c hm F J q=>?_) z;subst ex;obtain rfl:u=dq a:=D;exact EV d G c hm l<|W.callWith_K0 d.dm hm.kp<|Aq (vs:=[.ref a]) F i J .nil j d (.cons xz .nil) q
end
def bK{c A B:Prop}[Decidable c](h1:c->A)(h2:¬c->B):if decide c=c_ then A else B:=by
 by_cases h:c
 .rw[eN h];exact jq<|h1 h
 rw[eT h];exact eU<|h2 h
def nv{c A B:Prop}[Decidable c](h1:¬c->A)(h2:c->B):if (!decide c)=c_ then A else B:=by
 by_cases h:c
 .rw[eN h];exact eU<|h2 h
 rw[eT h];exact jq<|h1 h
def jW{A B:Prop}(h1:b=c_->A)(h2:b=d_->B):if b=c_ then A else B:=by
 rcases b with _|_;exact eU<|h2 xz;exact jq<|h1 xz
def OH{A B:Prop}(h1:b=d_->A)(h2:b=c_->B):if (!b)=c_ then A else B:=by
 rcases b with _|_;exact jq<|h1 xz;exact eU<|h2 xz
noncomputable def ZF(sc a:d5)(b N:List cr)(idx:List Nat):Bool:=
 decide (sc.kind=.function)&&(sc.names.all (λy=>decide<|y.2≠.cell)&&(sc.names.all (λy=>decide (y.2≠.local)||decide (sc.names.lookup y.1=a_ .local))&&(sc.names.all (λy=>decide (y.2≠.free)||decide (a.names.lookup y.1=a_ .cell))&&(decide (idx.length<=N.length)&&(idx.zip N).all λp=>decide (b[p.1]?=a_ p.2)&&decide (sc.names.lookup p.2=a_ .free)))))
def cF.of(h:ZF sc X.env.scope X.N N idx=c_):cF X sc N idx:=by
 unfold ZF at h;simp only[jy,decide_eq_true_eq,lY,Bool.or_eq_true]at h;refine qE h λh1 h2 h3 h4 h5 d=>⟨h1,h2,λy c e=>?_,λy c e=>?_,h5,λk i x a b=>?_⟩
 .obtain z|z:=h3 y c
  .exact eu e z
  exact z
 .obtain z|z:=h4 y c
  .exact eu e z
  exact z
 have hm:(i,x)∈idx.zip N:=by
  have:(idx.zip N)[k]?=a_ (i,x):=by rw[aaL];exact⟨a,b⟩
  exact aW this
 exact d _ hm
end L2
namespace TL
open L2 L3
def kinds:List String:=["NoneType","bool","int","str","list",S_]
def Ye:List String:=["int","bool","str",S_,"list"]
noncomputable def uG(T U:String):Bool:=T==U||(T=="bool"&&U=="int")
def NQ(K:u_)(T U:String):v_ K (.type T) (.type U) =(if (iI T==iI U)=c_ then a_ c_ else if W.kitMeta U=c_ then (Tj T).map (·.contains (.type U)) else b_):=rfl
def ah8:∀T∈kinds,∀U∈Ye,(if (iI T==iI U)=c_ then a_ c_ else if W.kitMeta U=c_ then (Tj T).map (·.contains (.type U)) else b_)=a_ (uG T U):=dk
noncomputable def dv(H:Hp):V->Option String
 | .aR=>a_ "NoneType"
 | .bl _=>a_ "bool"
 | .int _=>a_ "int"
 | .str _=>a_ "str"
 | .ref a=>match H a with
  | some (.lst _)=>a_ "list"
  | some (.tup _)=>a_ "tuple"
  | _=>b_
 | _=>b_
def UO{K:u_}(h:dv H v=a_ T):gE K H v (.type T)/\T∈kinds:=by
 cases v with
 | aR=>cases h;exact⟨.aR,qc⟩
 | bl b=>cases h;exact⟨.bl b,qc⟩
 | int i=>cases h;exact⟨.int i,qc⟩
 | str x=>cases h;exact⟨.str x,qc⟩
 | ref a=>
  unfold dv at h;rcases e:H a with _|o
  ·simp only[e]at h;cases h
  cases o with
  | lst xs=>simp only[e]at h;cases h;exact⟨.lst e,qc⟩
  | tup xs=>simp only[e]at h;cases h;exact⟨.tup e,qc⟩
  | _=>simp only[e]at h;cases h
 | _=>cases h
def pO{K:u_}(h:dv H v=a_ T)(a:U∈Ye):v_ K (.type T) (.type U)=a_ (uG T U):=by
 rw[NQ];exact ah8 T (UO (K:=K) h).2 U a
def pY{K:u_}(h:dv H v=a_ T):gE K H v (.type T):=(UO h).1
def T6(s:ae H H')(h:dv H v=a_ T):dv H' v=a_ T:=by
 cases v with
 | ref a=>
  unfold dv at h ⊢;rcases e:H a with _|o
  ·simp only[e]at h;cases h
  simp only[s a o e];simp only[e]at h;exact h
 | _=>exact h
noncomputable def uU:V->Bool
 | .int _=>c_
 | _=>d_
def Yh(h:dv H v=a_ T):(uG T "int"&&!uG T "bool")=uU v:=by
 cases v with
 | aR=>cases h;rfl
 | bl b=>cases h;rfl
 | int i=>cases h;rfl
 | str x=>cases h;rfl
 | ref a=>
  unfold dv at h;rcases e:H a with _|o
  ·simp only[e]at h;cases h
  cases o with
  | lst xs=>simp only[e]at h;cases h;rfl
  | tup xs=>simp only[e]at h;cases h;rfl
  | _=>simp only[e]at h;cases h
 | _=>cases h
def dW(w:cr):Option (List Int):=
 if w = V_ then a_ [4,kZ] else if w = W_ then a_ [4,4] else if w = J_ then a_ [12,4] else if w = K_ then a_ [4,12] else if w = H_ then a_ [4,12]
 else if w = M_ then a_ [] else if w = T_ then a_ [4,121] else b_
noncomputable def oJ:V->Int->Bool
 | .int i,b=>decide (0<=i)&&decide (i<b)
 | _,_=>d_
def stepOk:List V->Bool
 | .str w::ps=>match dW w with
  | none=>d_
  | some bs=>decide (ps.length=bs.length)&&(ps.zip bs).all λp=>oJ p.1 p.2
 | _=>d_
noncomputable def uq(H:Hp):V->Option (List V)
 | .ref a=>match H a with
  | some (.tup xs)=>a_ xs
  | _=>b_
 | _=>b_
def Av(H:Hp)(v:V):Bool:=match uq H v with
 | some xs=>stepOk xs
 | none=>d_
def adG(h:uq H v=a_ xs):∃a,v=.ref a/\H a=a_ (.tup xs):=by
 cases v with
 | ref a=>
  refine ay a xz ?_;unfold uq at h;cases e:H a with
  | none=>simp only[e]at h;cases h
  | some o=>
   cases o with
   | tup ys=>simp only[e]at h;cases h;rfl
   | _=>simp only[e]at h;cases h
 | _=>cases h
def Vx(h:H a=a_ (.tup xs)):uq H (.ref a)=a_ xs:=by
 unfold uq;simp only[h]
def ES(h:H a=a_ (.tup xs)):dv H (.ref a)=a_ S_:=by
 unfold dv;simp only[h]
def X1(h:dv H v=a_ T):uG T S_ = (uq H v).isSome:=by
 cases v with
 | aR=>cases h;rfl
 | bl b=>cases h;rfl
 | int i=>cases h;rfl
 | str x=>cases h;rfl
 | ref a=>
  unfold dv at h;unfold uq;cases e:H a with
  | none=>simp only[e]at h;cases h
  | some o=>
   cases o with
   | lst xs=>simp only[e]at h ⊢;cases h;rfl
   | tup xs=>simp only[e]at h ⊢;cases h;rfl
   | _=>simp only[e]at h;cases h
 | _=>cases h
def Gm(h:dv H v=a_ T):uG T "str"=c_↔∃x,v=.str x:=by
 cases v with
 | str x=>cases h;exact⟨λ_=>⟨x,xz⟩,λ_=>rfl⟩
 | aR=>cases h;exact⟨λz=>(by cases z),λ⟨_,z⟩=>(by cases z)⟩
 | bl b=>cases h;exact⟨λz=>(by cases z),λ⟨_,z⟩=>(by cases z)⟩
 | int i=>cases h;exact⟨λz=>(by cases z),λ⟨_,z⟩=>(by cases z)⟩
 | ref a=>
  refine⟨λz=>?_,λ⟨_,z⟩=>by cases z⟩;unfold dv at h;rcases e:H a with _|o
  ·simp only[e]at h;cases h
  cases o with
  | lst xs=>simp only[e]at h;cases h;cases z
  | tup xs=>simp only[e]at h;cases h;cases z
  | _=>simp only[e]at h;cases h
 | _=>cases h
def au(s:ae H H')(h:H' p=b_):ae H (db H' p o):=λb u e=>by
 rw[aj<|bf (s b u e) h];exact s b u e
end TL
namespace L4
open PySem.Builtin PySem.Builtin.Str
abbrev Tl:=cr×List Nat
inductive bY (sz:Nat):Tl->Prop
 | put (r m:Nat):r<4->m<10^60->bY sz ("put",[r,m])
 | add (r o:Nat):r<4->o<4->bY sz ("add",[r,o])
 | set (n r:Nat):n<12->r<4->bY sz ("set",[n,r])
 | look (r n:Nat):r<4->n<12->bY sz ("look",[r,n])
 | swap (r n:Nat):r<4->n<12->bY sz ("swap",[r,n])
 | clear:bY sz ("clear",[])
 | skip (r q:Nat):r<4->q<=sz->q<=120->bY sz ("skip",[r,q])
def agD:(121:Nat)<=10^60:=dk
def bY.len{sz:Nat}(g:bY sz t):t.2.length<=2:=by cases g <;> simp
abbrev Pt:=List Tl
structure cV(ps:List Pt):Prop where
 ne:1<=ps.length
 le:ps.length<=4
 part:∀p∈ps,p.length<=120/\∀t∈p,bY p.length t
def bY.mono(g:bY a t)(h:a<=b):bY b t:=by
 cases g with
 | put r m h1 h2=>exact .put r m h1 h2
 | add r m h1 h2=>exact .add r m h1 h2
 | set r m h1 h2=>exact .set r m h1 h2
 | look r m h1 h2=>exact .look r m h1 h2
 | swap r m h1 h2=>exact .swap r m h1 h2
 | clear=>exact .clear
 | skip r q h1 h2 h3=>exact .skip r q h1 (dC h2 h) h3
end L4
namespace L2
open TL
def nw(n:H l=b_):∃H',db H l o=H'/\ae H H'/\H' l=a_ o:=⟨_,xz,au (ae.refl _) n,ao⟩
def sl(h:autoParam (n<=1000) ad):n<=bZ:=by rw[fR];exact dC h qc
end L2
set_option autoImplicit true
namespace L2
abbrev IV:=Nat->St->Hp->Prop
def pR(R:TS)(h:fu X l R):fu X l R:=h
end L2
namespace L2
structure Dp(P:k_)(w:j_)(K:u_)(mg:cr->Option f_)(base:i_)(k:Nat)(x:cr)(ps:List cr)(sp:Sp) where
 {f:e_}
 {fd:jO}
 G:aF P w K mg base aE k f fd ps sp
 k:x_ K (.ref f)=c_
 b:dn K fd ps []
 m:mg x=a_ (.ref f)
structure Mt(P:k_)(w:j_)(K:u_)(mg:cr->Option f_)(base:i_)(C:e_)(k:Nat)(x:cr)(ps:List cr)(sp:Sp) where
 {f:e_}
 {fd:jO}
 G:aF P w K mg base aE k f fd ps sp
 b:dn K fd ps []
 m:Meth K C x f
section
variable{X:Cx}{C:e_}{k:Nat}{ps:List cr}{sp:Sp}{x m:cr}{p pos apos:Pos}{e o:bw}{es:List bw}{ta:TE}{t:TA}
def bN(D:Dp X.prog X.w X.K X.mg X.base k x ps sp)(a:fJ k X.A)(c:Gl X x)(ha:PA X (e::es) t)(d:autoParam ((x==("__debug__":cr))=false) ad)(f:autoParam (cA (e::es) X.env=(d_,eval e X.env)::cA es X.env) a8)(g:autoParam ((bx pos<|cA es X.env).any (·.1)=false) a8):
  PE X (.Call (.Name x p) (e::es) [] pos) (Oc sp [] E0 t):=pB D.G a c D.m D.k D.b .nil dh ha d f g
def jT(a:PE X o ta)(c:da X.K C)(D:Mt X.prog X.w X.K X.mg X.base C k m ps sp)(d:fJ k X.A)(ha:PA X (e::es) t)
  (g:autoParam (cA (e::es) X.env=(d_,eval e X.env)::cA es X.env) a8) (h:autoParam ((bx pos<|cA es X.env).any (·.1)=false) a8)
  (i:autoParam (eval (.Call (.Attribute o m apos) (e::es) [] pos) X.env=(do
   let ov <-eval o X.env
   standAt apos.atName
   let (f,first) <-holding [ov] (vH ov m pl)
   Ah pos f first (bx pos<|cA (e::es) X.env) (xP pos<|xG [] X.env))) a8) :
  PE X (.Call (.Attribute o m apos) (e::es) [] pos) (CL C m sp [] E0 ta t):=FK a c D.m D.G d D.b .nil dh ha g h i
def pG(a:PE X o ta)(c:da X.K C)(D:Mt X.prog X.w X.K X.mg X.base C k m ps sp)(d:fJ k X.A)
  (g:autoParam (eval (.Call (.Attribute o m apos) [] [] pos) X.env=(do
   let ov <-eval o X.env
   standAt apos.atName
   let (f,first) <-holding [ov] (vH ov m pl)
   Ah pos f first (bx pos<|cA [] X.env) (xP pos<|xG [] X.env))) a8) :
  PE X (.Call (.Attribute o m apos) [] [] pos) (CL C m sp [] E0 ta Hc):=Fj a c D.m D.G d D.b .nil dh g
end
end L2
namespace TL
open L2 L3
structure Bl(mg:cr->Option f_):Prop where
 iP:mg "isinstance"=b_
 int:mg "int"=b_
 bool:mg "bool"=b_
 str:mg "str"=b_
 tuple:mg S_ = b_
 len:mg "len"=b_
 all:mg "all"=b_
 zip:mg "zip"=b_
structure Cn(mg:cr->Option f_):Prop where
 top:∃u,mg "TOP"=a_ u/\df (.int kZ) u
 names:∃u,mg "NAMES"=a_ u/\df (.int 12) u
 dX:∃u,mg "REGISTERS"=a_ u/\df (.int 4) u
 long:∃u,mg "LONGEST"=a_ u/\df (.int 120) u
section
variable{P:k_}{w:j_}{K:u_}{mg:cr->Option f_}{gl:i_}
def Fy:Sp:=λvs H Q _=>∃v T,vs=[v]/\dv H v=a_ T/\Q (.bl<|uU v) H
def agW:aV hH hH (aP CB):=aZ
def LS(F:aQ K Z_ Z_ CB f fd)(B:Bl mg):aF P w K mg gl aE 1 f fd hH Fy:=by
 refine F.ok agW λaH A _ s H vs Q E c h=>?_
 refine fk h λv T b a k=>?_;subst b;refine⟨_,ar<|aS<|m7 (bu ji xz B.iP jg<|aa (pv 0)<|aa (oh (v:=.ty _) xz B.int boot_int xz) af)<|oq<|F'<|bu ji xz B.iP jg<|aa (pv 0)<|aa (oh (v:=.ty _) xz B.bool boot_bool xz) af,?_⟩;have e:=Yh a;refine ay v xz<|dE _ _ _ _<|iA _ xz (pY a) xz (pO a qc)<|ay _ xz (jW (λh1=>?_) λh1=>?_)
 .refine ay v xz (dE _ _ _ _<|iA _ xz (pY a) xz (pO a qc)<|ay _ xz ?_);rw[h1,t8]at e;rw[e];exact k
 rw[h1,xA]at e;rw[e];exact k
def VL:Sp:=λvs H Q _=>∃x,vs=[.str x]/\(dW x=b_->Q .aR H)/\∀bs,dW x=a_ bs->∀p,H p=b_->Q (.ref p) (db H p<|.lst<|bs.map V.int)
def ae7:aV ["word"] ["word"] (aP Cr):=aZ
def str_inj(h:V.str x=V.str y):x=y:=by injection h
def ad3(F:aQ K at0 at0 Cr f fd)(C:Cn mg):aF P w K mg gl aE 1 f fd ["word"] VL:=by
 refine F.ok ae7 λaH A _ s H vs Q E D h=>?_
 refine aY h λx n k0 k1=>?_;subst n;refine aB C.top λG o rT=>aB C.names λI m rN=>aB C.dX λJ k l=>aB C.long λL q rL=>?_;refine let a:TS:=_;let b:TS:=_;let c:TS:=_;let d:TS:=_;let g:TS:=_;⟨_,aw (bJ (b0 c7 (pv 0) cp<|br _) (ar<|aS<|eC<|aa (fh xz k l)<|aa (fh xz o rT) af) b8)<|pR g<|aw (bJ (b0 c7 (pv 0) cp<|br _) (ar<|aS<|eC<|aa (fh xz k l)<|aa (fh xz k l) af) b8)<|pR d<|aw (bJ (b0 c7 (pv 0) cp<|br _) (ar<|aS<|eC<|aa (fh xz m rN)<|aa (fh xz k l) af) b8)<|pR c<|aw (bJ (PW.pt<|pw_or (b0 c7 (pv 0) cp<|br _)<|pw_or1<|b0 c7 (pv 0) cp<|br _) (ar<|aS<|eC<|aa (fh xz k l)<|aa (fh xz m rN) af) b8)<|pR b<|aw (bJ (b0 c7 (pv 0) cp<|br _) (ar<|aS<|eC af) b8)<|pR a<|aw (bJ (b0 c7 (pv 0) cp<|br _) (ar<|aS<|eC<|aa (fh xz k l)<|aa (bp jR (fh xz q rL) ax) af) b8)<|ar<|aS pD,vr xz ⟨xz,⟨_,xz,bK (λe=>?_) λn1=>?_⟩⟩⟩
 .cases str_inj e;exact⟨qc,λp i=>k1 [4,kZ] (by unfold dW;rw[ei rfl]) p i⟩
 refine ay _ xz ⟨xz,⟨_,xz,bK (λe=>?_) λr=>?_⟩⟩
 .cases str_inj e;exact⟨qc,λp i=>k1 [4,4] (by unfold dW;rw[ee dk,ei rfl]) p i⟩
 refine ay _ xz ⟨xz,⟨_,xz,bK (λe=>?_) λt=>?_⟩⟩
 .cases str_inj e;exact⟨qc,λp i=>k1 [12,4] (by unfold dW;rw[ee dk,ee dk,ei rfl]) p i⟩
 refine ay _ xz ⟨xz,⟨_,xz,bK (λe=>?_) λu=>?_⟩⟩
 .cases str_inj e;exact jq ⟨qc,λp i=>k1 [4,12] (by unfold dW;rw[ee dk,ee dk,ee dk,ei rfl]) p i⟩
 refine vr xz ⟨xz,⟨_,xz,bK (λe=>?_) λv=>?_⟩⟩
 .cases str_inj e;exact⟨qc,λp i=>k1 [4,12] (by unfold dW;rw[ee dk,ee dk,ee dk,ee dk,ei rfl]) p i⟩
 refine ay _ xz ⟨xz,⟨_,xz,bK (λe=>?_) λz=>?_⟩⟩
 .cases str_inj e;exact⟨qc,λp i=>k1 [] (by unfold dW;rw[ee dk,ee dk,ee dk,ee dk,ee dk,ei rfl]) p i⟩
 refine ay _ xz ⟨xz,⟨_,xz,bK (λe=>?_) λB=>?_⟩⟩
 .cases str_inj e;exact⟨_,⟨_,xz,xz,qc,λp i=>k1 [4,121] (by unfold dW;rw[ee dk,ee dk,ee dk,ee dk,ee dk,ee dk,ei rfl]) p i⟩⟩
 refine k0 ?_;have j:∀{y:cr},¬V.str x=V.str y->¬x=y:=λh e=>h (by rw[e]);unfold dW;rw[ee<|j n1,ee<|j r,ee<|j t,ee<|j u,ee<|j v,ee<|j z,ee<|j B]
def VG:Sp:=λvs H Q _=>∃v T,vs=[v]/\dv H v=a_ T/\(∀xs,uq H v=a_ xs->xs.length<=1000/\∀x∈xs,∃T,dv H x=a_ T)/\∀H',ae H H'->Q (.bl<|Av H v) H'
def VS:aV ["told","bounds"] im (aP FE):=aZ
def Pu(y:V)(ps:List V):HT.cq (y::ps).length 0 (a_ 1)=1:=by
 simp only[HT.cq,eJ]
 first | omega | (simp;done) | (split <;> omega)
def ZX(y:V)(ps:List V):pU (y::ps) (a_ 1) b_=ps:=by
 unfold pU;rw[Pu];exact jf (by simp[HT.cq])
def UE{bs:List Int}(h:dW x=a_ bs):bs.length<=2:=by
 unfold dW at h
 repeat (first | (split at h;(cases h;decide)) | (cases h;done))
def YY:([as0,"bound"]:List cr).Nodup:=dk
def ad2(F:aQ K "is_step" "is_step" FE f fd)(B:Bl mg)(C:Cn mg)(U:aQ K Z_ Z_ CB fW sV)(bW:dn K sV hH [])(mW:mg Z_ = a_ (.ref fW))(W:aQ K at0 at0 Cr fB AX)(bB:dn K AX ["word"] [])(mB:mg at0 = a_ (.ref fB)):aF P w K mg gl aE 2 f fd im VG:=by
 have GW:aF P w K mg gl aE 1 fW sV hH Fy:=LS U B;have GB:aF P w K mg gl aE 1 fB AX ["word"] VL:=ad3 W C;refine F.ok VS λaH A _ s H vs Q E X h=>?_
 refine ou h λv T ab o hx k=>?_;subst ab
 refine let b:TS:=_;let d:TS:=_;let g:TS:=_;⟨_,aw (bJ (PW.pt<|pw_or (jP<|dr<|bu ji xz B.iP jg<|aa (pv 0)<|aa (oh (v:=.ty S_) xz B.tuple iY xz) af)<|pw_or (b0 c7 (bu dS xz B.len q_<|aa (pv 0) af) ax<|br _)<|pw_or1<|jP<|dr<|bu ji xz B.iP jg<|aa (aN bX (pv 0) ax)<|aa (oh (v:=.ty "str") xz B.str boot_str xz) af) (ar<|aS gD) b8) (pR g (aw (bC (i:=1) VS.nd xz (aI xz)<|pB GB X xz mB W.kp bB .nil dh<|aa (aN bX (pv 0) ax) af) (pR d (aw (bJ (PW.pt<|pw_or (b0 XZ (pv 1) pD<|br _)<|pw_or1<|b0 pH (bu dS xz B.len q_<|aa (pv 0) af) (bp jR (bu dS xz B.len q_<|aa (pv 1) af) ax)<|br _) (ar<|aS gD) b8) (pR b (ar (aS (bu (Ag xz) xz B.all Cg (aa (eB (N:=[as0,"bound"]) (idx:=[]) xz (cF.of<|by kernel_rfl) (BN (ba _)<|ba _)
   (XX (b1:=d_) (b2:=c_) xz B.zip<|aa (Fi Nj (pv 0) (FH ax) FJ)<|aa (pv 1) af)
   (λ_ _ _ _=>oo xz<|gU (bo (i:=0) YY xz (aI xz)<|.inr xz)<|gU (bo (i:=1) YY xz (aI xz)<|.inr xz) og)
   (λ_ _ _ _=>eQ)
   λ_ _ _ _=>m7 (pB GW X xz mW U.kp bW .nil dh<|aa (pv 0) af)<|oq<|VX CP yc ax (pv 0)<|pv 1) af))))))))),?_⟩
 cases t:uq H v with
 | none=>
  have hi:uG T S_ = false:=by rw[X1 o,t];rfl
  have cY:Av H v=false:=by unfold Av;rw[t]
  have l:=k H<|ae.refl H;rw[cY]at l;refine ay v xz<|dE _ _ _ _<|iA _ xz (pY o) xz (pO o qc)<|ay _ xz ?_;rw[hi];exact jq<|jq l
 | some xs=>
  refine aB (adG t) λa J ha=>?_;subst J;refine oA (hx xs t) λhl Y=>?_;have hi:uG T S_ = true:=by rw[X1 o,t];rfl
  have l:∀H',ae H H'->Q (.bl<|stepOk xs) H':=λH' s=>by
   have q:=k H' s;unfold Av at q;rw[t]at q;exact q
  refine vr xz<|dE _ _ _ _<|iA _ xz (pY o) xz (pO o qc)<|ay _ xz ?_;rw[hi];refine eU ?_;cases xs with
  | nil=>
   exact vr xz<|dN a ([]) xz (.inr<|aq.of ha) ⟨xz,⟨_,xz,bK (λe=>jq<|l H<|ae.refl H) λZ=>eu xz Z⟩⟩
  | cons y ps=>
   refine vr xz<|dN a (y::ps) xz (.inr<|aq.of ha) ⟨xz,⟨_,xz,bK (λe=>?_) λZ=>?_⟩⟩
   .injection e with e
    exact eu e (by simp only[eJ];omega)
   refine oE (Y y b9) λTy I=>kC (v:=y) (j:=0) xz ha xz<|dE _ _ _ _<|iA _ xz (pY I) xz (pO I qc)<|ay _ xz (OH (λh1=>?_) λh1=>?_)
   .have e:stepOk (y::ps)=false:=by
     cases y with
     | str x=>exact eu ((Gm I).mpr ⟨x,xz⟩) (by rw[h1];exact dO)
     | _=>rfl
    have q:=l H<|ae.refl H;rw[e]at q;exact q
   refine oE ((Gm I).mp h1) λu J=>?_;subst J;refine kC (v:=.str u) (j:=0) xz ha xz (dQ u xz (λD=>?_) λbs D p hp=>?_)
   .refine ay _ xz ⟨xz,⟨_,xz,bK (λ_=>?_) λn=>eu xz n⟩⟩
    have e:stepOk (.str u::ps)=false:=by
     show (match dW u with | none=>d_ | some bs=>decide (ps.length=bs.length)&&(ps.zip bs).all λp=>oJ p.1 p.2)=d_;rw[D]
    have q:=l H<|ae.refl H;rw[e]at q;exact jq q
   have s1:ae H (db H p<|.lst<|bs.map V.int):=au (ae.refl H) hp;have ha1:=s1 _ _ ha
   have eS:stepOk (.str u::ps)=(decide (ps.length=bs.length)&&(ps.zip bs).all λp=>oJ p.1 p.2):=by
    show (match dW u with | none=>d_ | some bs=>decide (ps.length=bs.length)&&(ps.zip bs).all λp=>oJ p.1 p.2)=_;rw[D]
   rw[eS]at l;refine ay _ xz ⟨xz,⟨_,xz,bK (λz=>by cases z) λ_=>vr xz ⟨a,⟨_,xz,.inr<|aq.of ha1,_,xz,p,_,xz,.inl<|ag.of ao,_,_,xz,xz,xz,_,xz,nv (λne=>?_) λL=>?_⟩⟩⟩⟩
   .have e:decide (ps.length=bs.length)=false:=eT λz=>ne (by rw[eJ,aA,z];rfl);rw[e,xA]at l;exact l _ s1
   have hlen:ps.length=bs.length:=by
    injection L with L
    rw[eJ,aA]at L;omega
   rw[eN hlen,t8]at l;refine ay _ xz<|ay 1 xz ⟨a,⟨_,xz,aq.of ha1,?_,λq hq=>?_⟩⟩
   .intro z;have z1:=z.1;rw[Pu]at z1;cases z1
   rw[ZX];have s2:ae H (db (db H p<|.lst<|bs.map V.int) q<|.tup ps):=au s1 hq;have G:db (db H p<|.lst<|bs.map V.int) q (.tup ps) p=a_ (.lst<|bs.map V.int):=by rw[aj<|bf ao hq];exact ao
   refine vr xz<|⟨q,p,ps,(bs.map V.int),xz,(aq.of ao),(ag.of G),?_⟩;generalize hH3:db (db H p<|.lst<|bs.map V.int) q (.tup ps)=H3 at s2 G;have M:H3 q=a_ (.tup ps):=by rw[<-hH3];exact ao
   refine dU (n:=bs.length) (λi ys H'=>i<=bs.length/\ae H3 H'/\ys=((ps.zip bs).take i).map λz=>V.bl<|oJ z.1 z.2) ?_ ?_ ?_ ?_ ?_ ?_ ?_
   .have gK:=UE D;exact cg<|cy w4
   .exact gg (ba _) (ae.refl _) xz
   .rintro i ys H' ⟨_,_,e⟩;rw[e,aA,eZ];exact xl
   .rintro i ys H' hi ⟨_,m,_⟩;exact⟨ps,(bs.map V.int),(ps[i]'wg),(V.int bs[i]),(aq.of<|m _ _ M),(ag.of<|m _ _ G),(by simp[hlen,hi]),(by simp[hi])⟩
   .rintro ys H' ⟨_,m,_⟩;exact dN ps (bs.map V.int) (aq.of<|m _ _ M) (ag.of<|m _ _ G)<|.inr (by rw[aA];exact az _)
   .rintro i ys H' hi ⟨_,m,e⟩ v eh ⟨r,x,y,O,ev,eH,Q6⟩;refine oA (Q6 ps (bs.map V.int) (aq.of<|m _ _ M)<|ag.of<|m _ _ G) λcU oU=>?_;subst ev;subst eH
    have rF:y=V.int bs[i]:=by
     rw[cc,aL hi]at oU;exact(dj oU).g8
    subst rF;have s4:ae H3 (db H' r<|.tup [x,V.int bs[i]]):=au m O;refine oE (Y x<|cx _<|aW cU) λTx RW=>?_;have Qj:=T6 (s2.fT s4) RW
    have zi:(ps.zip bs)[i]?=a_ (x,bs[i]):=by
     rw[aaL];exact⟨cU,aL hi⟩
    have R:∀c,c=oJ x bs[i]->i+1<=bs.length/\ae H3 (db H' r<|.tup [x,V.int bs[i]])/\ys++[V.bl c]=((ps.zip bs).take<|i+1).map λz=>V.bl (oJ z.1 z.2):=λc hc=>by
     refine gg hi s4 ?_;rw[iq,zi,dB,<-e,hc];rfl
    refine⟨r,([x,V.int bs[i]]),xz,(aq.of ao),xz,(gm x ([V.int bs[i]]) xz<|dN (V.int bs[i]) ([]) xz xz ?_)⟩;dsimp only[jo];rw[ei rfl];refine vr xz<|dN x Tx xz Qj<|ay _ xz ?_;cases x with
    | int j=>
     exact jq<|ay _ xz<|gm 0 j xz ⟨xz,⟨_,xz,bK (λS=>vr xz<|dN j (bs[i]) xz xz<|R _<|by show _=(decide (0<=j)&&decide (j<bs[i]));rw[eN S,t8]) λS=>R _<|by show _=(decide (0<=j)&&decide (j<bs[i]));rw[eT S,xA]⟩⟩
    | _=>exact eU<|R _ xz
   rintro ys H' ⟨_,m,e⟩;refine⟨?_,λr O=>?_⟩
   .rw[e,aA,eZ];have gK:=UE D;have:=cy (n:=bs.length) w4;omega
   have ey:ys=(((ps.zip bs).map λz=>oJ z.1 z.2)).map V.bl:=by
    rw[e,jf (by rw[List.length_zip];omega),jh];rfl
   refine dN r ((ps.zip bs).map λz=>oJ z.1 z.2) xz (ag.of<|by rw[ao,ey]) ?_;rw[zR];exact l _<|au (s2.fT m) O
def vU(K:u_):Sp:=λvs H Q _=>∃x C dx fs a xs,vs=[.ref x,.ref a]/\H x=a_ (.ins C dx fs)/\da K C/\bM K C L_/\fs.length<900/\H a=a_ (.tup xs)/\Q .aR (db H x<|.ins C dx<|aJ L_ (.ref a) fs)
def aiU:aV gW gW (aP GH):=aZ
def xT(F:aQ K P_ "Step.__init__" GH f fd)(B:mg S_ = b_):aF P w K mg gl aE 1 f fd [X_,"told"] (vU K):=by
 refine F.ok aiU λaH A _ s H vs Q E g h=>?_;refine mX h λx C dx fs a xs b c cl d e=>?_;subst b;exact gH e λi ha k=>sP (ar<|dP (pv 0) (fw ma xz B iY<|aa (pv 1) af) xz)<|vr xz<|gm a _ xz<|.inr ⟨aq.of ha,_,xz,x,C,dx,fs,xz,c,cl,d,wa,k⟩
def AH(f:cr)(u:V):(aJ f u []).length<1000:=by
 have h1:=rY f u [];have h3:([]:List (cr×V)).length=0:=rfl;exact wb
def AG(f g:cr)(u v:V):(aJ f u<|aJ g v []).length<1000:=by
 have h1:=rY f u<|aJ g v [];have h2:=rY g v [];have h3:([]:List (cr×V)).length=0:=rfl;exact xi
structure yk(K:u_)(mg:cr->Option f_)(cS fI:e_)(gJ:jO):Prop where
 fn:aQ K P_ "Step.__init__" GH fI gJ
 bi:dn K gJ gW []
 cf:OY K cS P_ fI
 at_:mg "Step"=a_ (.ref cS)
 tup:mg S_ = b_
def pZ(C:e_)(d e:cr):Sp:=λvs H Q _=>∃x dx a xs b c,vs=[.ref x,.ref a]/\H x=a_ (.ins C dx [])/\H a=a_ (.tup xs)/\xs[1]?=a_ b/\xs[2]?=a_ c/\
 Q .aR (db H x<|.ins C dx<|aJ e c<|aJ d b<|aJ L_ (.ref a) [])
def aiQ:aV gW gW (aP GG):=aZ
def ahz(F:aQ K P_ "Put.__init__" GG f fd)(I:yk K mg cS fI gJ)(cl:da K C)(d:bM K C L_)(n1:bM K C Q_)(e:bM K C "number"):aF P w K mg gl aE 2 f fd gW (pZ C Q_ "number"):=by
 have g:aF P w K _ gl _ 1 _ _ _ _:=xT I.fn I.tup;refine F.ok aiQ λaH A _ s H vs Q E i h=>?_;refine mX h λx dx a xs o p j c ha l m=>?_;subst j;refine oA m λn k=>⟨_,aw (fg<|zZ I.cf g i xz I.at_ I.bi .nil dh<|aa (pv 0)<|aa (pv 1) af)<|aw (dP (pv 0) (aN bX (pv 1) ax) xz)<|ar<|dP (pv 0) (aN bX (pv 1) ax) xz,?_⟩;have b:=i5 ha c (by intro z;cases z);refine vr xz<|vr xz ⟨x,⟨C,dx,[],a,xs,xz,c,cl,d,qc,ha,vT xz (aq.of<|by rw[aj b];exact ha) (bA l) ⟨_,xz,x,C,dx,_,xz,ao,cl,n1,AH _ _,vT xz (aq.of<|by rw[aj b,aj b];exact ha) (bA n) ⟨_,xz,x,C,dx,_,xz,ao,cl,e,AG _ _ _ _,?_⟩⟩⟩⟩;rw[oa,oa];exact k
def aiY:aV gW gW (aP GJ):=aZ
def ahL(F:aQ K P_ "Add.__init__" GJ f fd)(I:yk K mg cS fI gJ)(cl:da K C)(d:bM K C L_)(n1:bM K C Q_)(e:bM K C "other"):aF P w K mg gl aE 2 f fd gW (pZ C Q_ "other"):=by
 have g:aF P w K _ gl _ 1 _ _ _ _:=xT I.fn I.tup;refine F.ok aiY λaH A _ s H vs Q E i h=>?_;refine mX h λx dx a xs o p j c ha l m=>?_;subst j;refine oA m λn k=>⟨_,aw (fg<|zZ I.cf g i xz I.at_ I.bi .nil dh<|aa (pv 0)<|aa (pv 1) af)<|aw (dP (pv 0) (aN bX (pv 1) ax) xz)<|ar<|dP (pv 0) (aN bX (pv 1) ax) xz,?_⟩;have b:=i5 ha c (by intro z;cases z);refine vr xz<|vr xz ⟨x,⟨C,dx,[],a,xs,xz,c,cl,d,qc,ha,vT xz (aq.of<|by rw[aj b];exact ha) (bA l) ⟨_,xz,x,C,dx,_,xz,ao,cl,n1,AH _ _,vT xz (aq.of<|by rw[aj b,aj b];exact ha) (bA n) ⟨_,xz,x,C,dx,_,xz,ao,cl,e,AG _ _ _ _,?_⟩⟩⟩⟩;rw[oa,oa];exact k
def aiP:aV gW gW (aP GD):=aZ
def ahy(F:aQ K P_ "Set.__init__" GD f fd)(I:yk K mg cS fI gJ)(cl:da K C)(d:bM K C L_)(n1:bM K C l_)(e:bM K C Q_):aF P w K mg gl aE 2 f fd gW (pZ C l_ Q_):=by
 have g:aF P w K _ gl _ 1 _ _ _ _:=xT I.fn I.tup;refine F.ok aiP λaH A _ s H vs Q E i h=>?_;refine mX h λx dx a xs o p j c ha l m=>?_;subst j;refine oA m λn k=>⟨_,aw (fg<|zZ I.cf g i xz I.at_ I.bi .nil dh<|aa (pv 0)<|aa (pv 1) af)<|aw (dP (pv 0) (aN bX (pv 1) ax) xz)<|ar<|dP (pv 0) (aN bX (pv 1) ax) xz,?_⟩;have b:=i5 ha c (by intro z;cases z);refine vr xz<|vr xz ⟨x,⟨C,dx,[],a,xs,xz,c,cl,d,qc,ha,vT xz (aq.of<|by rw[aj b];exact ha) (bA l) ⟨_,xz,x,C,dx,_,xz,ao,cl,n1,AH _ _,vT xz (aq.of<|by rw[aj b,aj b];exact ha) (bA n) ⟨_,xz,x,C,dx,_,xz,ao,cl,e,AG _ _ _ _,?_⟩⟩⟩⟩;rw[oa,oa];exact k
def ag4:aV gW gW (aP F6):=aZ
def afx(F:aQ K P_ "Look.__init__" F6 f fd)(I:yk K mg cS fI gJ)(cl:da K C)(d:bM K C L_)(n1:bM K C Q_)(e:bM K C l_):aF P w K mg gl aE 2 f fd gW (pZ C Q_ l_):=by
 have g:aF P w K _ gl _ 1 _ _ _ _:=xT I.fn I.tup;refine F.ok ag4 λaH A _ s H vs Q E i h=>?_;refine mX h λx dx a xs o p j c ha l m=>?_;subst j;refine oA m λn k=>⟨_,aw (fg<|zZ I.cf g i xz I.at_ I.bi .nil dh<|aa (pv 0)<|aa (pv 1) af)<|aw (dP (pv 0) (aN bX (pv 1) ax) xz)<|ar<|dP (pv 0) (aN bX (pv 1) ax) xz,?_⟩;have b:=i5 ha c (by intro z;cases z);refine vr xz<|vr xz ⟨x,⟨C,dx,[],a,xs,xz,c,cl,d,qc,ha,vT xz (aq.of<|by rw[aj b];exact ha) (bA l) ⟨_,xz,x,C,dx,_,xz,ao,cl,n1,AH _ _,vT xz (aq.of<|by rw[aj b,aj b];exact ha) (bA n) ⟨_,xz,x,C,dx,_,xz,ao,cl,e,AG _ _ _ _,?_⟩⟩⟩⟩;rw[oa,oa];exact k
def ag0:aV gW gW (aP FZ):=aZ
def afr(F:aQ K P_ "Swap.__init__" FZ f fd)(I:yk K mg cS fI gJ)(cl:da K C)(d:bM K C L_)(n1:bM K C Q_)(e:bM K C l_):aF P w K mg gl aE 2 f fd gW (pZ C Q_ l_):=by
 have g:aF P w K _ gl _ 1 _ _ _ _:=xT I.fn I.tup;refine F.ok ag0 λaH A _ s H vs Q E i h=>?_;refine mX h λx dx a xs o p j c ha l m=>?_;subst j;refine oA m λn k=>⟨_,aw (fg<|zZ I.cf g i xz I.at_ I.bi .nil dh<|aa (pv 0)<|aa (pv 1) af)<|aw (dP (pv 0) (aN bX (pv 1) ax) xz)<|ar<|dP (pv 0) (aN bX (pv 1) ax) xz,?_⟩;have b:=i5 ha c (by intro z;cases z);refine vr xz<|vr xz ⟨x,⟨C,dx,[],a,xs,xz,c,cl,d,qc,ha,vT xz (aq.of<|by rw[aj b];exact ha) (bA l) ⟨_,xz,x,C,dx,_,xz,ao,cl,n1,AH _ _,vT xz (aq.of<|by rw[aj b,aj b];exact ha) (bA n) ⟨_,xz,x,C,dx,_,xz,ao,cl,e,AG _ _ _ _,?_⟩⟩⟩⟩;rw[oa,oa];exact k
def ag1:aV gW gW (aP F2):=aZ
def afs(F:aQ K P_ "Skip.__init__" F2 f fd)(I:yk K mg cS fI gJ)(cl:da K C)(d:bM K C L_)(n1:bM K C Q_)(e:bM K C Y_):aF P w K mg gl aE 2 f fd gW (pZ C Q_ Y_):=by
 have g:aF P w K _ gl _ 1 _ _ _ _:=xT I.fn I.tup;refine F.ok ag1 λaH A _ s H vs Q E i h=>?_;refine mX h λx dx a xs o p j c ha l m=>?_;subst j;refine oA m λn k=>⟨_,aw (fg<|zZ I.cf g i xz I.at_ I.bi .nil dh<|aa (pv 0)<|aa (pv 1) af)<|aw (dP (pv 0) (aN bX (pv 1) ax) xz)<|ar<|dP (pv 0) (aN bX (pv 1) ax) xz,?_⟩;have b:=i5 ha c (by intro z;cases z);refine vr xz<|vr xz ⟨x,⟨C,dx,[],a,xs,xz,c,cl,d,qc,ha,vT xz (aq.of<|by rw[aj b];exact ha) (bA l) ⟨_,xz,x,C,dx,_,xz,ao,cl,n1,AH _ _,vT xz (aq.of<|by rw[aj b,aj b];exact ha) (bA n) ⟨_,xz,x,C,dx,_,xz,ao,cl,e,AG _ _ _ _,?_⟩⟩⟩⟩;rw[oa,oa];exact k
structure bh where
 (fW fB fS fO fI PN PQ PM OP ON OO al5 kX kY i9 jF ky qG jE:e_)
 (sV AX HK uY gJ G2 G6 GZ Gq Gn Gp:jO)
structure su(K:u_)(mg:cr->Option f_)(t:bh):Prop where
 bl:Bl mg
 cn:Cn mg
 Qu:aQ K Z_ Z_ CB t.fW t.sV
 bW:dn K t.sV hH []
 mW:mg Z_ = a_ (.ref t.fW)
 fnB:aQ K at0 at0 Cr t.fB t.AX
 bB:dn K t.AX ["word"] []
 mB:mg at0 = a_ (.ref t.fB)
 fnS:aQ K "is_step" "is_step" FE t.fS t.HK
 bS:dn K t.HK im []
 mS:mg "is_step"=a_ (.ref t.fS)
 AW:aQ K "step_of" "step_of" MF t.fO t.uY
 bO:dn K t.uY im []
 mO:mg "step_of"=a_ (.ref t.fO)
 init:yk K mg t.al5 t.fI t.gJ
 xW:da K t.qG
 ahT:bM K t.qG L_
 ahW:Mk K t.qG t.fI
 ahY:mg "Clear"=a_ (.ref t.qG)
 uv:da K t.kX
 alG:bM K t.kX L_
 Y4:bM K t.kX Q_
 Y2:bM K t.kX "number"
 alI:Mk K t.kX t.PN
 Y5:mg "Put"=a_ (.ref t.kX)
 alZ:aQ K P_ "Put.__init__" GG t.PN t.G2
 al8:dn K t.G2 gW []
 sD:da K t.kY
 alH:bM K t.kY L_
 OB:bM K t.kY Q_
 Y3:bM K t.kY "other"
 mkAdd:Mk K t.kY t.PQ
 Y6:mg "Add"=a_ (.ref t.kY)
 al0:aQ K P_ "Add.__init__" GJ t.PQ t.G6
 al9:dn K t.G6 gW []
 mz:da K t.i9
 alF:bM K t.i9 L_
 v5:bM K t.i9 l_
 Y1:bM K t.i9 Q_
 mkSet:Mk K t.i9 t.PM
 GQ:mg "Set"=a_ (.ref t.i9)
 alX:aQ K P_ "Set.__init__" GD t.PM t.GZ
 al7:dn K t.GZ gW []
 m8:da K t.jF
 ajy:bM K t.jF L_
 X7:bM K t.jF Q_
 xZ:bM K t.jF l_
 ajE:Mk K t.jF t.OP
 NL:mg "Look"=a_ (.ref t.jF)
 ajV:aQ K P_ "Look.__init__" F6 t.OP t.Gq
 aj8:dn K t.Gq gW []
 ow:da K t.ky
 ajw:bM K t.ky L_
 NJ:bM K t.ky Q_
 CF:bM K t.ky l_
 ajC:Mk K t.ky t.ON
 X9:mg "Swap"=a_ (.ref t.ky)
 ajR:aQ K P_ "Swap.__init__" FZ t.ON t.Gn
 aj6:dn K t.Gn gW []
 qF:da K t.jE
 ajx:bM K t.jE L_
 X6:bM K t.jE Q_
 Gf:bM K t.jE Y_
 ajD:Mk K t.jE t.OO
 NK:mg "Skip"=a_ (.ref t.jE)
 ajT:aQ K P_ "Skip.__init__" F2 t.OO t.Gp
 aj7:dn K t.Gp gW []
def cB(t:bh)(x:cr):Addr:=if x = V_ then t.kX else if x = W_ then t.kY else if x = J_ then t.i9 else if x = K_ then t.jF else if x = H_ then t.ky else if x = M_ then t.qG else t.jE
def c9(v:V)(x:cr)(ps:List V):List (cr×V):=
 if x = V_ then aJ "number" (ps.getD 1 .aR) (aJ Q_ (ps.getD 0 .aR)<|aJ L_ v [])
 else if x = W_ then aJ "other" (ps.getD 1 .aR) (aJ Q_ (ps.getD 0 .aR)<|aJ L_ v [])
 else if x = J_ then aJ Q_ (ps.getD 1 .aR) (aJ l_ (ps.getD 0 .aR)<|aJ L_ v [])
 else if x = K_ then aJ l_ (ps.getD 1 .aR) (aJ Q_ (ps.getD 0 .aR)<|aJ L_ v [])
 else if x = H_ then aJ l_ (ps.getD 1 .aR) (aJ Q_ (ps.getD 0 .aR)<|aJ L_ v [])
 else if x = M_ then aJ L_ v []
 else aJ Y_ (ps.getD 1 .aR) (aJ Q_ (ps.getD 0 .aR)<|aJ L_ v [])
def ah3{c:Type}{l:List c}(h:l.length=2):∃a b,l=[a,b]:=by
 rcases l with _|⟨a,t⟩;cases h;exact oE (Jr.mp (BH h)) λb e=>uV a b (by rw[e])
def Ap(h:stepOk (.str x::ps)=c_){b c:Int}{bs:List Int}(a:dW x=a_ bs)(d:autoParam (bs=[b,c]) a8):∃e f,ps=[e,f]:=by
 subst d;have h':(match dW x with | none=>d_ | some bs=>decide (ps.length=bs.length)&&(ps.zip bs).all λp=>oJ p.1 p.2)=true:=h;rw[a]at h';simp only[jy,decide_eq_true_eq]at h';exact ah3 h'.1
def aej(h:stepOk (.str x::ps)=c_)(n1:¬x = V_)(a:¬x = W_)(b:¬x = J_)(c:¬x = K_)(d:¬x = H_)(f:¬x = M_):x = T_:=by
 apply tS;intro g
 have e:dW x=none:=by
  unfold dW;rw[ee n1,ee a,ee b,ee c,ee d,ee f,ee g]
 have h':(match dW x with | none=>d_ | some bs=>decide (ps.length=bs.length)&&(ps.zip bs).all λp=>oJ p.1 p.2)=true:=h;rw[e]at h';cases h'
def Ad(t:bh):Sp:=λvs H Q _=>∃a x ps,vs=[.ref a]/\H a=a_ (.tup (.str x::ps))/\stepOk (.str x::ps)=c_/\(ps.length<=900/\∀y∈ps,∃T,dv H y=a_ T)/\
 ∀z dx H',ae H H'->H z=b_->H' z=a_ (.ins (cB t x) dx<|c9 (.ref a) x ps)->Q (.ref z) H'
def VR:aV ["told","word"] im (aP MF):=aZ
def BV(T:su K mg t):aF P w K mg gl aE 4 t.fO t.uY im (Ad t):=by
 have W:aF P w K _ gl _ 2 _ _ _ VG:=ad2 T.fnS T.bl T.cn T.Qu T.bW T.mW T.fnB T.bB T.mB;have X:aF P w K _ gl _ 1 _ _ _ _:=xT T.init.fn T.init.tup;have Y:aF P w K _ gl _ 2 _ _ _ _:=ahz T.alZ T.init T.uv T.alG T.Y4 T.Y2;have Z:aF P w K _ gl _ 2 _ _ _ _:=ahL T.al0 T.init T.sD T.alH T.OB T.Y3;have aqd:aF P w K _ gl _ 2 _ _ _ _:=ahy T.alX T.init T.mz T.alF T.v5 T.Y1;have anj:aF P w K _ gl _ 2 _ _ _ _:=afx T.ajV T.init T.m8 T.ajy T.X7 T.xZ;have anh:aF P w K _ gl _ 2 _ _ _ _:=afr T.ajR T.init T.ow T.ajw T.NJ T.CF;have ani:aF P w K _ gl _ 2 _ _ _ _:=afs T.ajT T.init T.qF T.ajx T.X6 T.Gf;refine T.AW.ok VR λaH A _ s H vs Q E J h=>?_
 refine lG h λa S ps O ha bG=>?_;subst O;refine gH bG λL O k=>oA O λhl vj=>?_;have M:∀{y:cr},¬V.str S=V.str y->¬S=y:=λh e=>h (by rw[e])
 refine let c:TS:=_;let d:TS:=_;let f:TS:=_;let g:TS:=_;let j:TS:=_;let l:TS:=_;let m:TS:=_;let n:TS:=_;let p:TS:=_;let r:TS:=_;let u:TS:=_;let v:TS:=_;let z:TS:=_;let B:TS:=_;⟨_,(aw (bJ (jP<|dr<|pB W (J.mono qc) xz T.mS T.fnS.kp T.bS .nil dh<|aa (pv 0) af) vE b8)
  (pR B (aw (bC (i:=1) VR.nd xz (aI xz)<|aN bX (pv 0) ax) (pR z (aw (bJ (b0 c7 (pv 1) cp<|br _) (pR c<|ar<|aS<|pA T.alI Y J xz T.Y5 T.al8 .nil dh<|aa (pv 0) af) b8) (pR v (aw (bJ (b0 c7 (pv 1) cp<|br _) (pR d<|ar<|aS<|pA T.mkAdd Z J xz T.Y6 T.al9 .nil dh<|aa (pv 0) af) b8) (pR u (aw (bJ (b0 c7 (pv 1) cp<|br _) (pR f<|ar<|aS<|pA T.mkSet aqd J xz T.GQ T.al7 .nil dh<|aa (pv 0) af) b8) (pR r (aw (bJ (b0 c7 (pv 1) cp<|br _) (pR g<|ar<|aS<|pA T.ajE anj J xz T.NL T.aj8 .nil dh<|aa (pv 0) af) b8) (pR p (aw (bJ (b0 c7 (pv 1) cp<|br _) (pR j<|ar<|aS<|pA T.ajC anh J xz T.X9 T.aj6 .nil dh<|aa (pv 0) af) b8) (pR n (aw (bJ (b0 c7 (pv 1) cp<|br _) (pR l<|ar<|aS<|pA T.ahW X (J.mono qc) xz T.ahY T.init.bi .nil dh<|aa (pv 0) af) b8)
  (pR m<|ar<|aS<|pA T.ajD ani J xz T.NK T.aj7 .nil dh<|aa (pv 0) af)))))))))))))))),?_⟩
 refine vr xz ⟨_,⟨_,xz,ES ha,(λxs U=>?_),λH1 C=>?_⟩⟩
 .rw[Vx ha]at U;cases U;refine⟨by exact wb,λy R=>?_⟩;obtain e|R:=bH.mp R
  .subst e;exact⟨_,xz⟩
  exact vj y R
 have cY:Av H (.ref a)=true:=by unfold Av;rw[Vx ha];exact L
 rw[cY];refine ay _ xz<|eU<|kC xz ((C _ _ ha)) xz<|ay _ xz ⟨xz,⟨_,xz,bK (λe=>?_) λn1=>?_⟩⟩
 .cases str_inj e;obtain⟨F,G,I⟩:=Ap L (bs:=[4,kZ]) (by unfold dW;rw[ei rfl]);subst I;refine vr xz λx dx nx D N=>⟨x,dx,a,[.str V_,F,G],F,G,xz,ao,?_,xz,xz,xz,?_⟩
  .rw[aj<|bf (C _ _ ha) nx,aj<|bf (C _ _ ha) D];exact C _ _ ha
  refine k x _ _ (λb o q=>?_) (C.free nx) (by rw[ao];rfl);rw[aj<|bf (C b o q) nx,aj<|bf (C b o q) nx,aj<|bf (C b o q) D];exact C b o q
 refine ay _ xz ⟨xz,⟨_,xz,bK (λe=>?_) λn2=>?_⟩⟩
 .cases str_inj e;obtain⟨F,G,I⟩:=Ap L (bs:=[4,4]) (by unfold dW;rw[ee dk,ei rfl]);subst I;refine vr xz λx dx nx D N=>⟨x,dx,a,[.str W_,F,G],F,G,xz,ao,?_,xz,xz,xz,?_⟩
  .rw[aj<|bf (C _ _ ha) nx,aj<|bf (C _ _ ha) D];exact C _ _ ha
  refine k x _ _ (λb o q=>?_) (C.free nx) (by rw[ao];rfl);rw[aj<|bf (C b o q) nx,aj<|bf (C b o q) nx,aj<|bf (C b o q) D];exact C b o q
 refine ay _ xz ⟨xz,⟨_,xz,bK (λe=>?_) λn3=>?_⟩⟩
 .cases str_inj e;obtain⟨F,G,I⟩:=Ap L (bs:=[12,4]) (by unfold dW;rw[ee dk,ee dk,ei rfl]);subst I;refine vr xz λx dx nx D N=>⟨x,dx,a,[.str J_,F,G],F,G,xz,ao,?_,xz,xz,xz,?_⟩
  .rw[aj<|bf (C _ _ ha) nx,aj<|bf (C _ _ ha) D];exact C _ _ ha
  refine k x _ _ (λb o q=>?_) (C.free nx) (by rw[ao];rfl);rw[aj<|bf (C b o q) nx,aj<|bf (C b o q) nx,aj<|bf (C b o q) D];exact C b o q
 refine ay _ xz ⟨xz,⟨_,xz,bK (λe=>?_) λn4=>?_⟩⟩
 .cases str_inj e;obtain⟨F,G,I⟩:=Ap L (bs:=[4,12]) (by unfold dW;rw[ee dk,ee dk,ee dk,ei rfl]);subst I;refine vr xz λx dx nx D N=>⟨x,dx,a,[.str K_,F,G],F,G,xz,ao,?_,xz,xz,xz,?_⟩
  .rw[aj<|bf (C _ _ ha) nx,aj<|bf (C _ _ ha) D];exact C _ _ ha
  refine k x _ _ (λb o q=>?_) (C.free nx) (by rw[ao];rfl);rw[aj<|bf (C b o q) nx,aj<|bf (C b o q) nx,aj<|bf (C b o q) D];exact C b o q
 refine ay _ xz ⟨xz,⟨_,xz,bK (λe=>?_) λn5=>?_⟩⟩
 .cases str_inj e;obtain⟨F,G,I⟩:=Ap L (bs:=[4,12]) (by unfold dW;rw[ee dk,ee dk,ee dk,ee dk,ei rfl]);subst I;refine vr xz λx dx nx D N=>⟨x,dx,a,[.str H_,F,G],F,G,xz,ao,?_,xz,xz,xz,?_⟩
  .rw[aj<|bf (C _ _ ha) nx,aj<|bf (C _ _ ha) D];exact C _ _ ha
  refine k x _ _ (λb o q=>?_) (C.free nx) (by rw[ao];rfl);rw[aj<|bf (C b o q) nx,aj<|bf (C b o q) nx,aj<|bf (C b o q) D];exact C b o q
 refine ay _ xz ⟨xz,⟨_,xz,bK (λe=>?_) λn6=>?_⟩⟩
 .cases str_inj e;refine vr xz λx dx nx D N=>⟨x,t.qG,dx,[],a,.str M_ :: ps,xz,ao,T.xW,T.ahT,qc,?_,xz,?_⟩
  .rw[aj<|bf (C _ _ ha) nx,aj<|bf (C _ _ ha) D];exact C _ _ ha
  refine k x _ _ (λb o q=>?_) (C.free nx) (by rw[ao];rfl);rw[aj<|bf (C b o q) nx,aj<|bf (C b o q) nx,aj<|bf (C b o q) D];exact C b o q
 have am1:=aej L (M n1) (M n2) (M n3) (M n4) (M n5)<|M n6;subst am1;obtain⟨F,G,I⟩:=Ap L (bs:=[4,121]) (by unfold dW;rw[ee dk,ee dk,ee dk,ee dk,ee dk,ee dk,ei rfl]);subst I;refine vr xz λx dx nx D N=>⟨x,dx,a,[.str T_,F,G],F,G,xz,ao,?_,xz,xz,xz,?_⟩
 .rw[aj<|bf (C _ _ ha) nx,aj<|bf (C _ _ ha) D];exact C _ _ ha
 refine k x _ _ (λb o q=>?_) (C.free nx) (by rw[ao];rfl);rw[aj<|bf (C b o q) nx,aj<|bf (C b o q) nx,aj<|bf (C b o q) D];exact C b o q
end
end TL
namespace L2
section
variable{X:Cx}
def len_K(K:u_)(h:autoParam (X.K=K) a8):i7 X (.builtin "len") (λxs H Q=>∃p ys,xs=[.ref p]/\(ag K H p ys\/aq K H p ys)/\Q (.int ys.length) H):=by subst h;exact dS
def GY(K:u_)(h:autoParam (X.K=K) a8):A5 X (AD K):=by subst h;exact bQ
def OG(K:u_)(h:autoParam (X.K=K) a8):A5 X (wm K):=by subst h;exact bX
def ak6(K:u_)(h:autoParam (X.K=K) a8):HS X (ZG K):=by subst h;exact Nj
def al1(K:u_)(a:PE X e ta)(b:JS e f X.env (eval e X.env)=eval e X.env)(h:autoParam (X.K=K) a8):PE X (.Attribute e f pos) (Hd K ta f):=by subst h;exact a7 a b
end
end L2
namespace L2
open PySem.SeqAt
mutual
noncomputable def noDict:bD->Bool
 | .dict _=>d_
 | .list xs=>vG xs
 | .tuple xs=>vG xs
 | _=>c_
noncomputable def vG:List bD->Bool
 | []=>c_
 | x::xs=>noDict x&&vG xs
end
mutual
theorem adg:∀d:bD,noDict d=c_->noMix d d=c_/\same d d=c_
 | .none,_=>⟨xz,xz⟩
 | .bool b,_=>⟨xz,by simp[same]⟩
 | .int i,_=>⟨xz,by simp[same]⟩
 | .str x,_=>⟨xz,by simp[same]⟩
 | .list xs,h=>by
  rw[noMix,same];exact JQ xs (by rw[noDict]at h;exact h)
 | .tuple xs,h=>by
  rw[noMix,same];exact JQ xs (by rw[noDict]at h;exact h)
 | .dict _,h=>by rw[noDict]at h;cases h
theorem JQ:∀xs:List bD,vG xs=c_->Ft xs xs=c_/\sameAll xs xs=c_
 | [],_=>⟨by rw[Ft],by rw[sameAll]⟩
 | x::xs,h=>by
  rw[vG,jy]at h;refine oA (adg x h.1) λa b=>oA (JQ xs h.2) λc d=>?_;rw[Ft,sameAll,a,b,c,d];exact⟨xz,xz⟩
end
mutual
theorem ab5:∀d:bD,d.canLay0=c_->noDict d=c_
 | .none,_=>rfl
 | .bool b,_=>rfl
 | .int i,_=>rfl
 | .str x,_=>rfl
 | .list xs,h=>by rw[noDict];exact JD xs (by rw[zO]at h;exact h)
 | .tuple xs,h=>by rw[noDict];exact JD xs (by rw[zO]at h;exact h)
 | .dict _,h=>by rw[zO]at h;cases h
theorem JD:∀xs:List bD,vw xs=c_->vG xs=c_
 | [],_=>by rw[vG]
 | x::xs,h=>by
  rw[vw,jy]at h;rw[vG,ab5 x h.1,JD xs h.2];rfl
end
theorem UD{c:Type}{f:c->bD}:∀{l:List c},(∀a∈l,(f a).canLay0=c_)->vw (l.map f)=c_
 | [],_=>by simp[vw]
 | a::l,h=>by
  rw[fv,vw,h a b9,UD λb d=>h b<|cx _ d];rfl
theorem Vn{c:Type}{f:c->bD}{k:Nat}:∀{l:List c},(∀a∈l,(f a).depth<=k)->zG (l.map f)<=k
 | [],_=>by simp[zG]
 | a::l,h=>by
  have h1:=h a b9;have h2:=Vn λb d=>h b<|cx _ d;simp only[fv,zG];lia
theorem Ld{b:Type}{K:u_}{F:V->b->Prop}{f:b->bD}(h:∀v a,F v a->eX K H v (f a)):∀{vs:List V}{l:List b},bt F vs l->fG K H vs (l.map f)
 | _,_,.nil=>.nil
 | _,_,.cons g t=>.cons (h _ _ g)<|Ld h t
def sW(h:i_)(dx:bD)(u:f_):Bool:=@decide (∃d a,Reads h u d a/\kQ d dx=c_)<|SE _
def Yp(r:Reads h u d as):sW h dx u=kQ d dx:=by
 unfold sW;cases e:kQ d dx with
 | true=>exact @eN _ (SE _) ⟨d,as,r,e⟩
 | false=>
  refine @eT _ (SE _) ?_;rintro⟨d',b,a,e'⟩;refine oA (r.unique _ _ a) λq _=>?_;rw[q,e']at e;cases e
theorem M0:∀{us:List f_}{ds:List bD}{a:List e_},Ci h us ds a->us.any (sW h dx)=ds.any λd=>kQ d dx
 | _,_,_,.nil=>rfl
 | _,_,_,.cons r t=>by rw[xC,xC,Yp r,M0 t]
theorem MT{A:h_}{s:g_}{v:f_}{dx:bD}{bs:List e_}(b:Reads s.heap v dx bs)(c:shaped dx=c_)(a:A.in1.units+64<cLine):∀{us:List f_}{ds:List bD}{e:List e_},Ci s.heap us ds e->(∀d∈ds,shaped d=c_)->∀u∈us,EqAt A.in1 s u v<|sW s.heap dx u
 | _,_,_,.nil,_=>λu a=>by cases a
 | _,_,_,.cons r t,h=>λu hm=>by
  obtain rfl|hm:=bH.mp hm
  .rw[Yp r];exact W.keq_at r b (h _<|by simp) c a
  exact MT b c a t (λd hd=>h d<|cx _ hd) u hm
def Py(K:u_)(a:Bool):R2:=λx y H Q=>∃p xs ds dx,y=.ref p/\ag K H p xs/\fG K H xs ds/\eX K H x dx/\shaped dx=c_/\(∀d∈ds,shaped d=c_)/\Q (.bl (if a=c_ then !(ds.any λd=>kQ d dx) else ds.any λd=>kQ d dx)) H
section
variable{X:Cx}
def aja(l:X.A.units+65<cLine):dY X (iy .In) (Py X.K d_):=by
 intro p_ s σ H x y v u Q I c d h;obtain⟨p,xs,ds,dx,e,f,hd,g,i,j,q⟩:=h;subst e;cases d;refine aY (I.list f) λa r pl m=>oE (hd.reads I r) λn b=>oE (g.reads I c) λbs k=>in_listAt (sW s.heap dx) pl.isList (λw hw=>MT k i (by show X.A.units+1+64<cLine;exact w0) b j w<|by simpa using hw) ⟨.bl _,H,I,xz,?_⟩;rw[show a.toArray.any (sW s.heap dx)=a.any (sW s.heap dx) by simp,M0 b];exact q
def U6(l:X.A.units+65<cLine):dY X (iy .NotIn) (Py X.K c_):=by
 intro p_ s σ H x y v u Q I c d h;obtain⟨p,xs,ds,dx,e,f,hd,g,i,j,q⟩:=h;subst e;cases d;refine aY (I.list f) λa r pl m=>oE (hd.reads I r) λn b=>oE (g.reads I c) λbs k=>notIn_listAt (sW s.heap dx) pl.isList (λw hw=>MT k i (by show X.A.units+1+64<cLine;exact w0) b j w<|by simpa using hw) ⟨.bl _,H,I,xz,?_⟩;rw[show a.toArray.any (sW s.heap dx)=a.any (sW s.heap dx) by simp,M0 b];exact q
end
def VY(j:X.A.units+64<cLine):dY X (iy .NotEq) (λx y H Q=>∃a b xs,x=.ref a/\y=.ref b/\H a=a_ (.lst xs)/\H b=a_ (.lst [])/\Q (.bl<|!decide (xs=[])) H):=by
 intro p_ s σ H x y v u Q I d f h;obtain⟨a,b,xs,rfl,rfl,ha,g,q⟩:=h
 by_cases e:xs=[]
 .subst e;refine ai' j p_ s σ H _ _ v u Q I d f ⟨.list [],.list [],.lst (ag.of ha) .nil,.lst (ag.of g) .nil,qc,qc,by simp[noMix,Ft],?_⟩;have c:same (.list []) (.list [])=true:=by simp[same,sameAll]
  rw[ei xz,c];exact q
 cases d;cases f;obtain⟨z,k,n,r,l,c⟩:=I.qP ha;obtain⟨w,B,C,r2,m,i⟩:=I.qP g;rw[eT e]at q;have o:=tU.mp (by rw[<-m];rfl);subst o
 have p:(k.toArray.size != ([]:List f_).toArray.size)=true:=by
  rw[bne_iff_ne,dA,<-l];intro t;exact e<|tU.mp t
 show be _ _ (Kk .NotEq (.ref a)<|.ref b) _ _ s;exact aaU ⟨_,c,xz⟩ ⟨_,i,xz⟩ F.slot_list_ne F.entry_list_ne (F.args_list_ne_2 _ _) (list_ne_lengthsAt a b _ _ _ _ _ _ _ _ p) ⟨c,i,(by intro z;cases z),⟨.bl c_,H,I,xz,q⟩⟩ om
def afl(j:X.A.units+64<cLine):dY X (iy .Eq) (λx y H Q=>∃a b xs,x=.ref a/\y=.ref b/\H a=a_ (.lst xs)/\H b=a_ (.lst [])/\Q (.bl<|decide<|xs=[]) H):=by
 intro p_ s σ H x y v u Q I d f h;obtain⟨a,b,xs,rfl,rfl,ha,g,q⟩:=h
 by_cases e:xs=[]
 .subst e;refine ajb j p_ s σ H _ _ v u Q I d f ⟨.list [],.list [],.lst (ag.of ha) .nil,.lst (ag.of g) .nil,qc,qc,by simp[noMix,Ft],?_⟩;have c:same (.list []) (.list [])=true:=by simp[same,sameAll]
  rw[ee dO,c];exact q
 cases d;cases f;obtain⟨z,k,n,r,l,c⟩:=I.qP ha;obtain⟨w,B,C,r2,m,i⟩:=I.qP g;rw[eT e]at q;have o:=tU.mp (by rw[<-m];rfl);subst o
 have p:(k.toArray.size != ([]:List f_).toArray.size)=true:=by
  rw[bne_iff_ne,dA,<-l];intro t;exact e<|tU.mp t
 show be _ _ (Kk .Eq (.ref a)<|.ref b) _ _ s;exact aaU ⟨_,c,xz⟩ ⟨_,i,xz⟩ F.slot_list_eq F.entry_list_eq (F.args_list_eq_2 _ _) (list_eq_lengthsAt a b _ _ _ _ _ _ _ _ p) ⟨c,i,(by intro z;cases z),⟨.bl d_,H,I,xz,q⟩⟩ om
end L2
namespace L2
open PySem.W L3
section
variable{X:Cx}{pz:List (e_×cP)}{σ:St}{H:Hp}{s:g_}{ns:List Int}{kf:Int->Int}{l it sx f:e_}{R:Result->g_->Prop}
def akf(kf:Int->Int)(ns:List Int)(sx:e_)(j:Nat)(h:i_):Prop:=(j=0/\∃c,h.get? sx=a_ (d7 "list" #[] c))\/
 (0<j/\∃a b d c,h.get? sx=a_ (d7 "list" #[b,.int (kf a) d] c)/\df (.int a) b/\a∈ns/\∀i n,i<j->ns[i]?=a_ n->kf a<=kf n)
def akc(a:di (ns.map V.int) vs){j:Nat}(e:vs[j]?=a_ v):∃n t,ns[j]?=a_ n/\v=.int n t:=by
 have b:=a.length;rw[aA]at b;have d:j<vs.length:=(cb.mp e).1;obtain⟨u,e',t,c⟩:=a.get (i:=j) (x:=.int ns[j]) (by simp[show j<ns.length by exact wg]);rw[e]at e';cases e';exact⟨ns[j],t,aL (by exact wg),c⟩
def afS(hh:X.A.handled=b_)(hl:ag X.K H l (ns.map V.int))(h0:0<ns.length)(Rv:l≠it)(turn:∀(n:Int)(u:f_)(Q:List (e_×cP))(s:g_),n∈ns->df (.int n) u->(∀p∈pz,p∈Q)->dc X Q σ H s->be (bn X.prog X.w) X.A.in1 (call (.ref f) [u]) (EP X Q σ λv H'=>v=.int (kf n)/\H'=H) (λ_ _=>False) s)(hR:∀g h s',dc X pz σ H s'->df (.int g) h->g∈ns->(∀n∈ns,kf g<=kf n)->R (.ok<|.ret h) s'):∀(r j:Nat)(s:g_),ns.length-j=r->j<=ns.length->dc X pz σ H s->jG X pz H sx->jG X pz H it->sx≠it->s.heap.IsListIter it l j->akf kf ns sx j s.heap->codeAny (bn X.prog X.w) X.A (.builtin "min.loop" ⟨[.ref it,.ref f,.ref sx],[]⟩) R s:=by
 have S:(toString "min"++toString ".loop":String)="min.loop":=qc;intro r
 induction r with
 | zero=>
  intro j s hr hj I fs d y T U;have ej:j=ns.length:=li;obtain⟨z,_⟩|⟨_,g,h,B,c,C,Y,mb,G⟩:=U
  .lia
  obtain⟨vs,L,pl,hz⟩:=I.list hl;have M:=L.length;rw[aA]at M;have W:=BQ (prog:=X.prog) (w:=X.w) (A:=X.A.in1) hh it l Rv vs.toArray;refine(tZ PySem.F.entry_min_loop (?_:be _ _ _ _ _ s));rw[(vv PySem.F.plain_min_loop _)];show be _ X.A.in1 (Li (.ref sx) >>= _) _ _ _;refine ah<|ph C xz (?_:be _ X.A.in1 (tryCatch (pyNext<|.ref it) _ >>= _) _ _ _);refine ah<|JO (W.done _ _ _ ⟨by rw[dA,<-M,<-ej];exact T,pl.isList⟩ λh' D Z=>?_);have k1:∀b o,b≠it->s.heap.get? b=a_ o->h'.get? b=a_ o:=λb o n e=>Z b o (by simpa using n) e;have I1:dc X pz σ H {s with heap:=h',toks:=D}:=I.turned k1 d.1 d.2.1 d.2.2.2.1 d.2.2.2.2.1 d.2.2.2.2.2;have e1:=k1 sx _ y C;show be _ X.A.in1 (E9 sx (λ_=>#[]) >>= _) _ _ _;refine ah<|BC e1 xz<|ah<|zV<|aO ?_;have N:=lD h' sx (jz λ_=>(#[]:Array f_));refine hR g h _ (I1.turned (h':=_) (t':=D) (it:=sx) (λb o n e=>(N.2 b n).fT e) fs.1 fs.2.1 fs.2.2.2.1 fs.2.2.2.2.1 fs.2.2.2.2.2) Y mb λn hn=>?_;obtain⟨i,hi,e⟩:=nR hn;exact G i n (by exact wg) (by rw[<-e];exact aL hi)
 | succ r ih=>
  intro j s hr hj I fs d y T U;have lt:j<ns.length:=li;obtain⟨vs,L,pl,hz⟩:=I.list hl;have M:=L.length;rw[aA]at M;have W:=BQ (prog:=X.prog) (w:=X.w) (A:=X.A.in1) hh it l Rv vs.toArray
  have hS:∃xs c,s.heap.get? sx=a_ (d7 "list" xs c)/\((j=0/\xs=#[])\/(0<j/\∃g h B,xs=#[h,.int (kf g) B]/\df (.int g) h/\g∈ns/\∀i n,i<j->ns[i]?=a_ n->kf g<=kf n)):=by
   obtain⟨z,c,e⟩|⟨z,g,h,B,c,e,q⟩:=U
   .exact⟨_,c,e,.inl ⟨z,xz⟩⟩
   exact⟨_,c,e,.inr ⟨z,g,h,B,xz,q⟩⟩
  obtain⟨xs,c,C,hx⟩:=hS;refine(tZ PySem.F.entry_min_loop (?_:be _ _ _ _ _ s));rw[(vv PySem.F.plain_min_loop _)];show be _ X.A.in1 (Li (.ref sx) >>= _) _ _ _;refine ah<|ph C xz (?_:be _ X.A.in1 (tryCatch (pyNext<|.ref it) _ >>= _) _ _ _);refine ah<|JO (W.item j _ _ _ (by rw[dA];exact wf) ⟨T,pl.isList⟩ λv h' D hP aoR Z=>?_);have hv:vs[j]?=a_ v:=by simpa using hP
  obtain⟨n,t,en,rfl⟩:=akc L hv;have mn:=aW en;have k1:∀b o,b≠it->s.heap.get? b=a_ o->h'.get? b=a_ o:=λb o z e=>Z b o (by simpa using z) e;have I1:dc X pz σ H {s with heap:=h',toks:=D}:=I.turned k1 d.1 d.2.1 d.2.2.2.1 d.2.2.2.2.1 d.2.2.2.2.2;have e1:=k1 sx _ y C;obtain⟨O,hoI,yZ,Rl⟩:=id aoR.1
  have P1:dc X ((pz++[(sx,d7 "list" xs c)])++[(it,O)]) σ H {s with heap:=h',toks:=D}:=by
   have a:=I1.Hf fs e1 (λv z=>by cases z);refine a.Hf ⟨d.1,d.2.1,d.2.2.1,d.2.2.2.1,d.2.2.2.2.1,λp E=>?_⟩ hoI (λv z=>by rw[Rl]at z;cases z);obtain z|z:=ir.mp E
   .exact d.2.2.2.2.2 p (pf _ z)
   obtain z|z:=ir.mp z
   .exact d.2.2.2.2.2 p (gh _ z)
   have z':p=(sx,d7 "list" xs c):=by simpa using z
   rw[z'];exact y
  show be _ X.A.in1 (tryCatch (holding [iz n t] (call (.ref f) [iz n t])) _ >>= _) _ _ _;refine ah<|JO<|mQ (kP (turn n _ _ _ mn ⟨t,xz⟩ (λp E=>pf _<|pf _ E) P1) (λw s2 hw=>?_) λ_ _ z=>z.elim);obtain⟨v2,H2,J,r2,rfl,rfl⟩:=hw;obtain⟨x,rfl⟩:=r2;have I2:=J.vN λp E=>J.pin p<|gh _<|pf _<|pf _ E;have P:=(J.pin (sx,d7 "list" xs c)<|gh _<|pf _<|gh _<|by simp).1;have i2:=(J.pin (it,O)<|gh _<|gh _<|by simp).1
  have wr:∀(tk:Nat),(∀i m,i<j->ns[i]?=a_ m->kf n<=kf m)->codeAny (bn X.prog X.w) X.A (.builtin "min.loop" ⟨[.ref it,.ref f,.ref sx],[]⟩) R {s2 with heap:=s2.heap.update sx (jz λ_=>#[.int n t,.int (kf n) x]),toks:=tk}:=λtk am7=>by
   have N:=lD s2.heap sx (jz λ_=>#[iz n t,iz (kf n) x]);have I3:dc X pz σ H2 {s2 with heap:=s2.heap.update sx (jz λ_=>#[.int n t,.int (kf n) x]),toks:=tk}:=I2.turned (it:=sx) (λb o z e=>(N.2 b z).fT e) fs.1 fs.2.1 fs.2.2.2.1 fs.2.2.2.2.1 fs.2.2.2.2.2;refine ih (j+1) _ om (by exact xf) I3 fs d y ⟨O,(N.2 it<|iL y).fT i2,yZ,Rl⟩<|.inr ⟨TU _,n,_,x,_,Tg P λ_=>#[.int n t,.int (kf n) x],⟨t,xz⟩,mn,λi m hi k=>?_⟩
   by_cases z:i=j
   .subst z;rw[en]at k;cases k;exact Int.le_refl _
   exact am7 i m li k
  obtain⟨z,rfl⟩|⟨z,g,h,B,rfl,Y,mb,G⟩:=hx
  .show be _ X.A.in1 (E9 sx (λ_=>#[.int n t,.int (kf n) x]) >>= _) _ _ _;refine ah<|BC P xz ?_;rw[S];exact aO ⟨vy PySem.F.plain_min_loop _,wr s2.toks λi m hi _=>eu hi li⟩
  show be _ X.A.in1 (tryCatch (holding [.int n t,.int (kf n) x] (Kk .Lt (.int (kf n) x) (.int (kf g) B) >>= _)) _ >>= _) _ _ _;refine ah<|JO<|mQ<|ah<|lt_int (?_:be _ _ _ _ _ _);refine ah (mQ<|qg<|ah<|zV<|aO ?_)
  by_cases dg:kf n<kf g
  .simp only[dg,decide_true,if_true];refine ah<|BC P xz<|ah<|zV ?_;rw[S];refine aO ⟨vy PySem.F.plain_min_loop _,wr s2.toks λi m hi k=>?_⟩;have:=G i m hi k;lia
  simp only[dg,decide_false,tX,if_false];refine ah<|zV ?_;rw[S];refine aO ⟨vy PySem.F.plain_min_loop _,ih (j+1) _ li (by exact xf) I2 fs d y ⟨O,i2,yZ,Rl⟩<|.inr ⟨TU _,g,h,B,c,P,Y,mb,λi m hi k=>?_⟩⟩
  by_cases z2:i=j
  .subst z2;rw[en]at k;cases k;lia
  exact G i m li k
end
section
variable{X:Cx}{p_:List (e_×cP)}{σ:St}{H:Hp}{s:g_}{ns:List Int}{kf:Int->Int}{l f:e_}
def afT(I:dc X pz σ H s)(h:X.A.handled=b_)(d:ag X.K H l (ns.map V.int))(i:0<ns.length)(turn:∀(n:Int)(u:f_)(a:List (e_×cP))(s:g_),n∈ns->df (.int n) u->(∀p∈pz,p∈a)->dc X a σ H s->be (bn X.prog X.w) X.A.in1 (call (.ref f) [u]) (EP X a σ λv H'=>v=.int (kf n)/\H'=H) (λ_ _=>False) s)(q:∀m∈ns,(∀n∈ns,kf m<=kf n)->Q (.int m) H):be (bn X.prog X.w) X.A (call (.builtin "min") [.ref l] [(rX "key",.ref f)]) (EP X pz σ Q) E s:=by
 have j:(toString "min"++toString ".loop":String)="min.loop":=qc;obtain⟨vs,B,pl,C⟩:=I.list d
 have k:l<s.heap.objs.size:=by
  obtain⟨o,e,_⟩:=pl.isList;exact bV e
 refine kmk_tree PySem.F.kind_min PySem.F.plain_min PySem.F.entry_min (kmk_min_key _ _) (?_:be _ X.A.in1 (aaG "min" ["key","default"] 0 ⟨[],[(rX "key",.ref f)]⟩ >>= _) _ _ s);refine ah<|Kj (rfl:aaG "min" ["key","default"] 0 ⟨[],[(rX "key",.ref f)]⟩=pure [a_ (.ref f),b_])<|ah<|aO<|ah<|zB pl.isList<|ah<|Tw ?_<|ba _;rw[j];have c:(s.heap.push {cls:=.type "list_iterator",data:=.fields #[.ref l,.int 0 0]}).objs.size=s.heap.objs.size+1:=lZ _ _;have r:=I.aU.fresh<|az _;have t:H (s.heap.push {cls:=.type "list_iterator",data:=.fields #[.ref l,.int 0 0]}).objs.size=none:=I.aU.fresh (by rw[c];exact kr _);refine aO ⟨vy PySem.F.plain_min_loop _,?_⟩;have x:dc X pz σ H {s with heap:=(s.heap.push {cls:=.type "list_iterator",data:=.fields #[.ref l,.int 0 0]}).push (d7 "list" #[] 0)}:=I.kept (t':=s.toks) λb o e=>bE _<|bE _ e
 refine afS (kf:=kf) (pz:=pz) (σ:=σ) h d i (dH k) turn (λg D s' J y mb z=>?_) (ns.length-0) 0 _ xz (ba _) x (I.jX (by rw[c];exact kr _) t) (I.jX (az _) r) (by rw[c];exact JF _)
  ⟨_,bE _<|eO _ xz,xz,xz⟩ (.inl ⟨xz,0,eO _ xz⟩)
 exact⟨.int g,H,J,y,q g mb z⟩
def ZL(B:V->Hp->Prop):List V->Hp->Prop:=λvs H=>match vs with | [x]=>B x H | _=>False
def aht:∀{vs:List V}{H:Hp},ZL B vs H->∃x,vs=[x]/\B x H
 | [x],_,h=>⟨x,xz,h⟩
 | [],_,h=>h.elim
 | _::_::_,_,h=>h.elim
def agG(K:u_)(P:e_)(d:Pos)(qual:cr)(tl e:TE)(idx:List Nat)(n k:Nat):TE:=λσ H Q=>tl σ H λx c=>∃(a:e_)(ns:List Int)(kf:Int->Int),x=.ref a/\ag K c a (ns.map V.int)/\0<ns.length/\cE P d qual c/\
 ∀b,we P c b->cE P d qual b->ag K b a (ns.map V.int)/\(∀m∈ns,e ((lH idx n σ).set k<|a_<|.int m) b λv H'=>v=.int (kf m)/\H'=b)/\∀m∈ns,(∀n∈ns,kf m<=kf n)->Q (.int m) b
def adZ{le g:bw}{c P:e_}(r:X.calm=c_)(hrm:X.A.depth+5<EK)(t:Gl X "min")(hm:X.mg "min"=b_)(y:PE X le tl)(S:cF X sc N idx)
  (z:X.env.code=.ref c) (C:CodeHd X.base c P) (B:uK X.mg X.base) (D:N[k]?=a_ px) (E:sc.names.lookup px=a_ .local) (hi:idx.length<=k) (i:∀A qual f cd s H,PE (HL X A sc N qual f cd s H) g te)
  (F:∀(qual:cr)(cl:List (cr×e_))(pm cd o u:f_),ue (kla_fn "<lambda>" qual params g sc cl pm cd o) ⟨[u],[]⟩=pure [(px,u)]) (G:autoParam (defaultsOf params X.env=([],[])) a8) (J:autoParam (sc.isCoroutine=false) a8) (L:autoParam (sc.isGenerator=false) a8)
  (M:autoParam (bx pos (cA [le] X.env)=(d_,eval le X.env)::bx pos (cA [] X.env)) a8) (O:autoParam ((bx pos<|cA [le] X.env).any (·.1)=false) a8) (R:autoParam (cA [le] X.env=(d_,eval le X.env)::cA [] X.env) a8) :
  PE X (.Call (.Name "min" p) [le] [⟨a_ "key",.Lambda params g sc AN,arF⟩] pos) (agG X.K P AN (X.env.qual++"<lambda>") tl te idx N.length k):=by
 intro p_ s σ H Q I h;refine Ez<|vV I t hm (show rW "min"=a_ (.builtin "min") from boot_min) ?_ qc qc
 refine callWith_kw (aT (aa (X:=X) y af R pos p_ s σ H (ZL λx d=>∃(a:e_)(ns:List Int)(kf:Int->Int),x=.ref a/\ag X.K d a (ns.map V.int)/\0<ns.length/\cE P AN (X.env.qual++"<lambda>") d/\
  ∀b,we P d b->cE P AN (X.env.qual++"<lambda>") b->ag X.K b a (ns.map V.int)/\(∀m∈ns,te ((lH idx N.length σ).set k<|a_<|.int m) b λv H'=>v=.int (kf m)/\H'=b)/\∀m∈ns,(∀n∈ns,kf m<=kf n)->Q (.int m) b) I h) λus s1⟨vs,d,T,U,W⟩=>?_) M O xz xz
 obtain⟨x,rfl,a,ns,kf,rfl,hL,Y,Z,hq⟩:=aht W;obtain⟨u,rfl,j⟩:=vals1 U;cases j;refine kws_cons (afX T S z C B G Z λf c' b pm o s2 I2 sm Dk hc2=>kws_nil ?_);obtain⟨mJ,Rf,hQ⟩:=hq b sm Dk;have q:=I.ok.hd r;refine lV (afT (kf:=kf) (f:=f) I2 q mJ Y (λn u pp s3 hn j hp e=>?_) λm hm i=>hQ m hm i) λw s4 v H4 I4 r4 q4=>⟨v,H4,I4.Fe,r4,q4⟩;refine afY (A:=X.A.in1) (v:=.int n) e S e.ok.frames q (by show X.A.depth<_;lia) D E hi j (e.pin _<|gh _<|hp _<|gh _ b9).1 (e.aU c' _ hc2).1 (F _ _ _ _ _ _) J L (i _ _ _ _ _ _)<|Rf n hn
end
end L2
namespace L2
open L3
structure wD(K:u_)(x qual:cr)(st:bv)(f:e_)(fd:jO)(c:e_):Prop where
 ex:∃(oc:f_)(od:Option e_)(kV doc pm:f_)(an:Option e_)(ct:f_)(jc:Array (Option f_)),fd=B_ x qual (lF st) (iZ st) (aP st) .none kV doc pm an (.ref c) ct/\K.lookup f=a_ ⟨oc,od,.func fd,jc⟩/\W.codeIn K (.ref c) qual=c_
 kp:x_ K (.ref f)=c_
def aic{K:u_}{x qual:cr}{st:bv}{f c:e_}{oc:f_}{od an:Option e_}{jc:Array (Option f_)}{kV doc pm ct:f_}(l:K.lookup f=a_ ⟨oc,od,.func<|B_ x qual (lF st) (iZ st) (aP st) .none kV doc pm an (.ref c) ct,jc⟩)(c1:W.codeIn K (.ref c) qual=c_)(k:x_ K (.ref f)=c_):wD K x qual st f (B_ x qual (lF st) (iZ st) (aP st) .none kV doc pm an (.ref c) ct) c:=⟨⟨oc,od,kV,doc,pm,an,ct,jc,xz,l,c1⟩,k⟩
section
variable{P:k_}{w:j_}{K:u_}{mg:cr->Option f_}{gl:i_}
def wD.ok{st:bv}(F:wD K x qual st f fd c)(S:aV N ps (aP st))
  (b:∀(A:h_)(outer:List Env)(s:g_)(H:Hp)(vs:List V)(Q:VK)(E:XK),fJ k (A.deeper<|d8 qual (aP st) s.zS f<|.ref c)->sp vs H Q E->
   ∃t,fu (oG aE P w K mg gl N qual (aP st) f (.ref c) A outer s H E).oK (iZ st) t/\t {nx:=λ_ H'=>Q .aR H',rt:=Q} (start N vs) H) (len:∀vs H Q E,sp vs H Q E->vs.length=ps.length:=by intro _ _ _ _ h;(repeat obtain⟨_,h⟩:=h);subst_vars;rfl):aF P w K mg gl aE (k+1) f fd ps sp:=by
 refine jk F.ex λoc od kV doc pm a=>lG a λan ct jc a lk d=>?_;subst a;exact yh lk d S len λA outer s H vs Q E e g=>aB (b A outer s H vs Q E e g) λt h q=>ay t h.oK q
def wD.fun{st:bv}(F:wD K x qual st f fd c):aQ K x qual st f fd:=by
 exact jk F.ex λoc od kV doc pm a=>lG a λan ct jc e lk b=>⟨⟨oc,od,kV,doc,pm,an,_,ct,jc,e,lk,b⟩,F.kp⟩
end
end L2
namespace L2
open PySem.W
def TF(h:Gs (ps.map (·.2)) (λi=>(ps.map (·.1)).getD i 0) zs):∃qs:List (Int×V),qs.Perm ps/\qs.Pairwise (λa b=>a.1<b.1)/\zs=qs.map (·.2):=by
 obtain⟨p,g,d,rfl⟩:=h;rw[aA]at g d;have r:=KQ g;have f:=Sw.mp g
 have m:(List.range ps.length).map (λi=>ps.getD i (0,.aR))=ps:=by
  apply JI
  .simp
  intro i h1 h2;simp[h2]
 refine⟨p.toList.map λi=>ps.getD i (0,.aR),?_,?_,?_⟩
 .have:=f.map λi=>ps.getD i (0,.aR);simp only at this;rw[m]at this;exact this
 .rw[km];intro i j hi n o;rw[aA]at hi n;have:=d i j o wf;unfold rk at this;have s:=g.size;simp only[abG];have e:∀k c,p.getD k 0=p[k]:=λk c=>by simp[c]
  rw[e i _,e j _]at this;have l:∀k,k<ps.length->(ps.map (·.1)).getD k 0=(ps.getD k (0,.aR)).1:=λk c=>by simp[c]
  have lt:∀k(c:k<p.size),p[k]<ps.length:=λk c=>by
   have:=g.lt wf;rw[e k _]at this;exact this
  dsimp only at this;rw[l _<|lt i _,l _<|lt j _]at this;exact this
 rw[jh];refine SM λi hi=>?_
 have q:i<ps.length:=by
  have:=f.mem_iff.mp hi;simpa using this
 simp[q]
section
variable{X:Cx}
def acM(M:d6)(h:i_)(i:Int)(t:Tok):Looks M h (typeOf<|.int i t) (.type "int"):=Looks.of_pure xz
def ai2(K:u_):List V->Hp->VK->Prop:=λxs H Q=>∃(p:e_)(ps:List (Int×V)),xs=[.ref p]/\ag K H p (ps.map (·.2))/\ps.length<64/\(∀q∈ps,∃a ys,q.2=.ref a/\aq K H a (.int q.1::ys))/\(ps.map (·.1)).Nodup/\
 ∀l qs,H l=b_->iJ qs ps->qs.Pairwise (λa b=>a.1<b.1)->Q (.ref l) (db H l<|.lst<|qs.map (·.2))
def acj:i7 X (.builtin "sorted") (ai2 X.K):=by
 intro p_ s σ H xs us Q I r h;obtain⟨p,ps,rfl,M,h64,N,nd,q⟩:=h;obtain⟨u,rfl,O⟩:=vals1 r;cases O;obtain⟨w,L,pl,hz⟩:=I.list M;have P:=L.length;rw[aA]at P;refine KC (H:=H)<|collect_list pl.isList ?_ (by rw[fR];lia)
 have kp:∀b o,s.heap.get? b=a_ o->((s.heap.push<|d7 "list" #[] 0).update s.zS<|jz (· ++ w.toArray)).get? b=a_ o:=λb o e=>by
  rw[Jx _ _ _ _<|dH<|bV e];exact bE _ e
 have tup:∀i,i<ps.length->∃a o vs n,w.getD i gR=.ref a/\s.heap.get? a=a_ o/\o.cls=.type "tuple"/\o.data=.seq vs n/\∃t rest,vs.toList=iz ((ps.map (·.1)).getD i 0) t::rest:=λi hi=>by
  obtain⟨a,ys,y,f⟩:=N _<|tY hi;obtain⟨vs,R,⟨o,S,co,n,U⟩,_⟩:=I.tuple f;obtain⟨u,V,W⟩:=L.get (i:=i) (x:=.ref a) (by simp[hi,y]);cases W;cases R with
  | cons ra rr=>
   obtain⟨t,rfl⟩:=ra;exact⟨a,o,_,n,by rw[eG,V];rfl,S,co,U,t,_,by simp[hi];rfl⟩
 refine⟨ps.map (·.2),λi=>(ps.map (·.1)).getD i 0,I.kept kp,L,⟨li,λi j hi Y e=>?_,λh2=>?_⟩,λl zs hn Z=>?_⟩
 .have B:i<ps.length:=wg;have D:j<ps.length:=wg;have e':(ps.map (·.1))[i]'(by simpa using B)=(ps.map (·.1))[j]'(by simpa using D):=by simpa[B,D]using e
  obtain z|z|z:=zC i j
  .exact eu e' (km.mp nd i j _ _ z)
  .exact z
  exact eu e'.g8 (km.mp nd j i _ _ z)
 .refine⟨tuples' c_,λs' k=>?_⟩
  have nL:∀b o,s.heap.get? b=a_ o->o.cls=.type "tuple"->(∃vs n,o.data=.seq vs n)->b≠X.env.locals:=λb o e _ d z=>by
   obtain⟨m,F⟩:=I.fr;obtain⟨o',es,ep,e',d',_⟩:=F.ns;rw[z,e']at e;cases e;obtain⟨vs,n,d⟩:=d;rw[d']at d;cases d
  have at':∀i,i<ps.length->∃a o vs n,w.getD i gR=.ref a/\s'.heap.get? a=a_ o/\o.cls=.type "tuple"/\o.data=.seq vs n/\∃t rest,vs.toList=iz ((ps.map (·.1)).getD i 0) t::rest:=λi hi=>by
   obtain⟨a,o,vs,n,y,f,E,A,G⟩:=tup i hi;exact⟨a,o,vs,n,y,k _ _ (nL a o f E ⟨vs,n,A⟩)<|kp _ _ f,E,A,G⟩
  constructor
  .intro Q' hQ
   have kt:∀m,m<=ps.length->∃fs:List f_,fs.length=m/\KatTups s'.heap (w.drop<|ps.length-m) fs/\∀v∈fs,∃i t,v=iz i t:=λm=>by
    induction m with
    | zero=>
     intro _;refine⟨[],xz,?_,λv J=>nomatch J⟩;rw[aaW li];exact .nil
    | succ m ih=>
     intro hm;obtain⟨fs,h1,h2,h3⟩:=ih li;obtain⟨a,o,vs,n,y,f,E,A,t,rest,G⟩:=at' (ps.length-(m+1)) om
     have hd:w.drop (ps.length-(m+1))=.ref a::w.drop (ps.length-m):=by
      rw[aaM om,show ps.length-(m+1)+1=ps.length-m by lia]
      congr 1
      rw[<-y];simp[show ps.length-(m+1)<w.length by omega]
     rw[hd];refine⟨iz ((ps.map (·.1)).getD (ps.length-(m+1)) 0) t::fs,by rw[eJ,h1],.cons f E A ?_ h2,λv J=>?_⟩
     .have:vs.toList[0]?=a_ (iz ((ps.map (·.1)).getD (ps.length-(m+1)) 0) t):=by rw[G];rfl
      rw[zy]at this;exact this
     obtain z|z:=bH.mp J
     .exact⟨_,_,z⟩
     exact h3 v z
   obtain⟨fs,h1,h2,h3⟩:=kt _<|az _;rw[TX,Tp]at h2;refine kat_kind (T:=.type "int") h2 li (λv J=>?_) qc ((show (iI "int" != iI "tuple")=c_ by decide)▸hQ);obtain⟨i,t,e⟩:=h3 v J;rw[e];exact acM _ _ _ _
  intro i j C hi Y ne c;obtain⟨a,o,vs,n,y,f,E,A,t,rest,G⟩:=at' i wg;obtain⟨a',o',j',n',Er,e2',e3',e4',t',aq3,e5'⟩:=at' j wg;unfold kas_ask;rw[y,Er];refine kat_lt f A e2' e4' ?_;rw[G,e5'];refine kat_cons (Ta ?_)
  have hG:(ps.map (·.1)).getD i 0≠(ps.map (·.1)).getD j 0:=λe=>by
   have B:i<ps.length:=wg;have D:j<ps.length:=wg;have e':(ps.map (·.1))[i]'(by simpa using B)=(ps.map (·.1))[j]'(by simpa using D):=by simpa[B,D]using e
   obtain z|z:=SQ ne
   .exact eu e' (km.mp nd i j _ _ z)
   exact eu e'.g8 (km.mp nd j i _ _ z)
  rw[show ((ps.map (·.1)).getD i 0==(ps.map (·.1)).getD j 0)=d_ by simpa using hG];exact kat_no<|oneLt_int c
 obtain⟨qs,g,pw,rfl⟩:=TF Z;exact q l _ hn g pw
end
end L2
namespace TL
open L2 L3
structure gy where
 (t n num d:Int)
 deriving DecidableEq
noncomputable def bL(es:List gy)(i:Nat):List gy:=es.filter λe=>decide<|e.n=(i:Int)
def jV(H:Hp)(v:V)(e:gy):Prop:=∃p s,v=.ref p/\H p=a_ (.tup [.int e.t,.ref s])/\H s=a_ (.tup [.int e.n,.int e.num,.int e.d])
def Dw(H:Hp)(b:e_)(es:List gy):Prop:=∃vs,H b=a_ (.lst vs)/\bt (jV H) vs es
def Xs:List cr:=[W_,"latest","fronts","take","is_empty","listed","twin"]
structure oT(tn:Int)(es:List gy):Prop where
 asc:es.Pairwise λx y=>x.t<y.t
 nm:∀e∈es,0<=e.n/\e.n<12
 lt:∀e∈es,e.t<tn
structure dM(H:Hp)(a C:e_)(kd:cr)(tn:Int)(es:List gy)(q:e_)(qr:List e_):Prop where
 obj:∃dx fs,H a=a_ (.ins C dx fs)/\fs.lookup (U_ : cr)=a_ (V.str kd)/\fs.lookup (as3 : cr)=a_ (V.int tn)/\fs.lookup ("queues":cr)=a_ (V.ref q)/\(∀m∈Xs,fs.lookup m=b_)/\fs.length<=20
 qs:H q=a_ (.lst<|qr.map V.ref)
 len:qr.length=12
 nd:qr.Nodup
 nq:q∉qr
 jY:∀i b,qr[i]?=a_ b->Dw H b (bL es i)
 wf:oT tn es
structure hY(F:List e_)(H H':Hp):Prop where
 k:∀b o,b∉F->(∀ps,o≠.ft ps)->H b=a_ o->H' b=a_ o
 t:∀b,H' b=b_->H b=b_
def hY.of(s:ae H H'):hY F H H':=⟨λb o _ _ e=>s b o e,λb h=>s.free h⟩
def hY.fT(a:hY F H H1)(b:hY F H1 H2):hY F H H2:=⟨λc o h1 h2 e=>b.k c o h1 h2<|a.k c o h1 h2 e,λc h=>a.t c<|b.t c h⟩
def hY.Ds{P:e_}(s:we P H H')(a:H P=a_ (.ft ps))(c:H' P=a_ (.ft ig)):hY [] H H':=
 ⟨λb o _ n e=>s b o (λz=>by rw[z,a]at e;cases e;exact n _ xz) e,λb h=>by
  cases e:H b with
  | none=>rfl
  | some o=>
   by_cases z:b=P
   .rw[z,c]at h;cases h
   rw[s b o z e]at h;cases h⟩
def BM{P:e_}{d:Pos}{qual:cr}{F:List e_}{H H':Hp}(h:cE P d qual H)(k:∀b o,b∉F->H b=a_ o->H' b=a_ o)(f:∀b∈F,∀o,H b=a_ o->(∃C dx fs,o=.ins C dx fs)\/∃xs,o=.lst xs):cE P d qual H':=by
 refine aB h λps g a=>?_
 have i:P∉F:=λz=>by
  rcases f P z _ g with ⟨_,_,_,e⟩ | ⟨_,e⟩ <;> cases e
 refine ay _ (k P _ i g) ?_;obtain e|⟨c,e,a⟩:=a
 .exact .inl e
 refine .inr (ay c e<|k c _ (λz=>?_) a);rcases f c z _ a with ⟨_,_,_,e⟩ | ⟨_,e⟩ <;> cases e
def iw{P:e_}{a:Pos}{qual:cr}{H H':Hp}(h:cE P a qual H)(k:ae H H'):cE P a qual H':=BM (F:=[]) h (λb o _ e=>k b o e) λb c=>nomatch c
def jV.keep{F:List e_}(h:jV H v e)(k:∀b xs,H b=a_ (.tup xs)->H' b=a_ (.tup xs)):jV H' v e:=let ⟨p,s,e1,e2,e3⟩:=h;⟨p,s,e1,k _ _ e2,k _ _ e3⟩
theorem si{c d:Type}{F G:c->d->Prop}(f:∀a b,F a b->G a b):∀{l:List c}{r:List d},bt F l r->bt G l r
 | _,_,.nil=>.nil
 | _,_,.cons h t=>.cons (f _ _ h)<|si f t
def Dw.keep(h:Dw H b es)(a:∀o,H b=a_ o->H' b=a_ o)(k:∀b xs,H b=a_ (.tup xs)->H' b=a_ (.tup xs)):Dw H' b es:=let ⟨vs,e,r⟩:=h;⟨vs,a _ e,si (λ_ _ z=>z.keep (F:=[]) k) r⟩
def dM.keep(T:dM H a C kd tn es q qr)(k:∀b∈a::q::qr,∀o,H b=a_ o->H' b=a_ o)(d:∀b xs,H b=a_ (.tup xs)->H' b=a_ (.tup xs)):dM H' a C kd tn es q qr:=by
 obtain⟨⟨dx,fs,e,r⟩,qs,len,nd,nq,jY,wf⟩:=T;exact⟨⟨dx,fs,k a (by simp) _ e,r⟩,k q (by simp) _ qs,len,nd,nq,λi b c=>(jY i b c).keep (λo=>k b (by simp[aW c]) o) d,wf⟩
def dM.alO(T:dM H a C kd tn es q qr)(k:hY F H H')(d:∀b∈F,b∉a::q::qr)(f:∀b∈F,∀xs,H b≠a_ (.tup xs)):dM H' a C kd tn es q qr:=by
 refine T.keep (λb c o e=>k.k b o (λz=>d b z c) (λps z=>?_) e) λb xs e=>k.k b _ (λz=>f b z _ e) (λps z=>by cases z) e;subst z;obtain z|z:=bH.mp c
 .refine cG T.obj λdx fs e' _=>?_;rw[z,e']at e;cases e
 obtain z|z:=bH.mp z
 .rw[z,T.qs]at e;cases e
 refine oE (nR z) λi g=>oE g λhi h=>?_;obtain⟨vs,e',_⟩:=T.jY i b (by rw[<-h];exact aL _);rw[e']at e;cases e
def dM.pJ(T:dM H a C kd tn es q qr)(k:hY [] H H'):dM H' a C kd tn es q qr:=T.alO k (λb c=>nomatch c) λb c=>nomatch c
def dM.kinds(T:dM H a C kd tn es q qr):∀b∈a::q::qr,∀o,H b=a_ o->(∃C dx fs,o=.ins C dx fs)\/∃xs,o=.lst xs:=λb c o e=>by
 obtain z|z:=bH.mp c
 .refine cG T.obj λdx fs e' _=>?_;rw[z,e']at e;cases e;exact .inl<|⟨_,_,_,xz⟩
 obtain z|z:=bH.mp z
 .rw[z,T.qs]at e;cases e;exact .inr ⟨_,xz⟩
 refine oE (nR z) λi d=>oE d λhi f=>?_;obtain⟨vs,e',_⟩:=T.jY i b (by rw[<-f];exact aL _);rw[e']at e;cases e;exact .inr ⟨_,xz⟩
def dM.there(T:dM H a C kd tn es q qr):∀b∈a::q::qr,∃o,H b=a_ o:=λb c=>by
 obtain z|z:=bH.mp c
 .exact cG T.obj λdx fs e' _=>⟨_,by rw[z];exact e'⟩
 obtain z|z:=bH.mp z
 .exact⟨_,by rw[z];exact T.qs⟩
 refine oE (nR z) λi d=>oE d λhi e=>?_;obtain⟨vs,e',_⟩:=T.jY i b (by rw[<-e];exact aL _);exact⟨_,e'⟩
def Ct(es:List gy)(i:Nat):Option gy:=(bL es i).getLast?
def mq(es:List gy):List Int:=((List.range 12).filter λi=>decide<|bL es i≠[]).map λ(i:Nat)=>(i:Int)
def jj(kd:cr)(es:List gy):List Int:=if kd = N_ then (es.head?.map (·.n)).toList else mq es
noncomputable def nA(es:List gy)(n:Int):List gy:=es.eraseP λe=>decide<|e.n=n
def ahk(i:Nat):bL [] i=[]:=rfl
def WR(es:List gy)(e:gy)(i:Nat):bL (es++[e]) i=if e.n=(i:Int) then bL es i++[e] else bL es i:=by
 unfold bL;rw[xv]
 by_cases h:e.n=i
 .rw[ei h];simp[h]
 rw[ee h];simp[h]
def xK:n∈mq es↔∃i:Nat,i<12/\n=i/\bL es i≠[]:=by
 unfold mq;rw[cj];constructor
 .rintro⟨i,hi,rfl⟩;rw[gz,nU]at hi;exact dQ i hi.1 xz (by simpa using hi.2)
 rintro⟨i,h1,rfl,h2⟩;exact ay i (by rw[gz,nU];exact⟨h1,by simpa using h2⟩) xz
def Wb{i:Nat}(h:es.head?=a_ e)(hi:e.n=(i:Int)):(bL es i).head?=a_ e:=by
 cases es with
 | nil=>cases h
 | cons x r=>
  cases h;unfold bL;rw[kL,ei (by simpa using hi)];rfl
def aiw(w:oT tn es)(b:0<=n)(h1:n<12):oT (tn+1) (es++[⟨tn,n,num,d⟩]):=by
 refine⟨aa5.mpr ⟨w.asc,SA _ _,λx c y f=>?_⟩,λe a=>?_,λe a=>?_⟩
 .rw[cO.mp f];exact w.lt x c
 .obtain z|z:=ir.mp a
  .exact w.nm e z
  rw[cO.mp z];exact⟨b,h1⟩
 obtain z|z:=ir.mp a
 .have:=w.lt e z;lia
 rw[cO.mp z];show tn<tn+1;lia
def agz(w:oT tn es)(n:Int):oT tn (nA es n):=by
 have a:(nA _ n).Sublist es:=List.eraseP_sublist;exact⟨w.asc.sublist a,λe b=>w.nm e<|a.subset b,λe b=>w.lt e<|a.subset b⟩
def afa(es:List gy)(n:Int)(i:Nat):bL (nA es n) i=if n=(i:Int) then (bL es i).tail else bL es i:=by
 induction es with
 | nil=>unfold nA bL;simp
 | cons e r ih=>
  unfold nA at ih ⊢;rw[Td]
  by_cases h:e.n=n
  .rw[eN h,cond_true];unfold bL
   by_cases hi:n=i
   .rw[ei hi,kL,ei (by simpa using h.fT hi)];rfl
   rw[ee hi,kL,ee (by simpa using λz:e.n=i=>hi<|h.g8.fT z)]
  rw[eT h,cond_false];unfold bL at ih ⊢;rw[kL,kL]
  by_cases a:e.n=i
  .have b:¬n=i:=λz=>h<|a.fT z.g8;rw[ee b]at ih;simp only[eN a];rw[ee b,ih]
  simp only[eT a,tX,if_false];rw[ih]
end TL
namespace L2
section
variable{X:Cx}
def ald(K:u_):List V->Hp->VK->Prop:=λxs H Q=>∃x p a c t b,xs=[x,.ref p]/\H p=a_ (.tup [.ty a,.ty c])/\gE K H x t/\W.kitAny K t [.type a,.type c]=a_ b/\Q (.bl b) H
def adn(I:dc X p_ σ H s)(c:df x u)(ty:gE X.K H x t){sl:Array (Option f_)}(d:s.heap.get? tp=a_ ⟨.type "tuple",dd,.seq ak.toArray n,sl⟩)(e:W.kitAny X.K t ak=a_ b)(h:∀tk,Q (.bool b) {s with toks:=tk}):be (bn X.prog X.w) A (call (.builtin "isinstance") [u,.ref tp]) Q E s:=by
 cases ty with
 | aR=>cases c;exact W.kia_tup W.kitx_none I.dm mY d e (λz=>nomatch z) h
 | bl y=>cases (show u=lE y from c);exact W.kia_tup W.kitx_bool I.dm mY d e (λz=>nomatch z) h
 | int i=>obtain⟨t,q⟩:=(show ∃t,u=iz i t from c);cases q;exact W.kia_tup W.kitx_int I.dm mY d e (λz=>nomatch z) h
 | str y=>obtain⟨t,q⟩:=(show ∃t,u=Ll y t from c);cases q;exact W.kia_tup W.kitx_str I.dm mY d e (λz=>nomatch z) h
 | qV y=>obtain⟨t,q⟩:=(show ∃t,u=Kl y t from c);cases q;exact W.kia_tup W.kitx_float I.dm mY d e (λz=>nomatch z) h
 | @lst a xs ea=>
  cases (show u=dq a from c);exact oA ((show fq X.prog X.w H s.heap a (.lst xs) from I.aU a _ ea)) λ_ f=>cG f λ_ n _ h1=>W.kia_tup W.kitx_list I.dm ⟨_,h1,xz⟩ d e (λz=>nomatch z) h
 | @jZ a ob xs ea=>
  cases (show u=dq a from c);exact gH ((show fq X.prog X.w H s.heap a (.jZ ob<|.lst xs) from I.aU a _ ea)) λ_ _ f=>cG f λ_ n _ h1=>W.kia_tup W.kitx_list I.dm ⟨_,h1,xz⟩ d e (λz=>nomatch z) h
 | @tup a xs ea=>
  cases (show u=dq a from c);exact oA ((show fq X.prog X.w H s.heap a (.tup xs) from I.aU a _ ea)) λ_ f=>aB f λ_ _ p=>aY p λo h1 h2 _=>W.kia_tup W.kitx_tuple I.dm ⟨o,h1,h2⟩ d e (λz=>nomatch z) h
 | @dK a fL ea=>
  cases (show u=dq a from c);exact gH ((show fq X.prog X.w H s.heap a (.dK fL) from I.aU a _ ea)) λ_ _ f=>aB f λvs _ p=>lG p λo es g h1 h2 _=>W.kia_tup W.kitx_dict I.dm ⟨o,h1,h2.1⟩ d e (λz=>nomatch z) h
 | @dT a fL ea=>
  cases (show u=dq a from c);exact gH ((show fq X.prog X.w H s.heap a (.dT fL) from I.aU a _ ea)) λ_ _ f=>lG f λo es g h1 h2 _=>W.kia_tup W.kitx_dict I.dm ⟨o,h1,h2.1⟩ d e (λz=>nomatch z) h
 | @ins a C dx fs ea cl ha hn Bg hm=>
  cases (show u=dq a from c);exact aB (Cu I.aU ea) λmA O _=>aB O.look λod J _=>W.kia_tup (W.kitx_own (cl.get _) cl.hd ha hn Bg hm) I.dm J d e (λz=>nomatch z) h
def aeF:i7 X (.builtin "isinstance") (ald X.K):=by
 intro p_ s σ H xs us Q I r h;refine mX h λx p w y t b e f ty g q=>?_;subst e;refine fk (vals2 r) λu v a i j=>?_;subst a;cases j;refine oA ((I.aU p _ f)) λz a=>aB a λA k pl=>fk (vals2 k) λc d l m r2=>?_;subst l;cases m;cases r2;refine aY pl λo h1 h2 a=>oE a λn h3=>?_;obtain⟨oc,od,B,jc⟩:=o;cases h2;cases h3;exact adn I i ty h1 g λtk=>(dN (.bl b) H (I.tok _) xz q)
def alc(K:u_):List V->Hp->VK->Prop:=λxs H Q=>∃(p:e_)(ns:List Int),xs=[.ref p]/\ag K H p (ns.map V.int)/\ns≠[]/\∀M,M∈ns->(∀a∈ns,M<=a)->Q (.int M) H
def aeD(y:X.calm=c_):i7 X (.builtin "min") (alc X.K):=by
 intro p_ s σ H xs us Q I r h;refine ou h λp ns e B C q=>?_;subst e;refine aB (vals1 r) λu c D=>?_;subst c;cases D;refine aY (I.list B) λd f pl S=>?_;have hi:=intsAre_of f;have k:d.length=ns.length:=by have:=f.length;rw[aA]at this;exact this.g8
 have E:p≠s.heap.objs.size:=by
  exact aB pl.isList λo e _=>dH<|bV e
 have l:0<d.toArray.size:=by
  rw[dA,k];exact abd.mpr C
 have m:∀i v,d.toArray[i]?=a_ v->∃t,v=iz (ns.getD i 0) t:=λi v g=>by
  have n:d[i]?=a_ v:=by simpa using g
  have T:=(cb.mp n).1
  obtain⟨u,w,F⟩:=f.get (i:=i) (x:=V.int<|ns.getD i 0) (by
   rw[cc,aL wf,eG,aL wf];rfl)
  rw[n]at w;cases w;exact F
 refine call_min_walk<|zB pl.isList<|⟨_,_,_,_,_,_,(⟨_,xz,(BQ (show X.A.in1.handled=b_ from I.ok.hd y) _ p E _),⟨⟨_,eO _ xz,xz,xz⟩,pl.isList.push _⟩,?_,l,(CmpOf.ints_lt _ m),(λv h' tk g G=>?_)⟩)⟩
 .intro b J;refine aB pl.isList λo e _=>?_;have L:=bV e;have M:(s.heap.push {cls:=.type "list_iterator",data:=.fields #[.ref p,.int 0 0]}).objs.size=s.heap.objs.size+1:=lZ _ _;have N:b=s.heap.objs.size\/b=p:=by simpa using J
  rw[M];obtain e|e:=N
  .rw[e];exact rP _
  rw[e];exact EA L
 refine oE (m _ _ g) λt c=>?_;subst c;refine oA (argBest_lt (λi=>ns.getD i 0)<|d.toArray.size-1) λh1 h2=>?_;rw[dA,k]at h1 h2 l ⊢;refine dN (.int _) H (I.kept λb o e=>G b o (λz=>?_)<|bE _ e) ⟨t,xz⟩ (q _ ?_ λa ha=>?_)
 .have O:b=s.heap.objs.size:=by simpa using z
  rw[O]at e;exact eu (bV e)<|mU _
 .show ns.getD _ 0∈ns;rw[eG,aL om];exact tY _
 refine oE (nR ha) λj c=>oE c λP e=>?_;have:=h2 j om;have R:ns.getD j 0=a:=by rw[eG,aL P,e];rfl
 rw[R]at this;exact this
end
section
variable{X:Cx}{CX:p6}{k:Nat}{E:XK}{m:cr}{pos apos:Pos}{e o:bw}{es:List bw}{ta:TE}{t:TA}
def agH(P:k_)(w:j_)(K:u_)(mg:cr->Option f_)(gl:i_)(CX:p6)(k:Nat)(m:cr)(E:XK)(ta:TE)(t:TA):TE:=λσ H Q=>ta σ H λx b=>∃a C dx fs f fd ps sp,x=.ref a/\b a=a_ (.ins C dx fs)/\fs.lookup m=b_/\da K C/\Meth K C m f/\
 aF P w K mg gl CX k f fd ps sp/\dn K fd ps []/\t σ b λvs c=>sp (.ref a::vs) c Q E
def ad0{P:k_}{w:j_}{K:u_}{mg:cr->Option f_}{gl:i_}(i:PE X o ta)(j:fJ k X.A)(n:Passes CX X E)(ha:PA X (e::es) t)(p:autoParam (X.prog=P) a8)(hw:autoParam (X.w=w) a8)(v:autoParam (X.K=K) a8)(y:autoParam (X.mg=mg) a8)(z:autoParam (X.base=gl) a8)
  (B:autoParam ((cA (e::es) X.env)=((d_,eval e X.env)::cA es X.env)) a8) (D:autoParam (((bx pos<|cA es X.env).any (·.1))=false) a8)
  (G:autoParam (eval (.Call (.Attribute o m apos) (e::es) [] pos) X.env=(do
   let ov <-(eval o X.env)
   standAt apos.atName
   let (f,first) <-(holding [ov] (vH ov m pl))
   (Ah pos f first (bx pos<|cA (e::es) X.env) (xP pos<|xG [] X.env)))) a8) :
  PE X (.Call (.Attribute o m apos) (e::es) [] pos) (agH P w K mg gl CX k m E ta t):=by
 subst p hw v y z;intro p_ s σ H Q I h;refine W.methodCall_KW (aT (i _ s _ H _ I h) λu s1 J=>fk J λx R d L b=>jk b λa C dx fs f b=>lG b λfd ps sp ex M b=>qE b λl c hm F N q=>?_) G;subst ex;obtain rfl:u=dq a:=L;exact EV d M c hm l<|G_ I.ok.mod.yD hm.kp (HF (ha _ _ _ _ _ _ d q) λus s2 vs S g r O=>⟨g.dm,Aq (vs:=.ref a::vs) F j N .nil n g (.cons xz r)<|by rw[qj];exact O⟩) B D
end
noncomputable abbrev Cx.yi(X:Cx)(pn:List (e_×cP))(E:f_->g_->Prop):Cx:={X with pn:=pn,xe:=E}
section
variable{X:Cx}{p_ pl:List (e_×cP)}{σ:St}{H:Hp}{s:g_}{E:f_->g_->Prop}
def afH(ok:X.Ok)(pn:List (e_×cP))(E:f_->g_->Prop):(X.yi pn E).Ok:=
 ⟨ok.mod,ok.kind,ok.glob,ok.blt,ok.above,ok.inj,ok.has,ok.yH,ok.hd,ok.frames,ok.AU,ok.wO,ok.bs,ok.nK,ok.yo,ok.wy,ok.nG,ok.uX⟩
def adf(ok:(X.yi pn E).Ok):X.Ok:=
 ⟨ok.mod,ok.kind,ok.glob,ok.blt,ok.above,ok.inj,ok.has,ok.yH,ok.hd,ok.frames,ok.AU,ok.wO,ok.bs,ok.nK,ok.yo,ok.wy,ok.nG,ok.uX⟩
def dc.yi(I:dc X p_ σ H s)(E:f_->g_->Prop):dc (X.yi (X.pn++p_) E) [] σ H s:=
 ⟨afH I.ok _ E,I.os,I.bare,I.base,I.loc,I.cell,I.free,I.my,λp a=>I.pin p (by simpa using a),I.aU,I.len⟩
def dc.Fv(I:dc (X.yi (X.pn++p_) E) pl σ H s):dc X p_ σ H s:=
 ⟨adf I.ok,I.os,I.bare,I.base,I.loc,I.cell,I.free,I.my,λp a=>I.pin p<|pf _ a,I.aU,I.len⟩
def ahn(b:∀pn:List (e_×cP),fu (X.yi pn λ_ _=>False) body t):PS X (.Try body (h::hs) [] [] pos) t:=by
 refine λp_ s σ H D I q=>wpAny_Try_except (kP (b _ [] s _ H D (I.yi _) q) (λf s1 q=>?_) λ_ _ y=>y.elim);rcases f with _|_|_|u
 ·obtain⟨a,H',I,q⟩:=q;exact EG ⟨a,H',I.Fv,q⟩
 ·obtain⟨a,H',I,q⟩:=q;exact⟨a,H',I.Fv,q⟩
 ·obtain⟨a,H',I,q⟩:=q;exact⟨a,H',I.Fv,q⟩
 obtain⟨v,a,H',I,r,q⟩:=q;exact⟨v,a,H',I.Fv,r,q⟩
end
end L2
namespace TL
open L2 L3
variable{P:k_}{w:j_}{K:u_}{mg:cr->Option f_}{gl:i_}
structure BT(mg:cr->Option f_):Prop where
 iP:mg "isinstance"=b_
 int:mg "int"=b_
 bool:mg "bool"=b_
 str:mg "str"=b_
 len:mg "len"=b_
 all:mg "all"=b_
 range:mg "range"=b_
 enum:mg "enumerate"=b_
 min:mg "min"=b_
 sorted:mg "sorted"=b_
structure kz(K:u_)(C:e_):Prop where
 cl:da K C
 kind:bM K C U_
 turn:bM K C as3
 sk:bM K C "queues"
def VB:Sp:=λvs H Q _=>∃v T,vs=[v]/\dv H v=a_ T/\Q (.bl<|uU v) H
def ae2:aV hH hH (aP MB):=aZ
def ad1(F:aQ K Z_ Z_ MB f fd)(B:BT mg):aF P w K mg gl aE 1 f fd hH VB:=by
 refine F.ok ae2 λaH A _ s H vs Q E c h=>?_
 refine fk h λv T b a k=>?_;subst b;refine⟨_,ar<|aS<|m7 (bu ji xz B.iP jg<|aa (pv 0)<|aa (oh (v:=.ty _) xz B.int boot_int xz) af)<|oq<|F'<|bu ji xz B.iP jg<|aa (pv 0)<|aa (oh (v:=.ty _) xz B.bool boot_bool xz) af,?_⟩;have e:=Yh a;refine ay v xz<|dE _ _ _ _<|iA _ xz (pY a) xz (pO a qc)<|ay _ xz (jW (λh1=>?_) λh1=>?_)
 .refine ay v xz (dE _ _ _ _<|iA _ xz (pY a) xz (pO a qc)<|ay _ xz ?_);rw[h1,t8]at e;rw[e];exact k
 rw[h1,xA]at e;rw[e];exact k
def Pk(C:e_):Sp:=λvs H Q _=>∃x dx kd,vs=[.ref x,.str kd]/\H x=a_ (.ins C dx [])/\∀H' q qr,dM H' x C kd 0 [] q qr->(∀b o,b≠x->H b=a_ o->H' b=a_ o)->(∀b∈q::qr,H b=b_)->Q .aR H'
def anE:aV ix ix (aP Dq):=aZ
def ahS:([l_]:List cr).Nodup:=dk
def alM(f:cr)(u:V):(aJ f u []).length<1000:=by
 have h1:=rY f u [];have h3:([]:List (cr×V)).length=0:=rfl;exact wb
def alL(f g:cr)(u v:V):(aJ f u<|aJ g v []).length<1000:=by
 have h1:=rY f u<|aJ g v [];have h2:=rY g v [];have h3:([]:List (cr×V)).length=0:=rfl;exact xi
def Wv:∀m∈Xs,¬m = U_/\¬m = as3/\¬m="queues":=dk
def qT(kd:cr)(q:e_):(aJ "queues" (.ref q) (aJ as3 (.int 0)<|aJ U_ (.str kd) []))=[((U_ : cr),V.str kd),((as3 : cr),V.int 0),(("queues":cr),V.ref q)]:=by
 have n1:¬(U_ : cr) = as3:=dk;have a:¬(U_ : cr)="queues":=dk;have b:¬(as3 : cr)="queues":=dk;simp only[aJ,n1,a,b,if_false]
def YU(F:aQ K P_ "Tray.__init__" Dq f fd)(B:BT mg)(r:kz K C)(G:∃u,mg "NAMES"=a_ u/\df (.int 12) u):aF P w K mg gl aE 1 f fd ix (Pk C):=by
 refine aB G λuN G rN=>F.ok anE λaH A _ s H vs Q E hr h=>?_
 refine lG h λx dx kd O R k=>?_;subst O
 refine let a:TS:=_;let d:TS:=_;⟨_,aw (dP (pv 0) (pv 1) xz) (pR d (aw (dP (pv 0) ax xz) (pR a (ar (dP (pv 0) (eB (N:=[l_]) (idx:=[]) xz (cF.of<|by kernel_rfl) (eA<|ba _)
  (kT xz B.range<|aa (fh xz G rN) af) (λ_ _ _ _=>bo (i:=0) ahS xz (aI xz)<|.inr xz) (λ_ _ _ _=>eQ) λ_ _ _ _=>eC af) xz))))),?_⟩
 refine vr xz<|vr xz<|kv x C _ _ xz R r.cl r.kind qc<|ay _ xz<|⟨x,C,dx,(iK _ xz ao r.cl r.turn (alM _ _) ?_)⟩;rw[oa];refine⟨12,xz,qc,qc,?_⟩;generalize I:db H x _=H1;have J:H1 x=a_ (.ins C dx<|aJ as3 (.int 0)<|aJ U_ (.str kd) []):=by rw[<-I];exact ao
 have n1:∀b,H1 b=b_->H b=none:=λb e=>by
  rw[<-I]at e
  by_cases z:b=x
  .rw[z,ao]at e;cases e
  rwa[aj z]at e
 refine dU (n:=12) (λi ys H'=>∃qr:List _,ys=qr.map V.ref/\qr.length=i/\qr.Nodup/\(∀b∈qr,H' b=a_ (.lst [])/\H1 b=b_)/\ae _ H') qc ⟨[],xz,xz,.nil,(λb g=>nomatch g),ae.refl _⟩ ?_ ?_ ?_ ?_ ?_
 .rintro i ys H' ⟨qr,rfl,t,_⟩;rw[aA,t];exact az _
 .rintro i ys H' hi _;exact hi
 .rintro ys H' _;exact az _
 .rintro i ys H' hi ⟨qr,rfl,t,nd,j,l⟩ y eh ⟨S,ey⟩;subst S;dsimp only[hX,jo];rw[ei rfl];refine⟨qc,λp D=>⟨qr++[p],by simp,by simp[t],?_,λb g=>?_,au l D⟩⟩
  .refine EB.mpr (gg nd (by simp) λb g c T=>?_);rw[cO.mp T];exact bf (j b g).1 D
  obtain z|z:=ir.mp g
  .exact⟨by rw[aj<|bf (j b z).1 D];exact(j b z).1,(j b z).2⟩
  rw[cO.mp z];refine⟨ao,?_⟩;rcases e:H1 p with _|o;rfl;rw[l _ _ e]at D;cases D
 rintro ys H' ⟨qr,rfl,t,nd,j,l⟩;refine⟨by rw[aA,t];decide,λq v=>?_⟩;have nx:=bf (l _ _ J) v;refine vr xz<|⟨x,C,dx,(iK _ xz (by rw[aj nx];exact l _ _ J) r.cl r.sk (alL _ _ _ _) ?_)⟩;have wI:q∉qr:=λz=>by rw[(j q z).1]at v;cases v
 have U:x∉qr:=λz=>by have:=(j x z).2;rw[J]at this;cases this
 refine k _ q _ ⟨⟨dx,_,ao,?_,?_,?_,?_,?_⟩,by rw[aj<|iL nx,ao],t,nd,wI,λi b g=>⟨[],?_,by rw[ahk];exact .nil⟩,⟨.nil,(λe L=>nomatch L),(λe L=>nomatch L)⟩⟩ (λb o g e=>?_) λb g=>?_
 .rw[dJ,ee dk,dJ,ee dk,dJ,ei rfl]
 .rw[dJ,ee dk,dJ,ei rfl]
 .rw[dJ,ei rfl]
 .refine λm hm=>gH (Wv m hm) λW X Y=>?_;rw[dJ,ee Y,dJ,ee X,dJ,ee W];rfl
 .rw[qT];show 3<=20;decide
 .have hm:=aW g;have Z:b≠x:=λz=>U<|z ▸ hm;have nbq:b≠q:=λz=>wI<|z ▸ hm;rw[aj Z,aj nbq];exact(j b hm).1
 .have e1:H1 b=a_ o:=by rw[<-I,aj g];exact e
  have M:=l _ _ e1;rw[aj g,aj<|bf M v];exact M
 refine n1 b ?_;obtain z|z:=bH.mp g
 .subst z;rcases e:H1 b with _|o;rfl;rw[l _ _ e]at v;cases v
 exact(j b z).2
def G9(F:List e_)(H H':Hp):Prop:=∀b o,b∉F->H b=a_ o->H' b=a_ o
def ajJ(h:n<=20000):n<bZ:=by rw[fR];exact wb
def MS(es:List gy)(i:Nat):(bL es i).length<=es.length:=qe _ _
theorem Kp{c d:Type}{F:c->d->Prop}{a:c}{b:d}:∀{l:List c}{r:List d},bt F l r->F a b->bt F (l++[a]) (r++[b])
 | _,_,.nil,h=>.cons h .nil
 | _,_,.cons g t,h=>.cons g<|Kp t h
def dM.ZK{tn:Int}(T:dM H a C kd tn es q qr){n:Int}(c:0<=n)(h1:n<12):∃i:Nat,n=i/\i<12/\∃b,qr[i]?=a_ b/\iQ (qr.map V.ref) n=a_ (.ref b):=by
 have d:=T.len;obtain⟨i,rfl⟩:∃i:Nat,n=i:=⟨n.toNat,xm⟩;have hi:i<qr.length:=li;refine dQ i xz li<|ay _ (aL hi)<|bA ?_;rw[cc,aL _];rfl
theorem Yc:∀(fs:List (cr×V))(u:V),fs.lookup f=a_ v->(aJ f u fs).length=fs.length
 | [],_,e=>by cases e
 | (g,x)::r,u,e=>by
  by_cases h:g=f
  .simp only[aJ,ei h,eJ]
  simp only[aJ,ee h,eJ];rw[Yc r u];have a:(f==g)=false:=by simpa using λz=>h z.g8
  rw[rS,a]at e;exact e
def YQ(C:e_):Sp:=λvs H Q _=>∃a n num d kd tn es q qr,vs=[.ref a,.int n,.int num,.int d]/\dM H a C kd tn es q qr/\0<=n/\n<12/\es.length<=20000/\
 ∀H',dM H' a C kd (tn+1) (es++[⟨tn,n,num,d⟩]) q qr->G9 (a::q::qr) H H'->Q .aR H'
def aiM:aV ki ki (aP Og):=aZ
def ahx(F:aQ K W_ "Tray.add" Og f fd)(r:kz K C):aF P w K mg gl aE 1 f fd ki (YQ C):=by
 refine F.ok aiM λaH A _ s H vs Q E hr h=>?_
 refine jk h λa n num d kd u=>Au u λtn es q qr u G=>?_;subst u;obtain⟨T,M,h1,hz,k⟩:=G;refine⟨_,aw (fg<|nu m_ n_ o_ qp (aN bQ (a7 (pv 0) xz)<|pv 1)<|aa (fj<|aa (a7 (pv 0) xz)<|aa (fj<|aa (pv 1)<|aa (pv 2)<|aa (pv 3) af) af) af)<|ar<|adW (pv 0) ax ajO,eK (id T.obj) λdx fs g X I N Y el=>aY (T.ZK M h1) λi u hi G=>?_⟩;subst u;refine aB G λb x Z=>aB (T.jY i b x) λvs t O=>?_;have R:=aW x;have lv:=r_ O;have lq:=MS es i;refine vF xz g r.cl r.sk N<|vr xz<|rL (ag.of T.qs) (Z) ⟨.inl ⟨xz,_,ag.of t⟩,vF xz g r.cl r.turn I<|ay _ xz<|vr xz<|vr xz ⟨(sl (n:=3)),(λst cY=>⟨(sl (n:=2)),λp S=>?_⟩)⟩⟩;have B:∀c o,H c=a_ o->c≠st:=λc o e=>bf e cY;have J:=λc o e=>bf (by rw[aj<|B c o e];exact e) S;have up:∀c o,H c=a_ o->db (db H st<|.tup [.int (i:Int),.int num,.int d]) p (.tup [.int tn,.ref st]) c=a_ o:=λc o e=>by rw[aj<|J c o e,aj<|B c o e];exact e
 have L:=i5 g t (by intro z;cases z);have QQ:q≠b:=λz=>T.nq<|z ▸ R;refine⟨b,vs,(.ref p),xz,xz,(up _ _ t),(ajJ li),(ay _ xz<|dE a C dx _<|iK _ xz ((aj L)▸up _ _ g) r.cl r.turn I ⟨_,_,xz,xz,dx,fs,by rw[aj L];exact up _ _ g,wb,?_⟩)⟩;have pb:=iL<|J b _ t;have pa:=iL<|J a _ g;have sb:=iL<|B b _ t;have sa:=iL<|B a _ g;generalize v:db _ a _=H2;have D:∀c o,c≠a->c≠b->H c=a_ o->H2 c=a_ o:=λc o z1 z2 e=>by rw[<-v,aj z1,aj z2];exact up c o e
 have ga:H2 a=a_ (.ins C dx<|aJ as3 (.int<|tn+1) fs):=by rw[<-v];exact ao
 have gb:H2 b=a_ (.lst<|vs++[.ref p]):=by rw[<-v,aj<|iL L];exact ao
 have gp:H2 p=a_ (.tup [.int tn,.ref st]):=by rw[<-v,aj pa,aj pb];exact ao
 have gs:H2 st=a_ (.tup [.int i,.int num,.int d]):=by rw[<-v,aj sa,aj sb,aj<|bf ao S];exact ao
 have U:∀c xs,H c=a_ _->H2 c=a_ (.tup xs):=λc xs e=>D c _ (i5 e g<|by intro z;cases z) (i5 e t<|by intro z;cases z) e;refine k _ ⟨⟨dx,_,ga,?_,?_,?_,λm hm=>?_,?_⟩,D q _ (i5 T.qs g<|by intro z;cases z) QQ T.qs,T.len,T.nd,T.nq,λj c l=>?_,aiw T.wf M h1⟩ λc o l e=>D c o (λz=>l<|by simp[z]) (λz=>l<|by simp[z,R]) e
 .rw[dJ,ee dk];exact X
 .rw[dJ,ei rfl]
 .rw[dJ,ee dk];exact N
 .rw[dJ,ee (Wv m hm).2.1];exact Y m hm
 .have:=Yc _ (.int<|tn+1) I;exact w7
 rw[WR]
 by_cases z:j=i
 .subst z;rw[x]at l;cases l;rw[ei rfl];exact ay _ gb<|Kp (si (λ_ _ y=>y.keep (F:=[]) U) O) ⟨p,st,xz,gp,gs⟩
 rw[ee λy=>z (by have:i=(j:Int):=y;lia)]
 have QT:c≠b:=λy=>z (by
  subst y;have n2:=cb.mp x;refine oE (cb.mp l) λp1 V=>oE n2 λp2 W=>?_;obtain y|y|y:=zC j i
  .exact eu (V.fT W.g8) (km.mp T.nd j i _ _ y)
  .exact y
  exact eu (W.fT V.g8) (km.mp T.nd i j _ _ y))
 refine (T.jY j c l).keep (λo e=>D c o (λy=>aB (T.jY j c l) λj' e' _=>?_) QT e) U;rw[y,g]at e';cases e'
def ac4{b a:Type}{F:b->a->Prop}{r:List a}(h:bt F [] r):r=[]:=by cases h;rfl
theorem TJ:∀{vs:List V}{l:List gy},bt (jV H) vs l->vs≠[]->∃c v e,vs=c++[v]/\l.getLast?=a_ e/\jV H v e
 | _,_,.nil,h=>eu xz h
 | _,_,.cons (a:=v) (b:=e) g t,_=>by
  rcases t with _|⟨h,t⟩;exact⟨[],v,e,xz,xz,g⟩;exact lG (TJ (.cons h t)<|by simp) λc d e' f i j=>⟨(v::c),d,e',(by rw[f];rfl),(by rw[List.getLast?_cons_cons];exact i),j⟩
def VF(C:e_):Sp:=λvs H Q _=>∃a n kd tn es q qr,vs=[.ref a,.int n]/\dM H a C kd tn es q qr/\0<=n/\n<12/\es.length<=20000/\
 (Ct es n.toNat=b_->Q .aR H)/\∀e st,Ct es n.toNat=a_ e->H st=a_ (.tup [.int e.n,.int e.num,.int e.d])->Q (.ref st) H
def UY:aV [X_,l_,"queue"] hU (aP LA):=aZ
def ac8(F:aQ K "latest" "Tray.latest" LA f fd)(B:BT mg)(j:kz K C):aF P w K mg gl aE 1 f fd hU (VF C):=by
 refine F.ok UY λaH A _ s H vs Q E J h=>?_
 refine jk h λa n kd tn es c=>ou c λq qr c T m d=>?_;subst c;obtain⟨h1,L,k0,k1⟩:=d;refine⟨_,aw (bC (i:=2) UY.nd xz (aI xz)<|aN bQ (a7 (pv 0) xz)<|pv 1)<|ar<|aS<|Fl (b0 c7 (bu dS xz B.len q_<|aa (pv 2) af) ax<|br _) pD<|aN bX (aN bQ (pv 2)<|GK Xq ax) ax,eK (id T.obj) λdx fs o M N r O R=>aY (T.ZK m h1) λi c hi d=>?_⟩;subst c;refine aB d λb t u=>?_;rw[eP]at k0 k1;refine aB (T.jY i b t) λvs k l=>vF xz o j.cl j.sk r<|vr xz<|rL (ag.of T.qs) (u)<|vr xz ⟨b,⟨_,xz,.inl<|ag.of k,xz,_,xz,bK (λz=>?_) λz=>?_⟩⟩
 .have g:vs=[]:=by
   injection z with z
   exact tU.mp li
  subst g;refine k0 ?_;unfold Ct;rw[ac4 l];rfl
 have g:vs≠[]:=λy=>z (by rw[y];rfl);refine lG (TJ l g) λS v e x D c=>fk c λp st c G I=>?_;subst c;subst x;refine vr xz<|ay _ xz<|rL (ag.of k) (Wr _ _)<|rT (aq.of G) (xz)<|k1 e _ D I
def Mu(C:e_):Sp:=λvs H Q _=>∃a kd tn es q qr,vs=[.ref a]/\dM H a C kd tn es q qr/\∀H',ae H H'->Q (.bl<|decide<|es=[]) H'
def ae4:aV gw gw (aP MD):=aZ
def V4:(["queue"]:List cr).Nodup:=dk
def adD{tn:Int}(w:oT tn es)(h:∀i,i<12->bL es i=[]):es=[]:=by
 rcases es with _|⟨e,r⟩;rfl;refine oA (w.nm e b9) λa h1=>?_;have:=h e.n.toNat li;unfold bL at this;rw[kL,ei (by simp;lia)]at this;cases this
def all_empty{tn:Int}(w:oT tn es):((List.range 12).map λi=>decide<|bL es i=[]).all id=decide (es=[]):=by
 by_cases h:es=[]
 .subst h;rfl
 rw[eT h,zR];cases e:(List.range 12).all (id ∘ λi=>decide<|bL es i=[])with
 | false=>rfl
 | true=>
  exfalso;exact h (adD w λi hi=>by simpa using lY.mp e i (nU.mpr hi))
def ad5(F:aQ K "is_empty" "Tray.is_empty" MD f fd)(B:BT mg)(c:kz K C):aF P w K mg gl aE 1 f fd gw (Mu C):=by
 refine F.ok ae4 λaH A _ s H vs Q E x h=>?_
 refine jk h λa kd tn es q b=>aY b λqr b T k=>?_;subst b
 refine⟨_,ar (aS (bu (Ag xz) xz B.all Cg (aa (eB (N:=["queue"]) (idx:=[]) xz (cF.of<|by kernel_rfl) (eA<|ba _) (kx<|a7 (pv 0) xz)
  (λ_ _ _ _=>bo (i:=0) V4 xz (aI xz)<|.inr xz) (λ_ _ _ _=>eQ) λ_ _ _ _=>jB c7 (bu (len_K K) xz B.len q_<|aa (pv 0) af) ax<|br _) af))),?_⟩
 refine eK (id T.obj) λdx fs g D G l I J=>ay _ xz<|dE a C _ _<|iK _ xz g c.cl c.sk l<|dQ q xz ⟨_,ag.of T.qs⟩ ?_;have m:=T.len;refine dU (n:=12) (λi ys H'=>H'=H/\ys=(List.range i).map λj=>V.bl<|decide<|bL es j=[]) qc ⟨xz,xz⟩ ?_ ?_ ?_ ?_ ?_
 .rintro i ys H' ⟨_,rfl⟩;rw[aA,qh];exact az _
 .rintro i ys H' hi ⟨rfl,_⟩;exact gm _ _ (ag.of T.qs) (by rw[cc,aL wg];rfl)
 .rintro ys H' ⟨rfl,_⟩;exact ay _ (ag.of T.qs) (by rw[aA,m];exact az _)
 .rintro i ys H' hi ⟨rfl,rfl⟩ y L ⟨o,r⟩;subst o;have d:=r _<|ag.of T.qs;rw[cc,aL wg]at d;cases d;refine aB (T.jY i _<|aL wg) λvs t u=>?_;dsimp only[hX,jo];rw[ei rfl];refine vr xz ⟨_,⟨_,xz,.inl<|ag.of t,xz,xz,?_⟩⟩;rw[qi,dB]
  congr 1
  have e:=r_ u;simp only[fv,TY,vI.injEq,V.bl.injEq,and_true];refine decide_eq_decide.mpr ⟨λz=>?_,λz=>?_⟩
  .injection z with z
   exact tU.mp li
  rw[z]at e;rw[e];rfl
 rintro ys H' ⟨rfl,rfl⟩;refine⟨by rw[aA,qh];decide,λp v=>dN p ((List.range 12).map λj=>decide<|bL es j=[]) xz (ag.of<|by rw[ao,jh];rfl) ?_⟩;rw[all_empty T.wf];exact k _<|au (ae.refl _) v
def vW(es:List gy)(i:Nat):List Int:=((List.range i).filter λj=>decide<|bL es j≠[]).map λ(j:Nat)=>(j:Int)
def Ug(es:List gy)(i:Nat):vW es (i+1)=vW es i++(if bL es i≠[] then [(i:Int)] else []):=by
 unfold vW;rw[qi,xv,dB]
 congr 1
 by_cases h:bL es i≠[]
 .rw[ei h,Jo (by simpa using h)];rfl
 rw[ee h,Jp (by simpa using h)];rfl
def UM(es:List gy)(i:Nat):(vW es i).length<=i:=by
 unfold vW;rw[aA];have h:=qe (λj=>decide<|bL es j≠[])<|List.range i;rw[qh]at h;exact h
def wL(es:List gy)(n:Int):Int:=((bL es n.toNat).head?.map (·.t)).getD 0
def JZ(w:oT tn es)(h:es.head?=a_ e):e.n∈mq es:=by
 have hm:e∈es:=by
  rcases es with _|⟨x,r⟩;cases h;cases h;exact b9
 refine oA (w.nm e hm) λa h1=>xK.mpr (dQ _ li xm λz=>?_);have:=Wb h xm;rw[z]at this;cases this
def ahe(w:oT tn es)(hm:m∈mq es)(c:∀n∈mq es,wL es m<=wL es n):(es.head?.map (·.n)).toList=[m]:=by
 refine aY (xK.mp hm) λi hi d a=>?_;subst d;rcases es with _|⟨e,r⟩;exact eu xz a
 have h1:=c _<|JZ w xz;refine oA (w.nm e b9) λj n1=>?_
 have k1:wL (e::r) e.n=e.t:=by
  unfold wL;rw[Wb (i:=e.n.toNat) (e:=e) xz xm];rfl
 cases q:bL (e::r) i with
 | nil=>exact eu q a
 | cons x l=>
  have f:wL (e::r) (i:Int)=x.t:=by
   unfold wL;rw[eP,q];rfl
  have b:x∈bL (e::r) i:=by rw[q];exact b9
  unfold bL at b;refine oA (gz.mp b) λg h=>?_;have hn:x.n=i:=by simpa using h
  obtain z|z:=bH.mp g
  .show [e.n]=[(i:Int)];rw[<-z,hn]
  .have:=(abj.mp w.asc).1 x z;rw[k1,f]at h1;lia
def ahf(w:oT tn es)(h:¬1<(mq es).length):(es.head?.map (·.n)).toList=mq es:=by
 rcases es with _|⟨e,r⟩;rfl
 have hm:=JZ w xz
 match q:mq (e::r)with
 | []=>rw[q]at hm;cases hm
 | [x]=>
  rw[q]at hm;rw[<-cO.mp hm];rfl
 | _::_::_=>
  rw[q]at h;simp at h
noncomputable abbrev LP:Pos:=⟨187,35,187,71⟩
noncomputable abbrev LQ:cr:=("Tray.fronts":cr)++".<locals>."++"<lambda>"
def Lr(C PT:e_):Sp:=λvs H Q _=>∃a kd tn es q qr,vs=[.ref a]/\dM H a C kd tn es q qr/\cE PT LP LQ H/\
 ∀H' l,hY [] H H'->cE PT LP LQ H'->H l=b_->H' l=a_ (.lst<|(jj kd es).map V.int)->Q (.ref l) H'
def UZ:aV [X_,as8] gw (aP Fg):=aZ
def Y0:([l_,"queue"]:List cr).Nodup:=dk
def Pj(h:V.str x=V.str y):x=y:=by injection h
def acW{PT:e_}(s:ae H H1)(t:we PT H1 H2)(a:H1 PT=a_ (.ft ps))(b:H2 PT=a_ (.ft ig)):hY [] H H2:=(hY.of s).fT<|hY.Ds t a b
def Ur{f C PT c:e_}(F:wD K "fronts" "Tray.fronts" Fg f fd c)(B:BT mg)(u:kz K C)(hC:W.CodeHd gl c PT)(hB:uK mg gl):aF P w K mg gl aE 2 f fd gw (Lr C PT):=by
 refine F.ok UZ λA outer s H vs Q E hr h=>?_
 refine jk h λa kd tn es q t=>cw t λqr t T yx k=>?_;subst t;have hrm:=hr.dp
 refine let d:TS:=_;let g:TS:=_;⟨_,aw (BK (i:=1) (N:=[l_,"queue"]) (idx:=[]) UZ.nd xz xz xz (cF.of<|by kernel_rfl) (BN (ba _)<|ba _) (ui (b:=c_) xz B.enum<|aa (a7 (pv 0) xz) af)
   (λ_ _ _ _=>oo xz<|gU (bo (i:=0) Y0 xz (aI xz)<|.inr xz)<|gU (bo (i:=1) Y0 xz (aI xz)<|.inr xz) og)
   (λ_ _ _ _=>xS<|b0 CQ (bu (len_K K) xz B.len q_<|aa (pv 1) af) ax<|br _) λ_ _ _ _=>pv 0)
  (pR g (aw (bJ (PW.pt<|pw_and (b0 c7 (a7 (pv 0) xz) cp<|br _)<|pw_and1<|b0 CQ (bu dS xz B.len q_<|aa (pv 1) af) ax<|br _) (pR d (ar (aS (eC (aa (adZ (N:=[X_,l_]) (idx:=[0]) (k:=1) (px:=l_) (P:=PT) xz (by show A.depth+1+5<_;have h1:A.depth+1+3*1+5<EK:=hrm;lia) xz B.min (pv 1) (cF.of<|by kernel_rfl) xz hC hB xz xz qc
    (λ_ _ _ _ _ _=>aN (OG K) (aN (GY K) (aN (GY K) (al1 K (pv 0) xz)<|pv 1) ax) ax) λ_ _ _ _ _ _=>rfl) af))))) b8)
  (ar<|aS<|pv 1))),?_⟩
 refine eK (id T.obj) λdx fs ea e1 e2 e3 em el=>?_;have hl:=T.len;refine vF xz ea u.cl u.sk e3 ⟨q,⟨_,xz,ag.of T.qs,dU (n:=12) (λi ys H'=>ae H H'/\ys=(vW es i).map V.int) qc ⟨ae.refl _,xz⟩ ?_ ?_ ?_ ?_ ?_⟩⟩
 .rintro i ys H' ⟨_,rfl⟩;rw[aA];exact UM _ i
 .rintro i ys H' hi ⟨j,_⟩;exact gm _ _ (ag.of<|j _ _ T.qs) (by rw[cc,aL wg];rfl)
 .rintro ys H' ⟨j,_⟩;exact ay _ (ag.of<|j _ _ T.qs) (by rw[aA,hl];exact az _)
 .rintro i ys H' hi ⟨j,rfl⟩ y eh ⟨p,x,hp,ey,eH,G⟩;subst ey;subst eH;have U:=G _<|ag.of<|j _ _ T.qs;rw[cc,aL wg]at U;cases U;refine aB (T.jY i _<|aL wg) λvs L I=>?_;have s2:ae H (db _ p<|.tup [.int i,.ref qr[i]]):=au j hp;have X:=r_ I;refine⟨p,⟨_,xz,aq.of ao,xz,_,_,xz,_,_,xz,xz,vr xz ⟨_,⟨_,xz,.inl<|ag.of<|s2 _ _ L,_,_,xz,xz,_,xz,bK (λz=>?_) λz=>?_⟩⟩⟩⟩
  .refine vr xz ⟨s2,?_⟩;rw[Ug,ei (λy=>by rw[y]at X;rw[X]at z;exact eu z<|by simp),dB];rfl
  refine⟨s2,?_⟩;rw[Ug,ee λy=>y<|tU.mp li,qj]
 rintro ys H' ⟨j,rfl⟩;have wl:=UM es 12;refine⟨by rw[aA];exact cg<|cy w4,λl1 M=>?_⟩;have s1:ae H (db _ _<|.lst<|(vW es 12).map V.int):=au j M;generalize zk:db _ _ _=H1 at s1;have v:H1 l1=a_ (.lst<|(mq es).map V.int):=by rw[<-zk];exact ao
 have Y:H l1=none:=by
  rcases e:H l1 with _|o;rfl;rw[j _ _ e]at M;cases M
 have J:=iw yx s1;have Z:=T.pJ<|hY.of s1;refine eK (id Z.obj) λkK kF Eo f1 f2 f3 _ _=>?_;refine ay _ xz<|dE a C _ _<|⟨_,xz,Eo,u.cl,u.kind,f1,xz,(ay _ xz ?_)⟩
 by_cases D:kd = N_
 .rw[eN (show V.str kd=V.str N_ by rw[D])];refine jq<|vr xz ⟨l1,⟨_,xz,.inl<|ag.of v,_,_,xz,xz,_,xz,bK (λz=>?_) λz=>?_⟩⟩
  .rw[aA]at z;refine ay _ xz<|⟨l1,(mq _),(wL es),xz,(ag.of v),li,J,(λH2 sp O=>aB (id J) λps hPT _=>aB (id O) λig aao _=>?_)⟩;have kp:=hY.Ds sp hPT aao;have R:=Z.pJ kp;refine gg (ag.of<|kp.k _ _ (by simp) (λps z=>by cases z) v) (λm hm=>?_) λm hm hb=>?_
   .refine aY (xK.mp hm) λi hi t hG=>?_;subst t;refine eK (id R.obj) λkJ mM ea2 g1 g2 g3 _ _=>aB (R.jY i _<|aL wg) λvs L I=>?_;rcases S:bL es i with _|⟨x,r⟩;exact eu S hG
    rw[S]at I;cases I with
    | cons G wZ=>
     refine fk G λp st t q1 q2=>?_;clear G;subst t;refine vF xz ea2 u.cl u.sk g3<|vr xz<|rL (ag.of R.qs) ((bA<|by rw[cc,aL _];rfl))<|Qx L xz<|rT (aq.of q1) (bA xz) ⟨?_,xz⟩;unfold wL;rw[eP,S];rfl
   refine⟨(sl (n:=1)),λl hn=>k _ l ((acW s1 sp hPT aao).fT<|hY.of<|au (ae.refl _) hn) (iw O<|au (ae.refl _) hn) ?_ ?_⟩
   .rcases e:H l with _|o;rfl
    by_cases zp:l=PT
    .refine aB O λps2 h2 _=>?_;rw[zp,h2]at hn;cases hn
    rw[sp _ _ zp<|s1 _ _ e]at hn;cases hn
   rw[ao];unfold jj;rw[ei D,ahe T.wf hm hb];rfl
  rw[aA]at z;refine vr xz<|k _ _ (hY.of s1) J Y ?_;rw[v];unfold jj;rw[ei D,ahf T.wf li]
 rw[eT (show ¬V.str kd=V.str N_ from λz=>D<|Pj z)];refine eU<|eU<|vr xz<|k H1 l1 (hY.of s1) J Y ?_;rw[v];unfold jj;rw[ee D]
def aia(n:Int)(ns:List Int):Du (.int n) (ns.map V.int)=decide (n∈ns):=by
 unfold Du
 induction ns with
 | nil=>rfl
 | cons m r ih=>
  rw[fv,xC,ih]
  by_cases h:m=n
  .subst h;simp[qW]
  .have:qW (.int m) (.int n)=false:=by simp[qW,h]
   rw[this,Bool.false_or];exact decide_eq_decide.mpr ⟨cx _,λz=>(bH.mp z).resolve_left λy=>h y.g8⟩
def aet(ns:List Int):(ns.map V.int).all uu=true:=by
 rw[zR];exact lY.mpr λ_ _=>rfl
def Ve(w:oT tn es)(h:n∈jj kd es):∃i:Nat,i<12/\n=i/\∃e r,bL es i=e::r:=by
 have hw:n∈mq es:=by
  unfold jj at h
  by_cases a:kd = N_
  .rw[ei a]at h;rcases es with _|⟨e,r⟩;cases h
   have b:n=e.n:=by simpa using h
   rw[b];exact JZ w xz
  rw[ee a]at h;exact h
 refine aY (xK.mp hw) λi hi e c=>dQ i hi e ?_;rcases q:bL es i with _|⟨x,r⟩;exact eu q c;exact⟨x,r,xz⟩
def Xz(C PT:e_):Sp:=λvs H Q _=>∃a n kd tn es q qr,vs=[.ref a,.int n]/\dM H a C kd tn es q qr/\cE PT LP LQ H/\n∈jj kd es/\
 ∀H' e st,(bL es n.toNat).head?=a_ e->dM H' a C kd tn (nA es n) q qr->hY (a::q::qr) H H'->cE PT LP LQ H'->H' st=a_ (.tup [.int e.n,.int e.num,.int e.d])->Q (.ref st) H'
def agY:aV hU hU (aP Nn):=aZ
def afq{f fW V C PT c:e_}(F:aQ K "take" "Tray.take" Nn f fd)(B:BT mg)(L:kz K C)(hC:W.CodeHd gl c PT)(hB:uK mg gl)(X:aQ K Z_ Z_ MB fW sV)(bW:dn K sV hH [])(mW:mg Z_ = a_ (.ref fW))(FF:wD K "fronts" "Tray.fronts" Fg V fdF c)(bF:dn K fdF gw [])(mF:Meth K C "fronts" V):aF P w K mg gl aE 3 f fd hU (Xz C PT):=by
 have GW:aF P w K _ gl _ 1 _ _ _ VB:=ad1 X B;have GF:aF P w K _ _ _ 2 _ _ _ _:=Ur FF B L hC hB;refine F.ok agY λaH A _ s H vs Q E Y h=>?_
 refine jk h λa n kd tn es u=>ou u λq qr u T yx M=>?_;subst u;refine oA M λZ k1=>?_;clear M h
 refine let d:TS:=_;⟨_,aw (bJ (PW.pt (pw_or (jP<|dr<|pB GW (Y.mono qc) xz mW X.kp bW .nil dh<|aa (pv 1) af)
   (pw_or1<|b0 TM (pv 1) (Fj (pv 0) L.cl mF GF Y bF .nil dh) xz))) vE b8)
  (pR d<|ar<|aS<|aN bX (nu m_ PySem.F.slot_list_pop PySem.F.type_list_pop afQ (aN bQ (a7 (pv 0) xz)<|pv 1)<|aa ax af) ax),?_⟩
 refine eK (id T.obj) λdx fs ea e1 e2 e3 em el=>vr xz<|dN _ _ xz xz<|ay _ xz<|eU<|vr xz<|vM xz ea (em _ dk)<|⟨a,kd,tn,es,q,qr,xz,T,yx,(λN l kp wF hn hl=>⟨l,⟨_,xz,.inl<|ag.of hl,xz,aet _,_,xz,?_⟩⟩)⟩;rw[ei xz,aia];refine OH (λz=>eu Z<|f' z) λ_=>?_
 have g:=T.pJ kp;refine aY (Ve T.wf Z) λi hi u M=>?_;subst u;refine yC M λe r O=>eK (id g.obj) λkK kF R f1 f2 f3 fm fl=>?_;have arP:=g.len;have D:=aL wg;refine aB (g.jY i _ D) λvs x rb=>?_;have S:=aW D;generalize qr[i]'wg=b at D x S;rw[O]at rb;cases rb with
 | cons hx wZ=>
  refine fk hx λp st u I J=>?_;subst u
  rename_i j'
  refine ay _ xz<|dE a C _ _<|iK _ xz R L.cl L.sk f3<|vr xz<|rL (v:=.ref b) (ag.of g.qs) (bA<|by rw[cc,D];rfl) ⟨.inl ⟨xz,_,ag.of x⟩,⟨b,_,0,0,(.ref p),xz,xz,x,qc,qc,(by simp[Lj]),xz,?_⟩⟩;have nsb:=i5 J x (by intro z;cases z);refine rT (aq.of<|by rw[aj<|i5 I x (by intro z;cases z)];exact I) (bA xz) ?_
  have ka:G9 (a::q::qr) N (db N b<|.lst j'):=λc o m G=>by
   rw[aj λz=>m (by simp[z,S])];exact G
  have kt:∀c xs,N c=a_ (.tup xs)->db N b (.lst j') c=a_ (.tup xs):=λc xs G=>by rw[aj<|i5 G x (by intro z;cases z)];exact G
  have QQ:q≠b:=λz=>g.nq<|z ▸ S
  refine k1 _ e st (by rw[eP,O];rfl) ⟨⟨kK,kF,by rw[aj<|i5 R x (by intro z;cases z)];exact R,f1,f2,f3,fm,fl⟩,by rw[aj QQ];exact g.qs,g.len,g.nd,g.nq,λj c m=>?_,agz g.wf _⟩
   ⟨λc o m ht G=>ka c o m<|kp.k c o (by simp) ht G,λc h=>kp.t c (by
    by_cases z:c=b
    .rw[z,ao]at h;cases h
    rwa[aj z]at h)⟩ (BM wF ka g.kinds) (by rw[aj nsb];exact J)
  rw[afa]
  by_cases U:j=i
  .subst U;rw[D]at m;cases m;rw[ei xz,O];exact ay _ ao<|si (λ_ _ y=>y.keep (F:=[]) kt) wZ
  rw[ee λy=>U (by have:i=(j:Int):=y;lia)]
  have QT:c≠b:=λy=>U (by
   subst y;refine oE (cb.mp m) λp1 I=>oE (cb.mp D) λp2 J=>?_;obtain y|y|y:=zC j i
   .exact eu (I.fT J.g8) (km.mp g.nd j i _ _ y)
   .exact y
   exact eu (J.fT I.g8) (km.mp g.nd i j _ _ y))
  exact(g.jY j c m).keep (λo e=>by rw[aj QT];exact e) kt
def VC(C:e_):Sp:=λvs H Q _=>∃kd,vs=[.str kd]/\(kd = N_\/kd = l_\/kd = I_)/\∀H' x q qr,dM H' x C kd 0 [] q qr->G9 [] H H'->(∀b∈x::q::qr,H b=b_)->Q (.ref x) H'
def ae3:aV [U_] [U_] (aP MC):=aZ
theorem Vh{e:gy}{f:Nat->List gy}:∀n:Nat,((∃k:Nat,k<n/\e.n=(k:Int))->iJ ((List.range n).flatMap λ(i:Nat)=>if e.n=(i:Int) then e::f i else f i) (e::(List.range n).flatMap f))/\((¬∃k:Nat,k<n/\e.n=(k:Int))->((List.range n).flatMap λ(i:Nat)=>if e.n=(i:Int) then e::f i else f i)=(List.range n).flatMap f)
 | 0=>⟨λ⟨k,b,_⟩=>eu b<|zH _,λ_=>rfl⟩
 | n+1=>by
  refine oA (Vh (e:=e) (f:=f) n) λm c=>?_;have d:∀g:Nat->List gy,(List.range<|n+1).flatMap g=(List.range n).flatMap g++g n:=λg=>by rw[qi,Ey];simp
  rw[d,d];constructor
  .rintro⟨k,b,o⟩
   by_cases h:e.n=(n:Int)
   .have a:¬∃k:Nat,k<n/\e.n=(k:Int):=λ⟨j,p,l⟩=>li;rw[c a,ei h];exact abE
   rw[ee h];exact(m ⟨k,li,o⟩).append_right _
  intro a;rw[c λ⟨j,p,l⟩=>a ⟨j,li,l⟩,ee λh=>a ⟨n,w1,h⟩]
theorem T9:∀{es:List gy},(∀e∈es,0<=e.n/\e.n<12)->iJ ((List.range 12).flatMap<|bL es) es
 | [],_=>by
  have:(List.range 12).flatMap (bL [])=[]:=List.flatMap_eq_nil_iff.mpr λi _=>rfl;rw[this]
 | e::r,h=>by
  have a:(bL (e::r))=λi=>if e.n=((i:Nat):Int) then e::bL r i else bL r i:=by
   funext i
   unfold bL;rw[kL]
   by_cases z:e.n=(i:Int)
   .simp only[eN z,if_true,ei z]
   simp only[eT z,tX,if_false,ee z]
  refine oA (h e b9) λc h1=>?_;rw[a];exact((Vh (e:=e) (f:=bL r) 12).1 ⟨e.n.toNat,li,xm⟩).fT ((T9 λx b=>h x<|cx _ b).cons e)
theorem Ub(qv:Nat->List V)(a:Nat->List gy):∀n:Nat,(∀i:Nat,i<n->bt (jV H) (qv i) (a i))->bt (jV H) ((List.range n).flatMap qv) ((List.range n).flatMap a)
 | 0,_=>.nil
 | n+1,h=>by
  have b:∀{e:Type}(g:Nat->List e),(List.range<|n+1).flatMap g=(List.range n).flatMap g++g n:=λg=>by rw[qi,Ey];simp
  rw[b,b];exact paired_cat (Ub qv a n λi hi=>h i li)<|h n<|rP n
where
 paired_cat {H:Hp}:∀{l c:List V}{r d:List gy},bt (jV H) l r->bt (jV H) c d->bt (jV H) (l++c) (r++d)
 | _,_,_,_,.nil,h=>h
 | _,_,_,_,.cons g t,h=>.cons g<|paired_cat t h
theorem U4{c d:Type}{F:c->d->Prop}:∀{l:List c}{r:List d},l.length=r.length->(∀(i:Nat)a b,l[i]?=a_ a->r[i]?=a_ b->F a b)->bt F l r
 | [],[],_,_=>.nil
 | [],_::_,h,_=>by cases h
 | _::_,[],h,_=>by cases h
 | a::l,b::r,h,k=>.cons (k 0 a b xz xz) (U4 (by simpa using h) λi x y e f=>k (i+1) x y (by simpa using e)<|by simpa using f)
theorem Ko:∀{l:List V}{r:List gy},bt (jV H) l r->∀q∈(l.zip r).map λz=>(z.2.t,z.1),∃e∈r,q.1=e.t/\jV H q.2 e
 | _,_,.nil,q,h=>by cases h
 | _,_,.cons (a:=v) (b:=e) g t,q,h=>by
  rw[SR,fv]at h;obtain z|z:=bH.mp h
  .rw[z];exact dQ e b9 xz g
  exact aB (Ko t q z) λe' h1 h2=>ay e' (cx _ h1) h2
theorem zip_parts:∀{l:List V}{r:List gy},bt (jV H) l r->((l.zip r).map λz=>(z.2.t,z.1)).map (·.2)=l/\((l.zip r).map λz=>(z.2.t,z.1)).map (·.1)=r.map (·.t)
 | _,_,.nil=>⟨xz,xz⟩
 | _,_,.cons g t=>by
  refine oA (zip_parts t) λh1 h2=>?_;rw[SR,fv,fv,fv,h1,h2];exact⟨xz,xz⟩
def acv{H:Hp}{tn:Int}{es:List gy}{vs:List V}{qs:List (Int×V)}{L:List gy}(w:oT tn es)(d:iJ L es)(r:bt (jV H) vs L)(f:iJ qs ((vs.zip L).map λz=>(z.2.t,z.1)))(ha:qs.Pairwise λa b=>a.1<b.1):bt (jV H) (qs.map (·.2)) es:=by
 have g:qs.map (·.1)=es.map (·.t):=by
  refine W.ksm_same ?_ (JB.mpr<|ha.imp Int.le_of_lt)<|JB.mpr<|w.asc.imp Int.le_of_lt;have:=f.map (·.1);rw[(zip_parts r).2]at this;exact this.fT<|d.map _
 have p:qs.length=es.length:=by have:=fF kM g;simpa using this
 refine U4 (by rw[aA,p]) λi v e h k=>?_;rw[cc]at h;refine aB (vt.mp h) λq l c=>?_;subst c;refine aY (Ko r q<|f.mem_iff.mp<|aW l) λe' s u x=>?_
 have y:q.1=e.t:=by
  have:(qs.map (·.1))[i]?=a_ q.1:=by rw[cc,l];rfl
  rw[g,cc,k]at this;exact(dj this).g8
 have:e'=e:=by
  refine oE (nR<|d.mem_iff.mp s) λj c=>?_;refine oE c λm n=>oE (cb.mp k) λhi o=>?_;have A:es[j].t=es[i].t:=by rw[n,o,<-u,y]
  obtain z|z|z:=zC j i
  .have:=km.mp w.asc j i m hi z;lia
  .subst z;rw[<-n,<-o]
  .have:=km.mp w.asc i j hi m z;lia
 rw[<-this];exact x
def acA(w:oT tn es)(a:iJ L es):(L.map (·.t)).Nodup:=by
 exact (a.map (·.t)).nodup_iff.mpr<|JB.mpr<|w.asc.imp Int.ne_of_lt
def ah9{x:cr}(h:x = N_\/x = l_\/x = I_):Du (.str x) [.str N_,.str l_,.str I_]=true:=by
 rcases h with rfl | rfl | rfl <;> decide +kernel
def ad4{f fI C a:e_}{fd gJ:jO}(F:aQ K "tray_of" "tray_of" MC f fd)(B:BT mg)(c:kz K C)(M:Mk K C fI)(FI:aQ K P_ "Tray.__init__" Dq fI gJ)(d:dn K gJ ix [])(g:mg "Tray"=a_ (.ref C))(i:∃u,mg "NAMES"=a_ u/\df (.int 12) u)(mK:mg "KINDS"=a_ (.ref a))(j:∀H:Hp,aq K H a [.str N_,.str l_,.str I_]):aF P w K mg gl aE 3 f fd [U_] (VC C):=by
 have l:aF P w K _ gl _ 1 _ _ _ _:=YU FI B c i;refine F.ok ae3 λaH A _ s H vs Q E m h=>?_
 refine aY h λx n p k=>?_;subst n;refine⟨_,aw (bJ (PW.pt<|pw_or (jP<|dr<|bu ji xz B.iP jg<|aa (pv 0)<|aa (oh (v:=.ty _) xz B.str boot_str xz) af)<|pw_or1<|b0 TM (pv 0) (fh (v:=.ref _) xz mK xz) xz) vE b8)<|ar<|aS<|pA M l m xz g d .nil dh<|aa (pv 0) af,vr xz<|dE _ _ _ _<|iA _ xz (pY xz) xz (pO (H:=H) (v:=.str x) xz qc)<|ay _ xz<|eU<|vr xz ⟨a,⟨_,xz,.inr<|j H,xz,xz,_,xz,?_⟩⟩⟩;rw[ei xz,ah9 p];refine eU (vr xz λo dx no r ne=>⟨o,dx,x,xz,ao,(λH' q qr t kp fr=>⟨xz,k _ o q _ t (λb u _ e=>kp b u (bf e no) ?_) λb y=>?_⟩)⟩)
 .rw[aj<|bf e no,aj<|bf e r];exact e
 obtain z|z:=bH.mp y
 .rw[z];exact no
 .have:=fr b z;have D:b≠o:=λe=>by rw[e,ao]at this;cases this
  rw[aj D]at this;have G:b≠dx:=λe=>by rw[e,ao]at this;cases this
  rw[aj G]at this;exact this
theorem Wf{a:Type}{qv:Nat->List a}:∀n:Nat,(∀i,i<n->(qv i).length<=m)->((List.range n).flatMap qv).length<=n*m
 | 0,_=>by simp
 | n+1,h=>by
  rw[qi,Ey,dG];have h1:=Wf n λi hi=>h i li;have h2:=h n<|rP n;simp only[zD,abH,qj];rw[TV];lia
theorem zS{a b:Type}{F:a->b->Prop}:∀{l:List a}{r:List b}{i:Nat}{x:a},bt F l r->l[i]?=a_ x->∃y,r[i]?=a_ y/\F x y
 | _,_,_,_,.nil,e=>by simp at e
 | _,_,0,_,.cons h _,e=>by simp at e;subst e;exact⟨_,xz,h⟩
 | _,_,i+1,x,.cons _ t,e=>by
  refine aB (zS (i:=i) t<|by simpa using e) λy h1 h2=>?_;exact ay y (by simpa using h1) h2
def an9(x y z:V):pU [x,y,z] b_ (a_ 2)=[x,y]:=rfl
def Gu(H:Hp)(v:V)(e:gy):Prop:=∃p,v=.ref p/\H p=a_ (.tup [.int e.n,.int e.num])
def VE(C:e_):Sp:=λvs H Q _=>∃a kd tn es q qr,vs=[.ref a]/\dM H a C kd tn es q qr/\es.length<64/\
 ∀H' l us,ae H H'->H l=b_->H' l=a_ (.lst us)->bt (Gu H') us es->Q (.ref l) H'
def KD:aV [X_,"waiting","queue"] gw (aP Lz):=aZ
def YX:([as3,at1]:List cr).Nodup:=dk
def ac7(F:aQ K "listed" "Tray.listed" Lz f fd)(B:BT mg)(Y:kz K C):aF P w K mg gl aE 1 f fd gw (VE C):=by
 refine F.ok KD λaH A _ s H vs Q E hr h=>?_
 obtain⟨a,kd,tn,es,q,qr,v,T,hz,k⟩:=h;subst v
 refine let g:TS:=_;let l:TS:=_;let u:TS:=_;⟨_,aw (bC (i:=1) KD.nd xz (aI xz)<|eC af) (pR u (aw (i3 hV xz (kx<|a7 (pv 0) xz) (bo (i:=2) KD.nd xz<|aI xz)<|pR g<|ar<|fg<|nu m_ PySem.F.slot_list_extend PySem.F.type_list_extend Va (pv 1)<|aa (pv 2) af) (pR l (ar (aS (eB (N:=[as3,at1]) (idx:=[]) xz (cF.of<|by kernel_rfl) (BN (ba _)<|ba _) (kx<|bu acj xz B.sorted boot_sorted<|aa (pv 1) af)
   (λ_ _ _ _=>oo xz<|gU (bo (i:=0) YX xz (aI xz)<|.inr xz)<|gU (bo (i:=1) YX xz (aI xz)<|.inr xz) og)
   (λ_ _ _ _=>eQ) λ_ _ _ _=>Fi (ak6 K) (pv 1) FJ<|FH ax)))))),?_⟩
 refine eK (id T.obj) λdx fs Z e1 e2 e3 em el=>?_;have hl:=T.len
 obtain⟨qv,M⟩:∃qv:Nat->List V,∀i(hi:i<qr.length),H qr[i]=a_ (.lst<|qv i)/\bt (jV H) (qv i) (bL es i):=by
  refine⟨λi=>match H (qr.getD i 0)with | some (.lst vs)=>vs | _=>[],λi hi=>?_⟩;refine aB (T.jY i _<|aL hi) λvs h1 h2=>?_;have eg:qr.getD i 0=qr[i]:=by simp[hi]
  dsimp only;rw[eg,h1];exact⟨xz,h2⟩
 refine⟨qc,λlw nw=>?_⟩;have s0:ae H (db H _<|.lst []):=au (ae.refl _) nw;have naw:=bf Z nw;have nqw:=bf T.qs nw;refine ay _ xz<|dE a C dx _<|iK _ xz ((aj naw)▸Z) Y.cl Y.sk e3 ⟨q,xz,⟨_,ag.of<|by rw[aj nqw];exact T.qs⟩,?_⟩;refine Cc (xs:=qr.map V.ref) (λi σ H'=>∃L,σ=[a_ (.ref a),a_<|.ref lw,L]/\ae H H'/\H' lw=a_ (.lst<|(List.range i).flatMap qv)) ⟨b_,xz,s0,by rw[ao];rfl⟩ ?_ ?_ ?_
 .rintro i σ H' _ ⟨L,rfl,D,_⟩;exact ag.of<|D _ _ T.qs
 .rintro i x σ H' hx ⟨L,rfl,D,hw⟩;rw[cc]at hx;refine aB (vt.mp hx) λb hb v=>?_;subst v;refine oE (cb.mp hb) λhi eb=>?_;refine oA (M i hi) λh1 h2=>?_;rw[eb]at h1;have lq:=r_ h2;have lq2:=MS es i
  have fl:=Wf (qv:=qv) (m:=64) i λj hj=>by
   have:=r_ (M j li).2;have:=MS es j;lia
  refine vr xz ⟨.inl ⟨xz,_,ag.of hw⟩,⟨_,xz,lw,b,_,_,xz,xz,hw,D _ _ h1,?_,⟨_,xz,λc o e=>?_,?_⟩⟩⟩
  .rw[fR];lia
  .rw[aj<|bf e nw];exact D _ _ e
  rw[ao,qi,Ey];simp
 rintro σ H' ⟨L,rfl,D,hw⟩;rw[aA,hl]at hw;have O:=Ub _ _ 12 λi hi=>(M i wg).2;have R:=T9 T.wf.nm;have ll:=R.length_eq;have lr:=r_ O;refine oA (zip_parts O) λz1 z2=>?_;have rp':=si (λ_ _ y=>y.keep (F:=[]) λb xs e=>D _ _ e) O;refine vr xz<|⟨lw,((((List.range 12).flatMap _).zip<|(List.range 12).flatMap<|bL _).map λz=>(z.2.t,z.1)),xz,(ag.of<|by rw[z1];exact hw),(by rw[aA,List.length_zip];omega),(λy S=>?_),(z2▸acA T.wf R),(λls qs hn hp ha=>?_)⟩
 .refine aY (Ko rp' y S) λe _ et v=>?_;refine fk v λp st ep h1 h2=>?_;exact gm p _ ep<|aq.of<|et▸h1
 have rs:=acv T.wf R rp' hp ha;have s1:ae _ (db _ _<|.lst<|qs.map (·.2)):=au (ae.refl _) hn;generalize zk:db _ _ _=H1 at s1;have I:H1 ls=a_ (.lst<|qs.map (·.2)):=by rw[<-zk];exact ao
 have lqs:=r_ rs;refine dQ _ xz ⟨_,ag.of I⟩ ?_;generalize hW:qs.map (·.2)=us at I rs lqs;refine dU (n:=es.length) (λi ys G=>ae H1 G/\bt (Gu G) ys (es.take i)) (by rw[fR];exact w5) ⟨ae.refl _,by rw[List.take_zero];exact .nil⟩ ?_ ?_ ?_ ?_ ?_
 .rintro i ys G ⟨_,r2⟩;rw[r_ r2,eZ];exact xl
 .rintro i ys G hi ⟨s2,_⟩;exact gm _ _ (ag.of<|s2 _ _ I)<|aL wg
 .rintro ys G ⟨s2,_⟩;exact ay _ (ag.of<|s2 _ _ I) li
 .rintro i ys G hi ⟨s2,r2⟩ y H3 ⟨eH,S⟩;subst eH;have oU:=S _<|ag.of<|s2 _ _ I;refine aB (zS rs oU) λe he v=>?_;refine fk v λp st v h1 h2=>?_;subst v;have g1:=s2 _ _<|s1 _ _ h1;have g2:=s2 _ _<|s1 _ _ h2;refine⟨p,⟨_,xz,aq.of g1,xz,_,_,xz,_,_,xz,xz,?_⟩⟩;dsimp only[jo];rw[ei rfl];refine vr xz<|ay 2 xz ⟨st,⟨_,xz,aq.of g2,by show ¬(HT.cq 3 0 _=0/\HT.cq 3 3 _=3);decide,λr bR=>?_⟩⟩;have J:ae _ (db _ r<|.tup<|pU [.int e.n,.int e.num,.int e.d] b_ (a_ 2)):=au (ae.refl _) bR;refine⟨s2.fT J,?_⟩;rw[iq,he];exact Kp (si (λ_ _⟨p,U,W⟩=>⟨p,U,J _ _ W⟩) r2)<|ay r xz (by rw[ao,an9])
 rintro ys G ⟨s2,r2⟩;rw[ED]at r2;have ly:=r_ r2;refine⟨by rw[fR];lia,λlr X=>?_⟩;have J:ae _ (db _ _<|.lst ys):=au (ae.refl _) X;refine k _ _ _ (D.fT<|s1.fT<|s2.fT J) ?_ ao<|si (λ_ _⟨p,U,W⟩=>⟨p,U,J _ _ W⟩) r2;cases e:H lr with
 | none=>rfl
 | some o=>rw[s2 _ _<|s1 _ _<|D _ _ e]at X;cases X
end TL
namespace TL
open PySem.SeqAt L2 L3
def GR(K:u_)(h:autoParam (X.K=K) a8):i7 X (.type "list") (λxs H Q=>∃p ys,xs=[.ref p]/\(ag K H p ys\/aq K H p ys)/\∀l,H l=b_->Q (.ref l) (db H l<|.lst ys)):=by subst h;exact xD
def U1(s:ae H0 H)(h:H0 r=b_):ae H0 (db H r o):=λb u e=>by
 rw[aj<|bf e h];exact s b u e
theorem ub:∀{fs:List (cr×V)},fs.lookup f=a_ u->(aJ f v fs).length=fs.length
 | [],h=>by cases h
 | (k,x)::r,h=>by
  rw[show aJ f v ((k,x)::r)=(if k=f then (k,v)::r else (k,x)::aJ f v r) from rfl]
  by_cases a:k=f
  .rw[ei a];rfl
  rw[ee a,eJ,eJ];rw[rS,show (f==k)=d_ from fi.mpr λz=>a z.g8]at h;rw[ub h]
def W4{fs:List (cr×V)}:(aJ x v fs).lookup x=a_ v:=by rw[dJ,ei rfl]
def Al{fs:List (cr×V)}(h:fs.lookup y=r)(n:y≠x):(aJ x v fs).lookup y=r:=by rw[dJ,ee n];exact h
section
variable{P:k_}{w:j_}{K:u_}{mg:cr->Option f_}{gl:i_}
def WA(C:e_):Sp:=λvs H Q _=>∃a kd tn es q qr,vs=[.ref a]/\dM H a C kd tn es q qr/\∀H' x c d,dM H' x C kd tn es c d->ae H H'->(∀b∈x::c::d,H b=b_)->Q (.ref x) H'
def WI:aV [X_,"other"] gw (aP Nm):=aZ
def afp(F:aQ K "twin" "Tray.twin" Nm f fd)(B:BT mg)(iG:mg "list"=b_)(r:kz K C)(M:Mk K C fI)(FI:aQ K P_ "Tray.__init__" Dq fI gJ)(bI:dn K gJ ix [])(mT:mg "Tray"=a_ (.ref C))(mN:∃u,mg "NAMES"=a_ u/\df (.int 12) u):aF P w K mg gl aE 3 f fd gw (WA C):=by
 have GI:aF P w K _ gl _ 1 _ _ _ _:=YU FI B r mN;refine F.ok WI λaH A _ s H vs Q E hr h=>?_
 obtain⟨a,kd,tn,es,q,qr,ab,T,k⟩:=h;subst ab
 refine let d:TS:=_;let g:TS:=_;⟨_,aw (bC (i:=1) WI.nd xz (aI xz)<|pA M GI hr xz mT bI .nil dh<|aa (a7 (pv 0) xz) af) (pR g (aw (dP (pv 1) (a7 (pv 0) xz) xz) (pR d (aw (dP (pv 1) (eB (N:=["queue"]) (idx:=[]) xz (cF.of<|by kernel_rfl) (eA<|ba _) (kx<|a7 (pv 0) xz) (λ_ _ _ _=>bo (i:=0) V4 xz (aI xz)<|.inr xz) (λ_ _ _ _=>eQ) λ_ _ _ _=>fw (GR K) xz iG r9<|aa (pv 0) af) xz)
  (ar<|aS<|pv 1))))),?_⟩
 refine eK T.obj λdx fs ha hk ht hq Rq aam=>?_;refine vF xz ha r.cl r.kind hk λx kK nx fK ne=>⟨x,kK,kd,xz,ao,λX q1 qr1 T1 kp fr=>⟨xz,?_⟩⟩;have s1:ae H X:=λb o e=>kp b o (bf e nx) (by rw[aj<|bf e nx,aj<|bf e fK];exact e);refine eK T1.obj λG O cU k1 t1 qq1 ms1 arU=>?_;have nax:=bf ha nx;refine ay _ xz<|dE a C _ _<|iK _ xz (s1 _ _ ha) r.cl r.turn ht<|vr xz<|kv x C _ _ xz cU r.cl r.turn wb ?_;have s2:ae H (db _ x<|.ins C G<|aJ as3 (.int tn) O):=U1 s1 nx;have J:db X x _ x=a_ (.ins C G<|aJ as3 (.int tn) O):=ao;have arT:=ub (v:=.int tn) t1;generalize db _ x _=H2 at s2 J ⊢;have hlen:=T.len;have L:=s2 _ _ T.qs;refine ay _ xz<|dE a C _ _<|iK _ xz (s2 _ _ ha) r.cl r.sk hq<|dQ q xz ⟨_,ag.of L⟩ ?_;refine dU (n:=qr.length) (λi ys H'=>i<=qr.length/\∃rs:List _,ys=rs.map V.ref/\rs.length=i/\ae H2 H'/\(∀j b,rs[j]?=a_ b->Dw H' b (bL es j))/\rs.Nodup/\∀b∈rs,H2 b=b_/\H' b≠b_) ?_ ?_ ?_ ?_ ?_ ?_ ?_
 .exact cg (cy w6)
 .exact⟨ba _,⟨[],xz,xz,ae.refl _,λj b z=>(by simp at z),List.nodup_nil,λb z=>by cases z⟩⟩
 .rintro i ys H' ⟨_,rs,rfl,rfl,_⟩;rw[aA];exact az _
 .rintro i ys H' hi ⟨_,rs,_,_,t,_⟩;exact gm _ _ (ag.of<|t _ _ L)<|aL (by rw[aA];exact hi)
 .rintro ys H' ⟨_,rs,_,_,t,_⟩;exact ay _ (ag.of<|t _ _ L) (by rw[aA];exact az _)
 .rintro i ys H' hi ⟨_,rs,rfl,rfl,t,R,nd,D⟩ z eh ⟨eH,cX⟩;subst eH;have Y:=cX _<|ag.of<|t _ _ L;rw[cc,aL hi]at Y;have kc:=(dj Y).g8;subst kc;refine aB (T.jY _ _<|aL hi) λvs Q9 hv2=>?_;dsimp only[jo,hX];rw[ei rfl];have Z:=s2.fT t;refine vr xz (dN _ _ xz (.inl<|ag.of<|Z _ _ Q9) λl S=>?_);have y:=au (o:=.lst vs) (ae.refl _) S;have kt:∀b xs,H b=a_ _->db _ l _ b=a_ (.tup xs):=λb xs e=>y _ _<|Z _ _ e;refine⟨hi,⟨rs++[l],by rw[dB];rfl,by rw[dG];rfl,t.fT y,λj b p=>?_,?_,λb p=>?_⟩⟩
  .by_cases hj:j<rs.length
   .rw[Bv hj]at p;refine aB (R j b p) λus h1 h2=>?_;exact ay _ (y _ _ h1)<|si (λ_ _ z=>z.keep (F:=[]) λb xs e=>y _ _ e) h2
   have ej:j=rs.length:=by
    have:=(cb.mp p).1;rw[dG]at this;simp at this;lia
   subst ej;rw[Jk<|az _,TX]at p;have eb:=dj p;subst eb;exact ay _ ao<|si (λ_ _ z=>z.keep (F:=[]) kt) hv2
  .rw[EB];refine gg nd (by simp) λb p c hc e=>?_;rw[cO.mp hc]at e;rw[e]at p;exact(D l p).2 S
  obtain h|h:=ir.mp p
  .refine oA (D b h) λh1 h2=>?_;refine⟨h1,λz=>h2<|y.free z⟩
  rw[cO.mp h];refine⟨t.free S,λz=>?_⟩;rw[ao]at z;cases z
 rintro ys H3 ⟨_,rs,rfl,ij,t,R,nd,D⟩;refine⟨by rw[aA];exact cg<|cy li,λI U=>?_⟩;have y:=au (o:=.lst<|rs.map V.ref) (ae.refl _) U;have hlq:db H3 _ _ I=a_ (.lst<|rs.map V.ref):=ao;have W:=t.free U;have wI:I∉rs:=λz=>(D _ z).2 U;generalize db _ _ _=H4 at y hlq ⊢;have DU:=t.fT y;have D7:=DU _ _ J;refine vr xz<|⟨x,C,G,(iK _ xz D7 r.cl r.sk wd ?_)⟩;have nlx:I≠x:=λz=>by rw[z,J]at W;cases W
 have nrx:∀b∈rs,b≠x:=λb p z=>by have h:=(D b p).1;rw[z,J]at h;cases h
 have arS:=ub (v:=.ref I)<|Al (x:=as3) (v:=.int tn) qq1 dk
 have Iy:∀b xs,H4 b=a_ (.tup xs)->db H4 x (.ins C G<|aJ "queues" (.ref I) (aJ as3 (.int tn) O)) b=a_ (.tup xs):=λb xs e=>by
  rw[aj (λz=>by rw[z,D7]at e;cases e)];exact e
 refine vr xz (k _ x _ _ ⟨⟨G,_,ao,Al (Al k1 dk) dk,Al W4 dk,W4,λm hm=>?_,wu⟩,?_,wo,nd,wI,λi b p=>?_,T.wf⟩ ?_ λb p=>?_)
 .have h1:m ≠ "queues":=λz=>by subst z;exact eu hm dk
  have h2:m ≠ as3:=λz=>by subst z;exact eu hm dk
  exact Al (Al (ms1 m hm) h2) h1
 .rw[aj nlx];exact hlq
 .refine aB (R i b p) λus h1 h2=>?_;refine ay us ?_<|si (λ_ _ z=>z.keep (F:=[]) λb xs e=>Iy _ _<|y _ _ e) h2;rw[aj<|nrx b<|aW p];exact y _ _ h1
 .exact U1 (s2.fT DU) nx
 obtain z|z:=bH.mp p
 .rw[z];exact nx
 obtain z|z:=bH.mp z
 .rw[z];exact s2.free W
 exact s2.free (D b z).1
end
end TL
namespace L2
open PySem.W
def nN(xs:Array Nat):Prop:=xs.toList.Pairwise (· < ·)
def Gr(h:nN xs)(a:i<k)(b:k<xs.size):xs[i]<xs[k]:=by
 have:=km.mp h i k (by simpa using Kc a b) (by simpa using b) a;simpa using this
theorem Mj(h:nN xs)(j:Nat):∀f lo hi,lo<=hi->hi<=xs.size->hi-lo<=f->(∀i(_:i<xs.size),i<lo->xs[i]<j)->(∀i(_:i<xs.size),hi<=i->j<=xs[i])->JA xs j f lo hi<=xs.size/\(∀i(_:i<xs.size),i<JA xs j f lo hi->xs[i]<j)/\∀i(_:i<xs.size),JA xs j f lo hi<=i->j<=xs[i]
 | 0,lo,hi,h1,h2,h3,a,b=>by
  have:lo=hi:=li;subst this;exact gg h2 a b
 | f+1,lo,hi,h1,h2,h3,a,b=>by
  unfold JA
  by_cases d:lo<hi
  .rw[ei d];have hm:(lo+hi)/2<hi:=li;have l:lo<=(lo+hi)/2:=li;have e:=wh;have m:xs.getD ((lo+hi)/2) j=xs[(lo+hi)/2]:=by simp[xJ,e]
   dsimp only;rw[m]
   by_cases c:xs[(lo+hi)/2]<j
   .rw[ei c];refine Mj h j f _ _ xf h2 om (λi g n=>?_) b
    by_cases z:i=(lo+hi)/2
    .subst z;exact c
    exact Kc (Gr h li e) c
   rw[ee c];refine Mj h j f _ _ l w3 om a λi g n=>?_
   by_cases z:i=(lo+hi)/2
   .subst z;omega
   .have:=Gr h (i:=(lo+hi)/2) (k:=i) li g;omega
  rw[ee d];have:lo=hi:=li;subst this;exact gg h2 a b
def Ks(h:nN xs)(j:Nat):gi xs j<=xs.size/\(∀i(_:i<xs.size),i<gi xs j->xs[i]<j)/\∀i(_:i<xs.size),gi xs j<=i->j<=xs[i]:=
 Mj h j xs.size 0 xs.size (ba _) (az _) (az _) (λ_ _ z=>eu z<|zH _) λi hi z=>eu hi<|Nat.not_lt.mpr z
def UH(h:nN xs)(hi:i<xs.size):gi xs (xs[i]+1)=i+1:=by
 refine gH (Ks h<|xs[i]+1) λh1 h2 h3=>?_;rcases zC (gi xs<|xs[i]+1) (i+1)with z | z | z
 .have:=h3 i hi li;lia
 .exact z
 have c:=wh;have a:=h2 _ c z;have b:=Gr h (i:=i) (k:=i+1) w1 c;omega
def UG(h:nN xs):gi xs 0=0:=by
 refine gH (Ks h 0) λh1 h2 h3=>?_;rcases Nat.eq_zero_or_pos (gi _ 0)with z | z
 .exact z
 .have:=h2 0 wh z;lia
def adw(h:nN xs)(hn:xs[gi xs j]? ≠ a_ j):nN (bP.insertAt xs (gi xs j) j):=by
 refine gH (Ks h j) λh1 h2 h3=>?_;unfold nN;rw[bP.toList_insertAt]
 have g:∀x∈xs.toList.take (gi xs j),x<j:=λx d=>by
  refine oE (nR d) λi f=>oE f λhi e=>?_;rw[eZ,ko]at hi;rw[List.getElem_take,Ju]at e;rw[<-e];exact h2 i _ li
 have hd:∀x∈xs.toList.drop (gi xs j),j<x:=λx d=>by
  refine oE (nR d) λi f=>oE f λhi e=>?_;rw[Tc,ko]at hi;rw[List.getElem_drop,Ju]at e;have k:gi xs j+i<xs.size:=om;have a:=h3 _ k li;rw[<-e];rcases Nat.lt_or_ge j xs[gi _ j+i]with z | z
  .exact z
  exfalso;have l:xs[gi _ j+i]=j:=li
  by_cases m:i=0
  .subst m;exact hn ((aaN om)▸fF a_ l)
  have b:=h3 _ li<|az _;have c:=Gr h (i:=gi xs j) li k;omega
 refine aa5.mpr (gg (h.sublist<|abv _ _) (abj.mpr ⟨hd,h.sublist<|List.drop_sublist _ _⟩) λx d y n=>?_);obtain z|z:=bH.mp n
 .rw[z];exact g x d
 exact Kc (g x d) (hd y z)
structure nB(led:Bool)(t:bP):Prop where
 Qw:t.dummies=#[]
 led:t.led=led
 asc:t.plain=c_->nN t.place
def adM(led:Bool):nB led (.fresh 0 0 led):=⟨xz,xz,λ_=>.nil⟩
def ER(h:nB led t)(n:Nat):nB led (t.standIn n):=⟨xz,h.led,λz=>by cases z⟩
def aiA(h:nB led t)(n:Nat):nB led (t.orStandIn n):=by
 unfold bP.orStandIn
 split
 .exact h
 exact ER h n
def has_none(j:Nat):TR #[] j=false:=by simp[TR]
theorem Um{t:bP}{a:Nat->Int}{h:Int}(hd:t.dummies=#[])(b:∀i,(a i==h)=d_):∀f(p:bP.Probe)j d,p.dummy=b_->abt t a h f p=a_ (.empty j d)->d=b_/\t.slot j=.empty
 | 0,p,j,d,_,e=>by cases e
 | f+1,p,j,d,hp,e=>by
  unfold abt at e;cases q:t.slot p.j with
  | empty=>
   rw[q]at e;simp only[xx,aq0]at e;refine oA e λc g=>?_;clear e;subst c;subst g;exact⟨hp,q⟩
  | dummy=>
   exfalso;unfold acb at q;rw[hd,has_none]at q;dsimp only at q
   split at q
   .cases q
   simp at q
  | live i=>
   rw[q]at e;simp only[b i,tX,if_false]at e;refine Um hd b f _ j d ?_ e;unfold bP.advance
   split
   .exact hp
   exact hp
def agE(h:nB led t)(a:t.slot j=.empty):nB led (t.put j).1:=by
 refine⟨?_,h.led,λz=>?_⟩
 .show (if TR t.dummies j then _ else t.dummies)=#[];rw[h.Qw,has_none];rfl
 refine adw (h.asc z) λe=>?_;unfold acb at a;dsimp only at a;rw[ei (by rw[e];simp)]at a;cases a
def acS{led:Bool}{t:bP}(a:nB led t)(es:Array (Int×f_))(h:Int)(x:f_):nB led (layNew t es h x).2.1:=by
 unfold layNew
 split
 .rename_i slot wd e
  refine aiA ?_ _;unfold bP.freeSlot at e
  split at e
  .rename_i j d q
   obtain⟨hd,b⟩:=Um a.Qw (λi=>by simp;lia) _ _ _ _ xz q;subst hd;simp only[xx,JT]at e;refine oA e λc _=>?_;clear e;subst c;exact agE a b
  cases e
 exact ER a _
def agr(g:Nat->Option Nat):nN ((((List.range<|mask+1).filterMap λj=>(g j).map (j,·)).map (·.1)).toArray):=by
 unfold nN;rw[SK,List.map_filterMap];refine List.Pairwise.filterMap _ (λa b h x c y d=>?_) List.pairwise_lt_range;cases e:g a with
 | none=>rw[e]at c;simp at c
 | some u=>
  cases f:g b with
  | none=>rw[f]at d;simp at d
  | some v=>
   rw[e]at c;rw[f]at d;simp at c d;lia
def adL(a:nB led t)(es:Array (Int×f_))(b:Nat):nB led (Cf t es b).2.1:=by
 unfold Cf
 split
 .rename_i t' d e
  dsimp only
  split
  .unfold bP.relaid bP.laid at e;cases o:bP.layClean (bP.sizeAbove b-1) (es.map (·.1))with
   | none=>rw[o]at e;cases e
   | some owner=>
    rw[o]at e;simp only[Option.bind_eq_bind,Option.bind_some,Option.pure_def,xx,JT]at e;refine oA e λc _=>?_;clear e;subst c;exact⟨xz,a.led,λ_=>agr _⟩
  exact ER a _
 exact ER a _
noncomputable def nJ(w:j_):Bool:=w.params.followText "set-order"
def oH(P:k_)(w:j_)(e:Int×f_)(k:Int):Prop:=e.1=(intKind P w).hash k/\∃t,e.2=.int k t
def lg(P:k_)(w:j_)(h:i_)(a:e_)(ns:List Int):Prop:=
 ∃o es b t ks,h.get? a=a_ o/\o.ExactSet/\o.data=.set es b t/\bt (oH P w) es.toList ks/\iJ ks ns/\ns.Nodup/\t.fits es.size=c_/\nB (!nJ w) t
theorem zL{a b:Type}{F:a->b->Prop}:∀{l:List a}{r:List b},bt F l r->l.length=r.length
 | _,_,.nil=>rfl
 | _,_,.cons _ t=>by simp[zL t]
section
variable{P:k_}{w:j_}{A:h_}{E:f_->g_->Prop}{s:g_}{a:e_}{ns:List Int}
theorem Wj:∀{l:List (Int×f_)}{ks:List Int},bt (oH P w) l ks->ElemsOf (intKind P w) l
 | _,_,.nil=>λe b=>nomatch b
 | _,_,.cons ⟨h1,t,h2⟩ r=>λe b=>by
  obtain z|z:=bH.mp b
  .rw[z];exact⟨⟨_,by rw[h2];exact Kw _ _ _ _,h1⟩,by rw[h2];rfl⟩
  exact Wj r e z
def alQ(e:v=.int k' t):(intKind P w).is k v=decide (k=k'):=by
 rw[e];exact KeyKind.is_eq_decide (Kw _ _ _ _) k
theorem VQ:∀{l:List (Int×f_)}{ks:List Int},bt (oH P w) l ks->((l.findIdx? λe=>(intKind P w).is k e.2).isSome=c_↔k∈ks)
 | _,_,.nil=>by simp
 | _,_,.cons (a:=e) (b:=k') ⟨h1,t,h2⟩ r=>by
  have ih:=VQ (k:=k) r;rw[List.findIdx?_cons,alQ h2]
  by_cases z:k=k'
  .subst z;simp
  rw[eT z,ee dO,Option.isSome_map,ih,bH];exact⟨.inr,λh=>h.resolve_left z⟩
def Kh(p:iJ l' l)(h:bt (oH P w) l ks):∃b,iJ b ks/\bt (oH P w) l' b:=by
 induction p generalizing ks with
 | nil=>cases h;exact⟨[],.nil,.nil⟩
 | cons x _ ih=>
  cases h with
  | cons hx r=>
   exact aB (ih r) λb q c=>ay _ (q.cons _)<|.cons hx c
 | swap x y l=>
  cases h with
  | cons hx r=>
   cases r with
   | cons hy r=>exact⟨_,.swap _ _ _,.cons hy<|.cons hx r⟩
 | trans _ _ ih1 ih2=>
  exact aB (ih2 h) λg d r2=>aB (ih1 r2) λk1 e f=>ay _ (e.fT d) f
theorem Up(b:oH P w x k):∀{l:List (Int×f_)}{ks:List Int},bt (oH P w) l ks->bt (oH P w) (l++[x]) (ks++[k])
 | _,_,.nil=>.cons b .nil
 | _,_,.cons h t=>.cons h<|Up b t
def Ul(q:s.heap.get? a=a_ o)(x:o.ExactSet)(d:o.data=.set es ep t)(r:bt (oH P w) gL.toList ks)(p:iJ ks ns)(nd:ns.Nodup)(f:t'.fits gL.size=c_)(b:nB (!nJ w) t'):(s.heap.update a<|BR gL t').get? a=a_ {o with data:=.set gL (ep+1) t'}/\lg P w (s.heap.update a<|BR gL t') a ns:=by
 have g:(s.heap.update a<|BR gL t').get? a=a_ {o with data:=.set gL (ep+1) t'}:=by
  have z:=zx (BR _ _) q (by rw[putSet_of gL t' d];rfl);rw[putSet_of _ _ d]at z;exact z
 exact⟨g,⟨_,gL,ep+1,t',ks,g,x,xz,r,p,nd,f,b⟩⟩
def UX{g:Bool->Sem Unit}(n:∀(b:Bool)(s1:g_)(i:Unit->g_->Prop),i () s1->be (bn P w) A (g b) i E s1){es c:Array (Int×f_)}{u:Nat}{t e:bP}{wd:Bool}{R:Option Bool->g_->Prop}
  (q:s.heap.get? a=a_ o) (x:o.ExactSet) (d:o.data=.set es u t) (r:bt (oH P w) c.toList ks) (p:iJ ks ns) (nd:ns.Nodup) (j:c.size<BZ) (f:e.fits c.size=c_) (l:nB (!nJ w) e)
  (k:∀h',gQ a s.heap h'->lg P w h' a ns->R (a_ c_) {s with heap:=h'}) :
  be (bn P w) A (do storeSet a c e;if (!wd&&e.tooFull)=c_ then (do g (Cf e c<|zM c.size).2.2;storeSet a (Cf e c<|zM c.size).1 (Cf e c<|zM c.size).2.1;pure (a_ c_)) else pure (a_ c_)) R E s:=by
 refine oA (Ul q x d r p nd f l) λm v=>?_;have b1:=lD s.heap a<|BR c e;refine ah<|wpAny_storeSet_of q d ?_<|fits_of_scanBound j
 split
 .have h:=relayAll_perm e c<|zM c.size;have rf:=relayAll_fits e c<|zM c.size;have rt:=adL l c<|zM c.size;generalize Cf _ _ _=Y at h rf rt ⊢;obtain⟨y,D,F⟩:=Y;dsimp only at h rf rt ⊢;refine aB (Kh h r) λG z r2=>?_;have B:y.size=c.size:=by rw[<-ko,h.length_eq,ko]
  refine ah<|n _ _ _<|ah<|wpAny_storeSet_of m xz ?_<|fits_of_scanBound<|B▸j;exact oA (Ul (s:={s with heap:=s.heap.update a _}) m x xz r2 (z.fT p) nd rf rt) λ_ C=>aO<|k _ (b1.fT<|lD _ a _) C
 exact aO<|k _ b1 v
noncomputable def pV(k:Int)(ns:List Int):List Int:=if k∈ns then ns else ns++[k]
def ae1{k:Int}{tk:Tok}{Q:Bool->g_->Prop}(S:lg P w s.heap a ns)(J:ns.length+1<BZ)(h:∀b h',gQ a s.heap h'->lg P w h' a (pV k ns)->Q b {s with heap:=h'}):be (bn P w) A (setAddHashed a (.int k tk)<|(intKind P w).hash k) Q E s:=by
 refine BJ S λo es K t ks q x d r p L=>gH L λnd f n=>?_;have u:=Wj r;have l:es.size=ns.length:=by rw[<-ko,zL r,p.length_eq]
 have M:(intKind P w).is k (.int k tk)=true:=Kw _ _ _ _;unfold setAddHashed setAddHashedIn;refine(mQ<|ah<|BA q d f ?_);dsimp only;rw[byScan_of (knd:=intKind P w) (x:=.int k tk) xz li u];simp only ;unfold setAddByScan;refine ah<|ah<|vD<|ah<|wpAny_setScan_of M q d f u ?_;have v:=VQ (k:=k) r;cases sc:List.findIdx? (λe=>(intKind P w).is k e.2) es.toList with
 | some j=>
  dsimp only;have mem:=p.mem_iff.mp<|v.mp (by rw[sc];rfl);refine aO<|aO ?_;have e:pV k _=ns:=ei mem;exact h _ _ (gQ.refl a _) (by rw[e];exact⟨o,es,K,t,ks,q,x,d,r,p,nd,f,n⟩)
 | none=>
  dsimp only
  have nm:k∉ns:=λz=>by
   have:=v.mpr<|p.mem_iff.mpr z;rw[sc]at this;cases this
  have e:pV k _=ns++[k]:=ee nm;have B:∀(b:Bool){s1:g_}{c:Unit->g_->Prop},c () s1->be (bn P w) A (match b with | true=>rule "set.scan.the-table-gave-way" | false=>pure ()) c E s1:=λb s1 c z=>by cases b <;> first | exact aO z | exact vD z
  have g:=layNew_perm t es ((intKind P w).hash k)<|.int k tk;have i:=layNew_fits t es ((intKind P w).hash k)<|.int k tk;have lt:=acS n es ((intKind P w).hash k)<|.int k tk;generalize layNew t _ _ _=Y at g i lt ⊢;obtain⟨N,W,wd,X⟩:=Y;dsimp only at g i lt ⊢;rw[Array.toList_push]at g;refine aB (Kh g<|Up ⟨xz,tk,xz⟩ r) λO R C=>?_;have D:iJ O (pV k ns):=by rw[e];exact R.fT<|p.append_right _
  have F:(pV k ns).Nodup:=by
   rw[e];refine EB.mpr (gg nd (by simp) λy T z l=>?_);rw[cO.mp l];intro U;exact nm<|U ▸ T
  have G:N.size<BZ:=by
   rw[<-ko,g.length_eq,dG,ko,l];exact J
  have H:=(h c_);refine ah<|B _ ?_;have I:∀b(s1:g_)c,c () s1->be _ A _ c E s1:=λb s1 c z=>B b z
  split
  .refine ah ?_;rw[hashByValue_scannable 8 rfl];refine aO (UX I q x d C D F G ?_ ?_ λh' m S'=>?_)
   .split
    .exact i
    exact bP.fits_plain_off i
   .split
    .exact lt
    exact⟨lt.Qw,lt.led,λz=>by cases z⟩
   dsimp only;exact aO<|H h' m S'
  refine ah<|aO ?_;simp only[↓reduceIte];refine UX I q x d C D F G i lt λh' m S'=>?_;dsimp only;exact aO<|H h' m S'
end
def lg.keep{P:k_}{w:j_}(S:lg P w h a ns)(k:∀o,h.get? a=a_ o->h'.get? a=a_ o):lg P w h' a ns:=
 let ⟨o,es,ep,t,ks,q,r⟩:=S;⟨o,es,ep,t,ks,k o q,r⟩
def qL(ns:List Int):List Int:=ns.foldl (λa k=>pV k a) []
def qK(val:Nat->Int)(i:Nat):List Int:=qL<|(List.range i).map val
def Uq(val:Nat->Int)(i:Nat):qK val (i+1)=pV (val i) (qK val i):=by
 unfold qK qL;rw[qi,dB,aby];rfl
def agu(k:Int)(ns:List Int):(pV k ns).length<=ns.length+1:=by
 unfold pV
 split
 .exact kr _
 rw[dG,aa1];exact az _
theorem KP(val:Nat->Int):∀i,(qK val i).length<=i
 | 0=>az _
 | i+1=>by
  rw[Uq];have:=agu (val i)<|qK val i;have:=KP val i;lia
def agt:x∈pV k ns↔x=k\/x∈ns:=by
 unfold pV
 split
 .rename_i h
  exact⟨.inr,λz=>z.elim (λe=>e ▸ h) id⟩
 simp[or_comm]
theorem Vf:∀{l a:List Int},x∈l.foldl (λa k=>pV k a) a↔x∈l\/x∈a
 | [],a=>by simp
 | k::l,a=>by
  rw[List.foldl_cons,Vf,agt,bH];constructor
  .rintro(h | h | h)
   .exact .inl (.inr h)
   .exact .inl (.inl h)
   exact .inr h
  rintro((h | h) | h)
  .exact .inr (.inl h)
  .exact .inl h
  exact .inr<|.inr h
def afm:x∈qL ns↔x∈ns:=by
 unfold qL;rw[Vf];simp
section
variable{P:k_}{w:j_}{A:h_}{E:f_->g_->Prop}{s:g_}
def aeX{fp wr:List e_}{St:Nat->i_->Prop}(W:Walks P w A.in1 I fp wr n Pv St)(g:S∉fp)(val:Nat->Int)(m:∀i v,Pv i v->∃t,v=.int (val i) t)(a:n+1<BZ):∀(k i:Nat)(s:g_),n-i=k->i<=n->St i s.heap->lg P w s.heap S (qK val i)->(∀h' tk,(∀b o,b∉S::wr->s.heap.get? b=a_ o->h'.get? b=a_ o)->lg P w h' S (qK val n)->R (.ok<|.ret .none) {s with heap:=h',toks:=tk})->codeAny (bn P w) A (.builtin "set.update.loop" ⟨[.ref S,.ref I],[]⟩) R s:=by
 have j:S∉wr:=λh=>g<|W.sub _ h;intro k
 induction k with
 | zero=>
  intro i s p hi st d f;have q:i=n:=li;subst q;refine(tZ F.entry_set_update_loop (?_:be _ _ _ _ _ s));rw[(vv F.plain_set_update_loop _)];show be _ _ _ _ _ s;refine ah (W.done s _ _ st λh' tk c=>(?_:be _ _ _ _ _ _));exact aO<|f _ _ (λb o a e=>c b o (λz=>a<|cx _ z) e) (d.keep λo e=>c _ _ j e)
 | succ k ih=>
  intro i s p hi st d f;refine(tZ F.entry_set_update_loop (?_:be _ _ _ _ _ s));rw[(vv F.plain_set_update_loop _)];show be _ _ _ _ _ s;refine ah (W.item i s _ _ om st λv h' tk r u c=>oE (m i v r) λt x=>?_);subst x;have y:=d.keep λo e=>c _ _ j e;refine(ah<|mQ (?_:be _ _ _ _ _ {s with heap:=h',toks:=tk}));unfold setAdd;refine mQ<|ah<|(intKind P w).pyHash (Kw _ _ _ _) ?_;have H:=KP val i;refine ae1 y li λb h2 B C=>?_;have l:∀b,b≠S->h2.get? b=h'.get? b:=B.2;refine aO ⟨vy F.plain_set_update_loop _,ih _ {s with heap:=h2,toks:=tk+1} om li (W.frame _ _ _ u λb a o e=>?_) (by rw[Uq];exact C) λh3 J D G=>?_⟩
  .rw[l b λz=>g<|z ▸ a];exact e
  refine f _ _ (λb o a e=>D b o a ?_) G;rw[l b λz=>a<|z ▸ b9];exact c b o (λz=>a<|cx _ z) e
abbrev qC(w:j_):cP:={cls:=.type "set",dict:=b_,data:=.set #[] 0 (.fresh 0 0<|!nJ w)}
def ae0(e:h.get? a=a_ (qC w)):lg P w h a []:=⟨_,#[],0,_,[],e,⟨xz,xz,xz⟩,xz,.nil,.nil,.nil,xz,adM _⟩
def agR(x:f_)(h:Q (.ref s.zS) {s with heap:=s.heap.push (qC w)}):codeAny (bn P w) A (.call (.builtin "set.__new__") ⟨[.type "set",x],[]⟩) (wants Q E) s:=by
 refine codeAny_of_tree (?_:be _ _ _ _ _ s);refine ah<|Kj (F.newCall_set_1 x)<|aO ⟨vy F.plain_set_new _,(tZ F.entry_set_new (?_:be _ _ _ _ _ s))⟩;rw[(vv F.plain_set_new _)];unfold Builtin.«set.__new__» Builtin.Frozenset.newClass;have a:=sub_set_self;obtain⟨b,g,d,tk,os⟩:=s;dsimp only
 wp_walk
 refine Tb<|aO ?_;dsimp only;simp only[newObj];exact ah<|wpAny_alloc<|aO<|aO h
set_option maxHeartbeats 6000000 in
def aeZ(B:A.handled=b_)(C:s.heap.IsList l items)(hi:IntsAre items.toList ns)(d:items.size+1<BZ)(h:∀(h':i_)(tk:Nat),lg P w h' s.zS (qK (λi=>ns.getD i 0) items.size)->(∀b o,s.heap.get? b=a_ o->h'.get? b=a_ o)->Q (.ref s.zS) {s with heap:=h',toks:=tk}):be (bn P w) A (call (.type "set") [.ref l]) Q E s:=by
 refine yC F.called_set.mro λc tl arN=>?_;have aq6:=F.called_set.made;have P9:=F.called_set.sub;refine Ku<|codeAny_of_tree (?_:be _ _ _ _ _ _);refine aO ⟨Code.quiet_builtin _ dk,(tZ F.entry_type_call (?_:be _ _ _ _ _ s))⟩;rw[Around.under_plain (weight_type_call_type "set" [.ref l] []) rfl];have h1:=F.called_set.notType;have h2:=F.called_set.canCreate;have hct:=F.typeCall_set_1<|.ref l
 repeat (any_goals (first | assumption | wp_step))
 refine BE (agR _ (E:=E) (Q:=λobj m=>obj=.ref _/\m={s with heap:=s.heap.push _}) ⟨xz,xz⟩) λr m f=>?_;cases r with
 | error e=>exact f
 | ok D=>
  cases D with
  | ret obj=>
   refine oA f λa g=>?_;clear f;subst a;subst g;have n:(s.heap.push<|qC w).get? _=a_ _:=eO _ rfl;have G:Tz {s with heap:=s.heap.push _} (.ref _) "set":=⟨_,n,xz⟩;have Rv:=F.called_set.init.lookup;have hbi:=F.called_set.init.bind<|.ref s.zS
   repeat (any_goals (first | assumption | wp_step))
   refine BE (codeAny_call_builtin (R:=wants (λr p=>r=.none/\∃h' tk,p={s with heap:=h',toks:=tk}/\lg P w h' s.zS (qK (λi=>ns.getD i 0) items.size)/\(∀b o,s.heap.get? b=a_ o->h'.get? b=a_ o)) E) F.called_set.init.plain F.entry_set_init<|check_set_init_1 G ?_) λH p j=>?_
   .refine aY C λI q u a=>oE a λJ x=>?_;obtain⟨arB,K,aq4,L⟩:=I;simp only at u x;subst u;subst x;have M:(s.heap.push<|qC w).get? l=a_ {cls:=.type _,dict:=K,data:=.seq _ _,slots:=L}:=bE _ q;have arI:=F.sub_list_set;have arJ:=F.sub_list_frozenset;have hG:(iI "list"==iI "dict")=false:=qc;have y:(s.heap.push<|qC w).IsList l items:=⟨_,M,xz,J,xz⟩;unfold Builtin.«set.__init__» noKeywords Builtin.Frozenset.updateFrom;generalize N:pyIter=PI
    wp_walk
    subst N;refine(zB y<|ah<|wpAny_runValue ?_);have z:=bV q;have O:A.in1.in1.in1.handled=none:=by simp[B]
    have k:(s.heap.push<|qC w).zH=s.zS+1:=lZ _ _;have S:l≠(s.heap.push<|qC w).zH:=by rw[k];exact dH<|EA z
    have T:s.zS∉[(s.heap.push<|qC w).zH,l]:=by
     rw[k];simp only[bH,cO,EF,or_false,not_or];exact⟨dH<|rP _,vA z⟩
    have U:∀(i:Nat)(v:f_),items[i]?=a_ v->∃t,v=.int ((λi=>ns.getD i 0) i) t:=λi v V=>Tq hi i v (by rw[zy];exact V);refine aeX (BQ O _ l S items) T (λi=>ns.getD i 0) U d (items.size-0) 0 _ li (ba _) ⟨⟨_,eO _ xz,xz,xz⟩,(y.push _)⟩ (ae0<|bE _ n) λh' tk W S'=>?_;refine(aO (?_:be _ _ (ret gR) _ _ _));refine aO ⟨xz,⟨h',tk,xz,S',λb o e=>W b o ?_<|bE _<|bE _ e⟩⟩;have d:=bV e;rw[k];simp only[bH,cO,EF,or_false,not_or];exact⟨dH d,dH<|EA d⟩
   cases H with
   | error e=>exact j
   | ok X=>
    cases X with
    | ret r=>
     refine oA j λa g=>?_;clear j;subst a;refine fk g λh' tk a Y Z=>?_;clear g;subst a
     repeat (any_goals (first | assumption | wp_step))
     exact h _ _ Y Z
    | _=>exact j.elim
  | _=>exact f.elim
end
namespace SF
def slot_next:Slot "set_iterator" "__next__" "set_iterator.__next__":=
 .of (owner:="set_iterator") (n:="__next__") (by rw[typeLookup_type,aa0];kernel_rfl) dk dk dk (by first | exact .inl dk | exact .inr dk) (by rw[isSubtype_type];kernel_rfl)
def entry_next:entryFor table "set_iterator.__next__"=a_ Builtin.«set_iterator.__next__»:=entryFor_of_tree (by kernel_rfl)
def args_next(a:f_):argsOk "set_iterator.__next__" ⟨[a],[]⟩:=by unfold argsOk;kernel_rfl
def ado:entryFor table "set.__iter__"=a_ Builtin.«frozenset.__iter__»:=entryFor_alias (id':="frozenset.__iter__") (by kernel_rfl) xz dk (by kernel_rfl)
def ah4:typeLookup (.type "set") "__len__"=pure (a_<|.builtin "set.__len__"):=by rw[typeLookup_type,aa0];kernel_rfl
end SF
def UA{a:Type}{l:List a}{i:Nat}(h:i<l.length):iJ (l[i]::l.eraseIdx i) l:=by
 have e:l.take i++l[i]::l.drop (i+1)=l:=by rw[List.getElem_cons_drop,Js]
 rw[List.eraseIdx_eq_take_drop_succ];have p:iJ _ (l.take i++l[i]::l.drop (i+1)):=abE.g8;rw[e]at p;exact p
section
variable{M:d6}{A:h_}{E:f_->g_->Prop}{s:g_}
def adq(hn:n≠0)(h:∀i d,i<n->Q i {s with drawn:=d}):be M A (choose src n) Q E s:=
 λa p _=>⟨hn,h _ _<|Nat.mod_lt _<|Nat.pos_of_ne_zero hn⟩
theorem Vm{b:Type}:∀(n:Nat)(xs:List b)(s:g_){Q:List b->g_->Prop},xs.length=n->(∀ys d,iJ ys xs->Q ys {s with drawn:=d})->be M A (drawOrder n xs) Q E s
 | 0,xs,s,Q,a,h=>by
  have e:=tU.mp a;subst e;exact aO<|h [] s.drawn .nil
 | n+1,[],s,Q,a,h=>by cases a
 | n+1,x::xs,s,Q,a,h=>by
  unfold drawOrder;refine ah (adq (by simp) λi d hi=>?_);have e:(x::xs)[i]?=a_ ((x::xs)[i]):=aL hi;rw[e];dsimp only;exact ah (Vm n _ _ (by rw[aa6,ei hi,a];rfl) λys d' c=>aO<|h _ d'<|(c.cons _).fT<|UA hi)
end
theorem WS{b:Type}(next:Nat->Nat):∀(n k:Nat)(left:List b)(a:Array b),left.length=n->∃ys,iJ ys left/\(TQ next n k left a).toList=a.toList++ys
 | 0,k,left,a,hl=>by
  have e:=tU.mp hl;subst e;exact ay ([]) .nil (by unfold TQ;simp)
 | n+1,k,left,a,hl=>by
  have hi:next k%left.length<left.length:=Nat.mod_lt _ om;unfold TQ;rw[aL hi];dsimp only;obtain⟨ys,c,e⟩:=WS next n (k+1) (left.eraseIdx<|next k%left.length) (a.push left[next k%left.length]) (by rw[aa6,ei hi,hl];rfl);exact ay (left[next k%left.length]::ys) ((c.cons _).fT<|UA hi) (by rw[e];simp)
def adY{a:Type}(next:Nat->Nat)(xs:Array a):iJ (xM next xs).toList xs.toList:=by
 refine aB (WS next xs.size 0 xs.toList #[] (by simp)) λys b e=>?_;unfold xM;rw[e];simpa using b
noncomputable def slotAt(place:Array Nat)(i:Nat):Nat:=if i=0 then 0 else place.getD (i-1) 0+1
def OX(P:k_)(w:j_)(h:i_)(a:e_)(es:Array (Int×f_))(c:Nat)(t:bP)(ks ord:List Int)(first:f_)(i:Nat):Prop:=
 (nJ w=c_/\(∃f u,first=.int f u)/\bt (oH P w) (xM (w.params.setOrder a c) es).toList ord)\/
 (nJ w=d_/\(!t.plain&&decide (es.size > 1))=d_/\nN t.place/\ord=ks/\first=ci (slotAt t.place i))\/
 (nJ w=d_/\∃(b:e_)(pl:List Nat),first=.ref b/\IsTup h b (pl.map λj=>ci (j:Nat)).toArray/\iJ pl (List.range es.size)/\ord=pl.map λj=>ks.getD j 0)
def wU(P:k_)(w:j_)(h:i_)(it a:e_)(ord:List Int)(i:Nat):Prop:=
 ∃o es b t ks first,h.get? a=a_ o/\o.cls=.type "set"/\o.data=.set es b t/\t.fits es.size=c_/\bt (oH P w) es.toList ks/\t.led=(!nJ w)/\ord.length=es.size/\a≠it/\
  h.get? it=a_ {cls:=.type "set_iterator",data:=.fields #[first,ci i,.ref a,ci es.size,ci b]}/\OX P w h a es b t ks ord first i
section
variable{P:k_}{w:j_}{A:h_}{E:f_->g_->Prop}{s:g_}{it a:e_}{ord:List Int}{i:Nat}
def wU.keep(g:wU P w h it a ord i)(k:∀b o,o.cls≠.type "list"->h.get? b=a_ o->h'.get? b=a_ o):wU P w h' it a ord i:=by
 refine mX g λo es p t ks first q c d f u=>qE u λr l n ne e m=>⟨o,es,p,t,ks,first,(k _ _ (by rw[c];simp) q),c,d,f,r,l,n,ne,⟨k _ _ (by simp) e,?_⟩⟩;obtain m|m|⟨v,x,pl,y,⟨z,B,j,C⟩,D⟩:=m
 .exact .inl m
 .exact .inr (.inl m)
 exact .inr (.inr ⟨v,⟨x,pl,y,⟨z,k _ _ (by rw[j];simp) B,j,C⟩,D⟩⟩)
def KO(r:bt (oH P w) es ks)(b:j<ks.length):∃c t,es[j]?=a_ (c,.int ks[j] t):=by
 induction r generalizing j with
 | nil=>simp at b
 | cons h _ ih=>
  rcases j with _|j
  ·refine oA h λh1 d=>oE d λt h2=>?_
   rename_i e k _ _ _
   obtain⟨f,g⟩:=e;simp only at h2;subst h2;exact uV _ t xz
  exact yC (ih<|by simpa using b) λc t e=>uV _ t (by simpa using e)
def E8(h:Q (nJ w) s):be (bn P w) A setsByText Q E s:=by
 exact ah<|Tb<|aO h
def U8{es:Array (Int×f_)}{b slot c:Nat}{t:bP}{Q:Option (f_×Nat)->g_->Prop}(q:s.heap.get? a=a_ o)(d:o.data=.set es b t)(f:t.fits es.size=c_)(g:nJ w=c_)(h:Q (((xM (w.params.setOrder a b) es)[c]?).map λe=>(e.2,slot)) s):be (bn P w) A (setNext a slot c b) Q E s:=by
 refine ah<|BA q d f<|ah<|E8 ?_;rw[g,ei xz,ee (by simp)];refine ah<|ah<|BA q d f<|ah<|E8 ?_;rw[g,ei rfl];exact ah<|Tb<|aO<|aO h
def Us{es:Array (Int×f_)}{b slot c:Nat}{t:bP}{Q:Option (f_×Nat)->g_->Prop}(q:s.heap.get? a=a_ o)(d:o.data=.set es b t)(f:t.fits es.size=c_)(e:nJ w=d_)(g:t.led=c_)(hd:(!t.plain&&decide (es.size > 1))=d_)
  (h:Q (match es[gi t.place slot]?,t.place[gi t.place slot]? with | some (_,x),a_ j=>a_ (x,j+1) | _,_=>b_) s):be (bn P w) A (setNext a slot c b) Q E s:=by
 refine ah<|BA q d f<|ah<|E8 ?_;rw[e,ee dO];show be _ _ (if (!t.plain&&decide (es.size > 1))=c_ then _ else _) _ _ _;rw[hd,ee dO];refine ah (?_:be _ _ (if (!t.led&&!es.isEmpty)=c_ then _ else _) _ _ _);rw[g];exact aO<|aO h
def KW{t:bP}{n:Nat}(f:t.fits n=c_):t.place.size=n:=by
 simp only[bP.fits,jy,fC]at f;exact f.1
def Gk{h:i_}{vs:Array f_}{j:Nat}{v:f_}(e:h.get? it=a_ {cls:=.type "set_iterator",data:=.fields vs}):(h.update it<|vz (·.setIfInBounds j v)).get? it=a_ {cls:=.type "set_iterator",data:=.fields (vs.setIfInBounds j v)}:=
 zx _ e xz
def af1{Q:Option f_->g_->Prop}(g:wU P w s.heap it a ord i)(hi:i<ord.length)(k:∀h' t,wU P w h' it a ord (i+1)->gQ it s.heap h'->Q (a_<|.int ord[i] t) {s with heap:=h'}):be (bn P w) A (pyNext<|.ref it) Q E s:=by
 refine mX g λo es B t ks first q c d f F=>qE F λr l n ne e m=>?_;have I:s.TypeIs (.ref _) "set_iterator":=⟨_,e,xz⟩;have V:=zL r;rw[ko]at V;refine ah<|EM<|xq (name:=rX "__next__") I SF.slot_next<|rO SF.slot_next I SF.entry_next (?_:be _ _ (fieldsOf (.ref it) >>= _) _ _ s)<|SF.args_next _;refine ah<|ah<|Kt e<|aO ?_;refine ah<|SJ q d f ?_;simp only[bne_self_eq_false,tX,if_false,eP]
 have J:∀(nx:Nat)(u:Tok),OX P w ((s.heap.update it<|vz (·.setIfInBounds 0 (ci (nx:Nat)))).update it<|vz (·.setIfInBounds 1 (ci<|(i:Int)+1))) a es B t ks ord (ci (nx:Nat)) (i+1)->
   be (bn P w) A.in1 (do setField (.ref it) 0 (ci (nx:Nat));setField (.ref it) 1 (ci<|(i:Int)+1);ret (.int ord[i] u)) (λW s'=>∃v,W=Fin.done (Flow.ret v)/\be (bn P w) A (pure<|a_ v) Q E s') (λe s'=>be (bn P w) A (do
     let X <-Kv e (iI "StopIteration")
     if X=c_ then pure b_ else throw e) Q E s') s:=λnx u Y=>by
  have K:=Gk (j:=0) (v:=ci (nx:Nat)) e;have Z:=Gk (j:=1) (v:=ci<|(i:Int)+1) K;refine ah<|xy e xz (by simp)<|ah<|xy K xz (by simp)<|aO<|ay _ xz<|aO<|k _ u ?_<|(lD _ it _).fT<|lD _ it _;have p:=(lD s.heap it<|vz (·.setIfInBounds 0 (ci (nx:Nat)))).fT<|lD _ it<|vz (·.setIfInBounds 1 (ci<|(i:Int)+1));exact⟨o,es,B,t,ks,_,((p.2 a ne).fT q),c,d,f,r,l,n,ne,⟨Z,Y⟩⟩
 obtain⟨b,⟨f0,u0,rfl⟩,h⟩|⟨b,L,h,rfl,rfl⟩|⟨b,G,pl,rfl,h,H,M⟩:=m
 .refine yC (KO h hi) λC u x=>ah<|U8 q d f b ?_;have y:(xM (w.params.setOrder a B) es)[i]?=a_ (C,.int ord[i] u):=by rw[<-zy];exact x
  rw[y];exact J _ u<|.inl<|gg b ⟨_,_,xz⟩ h
 .have ps:=KW f;have N:i<t.place.size:=om;refine yC (KO r hi) λC u x=>?_
  have O:gi t.place ((slotAt t.place i:Nat):Int).toNat=i:=by
   rw[eP];unfold slotAt
   by_cases z:i=0
   .rw[ei z,z];exact UG h
   rw[ee z];have:=UH h (i:=i-1) om;rw[show t.place.getD (i-1) 0=t.place[i-1]' om by simp[xJ,show i-1<t.place.size by omega],this];omega
  refine ah<|Us q d f b (by rw[l,b];rfl) L ?_;have y:es[gi t.place ((slotAt t.place i:Nat):Int).toNat]?=a_ (C,.int ord[i] u):=by rw[O,<-zy];exact x
  have Bt:t.place[gi t.place ((slotAt t.place i:Nat):Int).toNat]?=a_ (t.place[i]):=by rw[O];exact aaN N
  rw[y,Bt];refine J _ u<|.inr<|.inl<|⟨b,L,h,xz,?_⟩;unfold slotAt;rw[ee<|Nat.succ_ne_zero _,Nat.add_sub_cancel,show t.place.getD i 0=t.place[i] by simp[xJ,N]]
 have pll:pl.length=es.size:=by have:=H.length_eq;simpa using this
 have R:i<pl.length:=om
 have S:pl[i]<ks.length:=by
  have:=H.mem_iff.mp<|tY R;rw[nU]at this;exact wf
 refine aY (id h) λot D T F=>oE F λn3 U=>ah<|ph D U ?_;have y:((pl.map λj=>ci (j:Nat)).toArray)[i]?=a_ (ci (pl[i]:Nat)):=by simp[R]
 dsimp only;rw[y];refine yC (KO r S) λC u x=>?_;refine ah<|ah<|BA q d f ?_;dsimp only;rw[ee (by simp),eP,<-zy,x]
 have eo:ord[i]=ks[pl[i]]:=by
  subst M;simp[S]
 refine aO<|ah<|xy e xz (by simp)<|aO<|ay _ xz<|aO ?_;have p:=lD s.heap it<|vz (·.setIfInBounds 1 (ci<|(i:Int)+1))
 have QP:G≠it:=λz=>by
  rw[z,e]at D;cases D;simp at T
 rw[<-eo];exact k _ u ⟨o,es,B,t,ks,_,(p.2 a ne).fT q,c,d,f,r,l,n,ne,Gk (j:=1) (v:=ci<|(i:Int)+1) e,.inr<|.inr ⟨b,G,pl,xz,⟨ot,(p.2 G QP).fT D,T,n3,U⟩,H,M⟩⟩ p
end
section
variable{P:k_}{w:j_}{A:h_}{E:f_->g_->Prop}{s:g_}{it a:e_}{ord:List Int}{i:Nat}
def Ww{Q:Option f_->g_->Prop}{R:PySem.Fin->g_->Prop}(c:A.handled=b_)(k:∀h',(∀b o,s.heap.get? b=a_ o->h'.get? b=a_ o)->Q b_ {s with heap:=h'}):
  be (bn P w) A.in1 (do let e <-newExc (iI "StopIteration") [];raiseNew e) R (λe s'=>be (bn P w) A (do
     let d <-Kv e (iI "StopIteration")
     if d=c_ then pure b_ else throw e) Q E s') s:=by
 refine ah ?_;refine ah<|rK (ah<|Kj (by first | rfl | (rfl))<|rK ?_<|by size_fits) (by size_fits);refine ah<|wpAny_handled ?_;rw[show A.in1.handled=b_ from c];refine ah<|aO<|wpAny_throw ?_;exact (ah<|BB ⟨_,eO _ xz,xz⟩ Ti<|aO<|k _ λb o e=>bE _<|bE _ e)
def af2{Q:Option f_->g_->Prop}(D:A.handled=b_)(g:wU P w s.heap it a ord ord.length)(k:∀h',(∀b o,b≠it->s.heap.get? b=a_ o->h'.get? b=a_ o)->Q b_ {s with heap:=h'}):be (bn P w) A (pyNext<|.ref it) Q E s:=by
 refine mX g λo es S t ks first q c d f u=>qE u λr l n ne e m=>?_;have F:s.TypeIs (.ref _) "set_iterator":=⟨_,e,xz⟩;have H:=zL r;rw[ko]at H;refine ah<|EM<|xq (name:=rX "__next__") F SF.slot_next<|rO SF.slot_next F SF.entry_next (?_:be _ _ (fieldsOf (.ref it) >>= _) _ _ s)<|SF.args_next _;refine ah<|ah<|Kt e<|aO ?_;refine ah<|SJ q d f ?_;simp only[bne_self_eq_false,tX,if_false,eP]
 have G:be (bn P w) A.in1 (do setField (.ref it) 2 gR;let e <-newExc (iI "StopIteration") [];raiseNew e) (λI s'=>∃v,I=Fin.done (Flow.ret v)/\be (bn P w) A (pure<|a_ v) Q E s') (λe s'=>be (bn P w) A (do
     let J <-Kv e (iI "StopIteration")
     if J=c_ then pure b_ else throw e) Q E s') s:=by
  have x:=lD s.heap it<|vz (·.setIfInBounds 2 gR);exact ah<|xy e xz (by simp) (Ww D λh' B=>k _ λb o z y=>B b o<|(x.2 b z).fT y)
 obtain⟨p,⟨T,U,rfl⟩,h⟩|⟨p,K,h,rfl,rfl⟩|⟨p,V,pl,rfl,h,W,L⟩:=m
 .refine ah (U8 q d f p ?_);have pl:=zL h;rw[ko]at pl;rw[SG li];exact G
 .have ps:=KW f;refine ah (Us q d f p (by rw[l,p];rfl) K ?_)
  have M:gi t.place (slotAt t.place ord.length)=ord.length:=by
   unfold slotAt
   by_cases z:ord.length=0
   .rw[ei z,z];exact UG h
   rw[ee z];have:=UH h (i:=ord.length-1) om;rw[show t.place.getD (ord.length-1) 0=t.place[ord.length-1]' om by simp[xJ,show ord.length-1<t.place.size by omega],this];omega
  have C:es[gi t.place (slotAt t.place ord.length)]?=none:=by rw[M];exact SG li
  simp only[eP];rw[C];exact G
 refine aY (id h) λX N Y u=>oE u λZ O=>?_;have R:pl.length=ord.length:=by rw[L,aA]
 refine ah<|ph N O ?_;have C:((pl.map λj=>ci (j:Nat)).toArray)[ord.length]?=none:=SG (by simp[R]);dsimp only;rw[C];have x:=(lD s.heap _<|vz (·.setIfInBounds 0 (ci 0))).fT<|lD _ it<|vz (·.setIfInBounds 2 gR);exact ah<|xy e xz (by simp)<|ah<|xy (Gk (j:=0) (v:=ci 0) e) xz (by simp) (Ww D λh' B=>k _ λb o z y=>B b o<|(x.2 b z).fT y)
def agf(v:A.handled=b_)(m:S≠it)(I:ord.length<=bZ):∀(k i:Nat)(s:g_)(d:List f_)(c:Nat),ord.length-i=k->i<=ord.length->wU P w s.heap it a ord i->s.heap.get? S=a_ {cls:=.type "list",data:=.seq d.toArray c}->IntsAre d (ord.take i)->(∀h' f n,(∀b o,b≠it->b≠S->s.heap.get? b=a_ o->h'.get? b=a_ o)->h'.get? S=a_ {cls:=.type "list",data:=.seq f.toArray n}->IntsAre f ord->R (.ok<|.ret res) {s with heap:=h'})->codeAny (bn P w) A (.builtin "list.extend.loop" ⟨[.ref S,.ref it,res],[]⟩) R s:=by
 intro k
 induction k with
 | zero=>
  intro i s d c x hi g h ha j;have B:i=ord.length:=li;subst B;refine(tZ F.entry_extend_loop (?_:be _ _ _ _ _ s));rw[(vv F.plain_extend_loop _)];refine(ah (af2 v g λh' e=>?_):be _ A.in1 _ _ _ s);rw[ED]at ha;exact aO<|j _ _ c (λb o z _ y=>e b o z y) (e S _ m h) ha
 | succ k ih=>
  intro i s d c x hi g h ha j;have C:i<ord.length:=li;refine(tZ F.entry_extend_loop (?_:be _ _ _ _ _ s));rw[(vv F.plain_extend_loop _)];refine(ah (af1 g C λh' t g' p=>?_):be _ _ _ _ _ s);have l:=(p.2 S m).fT h;have J:d.length=i:=by rw[ha.length,eZ];exact xk
  have q:=lD h' S<|jz (·.push (iz ord[i] t));refine ah<|BC l xz (aO ⟨vy F.plain_extend_loop _,?_⟩) (by rw[dA];lia) (by rw[Array.size_push,dA];lia)
  have D:(h'.update S<|jz (·.push (iz ord[i] t))).get? S=a_ {cls:=.type "list",data:=.seq (d++[iz ord[i] t]).toArray (c+1)}:=by
   have:=zx (jz (·.push (iz ord[i] t))) l rfl;rw[this];simp[jz]
  refine ih _ _ _ _ li xf (g'.keep λb o z y=>(q.2 b λw=>?_).fT y) D ?_ λh3 f n e G H=>?_
  .rw[w,l]at y;cases y;exact z xz
  .rw[iq,aL _];exact ksk_snoc ha
  refine j _ _ _ (λb o r u y=>e b o r u<|(q.2 b u).fT<|(p.2 b r).fT y) G H
end
def aeL(h:xs.size<=1):nN xs:=by
 obtain⟨l⟩:=xs;unfold nN
 match l,h with
 | [],_=>exact .nil
 | [x],_=>exact SA _ _
 | _::_::_,h=>simp at h
def range_getD(ks:List Int):(List.range ks.length).map (λj=>ks.getD j 0)=ks:=by
 apply JI
 .simp
 intro i h1 h2;simp[h2]
section
variable{P:k_}{w:j_}{A:h_}{E:f_->g_->Prop}{s:g_}{a:e_}{ns:List Int}
def aeY(S:lg P w s.heap a ns)(D:ns.length<=bZ)(k:∀it ord h' d,iJ ord ns->s.heap.objs.size<=it->wU P w h' it a ord 0->(∀b o,s.heap.get? b=a_ o->h'.get? b=a_ o)->Q (.ref it) {s with heap:=h',drawn:=d}):be (bn P w) A (pyIter<|.ref a) Q E s:=by
 refine BJ S λo es g t ks q x d r p G=>gH G λnd f z=>?_;have B:s.TypeIs (.ref a) "set":=⟨o,q,x.1⟩;have h:=zL r;rw[ko]at h;have la:=bV q
 refine wpAny_pyIter_slot B F.slot_set_iter (rO F.slot_set_iter B SF.ado (?_:be _ _ (do
  let n <-aaR a
  let first <-if <-setDrawn a then newTuple ((<-drawOrder n (List.range n)).map λ(i:Nat)=>ci i) else pure (ci 0)
  ret (<-newFields "set_iterator" [first,ci 0,.ref a,ci n,ci<|<-setEpoch a])) _ _ s)<|F.args_set_iter_1 _)
 refine ah<|ah<|SJ q d f<|aO<|ah<|ah<|BA q d f<|ah<|E8<|aO ?_;show be _ _ (if (!nJ w&&(!t.plain&&decide (es.size > 1)))=c_ then _ else _) _ _ _
 have mk:∀(first:f_)(ord:List Int)(h1:i_)(d1:Drawn),iJ ord ks->(∀b o,s.heap.get? b=a_ o->h1.get? b=a_ o)->s.heap.objs.size<=h1.objs.size->(∀h2:i_,(∀b o,h1.get? b=a_ o->h2.get? b=a_ o)->OX P w h2 a es g t ks ord first 0)->
   be (bn P w) A.in1 (do ret (<-newFields "set_iterator" [first,ci 0,.ref a,ci es.size,ci<|<-setEpoch a])) (λH s'=>∃v,H=Fin.done (Flow.ret v)/\∃T f,s'.TypeIs v T/\typeLookup (.type T) "__next__"=pure (a_ f)/\Q v s') E {s with heap:=h1,drawn:=d1}:=λfirst ord h1 d1 po k1 C I=>by
  refine ah<|wpAny_setEpoch_of (k1 _ _ q) d f<|ah<|rK<|aO<|ay _ xz<|dN ("set_iterator") _ ⟨_,eO _ xz,xz⟩ SF.slot_next.lookup ?_;have kp:∀b o,h1.get? b=a_ o->(h1.push {cls:=.type "set_iterator",data:=.fields [first,ci 0,.ref a,ci es.size,ci g].toArray}).get? b=a_ o:=λb o e=>bE _ e;refine k _ ord _ d1 (po.fT p) C ⟨o,es,g,t,ks,first,kp _ _<|k1 _ _ q,x.1,d,f,r,z.led,by rw[po.length_eq,h],dH<|ip la C,eO _ xz,I _ kp⟩ λb o e=>kp b o<|k1 b o e
 by_cases m:nJ w=c_
 .refine aB (Kh (adY (w.params.setOrder a g) es) r) λord J K=>?_;rw[ee (by rw[m];simp)];exact ah<|aO (mk (ci 0) ord s.heap s.drawn J (λ_ _ e=>e) (az _) λh2 _=>.inl<|gg m ⟨_,_,xz⟩ K)
 have u:nJ w=false:=by simpa using m
 by_cases hd:(!t.plain&&decide (es.size > 1))=c_
 .rw[ei (by rw[u,hd];rfl)];refine ah (Vm es.size (List.range es.size) s (by simp) λys d1 c=>ah<|Th ?_ ?_)
  .have L:∀h2:i_,(∀b o,(s.heap.push {cls:=.type "tuple",data:=.seq (ys.map λ(i:Nat)=>ci i).toArray}).get? b=a_ o->h2.get? b=a_ o)->IsTup h2 s.heap.objs.size (ys.map λ(i:Nat)=>ci (i:Nat)).toArray:=λh2 y=>⟨_,y _ _<|eO _ xz,xz,_,xz⟩;refine mk (.ref s.heap.objs.size) (ys.map λj=>ks.getD j 0) (s.heap.push {cls:=.type "tuple",data:=.seq (ys.map λ(i:Nat)=>ci i).toArray}) d1 ?_ (λb o e=>bE _ e) (by rw[lZ];exact kr _) λh2 y=>.inr<|.inr ⟨u,_,ys,xz,L h2 y,c,xz⟩;have:=c.map λj=>ks.getD j 0;rw[h,range_getD]at this;exact this
  rw[aA,c.length_eq,qh,h,p.length_eq];exact D
 have l:(!t.plain&&decide (es.size > 1))=false:=by simpa using hd
 rw[ee (by rw[l];simp)];refine ah<|aO (mk (ci 0) ks s.heap s.drawn (iJ.refl _) (λ_ _ e=>e) (az _) λh2 _=>.inr<|.inl<|⟨u,l,?_,xz,xz⟩);rcases c:t.plain with _|_
 ·rw[c]at l;refine aeL ?_;rw[KW f];simpa using l
 exact z.asc c
def acC(G:A.handled=b_)(S:lg P w s.heap a ns)(m:ns.length<=bZ)(k:∀vs ord h' d,IntsAre vs ord->iJ ord ns->(∀b o,s.heap.get? b=a_ o->h'.get? b=a_ o)->Q vs {s with heap:=h',drawn:=d}):be (bn P w) A (collect<|.ref a) Q E s:=by
 have la:a<s.heap.objs.size:=by
  exact WU S λo es H t ks q _=>bV q
 refine ah<|wpAny_runValue<|tZ F.entry_proto_collect (?_:be _ _ _ _ _ s);rw[(vv F.plain_proto_collect _)];refine(ah<|rK<|aO ⟨vy F.plain_list_iadd _,(tZ F.entry_list_iadd ?_)⟩);rw[(vv F.plain_list_iadd _)];show be _ A.in1 (aaF (.ref s.heap.objs.size) (.ref a)<|.ref s.heap.objs.size) _ _ _;generalize f:s.heap.push {cls:=.type "list",data:=.seq ([]:List f_).toArray}=H1;have kp:∀b o,s.heap.get? b=a_ o->H1.get? b=a_ o:=λb o e=>by rw[<-f];exact bE _ e
 have I:H1.get? s.heap.objs.size=a_ {cls:=.type "list",data:=.seq ([]:List f_).toArray}:=by rw[<-f];exact eO _ xz
 have n:H1.objs.size=s.heap.objs.size+1:=by rw[<-f];exact lZ _ _
 have p:=S.keep λo e=>kp _ _ e
 have r:Tz {s with heap:=H1} (.ref a) "set":=by
  exact jk p λo es H t ks J=>gH J λq x _=>ay o q x.1
 refine ah<|J' r ?_;have K:aaQ (.ref s.heap.objs.size) (.ref a)=false:=by simp[aaQ,vA la]
 have g2:(iI "set"==iI "list")=false:=qc;have L:(iI "set"==iI "tuple")=false:=qc;simp only[K,g2,L,Bool.or_false,tX,if_false];refine ah (aeY (s:={s with heap:=H1}) p m λit ord h2 u po v g h=>ah<|mQ ?_)
 have i:Tz {s with heap:=h2,drawn:=u} (.ref a) "set":=by
  exact aB r λo e c=>ay o (h _ _ e) c
 refine ah<|wpAny_specialOf i SF.ah4 ?_
 wp_delta
 refine(ah<|BB i (b:=c_) (by rw[isSubtype_type];kernel_rfl) (?_:be _ A.in1 (typeOf (dq a) >>= _) _ _ _));refine ah<|J' i<|aO ?_;rw[ei qc];have M:s.heap.objs.size≠it:=λz=>eu v (by rw[<-z,n];exact Nat.not_succ_le_self _);have j:=h _ _ I;have B:=zx (jz (·.push gR)) j rfl;have C:=(lD h2 s.heap.objs.size<|jz (·.push gR)).fT<|lD _ s.heap.objs.size<|jz (·.pop);refine ah<|vD<|ah (?_:be _ A.in1 (E9 s.heap.objs.size (·.push .none) >>= λ_=>E9 s.heap.objs.size (·.pop)) _ _ _);refine ah<|BC j xz<|BC B xz<|aO ⟨vy F.plain_extend_loop _,agf (P:=P) (w:=w) (it:=it) (a:=a) (ord:=ord) G M (by rw[po.length_eq];exact m) (ord.length-0) 0 _ [] 2 xz (ba _) (g.keep λb o z y=>(C.2 b λw=>?_).fT y) (zx (jz (·.pop)) B rfl) .nil λh3 T c N O R=>?_⟩
 .rw[w,j]at y;cases y;exact z xz
 refine(ah<|Kt O<|aO ?_)
 have l:∀b o,s.heap.get? b=a_ o->b≠it/\b≠s.heap.objs.size:=λb o e=>by
  have:=bV e;have D:H1.objs.size<=it:=v;rw[n]at D;exact⟨dH<|ip this (dC (kr _) D),dH this⟩
 exact k _ ord h3 u R po λb o e=>N b o (l b o e).1 (l b o e).2<|(C.2 b (l b o e).2).fT<|h b o<|kp b o e
end
noncomputable def C7(P:k_)(w:j_)(a:e_)(ns:List Int):HO:=.ext λh=>lg P w h a ns
def agT{P:k_}{w:j_}(S:lg P w h a ns):fq P w H h a (C7 P w a ns):=by
 exact WU (id S) λo es b t ks q _=>gg S ⟨o,q⟩ λh1 h2 g k=>g.keep k
def WT(ns:List Int):qK (λi=>ns.getD i 0) ns.length=qL ns:=by
 unfold qK;rw[range_getD]
def V0(ns:List Int):(qL ns).length<=ns.length:=by
 rw[<-WT];exact KP _ _
section
variable{X:Cx}
def YT(P:k_)(w:j_)(K:u_):List V->Hp->VK->Prop:=λxs H Q=>∃(p:e_)(ns:List Int),xs=[.ref p]/\ag K H p (ns.map V.int)/\ns.length<4000/\∀a,H a=b_->Q (.ref a) (db H a<|C7 P w a<|qL ns)
def aeC(g:X.calm=c_):i7 X (.type "set") (YT X.prog X.w X.K):=by
 refine λp_ s σ H xs us Q I r h=>ou h λp ns a i l q=>?_;subst a;refine aB (vals1 r) λu a j=>?_;subst a;cases j;refine aY (I.list i) λb c pl m=>?_;have d:=c.length;rw[aA]at d;have e:b.toArray.size=b.length:=dA;refine aeZ (ns:=ns) (I.ok.hd g) pl.isList (SK▸intsAre_of c) (by rw[e];unfold BZ;lia) λh' tk S k=>?_;rw[e,<-d,WT]at S;have hn:=I.aU.fresh<|az _;have f:=I.jX (az _) hn;have J:dc X _ _ H {s with heap:=h',toks:=tk}:=I.kept k;exact dN (.ref _) _ (dc.adopt J hn I.sz f.2.1 f.2.2.2.2.1 f.2.2.2.2.2<|agT S) xz<|q _ hn
def XT(P:k_)(w:j_):List V->Hp->VK->Prop:=λxs H Q=>∃(a:e_)(ns:List Int),xs=[.ref a]/\H a=a_ (C7 P w a ns)/\ns.length<64/\∀l b,H l=b_->iJ b ns->b.Pairwise (· < ·)->Q (.ref l) (db H l<|.lst<|b.map V.int)
def ack(G:X.calm=c_):i7 X (.builtin "sorted") (XT X.prog X.w):=by
 refine λp_ s σ H xs us Q I r h=>ou h λa ns f ha h64 q=>?_;subst f;refine aB (vals1 r) λu f K=>?_;subst f;cases K;have S:=(I.aU a _ ha).1
 have nd:ns.Nodup:=by
  exact BJ S λo es D t ks _ _ _ _ _ f=>oA f λnd _=>nd
 refine KC (H:=H) (acC (I.ok.hd G) S (fR▸w5) λvs ord h' d p po k=>?_);have ol:=po.length_eq;have vl:=p.length;have E:=po.nodup_iff.mpr nd;refine oE I.fr λm F=>?_;have J:dc X _ _ H {s with heap:=h',drawn:=d}:=dc.regrown I F.ns (let ⟨o,es,D,e,rr⟩:=F.ns;⟨o,es,D,k _ _ e,rr⟩) λb o _ e=>k b o e
 have inj:∀i j,i<vs.length->j<vs.length->ord.getD i 0=ord.getD j 0->i=j:=λi j hi y e=>by
  have L:i<ord.length:=wf;have M:j<ord.length:=wf;have e':ord[i]=ord[j]:=by simpa[L,M]using e
  obtain z|z|z:=zC i j
  .exact eu e' (km.mp E i j _ _ z)
  .exact z
  exact eu e'.g8 (km.mp E j i _ _ z)
 refine⟨ord.map _,⟨λi=>ord.getD i 0,J,Ky p,⟨li,inj,λh2=>?_⟩,λl N hn O=>?_⟩⟩
 .refine⟨oneType',λs' kk=>⟨λQ' P=>?_,λi j C hi y ne c=>?_⟩⟩
  .match vs,p,h2 with
   | v1::v2::rest,p,_=>rw[keyKind_ints p];exact aO P
  unfold kas_ask;refine oE (Tq p i _<|aL hi) λR A=>oE (Tq p j _<|aL y) λT v=>?_;have U:vs.getD i gR=.int (ord.getD i 0) R:=by rw[<-A];simp[hi]
  have g2:vs.getD j gR=.int (ord.getD j 0) T:=by rw[<-v];simp[y]
  rw[U,g2];exact kat_lt_int c
 have W:Gs ((ord.map λn=>(n,V.int n)).map (·.2)) (λi=>((ord.map λn=>(n,V.int n)).map (·.1)).getD i 0) N:=by
  rw[jh,jh];have A:(ord.map<|(λx:Int×V=>x.2) ∘ λn=>(n,V.int n))=ord.map V.int:=rfl
  have v:(ord.map<|(λx:Int×V=>x.1) ∘ λn=>(n,V.int n))=ord:=by
   show ord.map (λn=>n)=ord;simp
  rw[A,v];exact O
 refine aY (TF W) λqs g Y f=>?_;subst f
 have Z:∀x∈qs,x.2=V.int x.1:=λx B=>by
  refine aB (cj.mp<|g.mem_iff.mp B) λn _ e=>?_;rw[<-e]
 have em:qs.map (·.2)=(qs.map (·.1)).map V.int:=by
  rw[jh];exact SM λx B=>Z x B
 rw[em];refine q l (qs.map (·.1)) hn ?_ ?_
 .have:=g.map (·.1);rw[jh]at this
  have v:(ord.map<|(λx:Int×V=>x.1) ∘ λn=>(n,V.int n))=ord:=by
   show ord.map (λn=>n)=ord;simp
  rw[v]at this;exact this.fT po
 exact JB.mpr Y
end
end L2
namespace L5
structure Sp where
 set:Option Nat
 kill:Bool
 nx:List Nat
noncomputable def behind(s:Sp)(names:Nat):Nat:=if s.kill=c_ then 0 else match s.set with
 | some m=>names ||| (1 <<< m)
 | none=>names
def Sub(a b:Nat):Prop:=∀k,a.testBit k=c_->b.testBit k=c_
def without:a-(a &&& b)=0↔Sub a b:=by
 have d:a &&& b<=a:=Nat.and_le_left;constructor
 .intro h k c;have e:a &&& b=a:=om;have:(a &&& b).testBit k=true:=by rw[e];exact c
  rw[Nat.testBit_and,jy]at this;exact this.2
 intro h
 have e:a &&& b=a:=by
  apply aa3;intro k;rw[Nat.testBit_and];rcases c:a.testBit k with _|_;rfl;rw[h k c];rfl
 omega
def ale(h:¬Sub b a):a<a ||| b:=by
 have c:a<=a ||| b:=To
 obtain h1|h1:=Nat.lt_or_eq_of_le c
 .exact h1
 exfalso;apply h;intro k d;rw[h1,Tn,d,Bool.or_true]
def MY:(1 <<< m).testBit k=decide (m=k):=by
 rw[SV,Nat.testBit_two_pow]
def adv:(behind s names).testBit k=c_↔s.kill=d_/\(names.testBit k=c_\/s.set=a_ k):=by
 unfold behind;cases a:s.kill with
 | true=>simp
 | false=>
  rcases b:s.set with _|m;simp;show (names ||| 1 <<< m).testBit k=c_↔_;rw[Tn,MY,Bool.or_eq_true,decide_eq_true_eq];simp
noncomputable abbrev g6(row:List Nat)(i:Nat):Nat:=row.getD i 0
def NY(p:List Sp)(m:Nat)(row:List Nat):Prop:=∀(j:Nat)(s:Sp),j<m->p[j]?=a_ s->∀a∈s.nx,Sub (behind s<|g6 row j)<|g6 row a
def sum_set(ha:a<row.length):(row.set a v).sum+g6 row a=row.sum+v:=by
 induction row generalizing a with
 | nil=>simp at ha
 | cons x r ih=>
  rcases a with _|a
  ·simp ;omega
  have:=ih (by simpa using ha);simp only[abi,List.sum_cons];have e:g6 (x::r) (a+1)=g6 r a:=by simp 
  rw[e];omega
end L5
namespace L2
def x9{J:It}{n:Nat}{g:TG}{f:TS}{D:Ends}{σ:St}{H:Hp}(Pv:Nat->St->Hp->Prop)(j:Pv 0 σ H)(k:∀i σ H,i<n->Pv i σ H->J.go i H)(l:∀σ H,Pv n σ H->J.stop n H)(o:∀i σ H,i<n->Pv i σ H->∀x H',J.wH i H x H'->g x σ H' λa b=>f {D with nx:=Pv<|i+1,ct:=Pv<|i+1,bk:=D.nx} a b)(hd:∀σ H,Pv n σ H->D.nx σ H):∃W:Nat->Nat->St->Hp->Prop,(∃m,W 0 m σ H)/\∀i m σ H,W i m σ H->(J.stop i H/\D.nx σ H)\/(J.go i H/\∃N:St->Hp->Prop,(∀c H',N c H'->∃h,h<m/\W (i+1) h c H')/\∀x H',J.wH i H x H'->g x σ H' λa b=>f {D with nx:=N,ct:=N,bk:=D.nx} a b):=by
 refine⟨λi m σ H=>m=n-i/\i<=n/\Pv i σ H,⟨n,by simp,ba _,j⟩,?_⟩;refine λi m σ H q=>gH q λr hi p=>?_;subst r
 by_cases d:i<n
 .exact .inr ⟨k i _ H d p,⟨Pv<|i+1,λc H' s=>⟨n-(i+1),om,xz,d,s⟩,o i _ H d p⟩⟩
 have e:i=n:=li;subst e;exact .inl ⟨l _ H p,hd _ H p⟩
end L2
namespace L2
open PySem.SeqAt
noncomputable instance aq1:DecidableEq bD:=Classical.typeDecidableEq bD
noncomputable def cu:Nat->bD->Bool
 | _,.int _=>c_
 | n+1,.tuple xs=>xs.all<|cu n
 | _,_=>d_
noncomputable def GV:Nat->bD->Nat
 | n+1,.tuple xs=>(xs.map<|GV n).sum+1
 | _,_=>1
def jA(h:cu n d=c_):(∃i,d=.int i)\/∃m xs,n=m+1/\d=.tuple xs/\∀x∈xs,cu m x=true:=by
 cases d with
 | int i=>exact .inl ⟨i,xz⟩
 | tuple xs=>
  rcases n with _|m;exact nomatch h;exact .inr ⟨m,xs,xz,xz,lY.mp h⟩
 | _=>cases n <;> exact nomatch h
def kR(r:Reads h v (.int i) as):∃t,v=.int i t:=by cases r with | int i t=>exact⟨t,rfl⟩
def mh(r:Reads h v (.tuple xs) as):∃(a:e_)(o:cP)(vs:Array f_)(n:Nat),v=.ref a/\h.get? a=a_ o/\o.cls=.type "tuple"/\o.data=.seq vs n/\Ci h vs.toList xs as:=by
 cases r with
 | tuple e c d r=>exact⟨_,_,_,_,xz,e,c,d,r⟩
theorem mm:∀{vs:List f_}{ds:List bD}{a:List e_},Ci h vs ds a->bt (λv d=>∃bs,Reads h v d bs) vs ds
 | _,_,_,.nil=>.nil
 | _,_,_,.cons r t=>.cons ⟨_,r⟩<|mm t
def U2:∀{n m:Nat}{d e:bD}{v:f_}{c bs:List e_},cu n d=c_->cu m e=c_->Reads h v d c->Reads h v e bs->d=e:=by
  intro n
  induction n with
  | zero=>
   intro m d e v c bs h1 h2 f r2;obtain⟨i,rfl⟩|⟨k,xs,z,_⟩:=jA h1
   .obtain⟨t,rfl⟩:=kR f;obtain⟨j,rfl⟩|⟨k,ys,rfl,rfl,_⟩:=jA h2
    .obtain⟨u,e⟩:=kR r2;cases e;rfl
    obtain⟨a,o,vs,n,e,_⟩:=mh r2;cases e
   cases z
  | succ k ih=>
   intro m d e v c bs h1 h2 f r2;obtain⟨i,rfl⟩|⟨k',xs,z,rfl,A⟩:=jA h1
   .obtain⟨t,rfl⟩:=kR f;obtain⟨j,rfl⟩|⟨k,ys,rfl,rfl,_⟩:=jA h2
    .obtain⟨u,e⟩:=kR r2;cases e;rfl
    obtain⟨a,o,vs,n,e,_⟩:=mh r2;cases e
   cases z;obtain⟨a,o,vs,n,rfl,B,c1,d1,C⟩:=mh f;obtain⟨j,rfl⟩|⟨D,ys,rfl,rfl,g2⟩:=jA h2
   .obtain⟨u,e⟩:=kR r2;cases e
   obtain⟨J,o',K,L,E,g,M,r,F⟩:=mh r2;cases E;rw[B]at g;cases g;rw[d1]at r;cases r
   have G:∀{l:List f_}{xs ys:List bD},bt (λv d=>∃bs,Reads h v d bs) l xs->bt (λv d=>∃bs,Reads h v d bs) l ys->(∀x∈xs,cu k x=c_)->(∀y∈ys,cu D y=c_)->xs=ys:=by
    intro l
    induction l with
    | nil=>intro xs ys p q _ _;cases p;cases q;rfl
    | cons v l il=>
     intro xs ys p q s w;cases p with
     | cons a t=>
      cases q with
      | cons b u=>
       obtain⟨c,a⟩:=a;obtain⟨bs,b⟩:=b;rw[ih (s _ b9) (w _ b9) a b,il t u (λx H=>s x<|cx _ H) λy I=>w y<|cx _ I]
   rw[G (mm C) (mm F) A g2]
def T8(k:∀(b:e_)(o:cP)(vs:Array f_)(n:Nat),h.get? b=a_ o->o.data=.seq vs n->h'.get? b=a_ o):∀{n:Nat}{d:bD}{v:f_}{c:List e_},cu n d=c_->Reads h v d c->∃bs,Reads h' v d bs:=by
  intro n
  induction n with
  | zero=>
   intro d v c g r;obtain⟨i,rfl⟩|⟨k,xs,z,_⟩:=jA g
   .obtain⟨t,rfl⟩:=kR r;exact⟨_,.int i t⟩
   cases z
  | succ m ih=>
   intro d v c g r;obtain⟨i,rfl⟩|⟨y,xs,z,rfl,f⟩:=jA g
   .obtain⟨t,rfl⟩:=kR r;exact⟨_,.int i t⟩
   cases z;obtain⟨a,o,vs,n,rfl,j,c1,d1,s⟩:=mh r
   have all:∀{l:List f_}{xs:List bD},bt (λv d=>∃bs,Reads h v d bs) l xs->(∀x∈xs,cu m x=c_)->∃bs,Ci h' l xs bs:=by
    intro l xs p
    induction p with
    | nil=>exact λ_=>⟨_,.nil⟩
    | cons a t it=>
     intro e;obtain⟨c,a⟩:=a;obtain⟨bs,q⟩:=ih (e _ b9) a;obtain⟨cs,u⟩:=it λx w=>e x<|cx _ w;exact⟨_,.cons q u⟩
   obtain⟨bs,q⟩:=all (mm s) f;exact⟨_,.tuple (k _ _ _ _ j d1) c1 d1 q⟩
section
variable{prog:k_}{w:j_}{E:f_->g_->Prop}
def ajP:∀{n:Nat}{d:bD}{v:f_}{c:List e_}{A:h_}{s:g_}{Q:Int->g_->Prop},cu n d=c_->Reads s.heap v d c->A.units+n<cLine->Q (CU n d) {heap:=s.heap,gens:=s.gens,drawn:=s.drawn,toks:=s.toks+GV n d,os:=s.os}->be (bn prog w) A (pyHash v) Q E s:=by
 intro n
 induction n with
 | zero=>
  intro d v c A s Q g r B q;obtain⟨i,rfl⟩|⟨k,xs,z,_⟩:=jA g
  .obtain⟨t,rfl⟩:=kR r;exact SY q
  cases z
 | succ m ih=>
  intro d v c A s Q g r B q;obtain⟨i,rfl⟩|⟨H,xs,z,rfl,C⟩:=jA g
  .obtain⟨t,rfl⟩:=kR r;exact SY q
  cases z;obtain⟨a,o,vs,n,rfl,u,c1,d1,D⟩:=mh r;have ty:=Kd ⟨o,u,c1,n,d1⟩;refine W.pyHash_slot ty F.slot_tuple_hash F.entry_tuple_hash (F.args_tuple_hash_1 _) xz (.inr li) ?_;refine ah (aO ?_);refine ah<|SO u d1 (ah ?_);rw[<-abl];refine JE _ (λl b s'=>∃done rest,xs=done++rest/\b.toList=done.map (CU m)/\bt (λv d=>∃bs,Reads s.heap v d bs) l rest/\s'={heap:=s.heap,gens:=s.gens,drawn:=s.drawn,toks:=s.toks+(done.map<|GV m).sum,os:=s.os}) _ ?_ ?_ _ _ ⟨[],xs,xz,xz,(mm D),xz⟩
  .rintro x rest b s' ⟨y,rs,e,f,p,es⟩;cases p with
   | @cons _ d2 _ ds j t=>
    obtain⟨bs,j⟩:=j;subst es;refine ah<|ih (C _<|by rw[e];simp) j (by lia) ?_;refine aO ⟨y++[d2],ds,by rw[e];simp,by simp[f],t,?_⟩;simp[Nat.add_assoc]
  rintro b s' ⟨y,rs,e,f,p,es⟩;cases p;subst es;rw[qj]at e;subst e;refine kP (wpAny_ret_mkInt (Q:=λv s2=>∃t,v=.int (Sx b.toList) t/\Q (reduceHash<|Sx b.toList) s2) ⟨_,xz,?_⟩) (λI s2⟨v,e,t,G,h⟩=>⟨_,t,by rw[e,G],h⟩) λ_ _ x=>x;rw[f];exact q
def Zf:∀{n m:Nat}{d e:bD},cu n d=c_->cu m e=c_->d.eqv e=decide (d=e):=by
 intro n
 induction n with
 | zero=>
  intro m d e h1 h2;obtain⟨i,rfl⟩|⟨k,xs,z,_⟩:=jA h1
  .obtain⟨j,rfl⟩|⟨k,ys,rfl,rfl,_⟩:=jA h2
   .rw[kQ];by_cases z:i=j
    .subst z;simp
    rw[eT λy=>z (by cases y;rfl)];exact fi.mpr z
   rw[kQ,eT (by intro z;cases z)] <;> (intros;simp_all)
  cases z
 | succ k ih=>
  intro m d e h1 h2;obtain⟨i,rfl⟩|⟨k',xs,z,rfl,c⟩:=jA h1
  .obtain⟨j,rfl⟩|⟨k,ys,rfl,rfl,_⟩:=jA h2
   .rw[kQ];by_cases z:i=j
    .subst z;simp
    rw[eT λy=>z (by cases y;rfl)];exact fi.mpr z
   rw[kQ,eT (by intro z;cases z)] <;> (intros;simp_all)
  cases z;obtain⟨j,rfl⟩|⟨f,ys,rfl,rfl,g2⟩:=jA h2
  .rw[kQ,eT (by intro z;cases z)] <;> (intros;simp_all)
  have g:∀{xs ys:List bD},(∀x∈xs,cu k x=c_)->(∀y∈ys,cu f y=c_)->t7 xs ys=decide (xs=ys):=by
   intro xs
   induction xs with
   | nil=>intro ys _ _;cases ys <;> rw[t7] <;> simp
   | cons x xs il=>
    intro ys a b;rcases ys with _|⟨y,ys⟩
    ·rw[t7] <;> simp
    rw[t7,ih (a _ b9)<|b _ b9,il (λx h=>a x<|cx _ h) λy l=>b y<|cx _ l]
    by_cases z:x=y <;> by_cases o:xs=ys <;> simp[z,o]
  rw[kQ,g c g2]
  by_cases z:xs=ys
  .subst z;simp
  rw[eT z,eT λy=>z (by cases y;rfl)]
def GU:∀{n:Nat}{d:bD},cu n d=c_->d.canLay0=c_/\d.depth<=n+1:=by
 intro n
 induction n with
 | zero=>
  intro d g;obtain⟨i,rfl⟩|⟨k,xs,z,_⟩:=jA g
  .rw[zO,EO];exact⟨xz,qc⟩
  cases z
 | succ m ih=>
  intro d g;obtain⟨i,rfl⟩|⟨j,xs,z,rfl,f⟩:=jA g
  .rw[zO,EO];exact⟨xz,li⟩
  cases z
  have all:∀{xs:List bD},(∀x∈xs,cu m x=c_)->vw xs=c_/\zG xs<=m+1:=by
   intro xs
   induction xs with
   | nil=>intro _;rw[vw,zG];exact⟨xz,ba _⟩
   | cons x xs il=>
    intro e;obtain⟨a,b⟩:=ih<|e _ b9;obtain⟨c,d⟩:=il λx h=>e x<|cx _ h;rw[vw,zG,a,c];exact⟨xz,li⟩
  obtain⟨a,b⟩:=all f;rw[zO,EO];exact⟨a,li⟩
def ahj:∀{n:Nat}{d:bD}{v:f_}{e:List e_}{A:h_}{s:g_}{Q:Bool->g_->Prop},cu n d=c_->Reads s.heap v d e->Q c_ s->be (bn prog w) A (eqIsQuiet n v) Q E s:=by
 intro n
 induction n with
 | zero=>
  intro d v e A s Q g r q;obtain⟨i,rfl⟩|⟨k,xs,z,_⟩:=jA g
  .obtain⟨t,rfl⟩:=kR r;rw[eqIsQuiet_byValue _ rfl];exact aO q
  cases z
 | succ m ih=>
  intro d v e A s Q g r q;obtain⟨i,rfl⟩|⟨y,xs,z,rfl,j⟩:=jA g
  .obtain⟨t,rfl⟩:=kR r;rw[eqIsQuiet_byValue _ rfl];exact aO q
  cases z;obtain⟨a,o,vs,n,rfl,f,c1,d1,u⟩:=mh r;have ty:=Kd ⟨o,f,c1,n,d1⟩;rw[eqIsQuiet.eq_def];refine ah<|wpAny_specialOf ty F.slot_tuple_eq.lookup (ah<|BB ty aaZ ?_);refine ah<|ph f d1 (ah ?_);rw[show (a_ vs:Option _).getD #[]=vs from xz,<-abl];refine JE _ (λl b s'=>b=(b_,())/\s'=s/\∃rest,(∀x∈rest,cu m x=c_)/\bt (λv d=>∃bs,Reads s.heap v d bs) l rest) _ ?_ ?_ _ _ ⟨xz,xz,xs,j,(mm u)⟩
  .rintro x rest b s' ⟨rfl,rfl,rs,h,p⟩;cases p with
   | cons c t=>
    obtain⟨bs,c⟩:=c;exact ah<|ih (h _ b9) c<|aO ⟨xz,xz,_,λx c=>h x<|cx _ c,t⟩
  rintro b s' ⟨rfl,rfl,_⟩;exact aO q
def Zh{f bs:List e_}(h1:cu n d=c_)(h2:cu m e=c_)(c:Reads s.heap (.ref a) d f)(r2:Reads s.heap (.ref b) e bs)(g:A.units+n+1<cLine)(q:Q (decide<|d=e) s):be (bn prog w) A (eqBool (.ref a)<|.ref b) Q E s:=by
 refine mQ ?_
 by_cases z:a=b
 .subst z;rw[ei (by simp)];refine ah<|vD<|aO ?_;rw[U2 h1 h2 c r2,eN rfl]at q;exact q
 rw[ee (by simpa using z)];refine ah ?_;refine compareEq_reads c r2 (GU h1).1 (GU h2).1 ?_<|qg ?_
 .have:=(GU h1).2;lia
 rw[Zf h1 h2];exact q
end
noncomputable def Yi:bD->Bool
 | .tuple _=>c_
 | _=>d_
def nk(P:k_)(w:j_):HeapKind P w bD where
 is h k a:=Yi k=c_/\cu 8 k=c_/\∃i,Reads h (.ref a) k i
 hash:=CU 8
 draws:=GV 8
 room A:=A.units+9<cLine
 inj:=λ⟨_,h1,_,c⟩⟨_,h2,_,r2⟩=>U2 h1 h2 c r2
 keeps:=λ⟨t,h1,_,c⟩e d j=>⟨t,h1,T8 (λb o vs n f g=>(j.2 b λz=>by subst z;rw[e]at f;cases f;rw[d]at g;cases g).fT f) h1 c⟩
 pyHash:=λl⟨_,h1,_,c⟩q=>ajP h1 c li q
 eqBool:=λl⟨_,h1,_,c⟩⟨_,h2,_,r2⟩q=>Zh h1 h2 c r2 li q
 quiet:=λ⟨_,h1,_,c⟩q=>ahj h1 c q
def AB(K:u_)(H:Hp)(x:bD×e_):Prop:=Yi x.1=c_/\cu 8 x.1=c_/\eX K H (.ref x.2) x.1
def Ax(K:u_)(H:Hp)(xs:List (bD×e_)):Prop:=∀x∈xs,AB K H x
noncomputable abbrev pP(xs:List (bD×e_)):List (bD×e_×f_):=xs.map λx=>(x.1,x.2,lE c_)
def Vd(xs:List (bD×e_)):(pP xs).map (λx=>x.1)=xs.map (·.1):=by unfold pP;rw[jh];rfl
def W5(xs:List (bD×e_))(d:bD):(atKey (pP xs) d).isSome=decide (d∈xs.map (·.1)):=by
 induction xs with
 | nil=>rfl
 | cons x r ih=>
  unfold pP atKey at ih ⊢;rw[fv,JL]
  by_cases e:x.1=d
  .simp[e]
  have a:=eT e;have b:¬d=x.1:=λz=>e z.g8;simp only[a];rw[ih];simp[b]
section
variable{X:Cx}{p_:List (e_×cP)}{σ:St}{H:Hp}{s:g_}{a:e_}{xs:List (bD×e_)}{d:bD}{b:e_}
def E6(I:dc X p_ σ H s)(k:AB X.K H (d,b)):(nk X.prog X.w).is s.heap d b:=⟨k.1,k.2.1,eX.reads I k.2.2 xz⟩
def Oz(I:dc X p_ σ H s)(e:H a=a_ (.dT xs))(ks:Ax X.K H xs):(a==BO)=d_/\xs.length<=bZ/\s.heap.DictOfH (nk X.prog X.w) a (pP xs):=by
 obtain⟨h1,h2,o,es,c,h3,h4,h5,f,g⟩:=I.aU a _ e;refine⟨h1,h2,o,es,c,h3,h4,h5,by rw[f,pP,jh];rfl,λx h=>?_,by rw[Vd];exact g⟩;obtain⟨y,i,rfl⟩:=cj.mp h;exact E6 I<|ks y i
def YZ{P:k_}{w:j_}(h1:(a==BO)=d_)(h2:xs.length<=bZ)(e:h.DictOfH (nk P w) a (pP xs)):fq P w H h a (.dT xs):=by
 obtain⟨o,es,f,h3,h4,h5,g,_,c⟩:=e;rw[Vd]at c;exact⟨h1,h2,o,es,f,h3,h4,h5,by rw[g,pP,jh];rfl,c⟩
def X4(I:dc X p_ σ H s)(e:H a=a_ (.dT xs))(h1:(a==BO)=d_)(f:xs.length<bZ)(n:d∉xs.map (·.1))(c:Heap.DictOfH (nk X.prog X.w) h' a (storedH (pP xs) d b<|.bool c_))(g:gQ a s.heap h'):dc X p_ σ (db H a<|.dT<|xs++[(d,b)]) {s with heap:=h',toks:=t'}:=by
 have es:storedH (pP xs) d b (.bool c_)=pP (xs++[(d,b)]):=by
  unfold storedH;rw[W5,eT n];simp 
 rw[es]at c;have h:∃q,h'.get? a=a_ q:=let ⟨q,_,_,hq,_⟩:=c;⟨q,hq⟩
 refine I.write (e▸mY) (.inl xz) (λb q i z=>(g.2 b i).fT z) h<|YZ h1 (dG▸f) c
end
def aeU(K:u_)(ty td:TE):TE:=λσ H Q=>ty σ H λy e=>td σ e λx c=>∃a xs b d,x=.ref a/\c a=a_ (.dT xs)/\Ax K c xs/\y=.ref b/\AB K c (d,b)/\Q (.bl<|!decide (d∈xs.map (·.1))) c
def aiZ(K:u_)(td ty tv:TE):TS:=λD σ H=>tv σ H λv e=>td σ e λx f=>ty σ f λy c=>∃a xs b d,v=.bl c_/\x=.ref a/\c a=a_ (.dT xs)/\Ax K c xs/\y=.ref b/\AB K c (d,b)/\
 xs.length<bZ/\d∉xs.map (·.1)/\D.nx σ (db c a<|.dT<|xs++[(d,b)])
def aiC(K:u_)(ty tv:TE):TE:=λσ H Q=>∀p,H p=b_->ty σ (db H p<|.dT []) λy c=>tv σ c λv a=>∃b d,v=.bl c_/\a p=a_ (.dT [])/\y=.ref b/\AB K a (d,b)/\Q (.ref p) (db a p<|.dT [(d,b)])
section
variable{X:Cx}{o i value:bw}{pos pos':Pos}{td ty tv:TE}
def ac0(v:X.A.units+10<cLine)(hi:PE X i ty)(e:PE X o td):PC X .NotIn i o (aeU X.K ty td):=by
 intro p_ s σ H Q I h;refine aT (hi _ s _ H _ I h) λf s1⟨y,w,j,k,l⟩=>aT (e _ _ _ _ _ j l) λu s2⟨x,m,c,n,a,xs,b,d,ex,g,ks,p,q,r⟩=>?_;subst ex;subst p;obtain rfl:u=dq a:=n;obtain rfl:f=dq b:=k;obtain⟨hd,_,t⟩:=Oz c g ks;refine wpAny_notIn_heap (show X.A.units+1+9<cLine by lia) (E6 c q) hd t ?_;rw[W5];exact⟨.bl _,m,c.tok _,xz,r⟩
def aff(M:X.A.units+10<cLine)(e:PE X o td)(hi:PE X i ty)(f:PE X value tv)(j:Fb value (a_<|.Subscript o i pos') pos.line X.env=pure d_):PS X (.Assign [.Subscript o i pos'] value pos) (aiZ X.K td ty tv):=by
 intro p_ s σ H D I h;refine wpAny_Assign_Subscript (aT (f _ s _ H _ I h) λr s1⟨v,N,k,l,m⟩=>aT (e _ _ _ _ _ k m) λu s2⟨x,O,n,p,q⟩=>aT (hi _ _ _ _ _ n q) λt P⟨y,Q,c,w,a,xs,b,d,z,ex,g,ks,B,C,E,hn,F⟩=>?_) j;subst z;subst ex;subst B;obtain rfl:u=dq a:=p;obtain rfl:t=dq b:=w;obtain rfl:r=lE true:=l;obtain⟨hd,R,G⟩:=Oz c g ks;refine wpAny_setItem_heap (show X.A.units+1+9<cLine by lia) (E6 c C) G λh' J L=>⟨σ,_,X4 c g hd E hn J L,F⟩
def afi(M:X.A.units+10<cLine)(hi:PE X k ty)(c:PE X v tv):PE X (.Dict [a_ k] [v] pos) (aiC X.K ty tv):=by
 intro p_ s σ H Q I q;have hn:=I.aU.fresh<|az _;have f:BO<s.zS:=Kc qc (I.mod.glob.keeps I.bk).lt
 have j:=I.laid (o:=.dT []) (h':=s.heap.push {cls:=.type "dict",data:=.dict #[]}) (t':=s.toks) (λ_ _ q=>bE _ q) (az _)
  (YZ (xs:=[]) (fi.mpr<|iL<|dH f) (ba _)<|Heap.DictOfH.new s.heap)
 refine wpAny_Dict_any xz xz (by simp) (show 1<=15 by decide)<|pairTrees_cons_walk (aT (hi _ _ _ _ _ j<|q _ hn) λu s1⟨y,N,m,n,p⟩=>aT (c _ _ _ _ _ m p) λr s2⟨x,t,a,w,b,d,z,g,B,C,D⟩=>pairTrees_nil_walk ?_);subst z;subst B;obtain rfl:u=dq b:=n;obtain rfl:r=lE true:=w;obtain⟨hd,O,E⟩:=Oz a g (λx F=>nomatch F);show be _ _ _ _ _ _;unfold storeAll;refine JE _ (λl _ s'=>(l=[(dq b,lE _)]/\s'=s2)\/(l=[]/\dc X p_ σ (db t s.zS<|.dT<|[]++[(d,b)]) s')) _ ?_ ?_ _ _<|.inl ⟨xz,xz⟩
 .rintro x rest _ s' h;obtain⟨e,rfl⟩|⟨e,_⟩:=h
  .cases e;exact ah (wpAny_dictSet_heap (by show X.A.units+9<cLine;lia) (E6 a C) E λh' G J=>aO<|.inr ⟨xz,X4 a g hd qc (by simp) G J⟩)
  cases e
 rintro _ s' h;obtain⟨e,_⟩|⟨_,L⟩:=h
 .cases e
 exact⟨.ref _,_,L,xz,D⟩
end
end L2
namespace L2
open PySem.W PySem.SeqAt
noncomputable def alike:Nat->bD->bD->Bool
 | _,.int _,.int _=>c_
 | n+1,.tuple xs,.tuple ys=>decide (xs.length=ys.length)&&(xs.zip ys).all λp=>alike n p.1 p.2
 | _,_,_=>d_
noncomputable def cW:Nat->bD->List Int
 | _,.int i=>[i]
 | n+1,.tuple xs=>xs.flatMap<|cW n
 | _,_=>[]
def zU(h:alike n d e=c_):(∃i j,d=.int i/\e=.int j)\/∃m xs ys,n=m+1/\d=.tuple xs/\e=.tuple ys/\bt (λx y=>alike m x y=c_) xs ys:=by
 have a:∀{m:Nat}{xs ys:List bD},xs.length=ys.length->(∀p∈xs.zip ys,alike m p.1 p.2=c_)->bt (λx y=>alike m x y=c_) xs ys:=by
  intro m xs
  induction xs with
  | nil=>intro ys h _;cases ys with
   | nil=>exact .nil
   | cons _ _=>cases h
  | cons x xs ih=>intro ys h k;cases ys with
   | nil=>cases h
   | cons y ys=>exact .cons (k _ b9) (ih (BH h) λp b=>k p<|cx _ b)
 cases d with
 | int i=>cases e with
  | int j=>exact .inl ⟨i,j,xz,xz⟩
  | _=>cases n <;> exact nomatch h
 | tuple xs=>cases e with
  | tuple ys=>
   cases n with
   | zero=>exact nomatch h
   | succ m=>
    have h':(decide (xs.length=ys.length)&&(xs.zip ys).all λp=>alike m p.1 p.2)=true:=h;rw[jy]at h';exact .inr ⟨m,xs,ys,xz,xz,xz,a (eF h'.1)<|lY.mp h'.2⟩
  | _=>cases n <;> exact nomatch h
 | _=>cases n <;> cases e <;> exact nomatch h
def akd{a c b d:List Int}(h:a.length=c.length):a++b<c++d↔a<c\/(a=c/\b<d):=by
 induction a generalizing c with
 | nil=>cases c with
  | nil=>simp
  | cons _ _=>cases h
 | cons x a ih=>cases c with
  | nil=>cases h
  | cons y c=>
   rw[abJ,abJ,Jt,Jt,ih<|BH h]
   by_cases z:x=y
   .subst z;simp 
   simp[z]
def L':∀{n:Nat}{d e:bD},alike n d e=c_->(cW n d).length=(cW n e).length/\(cW n d=cW n e->d=e):=by
 intro n
 induction n with
 | zero=>
  intro d e h;obtain⟨i,j,rfl,rfl⟩|⟨m,_,_,z,_⟩:=zU h
  .exact⟨xz,λz=>by rw[(xB z).1]⟩
  cases z
 | succ m ih=>
  intro d e h;obtain⟨i,j,rfl,rfl⟩|⟨g,xs,ys,z,rfl,rfl,p⟩:=zU h
  .exact⟨xz,λz=>by rw[(xB z).1]⟩
  cases z
  have all:∀{xs ys:List bD},bt (λx y=>alike m x y=c_) xs ys->(xs.flatMap<|cW m).length=(ys.flatMap<|cW m).length/\(xs.flatMap (cW m)=ys.flatMap (cW m)->xs=ys):=by
   intro xs ys p
   induction p with
   | nil=>exact⟨xz,λ_=>rfl⟩
   | cons a t it=>
    obtain⟨l1,b⟩:=ih a;rw[zD,zD,dG,dG,l1,it.1];refine⟨xz,λz=>?_⟩;obtain⟨c,f⟩:=List.append_inj z l1;rw[b c,it.2 f]
  obtain⟨l,i⟩:=all p;exact⟨l,λz=>by rw[i z]⟩
def oM(d e:bD):Bool:=decide<|cW 8 d<cW 8 e
section
variable{prog:k_}{w:j_}{E:f_->g_->Prop}
def Vo{m:Nat}{x y:bD}{xs ys:List bD}(h:alike m x y=c_):((x::xs).flatMap (cW m)<(y::ys).flatMap (cW m))↔(x≠y/\cW m x<cW m y)\/(x=y/\xs.flatMap (cW m)<ys.flatMap (cW m)):=by
 rw[zD,zD,akd (L' h).1];constructor
 .rintro(z | ⟨z,k⟩)
  .exact .inl ⟨λe=>(List.lt_irrefl _)<|e ▸ z,z⟩
  exact .inr ⟨(L' h).2 z,k⟩
 rintro(⟨_,z⟩ | ⟨rfl,k⟩)
 .exact .inl z
 exact .inr ⟨xz,k⟩
def Zg{c bs:List e_}(h1:cu n d=c_)(h2:cu m e=c_)(f:alike n d e=c_)(b:Reads s.heap u d c)(r2:Reads s.heap v e bs)(g:A.units+n+1<cLine)(q:Q (decide<|d=e) s):be (bn prog w) A (eqBool u v) Q E s:=by
 obtain⟨i,j,rfl,rfl⟩|⟨k,xs,ys,_,rfl,rfl,_⟩:=zU f
 .obtain⟨t,rfl⟩:=kR b;obtain⟨t',rfl⟩:=kR r2;refine Ta ?_;rw[show (i==j)=decide (nX i=nX j) by by_cases z:i=j <;> simp[z]];exact q
 obtain⟨a,o,vs,n,rfl,_⟩:=mh b;obtain⟨h,o',l,p,rfl,_⟩:=mh r2;exact Zh h1 h2 b r2 g q
def an2:∀{n:Nat}{d e:bD}{u v:f_}{L bs:List e_}{A:h_}{s:g_}{Q:f_->g_->Prop},cu n d=c_->cu n e=c_->alike n d e=c_->Reads s.heap u d L->Reads s.heap v e bs->A.units+2*n+2<cLine->Q (.bool<|decide<|cW n d<cW n e) s->be (bn prog w) A (iy .Lt u v) Q E s:=by
 intro n
 induction n with
 | zero=>
  intro d e u v L bs A s Q P g2 M C r2 Y q;obtain⟨i,j,rfl,rfl⟩|⟨k,xs,ys,z,_⟩:=zU M
  .obtain⟨t,rfl⟩:=kR C;obtain⟨t',rfl⟩:=kR r2;refine wpAny_lt_int ?_;rw[show decide (i<j)=decide (cW 0 (.int i)<cW 0 (.int j)) by simp[cW,Jt]];exact q
  cases z
 | succ m ih=>
  intro d e u v L bs A s Q P g2 M C r2 Y q;obtain⟨i,j,rfl,rfl⟩|⟨m',xs,ys,z,rfl,rfl,p⟩:=zU M
  .obtain⟨t,rfl⟩:=kR C;obtain⟨t',rfl⟩:=kR r2;refine wpAny_lt_int ?_;rw[show decide (i<j)=decide (cW (m+1) (.int i)<cW (m+1) (.int j)) by simp[cW,Jt]];exact q
  cases z;obtain⟨a,o,vs,n1,rfl,R,c1,d1,S⟩:=mh C;obtain⟨b,o',N,Z,rfl,T,c2,U,V⟩:=mh r2;have h1:∀x∈xs,cu m x=true:=lY.mp P;have h2:∀x∈ys,cu m x=true:=lY.mp g2;have W:s.TypeIs (.ref a) "tuple":=Kd ⟨o,R,c1,n1,d1⟩;have X:s.TypeIs (.ref b) "tuple":=Kd ⟨o',T,c2,Z,U⟩;show be _ _ (Kk .Lt (.ref a)<|.ref b) _ _ _;refine wpAny_richCompare_same_room W X F.slot_tuple_lt (rO F.slot_tuple_lt W F.entry_tuple_lt ?_<|F.args_tuple_lt_2 _ _) li;rw[show Builtin.«tuple.__lt__» = Builtin.«tuple.__lt__» from rfl];unfold Builtin.«tuple.__lt__»;refine ah<|aO ?_;refine ah<|BB X aaZ ?_;refine ah<|SO R d1<|ah<|SO T U<|ah ?_;refine JE _ (λl b s'=>b=(b_,())/\s'=s/\∃us ws c f,l=us.zip ws/\bt (λv d=>∃bs,Reads s.heap v d bs) us c/\bt (λv d=>∃bs,Reads s.heap v d bs) ws f/\bt (λx y=>alike m x y=c_) c f/\(∀x∈c,cu m x=c_)/\(∀y∈f,cu m y=c_)/\Q (.bool<|decide<|c.flatMap (cW m)<f.flatMap (cW m)) s) _ ?_ ?_ _ _ ⟨xz,xz,_,_,xs,ys,xz,mm S,mm V,p,h1,h2,q⟩
  .rintro x rest b' s' ⟨rfl,rfl,us,ws,c,f,D,g,r,h,k1,G,H⟩;cases h with
   | nil=>cases g;cases D
   | @cons I J c f rG h=>
    cases g with
    | @cons u1 _ us _ B g=>
     cases r with
     | @cons w1 _ ws _ K r=>
      cases D;obtain⟨oS,B⟩:=B;obtain⟨bs1,K⟩:=K;have cf:=Vo (xs:=c) (ys:=f) rG;refine ah<|Zg (k1 _ b9) (G _ b9) rG B K (by show A.units+1+m+1<cLine;lia) ?_
      by_cases z:I=J
      .rw[eN z];refine aO ⟨xz,xz,us,ws,c,f,xz,g,r,h,λx O=>k1 x<|cx _ O,λx O=>G x<|cx _ O,?_⟩;rw[show decide (c.flatMap (cW m)<f.flatMap (cW m))=decide ((I::c).flatMap (cW m)<(J::f).flatMap (cW m)) from decide_eq_decide.mpr (by rw[cf];simp[z])];exact H
      rw[eT z];refine ah<|vD<|ah ?_;show be _ _ (iy .Lt u1 w1) _ _ _;refine ih (k1 _ b9) (G _ b9) rG B K (by show A.units+1+2*m+2<cLine;lia) ?_;refine ah<|aO<|aO ?_;refine aO ?_;refine⟨_,xz,⟨λz=>(by cases z),?_⟩⟩;rw[show decide (cW m I<cW m J)=decide ((I::c).flatMap (cW m)<(J::f).flatMap (cW m)) from decide_eq_decide.mpr (by rw[cf];simp[z])];exact H
  rintro b' s' ⟨rfl,rfl,us,ws,c,f,D,g,r,h,k1,G,H⟩;have l1:=r_<|mm S;have l2:=r_<|mm V;have l3:=r_ p;refine aO ?_;refine⟨_,xz,⟨λz=>(by cases z),?_⟩⟩;cases g with
  | nil=>
   cases h;have es:vs.size=N.size:=by rw[<-ko,<-ko,l1,l2,l3]
   show Q (.bool<|decide<|vs.size<N.size) s';rw[eT (show ¬vs.size<N.size by lia)];simpa using H
  | cons B g=>
   cases h with
   | cons _ h=>
    cases r with
    | cons _ r=>cases D
end
section
variable{prog:k_}{w:j_}
def alJ(n:A.units+2*m+4<cLine):∀{us ws:List f_}{a b:List bD}{i:Nat},bt (λv d=>∃bs,Reads s.heap v d bs) us a->bt (λv d=>∃bs,Reads s.heap v d bs) ws b->bt (λx y=>alike m x y=c_) a b->(∀x∈a,cu m x=c_)->(∀y∈b,cu m y=c_)->Q (decide<|a.flatMap (cW m)<b.flatMap (cW m)) s->KatLex prog w A d_ d_ Q (us.zip ws) i s:=by
 intro us ws a b i c h l
 induction l generalizing us ws i with
 | nil=>
  intro _ _ q;cases c;rw[List.zip_nil_left,KatLex.eq_def];simpa using q
 | @cons d e a b rG l ih=>
  intro k1 j q;cases c with
  | cons f c=>
   cases h with
   | cons g h=>
    obtain⟨oS,f⟩:=f;obtain⟨o,g⟩:=g;have cf:=Vo (xs:=a) (ys:=b) rG;rw[SR];refine kat_cons<|Zg (k1 _ b9) (j _ b9) rG f g li ?_
    by_cases z:d=e
    .rw[eN z];refine ih c h (λx k=>k1 x<|cx _ k) (λx k=>j x<|cx _ k) ?_;rw[show decide (a.flatMap (cW m)<b.flatMap (cW m))=decide ((d::a).flatMap (cW m)<(e::b).flatMap (cW m)) from decide_eq_decide.mpr (by rw[cf];simp[z])];exact q
    rw[eT z];refine kat_no<|kat_one _ _<|an2 (k1 _ b9) (j _ b9) rG f g li ?_;show Q _ s;rw[show decide (cW m d<cW m e)=decide ((d::a).flatMap (cW m)<(e::b).flatMap (cW m)) from decide_eq_decide.mpr (by rw[cf];simp[z])];exact q
end
def ah1(d:bD):oM d d=false:=eT<|List.lt_irrefl _
def aee(h1:oM a b=c_)(h2:oM b c=c_):oM a c=true:=eN<|List.lt_trans (eF h1)<|eF h2
def W3(h:alike 8 a b=c_)(n:a≠b)(h1:oM a b=d_):oM b a=true:=by
 refine eN ?_;have h1:=f' h1;refine tS λz=>n<|(L' h).2<|List.le_antisymm (List.not_lt.mp z)<|List.not_lt.mp h1
def yB(ds:List bD)(d:bD):Nat:=ds.countP λe=>oM e d
theorem Wl:∀{l:List bD},(∀y∈l,p y=c_->q y=c_)->x∈l->p x=d_->q x=c_->l.countP p<l.countP q
 | y::l,h,hx,hp,hq=>by
  have h':∀y∈l,p y=c_->q y=true:=λz b=>h z<|cx _ b;have le:l.countP p<=l.countP q:=List.countP_mono_left h';rw[abI,abI];obtain e|e:=bH.mp hx
  .subst e;rw[hp,hq];simp;lia
  .have:=Wl h' e hp hq
   by_cases c:p y=c_
   .rw[ei c,ei<|h y b9 c];lia
   rw[ee c]
   by_cases a:q y=c_
   .rw[ei a];lia
   rw[ee a];lia
def YS(hd:d∈ds)(h:oM d e=c_):yB ds d<yB ds e:=Wl (λy _ a=>aee a h) hd (ah1 d) h
def ai1(hd:d∈ds)(a:e∈ds)(b:alike 8 d e=c_)(n:d≠e):decide ((yB ds d:Int)<yB ds e)=oM d e:=by
 cases h:oM d e with
 | true=>exact eN<|Int.ofNat_lt.mpr<|YS hd h
 | false=>
  have:=YS a<|W3 b n h;exact eT li
theorem Kg{b c:Type}{F:b->c->Prop}{ys:List b}{ds:List c}{x:b}{d:c}(r:bt F ys ds):∀l:List Nat,(∀i∈l,i<ds.length)->bt F (l.map λi=>ys.getD i x) (l.map λi=>ds.getD i d)
 | [],_=>.nil
 | i::l,h=>by
  have f:=r_ r;have hi:=h i b9
  have at':∀{ys:List b}{ds:List c},bt F ys ds->∀i,i<ds.length->F (ys.getD i x) (ds.getD i d):=by
   intro ys ds r
   induction r with
   | nil=>exact λi h=>eu h<|zH _
   | cons a t ih=>
    intro i h;cases i with
    | zero=>exact a
    | succ i=>exact ih i<|Nat.lt_of_succ_lt_succ h
  exact .cons (at' r i hi) (Kg r l λj e=>h j<|cx _ e)
section
variable{X:Cx}
def ai3(K:u_):List V->Hp->VK->Prop:=λxs H Q=>∃(p:e_)(vs:List V)(ds:List bD),xs=[.ref p]/\ag K H p vs/\ds.length<64/\bt (eX K H) vs ds/\(∀d∈ds,cu 8 d=c_/\∃us r,d=.tuple (.tuple us::r))/\
 (∀d∈ds,∀e∈ds,alike 8 d e=c_)/\ds.Nodup/\∀l c es,H l=b_->bt (eX K H) c es->es.Perm ds->es.Pairwise (λa b=>oM a b=c_)->Q (.ref l) (db H l<|.lst c)
def acm(hu:X.A.units+30<cLine):i7 X (.builtin "sorted") (ai3 X.K):=by
 intro p_ s σ H xs us Q I r h;obtain⟨p,vs,ds,rfl,hl,h64,O,hd,P,nd,q⟩:=h;obtain⟨u,rfl,rx⟩:=vals1 r;cases rx;obtain⟨y,R,pl,hz⟩:=I.list hl;have hvd:=r_ O;have hlen:=R.length;refine KC (H:=H)<|collect_list pl.isList ?_ (by rw[fR];lia)
 have kp:∀b o,s.heap.get? b=a_ o->((s.heap.push<|d7 "list" #[] 0).update s.zS<|jz (· ++ y.toArray)).get? b=a_ o:=λb o e=>by
  rw[Jx _ _ _ _<|dH<|bV e];exact bE _ e
 have nL:∀b o,s.heap.get? b=a_ o->(∃vs n,o.data=.seq vs n)->b≠X.env.locals:=λb o e d z=>by
  obtain⟨m,F⟩:=I.fr;obtain⟨o',es,ep,e',d',_⟩:=F.ns;rw[z,e']at e;cases e;obtain⟨vs,n,d⟩:=d;rw[d']at d;cases d
 have aof:∀i,i<ds.length->∃B,Reads s.heap (y.getD i gR) (ds.getD i .none) B:=λi hi=>by
  obtain⟨x,Z⟩:∃x,vs[i]?=a_ x:=⟨vs[i]' li,aL _⟩;obtain⟨u,S,ru⟩:=R.get Z
  have hdx:eX X.K H x (ds.getD i .none):=by
   have:=Kg (x:=.aR) (d:=Ue) O [i] (λj f=>by rw[cO.mp f];exact hi);cases this with
   | cons a _=>dsimp only at a;rw[eG,Z]at a;exact a
  obtain⟨B,q⟩:=eX.reads I hdx ru;exact⟨B,by rw[show y.getD i _=u by rw[eG,S];rfl];exact q⟩
 have w:∀i,i<ds.length->ds.getD i .none∈ds:=λi hi=>by simp[hi]
 have neD:∀i j,i<ds.length->j<ds.length->i≠j->ds.getD i .none≠ds.getD j .none:=λi j hi f n e=>by
  have e':ds[i]=ds[j]:=by simpa[hi,f]using e
  obtain z|z:=SQ n
  .exact km.mp nd i j hi f z e'
  exact km.mp nd j i f hi z e'.g8
 have J:∀i j,i<ds.length->j<ds.length->i≠j->decide ((yB ds (ds.getD i .none):Int)<yB ds (ds.getD j .none))=oM (ds.getD i .none) (ds.getD j .none):=λi j hi f n=>ai1 (w i hi) (w j f) (P _ (w i hi) _<|w j f)<|neD i j hi f n;refine⟨vs,λi=>(yB ds (ds.getD i .none):Int),I.kept kp,R,⟨li,λi j hi f e=>?_,λh2=>?_⟩,λl zs hn so=>?_⟩
 .refine tS λn=>?_;have h1:=J i j li li n;have h2:=J j i li li λz=>n z.g8;rw[e,eT<|JU _]at h1;rw[e,eT<|JU _]at h2;have:=W3 (P _ (w i li) _<|w j li) (neD i j li li n) h1.g8;rw[<-h2]at this;cases this
 .have frd:∀{s':g_},(∀b o,b≠X.env.locals->((s.heap.push<|d7 "list" #[] 0).update s.zS<|jz (· ++ y.toArray)).get? b=a_ o->s'.heap.get? b=a_ o)->∀i,i<ds.length->∃B,Reads s'.heap (y.getD i gR) (ds.getD i .none) B:=λk i hi=>by
   obtain⟨B,q⟩:=aof i hi;exact T8 (λb o vs n e d=>k b o (nL b o e ⟨vs,n,d⟩)<|kp b o e) (hd _<|w i hi).1 q
  refine⟨tuples' d_,λs' k=>?_⟩;have at':=frd k;constructor
  .intro Q' hQ
   have kt:∀m,m<=ds.length->∃fs:List f_,fs.length=m/\KatTups s'.heap (y.drop<|ds.length-m) fs/\∀v∈fs,∃a items,v=dq a/\IsTup s'.heap a items:=λm=>by
    induction m with
    | zero=>
     intro _;refine⟨[],xz,?_,λv G=>nomatch G⟩;rw[aaW li];exact .nil
    | succ m ih=>
     intro hm;obtain⟨fs,h1,h2,h3⟩:=ih li;obtain⟨B,q⟩:=at' (ds.length-(m+1)) om;obtain⟨_,us,rr,U⟩:=hd _<|w (ds.length-(m+1)) om;rw[U]at q;obtain⟨a,o,ws,n,V,W,e3,e4,e5⟩:=mh q
     have hdp:y.drop (ds.length-(m+1))=.ref a::y.drop (ds.length-m):=by
      rw[aaM om,show ds.length-(m+1)+1=ds.length-m by lia]
      congr 1
      rw[<-V];simp[show ds.length-(m+1)<y.length by omega]
     rw[hdp];have p5:=mm e5;generalize vh:ws.toList=wl at p5;cases p5 with
     | cons Y t=>
      obtain⟨bs,Y⟩:=Y;obtain⟨b,o2,yO,n2,rfl,f2,f3,f4,_⟩:=mh Y;refine⟨.ref b::fs,by rw[eJ,h1],.cons W e3 e4 ?_ h2,λv G=>?_⟩
      .rw[<-zy,vh];rfl
      obtain z|z:=bH.mp G
      .exact⟨b,yO,z,o2,f2,f3,n2,f4⟩
      exact h3 v z
   obtain⟨fs,h1,h2,h3⟩:=kt _<|az _;rw[TX,Tp]at h2;refine kat_kind (T:=.type "tuple") h2 li (λv G=>?_) qc ((show (iI "tuple" != iI "tuple")=d_ by decide)▸hQ);obtain⟨a,items,e,it⟩:=h3 v G;rw[e];exact λA Q E s' k q=>J' (by obtain⟨o,e,c,n,d⟩:=it;exact⟨o,k _ _ e,c⟩) q
  intro i j C hi f ne c;have L:i<ds.length:=li;have M:j<ds.length:=li;obtain⟨B,q1⟩:=at' i L;obtain⟨bs,q2⟩:=at' j M;obtain⟨g1,us,rr,U⟩:=hd _<|w i L;obtain⟨g2,us',rr',ed'⟩:=hd _<|w j M;have al:=P _ (w i L) _<|w j M;rw[J i j L M ne]at c;unfold kas_ask;obtain⟨_,_,z,_⟩|⟨m,xs,ys,z,ex,ey,pa⟩:=zU al
  .rw[U]at z;cases z
  cases z;rw[ex]at q1 g1 c;rw[ey]at q2 g2 c;obtain⟨a,o,yP,n1,S,V,_,d1,r1⟩:=mh q1;obtain⟨b,o',HY,n2,ew,W,_,d2,r2⟩:=mh q2;rw[S,ew];refine kat_lt V d1 W d2 ?_;have l1:=r_<|mm r1;have l2:=r_<|mm r2;have l3:=r_ pa;rw[ko]at l1 l2;rw[eT (show ¬yP.size<HY.size by lia)];exact alJ (by show X.A.units+1+1+2*7+4<cLine;lia) (mm r1) (mm r2) pa (lY.mp g1) (lY.mp g2) c
 obtain⟨D,g,ri,rfl⟩:=so;rw[hvd]at g ri;have gp:=Sw.mp g;have aq8:=KQ g;have hsz:=g.size
 have hm:∀i∈D.toList,i<ds.length:=λi hi=>by
  have:=gp.mem_iff.mp hi;simpa using this
 refine q l _ (D.toList.map λi=>ds.getD i .none) hn (Kg O _ hm) ?_ ?_
 .have:=gp.map λi=>ds.getD i Ue
  rw[show ((List.range ds.length).toArray.toList.map λi=>ds.getD i Ue)=ds by
   apply JI
   .simp
   intro i h1 h2;simp[h2]]at this
  exact this
 rw[km];intro i j hi f mI;rw[aA]at hi f;have:=ri i j mI li;unfold rk at this;simp only[abG,Ju];have e:∀k N,D.getD k 0=D[k]:=λk N=>by simp[N]
 rw[e i li,e j li]at this;have mi:∀k(N:k<D.size),D[k]<ds.length:=λk N=>hm _<|Array.getElem_mem_toList _;have ne:D[i]≠D[j]:=λz=>by rw[z]at this;exact eu this (JU _)
 rw[<-J _ _ (mi i li) (mi j li) ne];exact eN this
end
end L2
namespace TL
open PySem.SeqAt L2 L3 L4
variable{P:k_}{w:j_}{K:u_}{mg:cr->Option f_}{gl:i_}
noncomputable def tv(t:Tl):List V:=.str t.1::t.2.map λ(n:Nat)=>V.int (n:Int)
def jm(H:Hp)(v:V)(t:Tl):Prop:=∃a,v=.ref a/\H a=a_ (.tup<|tv t)
def IsPart(H:Hp)(v:V)(p:Pt):Prop:=∃a vs,v=.ref a/\H a=a_ (.tup vs)/\bt (jm H) vs p
def iB(H:Hp)(v:V)(ps:List Pt):Prop:=∃a vs,v=.ref a/\H a=a_ (.tup vs)/\bt (IsPart H) vs ps
def jm.keep(k:∀b xs,H b=a_ (.tup xs)->H' b=a_ (.tup xs))(h:jm H v t):jm H' v t:=by
 exact aB h λa e h=>ay a e<|k _ _ h
def IsPart.keep(k:∀b xs,H b=a_ (.tup xs)->H' b=a_ (.tup xs))(h:IsPart H v p):IsPart H' v p:=by
 exact fk h λa vs e h r=>dN a _ e (k _ _ h) (Paired.bq r λ_ _ q=>q.keep k)
def iB.keep(k:∀b xs,H b=a_ (.tup xs)->H' b=a_ (.tup xs))(h:iB H v p):iB H' v p:=by
 exact fk h λa vs e h r=>dN a _ e (k _ _ h) (Paired.bq r λ_ _ q=>q.keep k)
def Pm(b:Bool):Sp:=λvs H Q _=>∃a,vs=[.ref a]/\Q (.bl b) H
def ag8:aV gw gw (aP F8):=aZ
def acV:aV gw gw (aP E1):=aZ
def acy:aV gw gw (aP EU):=aZ
def Cb(F:aQ K R_ "Step.empties" F8 f fd):aF P w K mg gl aE 1 f fd gw (Pm d_):=by
 refine F.ok ag8 λaH A _ s H vs Q E c h=>?_;refine aB h λa b k=>?_;clear h;subst b;exact sP (ar<|aS gD) k
def acz(F:aQ K R_ "Swap.empties" E1 f fd):aF P w K mg gl aE 1 f fd gw (Pm c_):=by
 refine F.ok acV λaH A _ s H vs Q E c h=>?_;refine aB h λa b k=>?_;clear h;subst b;exact sP (ar<|aS gD) k
def acg(F:aQ K R_ "Clear.empties" EU f fd):aF P w K mg gl aE 1 f fd gw (Pm c_):=by
 refine F.ok acy λaH A _ s H vs Q E c h=>?_;refine aB h λa b k=>?_;clear h;subst b;exact sP (ar<|aS gD) k
structure C6(K:u_)(c:e_)(t:bh)(Ql Qm Qk Pf Pd Pe:Bool):Prop where
 cl:w_ K (.ref c) "__class__"=a_ (a_<|.builtin "object.__class__")
 mr:A_ K c (.type "object")=a_ c_
 anT:v_ K (.ref c) (.ref t.kX)=a_ Ql
 anV:v_ K (.ref c) (.ref t.kY)=a_ Qm
 ZM:v_ K (.ref c) (.ref t.i9)=a_ Qk
 YW:v_ K (.ref c) (.ref t.jF)=a_ Pf
 alq:v_ K (.ref c) (.ref t.ky)=a_ Pd
 YV:v_ K (.ref c) (.ref t.jE)=a_ Pe
structure nO where
 (AZ Zc Ze:e_)
 (PL NT NV:jO)
structure yt(K:u_)(mg:cr->Option f_)(t:bh)(u:nO):Prop where
 st:su K mg t
 Df:aQ K R_ "Step.empties" F8 u.AZ u.PL
 yK:dn K u.PL gw []
 ajS:aQ K R_ "Swap.empties" E1 u.Zc u.NT
 OU:dn K u.NT gw []
 ajW:aQ K R_ "Clear.empties" EU u.Ze u.NV
 OW:dn K u.NV gw []
 gt:W.specialIn K (.builtin "object.__class__") "__get__"=a_ (a_<|.builtin "getset_descriptor.__get__")
 tk:W.takesIn K (.builtin "object.__class__")=a_ c_
 al3:Meth K t.kX R_ u.AZ
 al4:Meth K t.kY R_ u.AZ
 al2:Meth K t.i9 R_ u.AZ
 aj2:Meth K t.jF R_ u.AZ
 aj0:Meth K t.ky R_ u.Zc
 aii:Meth K t.qG R_ u.Ze
 aj1:Meth K t.jE R_ u.AZ
 PF:C6 K t.kX t c_ d_ d_ d_ d_ d_
 PH:C6 K t.kY t d_ c_ d_ d_ d_ d_
 PD:C6 K t.i9 t d_ d_ c_ d_ d_ d_
 OF:C6 K t.jF t d_ d_ d_ c_ d_ d_
 OD:C6 K t.ky t d_ d_ d_ d_ c_ d_
 NR:C6 K t.qG t d_ d_ d_ d_ d_ d_
 OE:C6 K t.jE t d_ d_ d_ d_ d_ c_
def jU(t:bh)(H:Hp)(v:V)(s:Tl):Prop:=∃z a dx,v=.ref z/\H z=a_ (.ins (cB t s.1) dx<|c9 (.ref a) s.1<|s.2.map λ(n:Nat)=>V.int (n:Int))
def jU.keep(k:∀b C dx fs,H b=a_ (.ins C dx fs)->v=.ref b->H' b=a_ (.ins C dx fs))(h:jU t H v s):jU t H' v s:=by
 exact CS h λz a dx c h=>⟨z,a,dx,c,(k _ _ _ _ h c)⟩
def vP(m:cr)(h:∀f∈(["number",Q_,L_,"other",l_,Y_]:List cr),m≠f)(v:V)(x:cr)(ps:List V):(c9 v x ps).lookup m=none:=by
 have h1:=h "number" (by simp);have h2:=h Q_ (by simp);have h3:=h L_ (by simp);have h4:=h "other" (by simp);have h5:=h l_ (by simp);have a:=h Y_ (by simp);unfold c9
 repeat (first | (split;(simp only[dJ,ee h1,ee h2,ee h3,ee h4,ee h5,ee a];rfl)) | (simp only[dJ,ee h1,ee h2,ee h3,ee h4,ee h5,ee a];rfl))
def fE(s:Tl):Bool:=decide (s.1 = H_)||decide (s.1 = M_)
def Cw(t:bh):cB t V_ = t.kX:=by kernel_rfl
def afZ(ns:List Nat):fE (V_,ns)=false:=by show (decide ((V_ : cr) = H_)||decide ((V_ : cr) = M_))=_;decide +kernel
def Cy(t:bh):cB t W_ = t.kY:=by kernel_rfl
def af0(ns:List Nat):fE (W_,ns)=false:=by show (decide ((W_ : cr) = H_)||decide ((W_ : cr) = M_))=_;decide +kernel
def vQ(t:bh):cB t J_ = t.i9:=by kernel_rfl
def L0(ns:List Nat):fE (J_,ns)=false:=by show (decide ((J_ : cr) = H_)||decide ((J_ : cr) = M_))=_;decide +kernel
def xN(t:bh):cB t K_ = t.jF:=by kernel_rfl
def aem(ns:List Nat):fE (K_,ns)=false:=by show (decide ((K_ : cr) = H_)||decide ((K_ : cr) = M_))=_;decide +kernel
def Cd(t:bh):cB t H_ = t.ky:=by kernel_rfl
def aek(ns:List Nat):fE (H_,ns)=true:=by show (decide ((H_ : cr) = H_)||decide ((H_ : cr) = M_))=_;decide +kernel
def E7(t:bh):cB t M_ = t.qG:=by kernel_rfl
def adm(ns:List Nat):fE (M_,ns)=true:=by show (decide ((M_ : cr) = H_)||decide ((M_ : cr) = M_))=_;decide +kernel
def Ce(t:bh):cB t T_ = t.jE:=by kernel_rfl
def ael(ns:List Nat):fE (T_,ns)=false:=by show (decide ((T_ : cr) = H_)||decide ((T_ : cr) = M_))=_;decide +kernel
def Yq(T:yt K mg t u){sz:Nat}(g:bY sz s)(b:H z=a_ (.ins (cB t s.1) dx<|c9 (.ref a) s.1<|s.2.map λ(n:Nat)=>V.int (n:Int))):∃C f fd pn sp,H z=a_ (.ins C dx<|c9 (.ref a) s.1<|s.2.map λ(n:Nat)=>V.int (n:Int))/\da K C/\Meth K C R_ f/\aF P w K mg gl aE 1 f fd pn sp/\dn K fd pn []/\∀(Q:VK)(E:XK),Q (.bl<|fE s) H->sp [.ref z] H Q E:=by
 cases g with
 | put r m h1 h2=>
  rw[afZ];have b:=b;rw[Cw]at b;exact qo _ _ _ _ _ b T.st.uv T.al3 (Cb T.Df) T.yK λQ E q=>⟨z,xz,q⟩
 | add r m h1 h2=>
  rw[af0];have b:=b;rw[Cy]at b;exact qo _ _ _ _ _ b T.st.sD T.al4 (Cb T.Df) T.yK λQ E q=>⟨z,xz,q⟩
 | set r m h1 h2=>
  rw[L0];have b:=b;rw[vQ]at b;exact qo _ _ _ _ _ b T.st.mz T.al2 (Cb T.Df) T.yK λQ E q=>⟨z,xz,q⟩
 | look r m h1 h2=>
  rw[aem];have b:=b;rw[xN]at b;exact qo _ _ _ _ _ b T.st.m8 T.aj2 (Cb T.Df) T.yK λQ E q=>⟨z,xz,q⟩
 | swap r m h1 h2=>
  rw[aek];have b:=b;rw[Cd]at b;exact qo _ _ _ _ _ b T.st.ow T.aj0 (acz T.ajS) T.OU λQ E q=>⟨z,xz,q⟩
 | clear=>
  rw[adm];have b:=b;rw[E7]at b;exact qo _ _ _ _ _ b T.st.xW T.aii (acg T.ajW) T.OW λQ E q=>⟨z,xz,q⟩
 | skip r m h1 h2 h3=>
  rw[ael];have b:=b;rw[Ce]at b;exact qo _ _ _ _ _ b T.st.qF T.aj1 (Cb T.Df) T.yK λQ E q=>⟨z,xz,q⟩
def CH(T:yt K mg t u){sz:Nat}(g:bY sz s)(b:H z=a_ (.ins (cB t s.1) dx<|c9 (.ref a) s.1<|s.2.map λ(n:Nat)=>V.int (n:Int))):∃C:e_,gE K H (.ref z) (.ref C)/\C6 K C t (decide<|s.1 = V_) (decide<|s.1 = W_) (decide<|s.1 = J_) (decide<|s.1 = K_) (decide<|s.1 = H_) (decide<|s.1 = T_):=by
 cases g with
 | put r m h1 h2=>
  have b:=b;rw[Cw]at b;exact ay _ (gE.ins b T.st.uv T.PF.cl T.gt T.tk T.PF.mr) T.PF
 | add r m h1 h2=>
  have b:=b;rw[Cy]at b;exact ay _ (gE.ins b T.st.sD T.PH.cl T.gt T.tk T.PH.mr) T.PH
 | set r m h1 h2=>
  have b:=b;rw[vQ]at b;exact ay _ (gE.ins b T.st.mz T.PD.cl T.gt T.tk T.PD.mr) T.PD
 | look r m h1 h2=>
  have b:=b;rw[xN]at b;exact ay _ (gE.ins b T.st.m8 T.OF.cl T.gt T.tk T.OF.mr) T.OF
 | swap r m h1 h2=>
  have b:=b;rw[Cd]at b;exact ay _ (gE.ins b T.st.ow T.OD.cl T.gt T.tk T.OD.mr) T.OD
 | clear=>
  have b:=b;rw[E7]at b;exact ay _ (gE.ins b T.st.xW T.NR.cl T.gt T.tk T.NR.mr) T.NR
 | skip r m h1 h2 h3=>
  have b:=b;rw[Ce]at b;exact ay _ (gE.ins b T.st.qF T.OE.cl T.gt T.tk T.OE.mr) T.OE
structure lM where
 (k:cr) (c n:Nat) (got gave seen:Option Int)
noncomputable def oV:Option Int->V
 | none=>.aR
 | some i=>.int i
def an'(a:lM):List V:=[.str a.k,.int (a.c:Nat),.int (a.n:Nat),oV a.got,oV a.gave,oV a.seen]
def C2(H:Hp)(v:V)(a:lM):Prop:=∃p,v=.ref p/\H p=a_ (.tup<|an' a)
structure Ck where
 (pl ct:Nat) (rg:List Int) (tn:Int) (es:List gy)
structure Mc where
 (kd:cr) (ps:List Pt) (ck:List Ck) (bd:List Int) (ac:List lM) (ov:List (List Int))
structure MA where
 (lt:e_) (ts:List (e_×e_×List e_)) (pg st pl ct rg:e_) (rs:List e_) (ce ac cm:e_) (cs:List e_)
def jC:List cr:=["at_end","may_do","carries","moves","do","do_step","do_set","do_look","do_swap",as5,"come","on_board","settle","ended","where","steps_done","registers","waiting","board","deeds","deeds_done","deed_at","over","twin"]
structure wB(fs:List (cr×V))(A:MA)(S:Mc):Prop where
 fD:fs.lookup ("trays":cr)=a_ (.ref A.lt)
 program:fs.lookup (O_ : cr)=a_ (.ref A.pg)
 kind:fs.lookup (U_ : cr)=a_ (.str S.kd)
 steps:fs.lookup ("steps":cr)=a_ (.ref A.st)
 places:fs.lookup ("places":cr)=a_ (.ref A.pl)
 counts:fs.lookup ("counts":cr)=a_ (.ref A.ct)
 dX:fs.lookup ("regs":cr)=a_ (.ref A.rg)
 cells:fs.lookup ("cells":cr)=a_ (.ref A.ce)
 ja:fs.lookup ("acts":cr)=a_ (.ref A.ac)
 kU:fs.lookup ("comers":cr)=a_ (.ref A.cm)
 ms:∀m∈jC,fs.lookup m=b_
 wM:fs.length<=20
abbrev HR(CT:e_)(kd:cr)(H:Hp)(x:e_×e_×List e_)(k:Ck):Prop:=dM H x.1 CT kd k.tn k.es x.2.1 x.2.2
def An(t:bh)(H:Hp)(v:V)(p:Pt):Prop:=∃b us,v=.ref b/\H b=a_ (.tup us)/\bt (jU t H) us p
structure bg(t:bh)(C CT:e_)(H:Hp)(m:e_)(A:MA)(S:Mc):Prop where
 obj:∃dx fs,H m=a_ (.ins C dx fs)/\wB fs A S
 lt:H A.lt=a_ (.lst<|A.ts.map λx=>V.ref x.1)
 ts:bt (HR CT S.kd H) A.ts S.ck
 pg:iB H (.ref A.pg) S.ps
 st:∃vs,H A.st=a_ (.tup vs)/\bt (An t H) vs S.ps
 pl:H A.pl=a_ (.lst<|S.ck.map λk=>V.int (k.pl:Nat))
 ct:H A.ct=a_ (.lst<|S.ck.map λk=>V.int (k.ct:Nat))
 rg:H A.rg=a_ (.lst<|A.rs.map V.ref)
 rs:bt (λa(k:Ck)=>H a=a_ (.lst<|k.rg.map V.int)) A.rs S.ck
 ce:H A.ce=a_ (.lst<|S.bd.map V.int)
 ac:∃vs,H A.ac=a_ (.lst vs)/\bt (C2 H) vs S.ac
 cm:H A.cm=a_ (.lst<|A.cs.map V.ref)
 cs:bt (λa(o:List Int)=>H a=a_ (.lst<|o.map V.int)) A.cs S.ov
structure kA(gv:e_->Nat)(m:e_)(A:MA):Prop where
 m:gv m=2
 lt:gv A.lt=4
 pl:gv A.pl=6
 ct:gv A.ct=8
 rg:gv A.rg=10
 ce:gv A.ce=12
 ac:gv A.ac=14
 cm:gv A.cm=16
 rs:∀i a,A.rs[i]?=a_ a->gv a=24+6*i
 cs:∀i a,A.cs[i]?=a_ a->gv a=26+6*i
 ts:∀i x,A.ts[i]?=a_ x->∀b∈x.1::x.2.1::x.2.2,gv b=28+6*i
inductive cN (m:e_) (A:MA):e_->Prop
 | m:cN m A m
 | lt:cN m A A.lt
 | pl:cN m A A.pl
 | ct:cN m A A.ct
 | rg:cN m A A.rg
 | ce:cN m A A.ce
 | ac:cN m A A.ac
 | cm:cN m A A.cm
 | rs {a:e_}:a∈A.rs->cN m A a
 | cs {a:e_}:a∈A.cs->cN m A a
 | ts {x:e_×e_×List e_} {b:e_}:x∈A.ts->b∈x.1::x.2.1::x.2.2->cN m A b
structure aG(F:e_->Prop)(H H':Hp):Prop where
 k:∀b o,¬F b->(∀ps,o≠.ft ps)->H b=a_ o->H' b=a_ o
 t:∀b,H' b=b_->H b=b_
def aG.of(s:ae H H'):aG F H H':=⟨λb o _ _ e=>s b o e,λb h=>s.free h⟩
def aG.refl(H:Hp):aG F H H:=⟨λ_ _ _ _ e=>e,λ_ h=>h⟩
def aG.fT(a:aG F H H1)(b:aG F H1 H2):aG F H H2:=⟨λc o h1 h2 e=>b.k c o h1 h2<|a.k c o h1 h2 e,λc h=>a.t c<|b.t c h⟩
def aG.mono(a:aG F H H')(h:∀b,F b->G b):aG G H H':=⟨λc o h1 h2 e=>a.k c o (λz=>h1<|h c z) h2 e,a.t⟩
def aG.Qq(a:hY F H H')(h:∀b∈F,G b):aG G H H':=⟨λc o h1 h2 e=>a.k c o (λz=>h1<|h c z) h2 e,a.t⟩
def aG.db(h:F x):aG F H (db H x o):=⟨λb q n _ e=>by rw[aj λz=>n (by rw[z];exact h)];exact e,λb e=>by
 by_cases z:b=x
 .rw[z,ao]at e;cases e
 .rwa[aj z]at e⟩
def hY.ofA(k:G9 (a::q::qr) H H')(T:dM H' a C kd tn es q qr):hY (a::q::qr) H H':=
 ⟨λc o h1 _ e=>k c o h1 e,λc h=>by
  by_cases z:c∈a::q::qr
  .refine oE (T.there c z) λo e=>?_;rw[e]at h;cases h
  cases e:H c with
  | none=>rfl
  | some o=>rw[k c o z e]at h;cases h⟩
def dZ:e_->Prop:=λ_=>False
theorem iu{c d:Type}{F:c->d->Prop}{G:c->d->Prop}:∀{l:List c}{r:List d},bt F l r->(∀(i:Nat)a b,l[i]?=a_ a->r[i]?=a_ b->F a b->G a b)->bt G l r
 | _,_,.nil,_=>.nil
 | _,_,.cons h t,k=>.cons (k 0 _ _ xz xz h) (iu t λi a b e f q=>k (i+1) a b (by simpa using e) (by simpa using f) q)
def An.keep(c:∀b xs,H b=a_ (.tup xs)->H' b=a_ (.tup xs))(d:∀b C dx fs,H b=a_ (.ins C dx fs)->(∃x ps v,C=cB t x/\fs=c9 v x ps)->H' b=a_ (.ins C dx fs))(h:An t H v p):An t H' v p:=by
 exact fk h λb us e h1 h2=>dN b _ e (c _ _ h1) (Paired.bq h2 λv s q=>CS q λz a dx f q=>⟨z,a,dx,f,(d _ _ _ _ q<|uV _ _<|ay _ xz xz)⟩)
def C2.keep(k:∀b xs,H b=a_ (.tup xs)->H' b=a_ (.tup xs))(h:C2 H v a):C2 H' v a:=by
 exact aB h λp e h=>ay p e<|k _ _ h
theorem qm{b a:Type}{F:b->a->Prop}:∀{l:List b}{r:List a}{i:Nat}{y:a},bt F l r->r[i]?=a_ y->∃x,l[i]?=a_ x/\F x y
 | _,_,_,_,.nil,e=>by simp at e
 | _,_,0,_,.cons h _,e=>by simp at e;subst e;exact⟨_,xz,h⟩
 | _,_,i+1,x,.cons _ t,e=>by
  exact aB (qm (i:=i) t<|by simpa using e) λy h1 h2=>ay y (by simpa using h1) h2
theorem Ki{a b:Type}{F:a->b->Prop}{c:List a}{d:List b}(h':bt F c d):∀{l:List a}{r:List b},bt F l r->bt F (l++c) (r++d)
 | _,_,.nil=>h'
 | _,_,.cons g t=>.cons g<|Ki h' t
theorem nW{a c:Type}{F:a->c->Prop}:∀{l:List a}{m:List c}{b:a},bt F l m->b∈l->∃y,y∈m/\F b y
 | _,_,_,.nil,h=>by simp at h
 | _,_,_,.cons h t,e=>by
  obtain z|z:=bH.mp e
  .subst z;exact⟨_,by simp,h⟩
  exact aB (nW t z) λy d q=>ay y (cx _ d) q
def bg.keep(M:bg t C CT H m A S)(k:∀b,cN m A b->∀o,H b=a_ o->H' b=a_ o)(a:∀b xs,H b=a_ (.tup xs)->H' b=a_ (.tup xs))(f:∀b C dx fs,H b=a_ (.ins C dx fs)->H' b=a_ (.ins C dx fs)):bg t C CT H' m A S:=by
 obtain⟨⟨dx,fs,h1,h2⟩,lt,ts,pg,⟨vs,s1,s2⟩,pl,ct,rg,rs,ce,⟨us,g,h⟩,cm,cs⟩:=M;exact⟨⟨dx,fs,k _ .m _ h1,h2⟩,k _ .lt _ lt,iu ts λi x c d _ q=>q.keep (λb j o e=>k b (.ts (aW d) j) o e) a,pg.keep a,⟨vs,a _ _ s1,Paired.bq s2 λ_ _ q=>q.keep a λb C dx fs e _=>f b C _ _ e⟩,k _ .pl _ pl,k _ .ct _ ct,k _ .rg _ rg,iu rs λi x c d _ q=>k x (.rs<|aW d) _ q,k _ .ce _ ce,⟨us,k _ .ac _ g,Paired.bq h λ_ _ q=>q.keep a⟩,k _ .cm _ cm,iu cs λi x c d _ q=>k x (.cs<|aW d) _ q⟩
def bg.alN{F:e_->Prop}(M:bg t C CT H m A S)(k:aG F H H')(d:∀b,F b->¬cN m A b/\∀o,H b=a_ o->∃xs,o=.lst xs):bg t C CT H' m A S:=by
 have f:∀b o,cN m A b->H b=a_ o->∀ps,o≠.ft ps:=by
  intro b o a e ps z;subst z;cases a with
  | m=>obtain⟨dx,fs,h,_⟩:=M.obj;rw[h]at e;cases e
  | lt=>rw[M.lt]at e;cases e
  | pl=>rw[M.pl]at e;cases e
  | ct=>rw[M.ct]at e;cases e
  | rg=>rw[M.rg]at e;cases e
  | ce=>rw[M.ce]at e;cases e
  | ac=>obtain⟨vs,h,_⟩:=M.ac;rw[h]at e;cases e
  | cm=>rw[M.cm]at e;cases e
  | rs h=>
   refine aB (nW M.rs h) λc _ q=>?_;rw[q]at e;cases e
  | cs h=>
   refine aB (nW M.cs h) λc _ q=>?_;rw[q]at e;cases e
  | ts h h2=>
   refine aB (nW M.ts h) λc _ q=>?_;rcases q.kinds _ h2 _ e with ⟨_,_,_,z⟩ | ⟨_,z⟩ <;> cases z
 refine M.keep (λb a o e=>k.k b o (λz=>(d b z).1 a) (f b o a e) e) (λb xs e=>k.k b _ (λz=>?_) (λps z=>by cases z) e) λb C dx fs e=>k.k b _ (λz=>?_) (λps z=>by cases z) e
 .refine oE ((d b z).2 _ e) λys q=>?_;cases q
 refine oE ((d b z).2 _ e) λys q=>?_;cases q
def bg.same(M:bg t C CT H m A S)(s:ae H H'):bg t C CT H' m A S:=M.keep (λb _ o e=>s b o e) (λb xs e=>s b _ e) λb C dx fs e=>s b _ e
def bg.pJ(M:bg t C CT H m A S)(k:aG dZ H H'):bg t C CT H' m A S:=M.alN k λb z=>z.elim
structure gF(K:u_)(C:e_):Prop where
 cl:da K C
 fD:bM K C "trays"
 program:bM K C O_
 kind:bM K C U_
 steps:bM K C "steps"
 places:bM K C "places"
 counts:bM K C "counts"
 dX:bM K C "regs"
 cells:bM K C "cells"
 ja:bM K C "acts"
 kU:bM K C "comers"
def jl{a:Type}{f:a->V}{r:List a}{c:Nat}{k:a}(h:r[c]?=a_ k):iQ (r.map f) (c:Int)=a_ (f k):=bA (by rw[cc,h];rfl)
def BL{l:List (e_×e_×List e_)}{c:Nat}{x:e_×e_×List e_}(h:l[c]?=a_ x):iQ (l.map λx=>V.ref x.1) (c:Int)=a_ (.ref x.1):=jl h
structure ie(S:Mc):Prop where
 good:cV S.ps
 len:S.ck.length=S.ps.length
 bd:S.bd.length=12
 ov:S.ov.length=12
 rg:∀k∈S.ck,k.rg.length=4
 pl:∀(c:Nat)k p,S.ck[c]?=a_ k->S.ps[c]?=a_ p->k.pl<=p.length
 ac:S.ac.length<=15000
 es:∀k∈S.ck,k.es.length<=S.ac.length
section
variable{t:bh}{C CT:e_}{H:Hp}{m:e_}{A:MA}{S:Mc}
def bg.uy(M:bg t C CT H m A S){c:Nat}(h:S.ck[c]?=a_ k):∃x,A.ts[c]?=a_ x/\HR CT S.kd H x k:=qm M.ts h
def bg.dX(M:bg t C CT H m A S){c:Nat}(h:S.ck[c]?=a_ k):∃a,A.rs[c]?=a_ a/\H a=a_ (.lst<|k.rg.map V.int):=qm (F:=λa k=>H a=a_ (.lst<|k.rg.map V.int)) M.rs h
def bg.over(M:bg t C CT H m A S){n:Nat}(h:S.ov[n]?=a_ o):∃a,A.cs[n]?=a_ a/\H a=a_ (.lst<|o.map V.int):=qm (F:=λa o=>H a=a_ (.lst<|o.map V.int)) M.cs h
def bg.part(M:bg t C CT H m A S){c:Nat}(h:S.ps[c]?=a_ p):∃vs b us,H A.st=a_ (.tup vs)/\vs[c]?=a_ (.ref b)/\H b=a_ (.tup us)/\bt (jU t H) us p:=by
 refine aB M.st λvs h1 h2=>aB (qm h2 h) λv d a=>fk a λb us a h3 h4=>?_;subst a;exact⟨vs,b,us,h1,d,h3,h4⟩
end
section
variable{t:bh}{C CT:e_}
def My(t:bh)(C CT:e_):Sp:=λvs H Q _=>∃m A S c k p,vs=[.ref m,.int (c:Nat)]/\bg t C CT H m A S/\S.ck[c]?=a_ k/\S.ps[c]?=a_ p/\p.length<=1000/\Q (.bl<|decide<|k.pl=p.length) H
def aha:aV hA hA (aP NF):=aZ
def FR(a b:Nat):decide (V.int (a:Int)=V.int (b:Int))=decide (a=b):=decide_eq_decide.mpr ⟨λz=>by injection z with z;lia,λz=>by rw[z]⟩
def afG(F:aQ K "at_end" "Machine.at_end" NF f fd)(e:mg "len"=b_)(a:gF K C):aF P w K mg gl aE 1 f fd hA (My t C CT):=by
 refine F.ok aha λaH A _ s H vs Q E l h=>?_;refine mX h λm A S c k p d M g i j=>?_;subst d;refine oA j λn q=>sP (ar<|aS<|jB c7 (aN bQ (a7 (pv 0) xz)<|pv 1) (bu dS xz e q_<|aa (aN bX (a7 (pv 0) xz)<|pv 1) af)<|br _) (cG (id M.obj) λdx fs hm G=>lG (M.part i) λvs b us h1 h2 d=>oA d λh3 h4=>vF xz hm a.cl a.places G.places<|vr xz<|rL (ag.of M.pl) (jl g)<|vF xz hm a.cl a.steps G.steps<|vr xz<|rT (aq.of h1) (bA h2)<|⟨b,us,xz,(.inr<|aq.of h3),xz,?_⟩);rw[r_ h4,FR];exact q
def Wy(t:bh)(C CT:e_)(g:Ck->Nat):Sp:=λvs H Q _=>∃m A S c k,vs=[.ref m,.int (c:Nat)]/\bg t C CT H m A S/\S.ck[c]?=a_ k/\Q (.int (g k:Nat)) H
def agX:aV hA hA (aP Nl):=aZ
def afo(F:aQ K "where" "Machine.where" Nl f fd)(b:gF K C):aF P w K mg gl aE 1 f fd hA (Wy t C CT Ck.pl):=by
 refine F.ok agX λaH A _ s H vs Q E e h=>?_;refine jk h λm A S c k a=>C9 a λa M d q=>?_;subst a;exact sP (ar<|aS<|aN bQ (a7 (pv 0) xz)<|pv 1) (cG (id M.obj) λdx fs hm G=>vF xz hm b.cl b.places G.places<|vr xz<|rL (ag.of M.pl) (jl d) q)
def Nd(t:bh)(C CT:e_):Sp:=λvs H Q _=>∃m A S c k,vs=[.ref m,.int (c:Nat)]/\bg t C CT H m A S/\S.ck[c]?=a_ k/\∀l,H l=b_->Q (.ref l) (db H l<|.lst<|k.rg.map V.int)
def acx:aV hA hA (aP Kn):=aZ
def acf(F:aQ K "registers" "Machine.registers" Kn f fd)(e:mg "list"=b_)(d:gF K C):aF P w K mg gl aE 1 f fd hA (Nd t C CT):=by
 refine F.ok acx λaH A _ s H vs Q E j h=>?_;refine jk h λm A S c k b=>C9 b λb M g q=>?_;subst b;exact sP (ar<|aS<|fw xD xz e r9<|aa (aN bQ (a7 (pv 0) xz)<|pv 1) af) (cG (id M.obj) λdx fs hm G=>aB (M.dX g) λa ha i=>vF xz hm d.cl d.dX G.dX<|vr xz<|rL (ag.of M.rg) (jl ha) ⟨a,⟨_,xz,.inl<|ag.of i,q⟩⟩)
def Mx(t:bh)(C CT:e_):Sp:=λvs H Q _=>∃m A S,vs=[.ref m]/\bg t C CT H m A S/\∀l,H l=b_->Q (.ref l) (db H l<|.lst<|S.bd.map V.int)
def ag':aV gw gw (aP ND):=aZ
def afF(F:aQ K "board" "Machine.board" ND f fd)(b:mg "list"=b_)(a:gF K C):aF P w K mg gl aE 1 f fd gw (Mx t C CT):=by
 refine F.ok ag' λaH A _ s H vs Q E d h=>?_;refine lG h λm A S c M q=>?_;subst c;exact sP (ar<|aS<|fw xD xz b r9<|aa (a7 (pv 0) xz) af) (cG (id M.obj) λdx fs hm G=>vF xz hm a.cl a.cells G.cells ⟨A.ce,⟨_,xz,.inl<|ag.of M.ce,q⟩⟩)
def UR(t:bh)(C CT:e_):Sp:=λvs H Q _=>∃m A S c k,vs=[.ref m,.int (c:Nat)]/\bg t C CT H m A S/\S.ck[c]?=a_ k/\k.es.length<64/\∀H' l us,ae H H'->H l=b_->H' l=a_ (.lst us)->bt (Gu H') us k.es->Q (.ref l) H'
def adS:aV hA hA (aP Ly):=aZ
def ac6(F:aQ K "waiting" "Machine.waiting" Ly f fd)(e:gF K C)(g:kz K CT)(a:Mt P w K mg gl CT 1 "listed" gw (VE CT)):aF P w K mg gl aE 2 f fd hA (UR t C CT):=by
 refine F.ok adS λaH A _ s H vs Q E i h=>?_;refine jk h λm A S c k d=>Oy d λd M j l q=>?_;subst d;exact sP (ar<|aS<|Fj (aN bQ (a7 (pv 0) xz)<|pv 1) g.cl a.m a.G i a.b .nil dh) (cG (id M.obj) λdx fs hm G=>aB (M.uy j) λx n T=>eK (id T.obj) λr u o v y z p B=>vF xz hm e.cl e.fD G.fD<|vr xz<|rL (ag.of M.lt) (BL n)<|rM o (p _ dk)<|⟨x.1,_,_,_,_,(⟨_,xz,T,l,q⟩)⟩)
end
def ic{a b c m:Nat}(l:autoParam (a<b) ad):a≠b+m*c:=λh=>mU a<|ip l<|h ▸ JG b _
def p3{a b c m:Nat}(l:autoParam (a<b) ad):b+m*c≠a:=λe=>ic (l:=l) e.g8
def wJ{a b i c m:Nat}(l:autoParam (a%m≠b%m) ad):a+m*i≠b+m*c:=λh=>l (by rw[<-aaK a m i,h,aaK])
def wI(h:autoParam (i≠c) a3):a+(b+1)*i≠a+(b+1)*c:=λe=>h<|Nat.eq_of_mul_eq_mul_left (TU b)<|Nat.add_left_cancel e
def gn(n:autoParam (a≠b) ad):a≠b:=n
def bU(c:p=a)(d:q=b)(n:a≠b):p≠q:=λh=>n<|c.g8.fT<|h.fT d
def qR(b:p=a)(n:a≠q):p≠q:=λh=>n<|b.g8.fT h
def bT{gv:e_->Nat}(h:gv a≠gv b):a≠b:=λe=>h (by rw[e])
def zQ{a b:Type}{f:a->b}{r:List a}{c:Nat}{k k':a}(h:r[c]?=a_ k)(e:f k'=f k):(r.set c k').map f=r.map f:=by
 rw[qk,e];refine oE (cb.mp h) λd g=>?_;rw[<-g]
 exact JC λi=>by
  rw[abx]
  split
  .rename_i hi
   subst hi
   split
   .rw[cc,aL _];rfl
   rename_i hn;rw[aA]at hn;exact eu d hn
  rfl
theorem xI{f d:Type}{F:f->d->Prop}{g:d}:∀{l:List f}{r:List d}{c:Nat}{b:d},bt F l r->r[c]?=a_ b->(∀a,l[c]?=a_ a->F a b->F a g)->bt F l (r.set c g)
 | _,_,_,_,.nil,_,_=>.nil
 | _,_,0,b,.cons h t,e,k=>by
  simp only[List.getElem?_cons_zero,xx]at e;subst e;exact .cons (k _ xz h) t
 | _,_,c+1,b,.cons h t,e,k=>by
  rw[aaS]at e;exact .cons h (xI t e λa ha=>k a<|by simpa using ha)
theorem BI{g f:Type}{F G:g->f->Prop}{j:f}:∀{l:List g}{r:List f}{c:Nat},bt F l r->(∀i a b,i≠c->l[i]?=a_ a->r[i]?=a_ b->F a b->G a b)->(∀a b,l[c]?=a_ a->r[c]?=a_ b->F a b->G a j)->bt G l (r.set c j)
 | _,_,_,.nil,_,_=>.nil
 | _,_,0,.cons h t,k,k'=>by
  refine .cons (k' _ _ xz xz h) (iu t λi a b d e q=>k (i+1) a b li (by simpa using d) (by simpa using e) q)
 | _,_,c+1,.cons h t,k,k'=>by
  refine .cons (k 0 _ _ li xz xz h) (BI t (λi a b hi d e q=>k (i+1) a b li (by simpa using d) (by simpa using e) q) λa b d e q=>k' a b (by simpa using d) (by simpa using e) q)
theorem mV{c d:Type}{F:c->d->Prop}{a:c}{b:d}:∀{l:List c}{r:List d},bt F l r->F a b->bt F (l++[a]) (r++[b])
 | _,_,.nil,h=>.cons h .nil
 | _,_,.cons g t,h=>.cons g<|mV t h
section
variable{t:bh}{C CT:e_}{H:Hp}{m:e_}{A:MA}{S:Mc}{gv:e_->Nat}
def vL(a:H x=a_ (.lst xs)):∀b ys,H b=a_ (.tup ys)->db H x o b=a_ (.tup ys):=λb ys e=>by rw[aj<|i5 e a (by intro z;cases z)];exact e
def Ai(a:H x=a_ (.lst xs)):∀b C dx fs,H b=a_ (.ins C dx fs)->db H x o b=a_ (.ins C dx fs):=λb C dx fs e=>by rw[aj<|i5 e a (by intro z;cases z)];exact e
def ah6{PT x:e_}(a:H x=a_ (.lst xs))(h:cE PT pos q H):cE PT pos q (db H x o):=
 BM (F:=[x]) h (λb o' n e=>by rw[aj λz=>n (by rw[z];exact cO.mpr xz)];exact e) λb c o' e=>by rw[cO.mp c,a]at e;cases e;exact .inr ⟨_,xz⟩
def akR(M:bg t C CT H m A S)(L:kA gv m A){c:Nat}(h:S.ck[c]?=a_ k)(v:Nat):bg t C CT (db H A.pl<|.lst<|(S.ck.map λk=>V.int (k.pl:Nat)).set c<|.int (v:Nat)) m A {S with ck:=S.ck.set c {k with pl:=v}}:=by
 obtain⟨⟨dx,fs,h1,h2⟩,lt,ts,pg,⟨vs,s1,s2⟩,pl,ct,rg,rs,ce,⟨us,j,l⟩,cm,cs⟩:=M;have d:=L.pl;have f:=vL (o:=.lst<|(S.ck.map λk=>V.int k.pl).set c<|.int v) pl;have h2:wB _ A {S with ck:=S.ck.set c {k with pl:=v}}:=⟨h2.fD,h2.program,h2.kind,h2.steps,h2.places,h2.counts,h2.dX,h2.cells,h2.ja,h2.kU,h2.ms,h2.wM⟩
 exact⟨⟨dx,fs,(aj<|bT (gv:=gv)<|bU L.m d gn).fT h1,h2⟩,(aj<|bT (gv:=gv)<|bU L.lt d gn).fT lt,xI (iu ts λi x c g _ q=>dM.keep q (λb n o e=>(aj<|bT (gv:=gv)<|bU (L.ts i x g b n) d p3).fT e) f) h λa _ q=>q,pg.keep f,⟨vs,f _ _ s1,Paired.bq s2 λ_ _ q=>q.keep f λb C dx fs e _=>(Ai (o:=.lst<|(S.ck.map λk=>V.int k.pl).set c<|.int v) pl) b C dx fs e⟩,by
   rw[ao,qk],by
   rw[zQ (k':={k with pl:=v}) h rfl];exact(aj<|bT<|bU L.ct d gn).fT ct,(aj<|bT (gv:=gv)<|bU L.rg d gn).fT rg,xI (iu rs λi x c g _ q=>(aj<|bT (gv:=gv)<|bU (L.rs i x g) d p3).fT q) h λa _ q=>q,(aj<|bT (gv:=gv)<|bU L.ce d gn).fT ce,⟨us,(aj<|bT (gv:=gv)<|bU L.ac d gn).fT j,Paired.bq l λ_ _ q=>q.keep f⟩,(aj<|bT (gv:=gv)<|bU L.cm d gn).fT cm,iu cs λi x c g _ q=>(aj<|bT (gv:=gv)<|bU (L.cs i x g) d p3).fT q⟩
def akT(M:bg t C CT H m A S)(L:kA gv m A){c:Nat}(h:S.ck[c]?=a_ k)(v:Nat):bg t C CT (db H A.ct<|.lst<|(S.ck.map λk=>V.int (k.ct:Nat)).set c<|.int (v:Nat)) m A {S with ck:=S.ck.set c {k with ct:=v}}:=by
 obtain⟨⟨dx,fs,h1,h2⟩,lt,ts,pg,⟨vs,s1,s2⟩,pl,ct,rg,rs,ce,⟨us,j,l⟩,cm,cs⟩:=M;have d:=L.ct;have f:=vL (o:=.lst<|(S.ck.map λk=>V.int k.ct).set c<|.int v) ct;have h2:wB _ A {S with ck:=S.ck.set c {k with ct:=v}}:=⟨h2.fD,h2.program,h2.kind,h2.steps,h2.places,h2.counts,h2.dX,h2.cells,h2.ja,h2.kU,h2.ms,h2.wM⟩
 exact⟨⟨dx,fs,(aj<|bT (gv:=gv)<|bU L.m d gn).fT h1,h2⟩,(aj<|bT (gv:=gv)<|bU L.lt d gn).fT lt,xI (iu ts λi x c g _ q=>dM.keep q (λb n o e=>(aj<|bT (gv:=gv)<|bU (L.ts i x g b n) d p3).fT e) f) h λa _ q=>q,pg.keep f,⟨vs,f _ _ s1,Paired.bq s2 λ_ _ q=>q.keep f λb C dx fs e _=>(Ai (o:=.lst<|(S.ck.map λk=>V.int k.ct).set c<|.int v) ct) b C dx fs e⟩,by
   rw[zQ (k':={k with ct:=v}) h rfl];exact(aj<|bT<|bU L.pl d gn).fT pl,by
   rw[ao,qk],(aj<|bT (gv:=gv)<|bU L.rg d gn).fT rg,xI (iu rs λi x c g _ q=>(aj<|bT (gv:=gv)<|bU (L.rs i x g) d p3).fT q) h λa _ q=>q,(aj<|bT (gv:=gv)<|bU L.ce d gn).fT ce,⟨us,(aj<|bT (gv:=gv)<|bU L.ac d gn).fT j,Paired.bq l λ_ _ q=>q.keep f⟩,(aj<|bT (gv:=gv)<|bU L.cm d gn).fT cm,iu cs λi x c g _ q=>(aj<|bT (gv:=gv)<|bU (L.cs i x g) d p3).fT q⟩
def Gv(M:bg t C CT H m A S)(L:kA gv m A){c:Nat}(h:S.ck[c]?=a_ k)(ha:A.rs[c]?=a_ a)(r:Nat)(v:Int):bg t C CT (db H a<|.lst<|(k.rg.map V.int).set r<|.int v) m A {S with ck:=S.ck.set c {k with rg:=k.rg.set r v}}:=by
 obtain⟨⟨dx,fs,h1,h2⟩,lt,ts,pg,⟨vs,s1,s2⟩,pl,ct,rg,rs,ce,⟨us,p,s⟩,cm,cs⟩:=M
 have j:H a=a_ (.lst<|k.rg.map V.int):=by
  refine aB (zS rs ha) λu l q=>?_;rw[h]at l;cases l;exact q
 have d:=L.rs c a ha;have g:=vL (o:=.lst<|(k.rg.map V.int).set r<|.int v) j;have h2:wB _ A {S with ck:=S.ck.set c {k with rg:=k.rg.set r v}}:=⟨h2.fD,h2.program,h2.kind,h2.steps,h2.places,h2.counts,h2.dX,h2.cells,h2.ja,h2.kU,h2.ms,h2.wM⟩
 exact⟨⟨dx,fs,(aj<|bT (gv:=gv)<|bU L.m d ic).fT h1,h2⟩,(aj<|bT (gv:=gv)<|bU L.lt d ic).fT lt,xI (iu ts λi x c f _ q=>dM.keep q (λb n o e=>(aj<|bT (gv:=gv)<|bU (L.ts i x f b n) d wJ).fT e) g) h λa _ q=>q,pg.keep g,⟨vs,g _ _ s1,Paired.bq s2 λ_ _ q=>q.keep g λb C dx fs e _=>(Ai (o:=.lst<|(k.rg.map V.int).set r<|.int v) j) b C dx fs e⟩,by
   rw[zQ (k':={k with rg:=k.rg.set r v}) h rfl];exact(aj<|bT<|bU L.pl d ic).fT pl,by
   rw[zQ (k':={k with rg:=k.rg.set r v}) h rfl];exact(aj<|bT<|bU L.ct d ic).fT ct,(aj<|bT (gv:=gv)<|bU L.rg d ic).fT rg,BI rs (λi x b hi f _ q=>(aj<|bT (gv:=gv)<|bU (L.rs i x f) d wI).fT q) λx b f n q=>by
   rw[ha]at f;cases f;rw[ao,qk],(aj<|bT (gv:=gv)<|bU L.ce d ic).fT ce,⟨us,(aj<|bT (gv:=gv)<|bU L.ac d ic).fT p,Paired.bq s λ_ _ q=>q.keep g⟩,(aj<|bT (gv:=gv)<|bU L.cm d ic).fT cm,iu cs λi x c f _ q=>(aj<|bT (gv:=gv)<|bU (L.cs i x f) d wJ).fT q⟩
def akU(M:bg t C CT H m A S)(L:kA gv m A)(n:Nat)(v:Int):bg t C CT (db H A.ce<|.lst<|(S.bd.map V.int).set n<|.int v) m A {S with bd:=S.bd.set n v}:=by
 obtain⟨⟨dx,fs,h1,h2⟩,lt,ts,pg,⟨vs,s1,s2⟩,pl,ct,rg,rs,ce,⟨us,g,h⟩,cm,cs⟩:=M;have a:=L.ce;have d:=vL (o:=.lst<|(S.bd.map V.int).set n<|.int v) ce;have h2:wB _ A {S with bd:=S.bd.set n v}:=⟨h2.fD,h2.program,h2.kind,h2.steps,h2.places,h2.counts,h2.dX,h2.cells,h2.ja,h2.kU,h2.ms,h2.wM⟩
 exact⟨⟨dx,fs,(aj<|bT (gv:=gv)<|bU L.m a gn).fT h1,h2⟩,(aj<|bT (gv:=gv)<|bU L.lt a gn).fT lt,iu ts λi x c f _ q=>dM.keep q (λb j o e=>(aj<|bT (gv:=gv)<|bU (L.ts i x f b j) a p3).fT e) d,pg.keep d,⟨vs,d _ _ s1,Paired.bq s2 λ_ _ q=>q.keep d λb C dx fs e _=>(Ai (o:=.lst<|(S.bd.map V.int).set n<|.int v) ce) b C dx fs e⟩,(aj<|bT (gv:=gv)<|bU L.pl a gn).fT pl,(aj<|bT (gv:=gv)<|bU L.ct a gn).fT ct,(aj<|bT (gv:=gv)<|bU L.rg a gn).fT rg,iu rs λi x c f _ q=>(aj<|bT (gv:=gv)<|bU (L.rs i x f) a p3).fT q,by
   rw[ao,qk],⟨us,(aj<|bT (gv:=gv)<|bU L.ac a gn).fT g,Paired.bq h λ_ _ q=>q.keep d⟩,(aj<|bT (gv:=gv)<|bU L.cm a gn).fT cm,iu cs λi x c f _ q=>(aj<|bT (gv:=gv)<|bU (L.cs i x f) a p3).fT q⟩
def Oa(M:bg t C CT H m A S)(L:kA gv m A){ws:List V}(hw:H A.ac=a_ (.lst ws))(f:C2 H x a):bg t C CT (db H A.ac<|.lst<|ws++[x]) m A {S with ac:=S.ac++[a]}:=by
 obtain⟨⟨dx,fs,h1,h2⟩,lt,ts,pg,⟨vs,s1,s2⟩,pl,ct,rg,rs,ce,⟨us,h,j⟩,cm,cs⟩:=M;obtain rfl:ws=us:=by rw[hw]at h;cases h;rfl
 have d:=L.ac;have g:=vL (o:=.lst<|ws++[x]) hw;have h2:wB _ A {S with ac:=S.ac++[a]}:=⟨h2.fD,h2.program,h2.kind,h2.steps,h2.places,h2.counts,h2.dX,h2.cells,h2.ja,h2.kU,h2.ms,h2.wM⟩;exact⟨⟨dx,fs,(aj<|bT<|bU L.m d gn).fT h1,h2⟩,(aj<|bT<|bU L.lt d gn).fT lt,iu ts λi x c f _ q=>dM.keep q (λb k o e=>(aj<|bT<|bU (L.ts i x f b k) d p3).fT e) g,pg.keep g,⟨vs,g _ _ s1,Paired.bq s2 λ_ _ q=>q.keep g λb C dx fs e _=>(Ai (o:=.lst<|ws++[x]) hw) b C _ _ e⟩,(aj<|bT<|bU L.pl d gn).fT pl,(aj<|bT<|bU L.ct d gn).fT ct,(aj<|bT<|bU L.rg d gn).fT rg,iu rs λi x c f _ q=>(aj<|bT<|bU (L.rs i x f) d p3).fT q,(aj<|bT<|bU L.ce d gn).fT ce,⟨ws++[x],ao,mV (Paired.bq j λ_ _ q=>q.keep g)<|f.keep g⟩,(aj<|bT<|bU L.cm d gn).fT cm,iu cs λi x c f _ q=>(aj<|bT<|bU (L.cs i x f) d p3).fT q⟩
def akS(M:bg t C CT H m A S)(L:kA gv m A){n:Nat}(hn:S.ov[n]?=a_ ov)(ha:A.cs[n]?=a_ a)(d:Int):bg t C CT (db H a<|.lst<|ov.map V.int++[.int d]) m A {S with ov:=S.ov.set n (ov++[d])}:=by
 obtain⟨⟨dx,fs,h1,h2⟩,lt,ts,pg,⟨vs,s1,s2⟩,pl,ct,rg,rs,ce,⟨us,p,r⟩,cm,cs⟩:=M
 have j:H a=a_ (.lst<|ov.map V.int):=by
  refine aB (zS cs ha) λs k q=>?_;rw[hn]at k;cases k;exact q
 have f:=L.cs n a ha;have h:=vL (o:=.lst<|ov.map V.int++[.int d]) j;have h2:wB _ A {S with ov:=S.ov.set n (ov++[d])}:=⟨h2.fD,h2.program,h2.kind,h2.steps,h2.places,h2.counts,h2.dX,h2.cells,h2.ja,h2.kU,h2.ms,h2.wM⟩
 exact⟨⟨dx,fs,(aj<|bT (gv:=gv)<|bU L.m f ic).fT h1,h2⟩,(aj<|bT (gv:=gv)<|bU L.lt f ic).fT lt,iu ts λi x c g _ q=>dM.keep q (λb l o e=>(aj<|bT (gv:=gv)<|bU (L.ts i x g b l) f wJ).fT e) h,pg.keep h,⟨vs,h _ _ s1,Paired.bq s2 λ_ _ q=>q.keep h λb C dx fs e _=>(Ai (o:=.lst<|ov.map V.int++[.int d]) j) b C dx fs e⟩,(aj<|bT (gv:=gv)<|bU L.pl f ic).fT pl,(aj<|bT (gv:=gv)<|bU L.ct f ic).fT ct,(aj<|bT (gv:=gv)<|bU L.rg f ic).fT rg,iu rs λi x c g _ q=>(aj<|bT (gv:=gv)<|bU (L.rs i x g) f wJ).fT q,(aj<|bT (gv:=gv)<|bU L.ce f ic).fT ce,⟨us,(aj<|bT (gv:=gv)<|bU L.ac f ic).fT p,Paired.bq r λ_ _ q=>q.keep h⟩,(aj<|bT (gv:=gv)<|bU L.cm f ic).fT cm,BI cs (λi x b hi g _ q=>(aj<|bT (gv:=gv)<|bU (L.cs i x g) f wI).fT q) λx b g l q=>by
   rw[ha]at g;cases g;rw[ao,dB];rfl⟩
def YC{c:Nat}{x:e_×e_×List e_}{tn:Int}(M:bg t C CT H m A S)(L:kA gv m A)(l:S.ck[c]?=a_ k)(r:A.ts[c]?=a_ x)(kp:hY (x.1::x.2.1::x.2.2) H H')(T:dM H' x.1 CT S.kd tn es x.2.1 x.2.2):bg t C CT H' m A {S with ck:=S.ck.set c {k with tn:=tn,es:=es}}:=by
 obtain⟨⟨dx,fs,h1,h2⟩,lt,ts,pg,⟨vs,s1,s2⟩,pl,ct,rg,rs,ce,⟨us,E,F⟩,cm,cs⟩:=M;refine aB (zS ts r) λk0 u p=>?_;rw[l]at u;cases u;have d:∀b o,gv b≠28+6*c->(∀ps,o≠.ft ps)->H b=a_ o->H' b=a_ o:=λb o n z e=>kp.k b o (λh=>n<|(L.ts c x r) b h) z e;have j:∀b ys,H b=a_ _->H' b=a_ (.tup ys):=λb ys e=>kp.k b _ (λh=>by rcases p.kinds b h _ e with ⟨_,_,_,z⟩ | ⟨_,z⟩ <;> cases z) (λps z=>by cases z) e
 have G:∀b C dx fs,H b=a_ (.ins C dx fs)->(∃x ps v,C=cB t x/\fs=c9 v x ps)->H' b=a_ (.ins C dx fs):=λb C dx fs e I=>kp.k b _ (λh=>by
  obtain⟨x',ps,v,_,s⟩:=I;subst s;obtain z|z:=bH.mp h
  .refine fk p.obj λO Q e' B _=>?_;rw[z,e']at e;cases e;rw[vP U_ dk]at B;cases B
  obtain z|z:=bH.mp z
  .rw[z,p.qs]at e;cases e
  refine oE (nR z) λi s=>oE s λhi J=>?_;obtain⟨R,e',_⟩:=p.jY i b (by rw[<-J];exact aL _);rw[e']at e;cases e) (λps z=>by cases z) e
 have f:∀ys:List V,∀ps,HO.lst ys≠.ft ps:=λys ps z=>by cases z
 have h2:wB _ A {S with ck:=S.ck.set c {k with tn:=tn,es:=es}}:=⟨h2.fD,h2.program,h2.kind,h2.steps,h2.places,h2.counts,h2.dX,h2.cells,h2.ja,h2.kU,h2.ms,h2.wM⟩;refine⟨⟨dx,fs,d _ _ (qR L.m ic) (λps z=>by cases z) h1,h2⟩,d _ _ (qR L.lt ic) (f _) lt,?_,pg.keep j,⟨vs,j _ _ s1,Paired.bq s2 λ_ _ q=>q.keep j G⟩,?_,?_,d _ _ (qR L.rg ic) (f _) rg,?_,d _ _ (qR L.ce ic) (f _) ce,⟨us,d _ _ (qR L.ac ic) (f _) E,Paired.bq F λ_ _ q=>q.keep j⟩,d _ _ (qR L.cm ic) (f _) cm,iu cs λi y b g _ q=>d _ _ (qR (L.cs i y g) wJ) (f _) q⟩
 .refine BI ts (λi y b hi g _ q=>dM.keep q (λN D o e=>d _ o (qR (L.ts i y g _ D) wI) (λps z=>?_) e) j) λy b g h q=>?_
  .rcases q.kinds N D _ e with ⟨_,_,_,w⟩ | ⟨_,w⟩ <;> (rw[z]at w;cases w)
  rw[r]at g;cases g;exact T
 .rw[zQ (k':={k with tn:=tn,es:=es}) l rfl];exact d _ _ (qR L.pl ic) (f _) pl
 .rw[zQ (k':={k with tn:=tn,es:=es}) l rfl];exact d _ _ (qR L.ct ic) (f _) ct
 exact xI (iu rs λi y b g _ q=>d _ _ (qR (L.rs i y g) wJ) (f _) q) l λa _ q=>q
end
abbrev Mv:=cr×List Int
noncomputable def qS(mv:Mv):List V:=.str mv.1::mv.2.map V.int
def qQ(H:Hp)(v:V)(mv:Mv):Prop:=∃p,v=.ref p/\H p=a_ (.tup<|qS mv)
def qQ.keep{mv:Mv}(k:∀b xs,H b=a_ (.tup xs)->H' b=a_ (.tup xs))(h:qQ H v mv):qQ H' v mv:=by
 exact aB h λp e h=>ay p e<|k _ _ h
def aG.tup(k:aG F H H')(h:∀b,F b->∀xs,H b≠a_ (.tup xs)):∀b xs,H b=a_ (.tup xs)->H' b=a_ (.tup xs):=λb xs e=>k.k b _ (λz=>h b z _ e) (λps z=>by cases z) e
def aG.Pg(k:aG dZ H H'):∀b xs,H b=a_ (.tup xs)->H' b=a_ (.tup xs):=k.tup λb z=>z.elim
def aG.wx(k:aG dZ H H')(e:H b=a_ (.lst xs)):H' b=a_ (.lst xs):=k.k b _ (λz=>z) (λps z=>by cases z) e
def pN(k:Ck)(p:Pt):Bool:=match p[k.pl]? with
 | none=>d_
 | some s=>decide (k.es=[])||!fE s
def G7(kd:cr)(x:Ck×Nat):List Mv:=(jj kd x.1.es).map λn=>((as5 : cr),[(x.2:Int),n])
def wA(kd:cr)(l:List (Ck×Nat)):List Mv:=l.flatMap<|G7 kd
def Af(S:Mc):List Mv:=wA S.kd S.ck.zipIdx
def uD(S:Mc)(c:Nat):Bool:=match S.ck[c]?,S.ps[c]? with
 | some k,a_ p=>pN k p
 | _,_=>d_
def uI(S:Mc)(n:Nat):List Mv:=((List.range n).filter<|uD S).map λ(c:Nat)=>(("do":cr),[(c:Int)])
def gC(S:Mc):List Mv:=uI S S.ck.length++Af S
noncomputable def wz(S:Mc)(c:Nat):Bool:=match S.ck[c]?,S.ps[c]? with
 | some k,a_ p=>decide (k.pl=p.length)&&decide (k.es=[])
 | _,_=>d_
def jS(S:Mc):Bool:=(List.range S.ck.length).all<|wz S
def Uu(kd:cr)(es:List gy):(jj kd es).length<=12:=by
 unfold jj
 split
 .cases es.head? <;> simp
 unfold mq;rw[aA];exact dC (qe _ _)<|qh▸az _
theorem Fs(kd:cr):∀l:List (Ck×Nat),(wA kd l).length<=12*l.length
 | []=>by simp[wA]
 | x::l=>by
  have h:=Fs kd l;unfold wA at h ⊢;rw[zD,dG,eJ];have h2:(G7 kd x).length<=12:=by unfold G7;rw[aA];exact Uu _ _
  lia
section
variable{t:bh}{C CT:e_}{u:nO}
def WB(t:bh)(C CT:e_):Sp:=λvs H Q _=>∃m A S c k p,vs=[.ref m,.int (c:Nat)]/\bg t C CT H m A S/\S.ck[c]?=a_ k/\S.ps[c]?=a_ p/\p.length<=1000/\k.pl<=p.length/\(∀s∈p,∃sz,bY sz s)/\∀H',ae H H'->Q (.bl<|pN k p) H'
def WJ:aV i0 hA (aP Nq):=aZ
def afu(F:aQ K "may_do" "Machine.may_do" Nq f fd)(g:gF K C)(J:kz K CT)(O:yt K mg t u)(L:Mt P w K mg gl C 1 "at_end" hA (My t C CT))(o:Mt P w K mg gl CT 1 "is_empty" gw (Mu CT)):aF P w K mg gl aE 2 f fd hA (WB t C CT):=by
 refine F.ok WJ λaH A _ s H vs Q E r h=>?_
 refine mX h λm A S c k p j M y D N=>?_;subst j;obtain⟨R,hle,U,q⟩:=N;refine let d:TS:=_;⟨_,aw (bJ (dr<|jT (pv 0) g.cl L r<|aa (pv 1) af) (ar<|aS gD) b8)<|pR d<|aw (bC (i:=2) WJ.nd xz (aI xz)<|aN bX (aN bX (a7 (pv 0) xz)<|pv 1)<|aN bQ (a7 (pv 0) xz)<|pv 1)<|ar<|aS<|Ow (Fj (aN bQ (a7 (pv 0) xz)<|pv 1) J.cl o.m o.G r o.b .nil dh)<|oq<|F'<|LR (pv 2) r dh,cG (id M.obj) λdx fs hm G=>aB (M.uy y) λx W T=>eK (id T.obj) λkJ mM X e1 e2 e3 Y el=>lG (M.part D) λvs b us h1 h2 j=>oA j λh3 h4=>vM xz hm (G.ms _ dk)<|vr xz<|⟨m,A,S,c,k,p,xz,M,y,D,R,(tk<|bK (λl=>?_) λl=>?_)⟩⟩
 .have e:pN k p=false:=by unfold pN;rw[xt li]
  have q:=q H<|ae.refl H;rw[e]at q;exact q
 have I:k.pl<p.length:=li;have B:=aL I;refine aB (qm h4 B) λv Z j=>CS j λz a dz j hz=>?_;subst j;refine oE (U _<|tY I) λsz gs=>ay _ xz<|dE m C _ _<|iK _ xz hm g.cl g.steps G.steps<|vr xz<|rT (aq.of h1) (bA h2)<|vF xz hm g.cl g.places G.places<|vr xz<|rL (ag.of M.pl) (jl y)<|rT (aq.of h3) (bA Z)<|ay _ xz<|dE m C _ _<|iK _ xz hm g.cl g.fD G.fD<|vr xz<|rL (ag.of M.lt) (BL W)<|rM X (Y _ dk)<|⟨x.1,_,_,_,_,(dQ _ xz T λH1 s1=>(tk<|bK (λl=>?_) λl=>?_))⟩
 .have e:pN k p=true:=by unfold pN;rw[B];rw[eN l];rfl
  have q:=q _ s1;rw[e]at q;exact q
 have e:pN k p=!fE p[k.pl]:=by unfold pN;rw[B];rw[eT l];rfl
 have q:=q _ s1;rw[e]at q;exact BJ (Yq O gs<|s1 _ _ hz) λC1 f1 Ej pn sp hc cl me G1 bi q1=>ay _ xz<|⟨z,C1,dz,_,f1,Ej,pn,sp,xz,hc,vP R_ dk (.ref a) p[k.pl].1 (p[k.pl].2.map λ(n:Nat)=>V.int n),cl,me,G1,⟨bi,(q1 _ _ ⟨_,xz,q⟩)⟩⟩
def UT(t:bh)(C CT PT:e_):Sp:=λvs H Q _=>∃m A S,vs=[.ref m]/\bg t C CT H m A S/\S.ck.length<=4/\cE PT LP LQ H/\∀H' l vs,aG dZ H H'->cE PT LP LQ H'->H l=b_->H' l=a_ (.lst vs)->bt (qQ H') vs (Af S)->Q (.ref l) H'
def EY:aV [X_,"found",ac1,"tray"] gw (aP LN):=aZ
def alE:([ac1,l_]:List cr).Nodup:=dk
def ade{f PT:e_}(F:aQ K "carries" "Machine.carries" LN f fd)(cM:gF K C)(cT:kz K CT)(lS:mg "enumerate"=b_)(DF:Mt P w K mg gl CT 2 "fronts" gw (Lr CT PT)):aF P w K mg gl aE 3 f fd gw (UT t C CT PT):=by
 refine F.ok EY λaH A _ s H vs Q E hr h=>?_
 obtain⟨m,A,S,ab,M,h4,hL,q⟩:=h;subst ab
 refine let a:TS:=_;let d:TS:=_;⟨_,aw (bC (i:=1) EY.nd xz (aI xz)<|eC af) (pR d (aw (i3 hV xz (ui (b:=c_) xz lS<|aa (a7 (pv 0) xz) af) (oo xz<|gU (bo (i:=2) EY.nd xz<|uo xz)<|gU (bo (i:=3) EY.nd xz<|aI xz) og) (pR a (ar (fg (nu m_ PySem.F.slot_list_extend PySem.F.type_list_extend Va (pv 1) (aa (eB (N:=[ac1,l_]) (idx:=[2]) xz (cF.of<|by kernel_rfl) (eA<|az _)
    (kx<|pG (pv 3) cT.cl DF hr) (λ_ _ _ _=>bo (i:=1) alE xz (aI xz)<|.inr xz) (λ_ _ _ _=>eQ) λ_ _ _ _=>fj<|aa cp<|aa (pv 0)<|aa (pv 1) af) af))))))
  (ar<|aS<|pv 1))),?_⟩
 refine cG (id M.obj) λdx fs hm G=>⟨qc,λlw nw=>?_⟩;have I:ae H (db H _<|.lst []):=au (ae.refl _) nw;have hlen:=r_ M.ts;have Ru:(A.ts.map λx=>V.ref x.1).length=A.ts.length:=aA _;refine vF xz (I _ _ hm) cM.cl cM.fD G.fD ⟨A.lt,⟨_,xz,ag.of<|I _ _ M.lt,?_⟩⟩
 let W1:IV:=λi σ H'=>i<=A.ts.length/\∃c y vs,σ=[a_ (.ref m),a_<|.ref lw,c,y]/\aG dZ H H'/\cE PT LP LQ H'/\H' lw=a_ (.lst vs)/\bt (qQ H') vs (wA S.kd<|S.ck.zipIdx.take i)
 refine x9 (n:=A.ts.length) W1 ⟨ba _,b_,b_,[],xz,aG.of I,iw hL I,ao,.nil⟩ ?_ ?_ ?_ ?_
 .rintro i σ H' hi ⟨_,_,_,_,_,kp,_,_,_⟩;exact gm _ _ (ag.of<|kp.wx M.lt) (by rw[cc,aL hi];rfl)
 .rintro σ H' ⟨_,_,_,_,_,kp,_,_,_⟩;exact ay _ (ag.of<|kp.wx M.lt)<|Ru▸az _
 .rintro i σ O hi ⟨_,c,y,vs,rfl,kp,R,hw,B⟩ z H2 ⟨r,x,bR,ez,U,cU⟩;subst ez;subst U;have vf:=cU _<|ag.of<|kp.wx M.lt;rw[cc,aL hi]at vf;cases vf;have s2:ae _ (db _ r<|.tup [.int i,.ref A.ts[i].1]):=au (ae.refl _) bR;have W:=s2 _ _ hw;have aab:=Paired.bq B λ_ _ q=>qQ.keep (λb xs e=>s2 _ _ e) q;have mJ:=iw R s2;have D':db O r _ r=a_ (.tup [.int i,.ref A.ts[i].1]):=ao;generalize db _ r _=H2 at s2 W aab mJ D' ⊢;have X:=kp.fT<|aG.of s2;have Bq:=wf;refine aB ((M.pJ X).uy<|aL Bq) λx' tm T=>?_;rw[aL hi]at tm;cases tm;refine eK (id T.obj) λkJ mM ea e1 e2 e3 em el=>⟨r,⟨_,xz,aq.of D',xz,.int i,[.ref A.ts[i].1],xz,.ref A.ts[i].1,[],xz,xz,vr xz ⟨.inl ⟨xz,_,ag.of W⟩,⟨_,xz,_,kJ,mM,xz,ea,em _ dk,_,_,_,_,_,_,xz,T,mJ,λH3 lf k3 vq nf J=>?_⟩⟩⟩⟩;have Y:aG dZ _ H3:=aG.Qq k3 λb hb=>nomatch hb;refine dQ _ xz ⟨_,ag.of J⟩ ?_;have RH:=Uu S.kd S.ck[i].es;refine dU (n:=(jj S.kd S.ck[i].es).length) (λj ys g=>j<=(jj S.kd S.ck[i].es).length/\ae H3 g/\bt (qQ g) ys (((jj S.kd S.ck[i].es).take j).map λn=>((as5 : cr),[(i:Int),n]))) (cg<|cy w4) (gg (ba _) (ae.refl _) .nil) ?_ ?_ ?_ ?_ ?_
  .rintro j ys g ⟨_,_,e⟩;rw[r_ e,aA,eZ];exact xl
  .rintro j ys g D ⟨_,l,_⟩;exact gm _ _ (ag.of<|l _ _ J) (by rw[cc,aL D];rfl)
  .rintro ys g ⟨_,l,_⟩;exact ay _ (ag.of<|l _ _ J) (by rw[aA];exact az _)
  .rintro j ys g D ⟨_,l,e⟩ v H5 ⟨U,Q9⟩;subst U;have hv:=Q9 _<|ag.of<|l _ _ J;rw[cc,aL D]at hv;cases hv;refine ay _ xz<|vr xz ⟨(sl (n:=3)),(λtp ht=>⟨D,au l ht,?_⟩)⟩;rw[iq,aL D,dB];exact mV (Paired.bq e λ_ _ q=>q.keep λb xs e=>au (ae.refl _) ht _ _ e)<|ay _ xz ao
  rintro ys g ⟨_,l,e⟩;rw[jf<|az _]at e;refine⟨by rw[r_ e,aA];exact cg<|cy li,λrl ij=>?_⟩;have L:=au (o:=.lst ys) l ij;have Z:=L _ _<|Y.wx W;have cl:=Fs S.kd<|S.ck.zipIdx.take i;rw[eZ]at cl;refine⟨lw,rl,vs,ys,xz,xz,Z,ao,?_,hi,(uV _ _<|iA _ xz ?_ ?_ ao ?_)⟩
  .rw[(r_ B),r_ e,aA];exact cg<|cy li
  .have kk:=Y.fT<|aG.of L;refine⟨λb o nb nt p=>?_,λb p=>(X.fT kk).t b ?_⟩
   .have:b≠lw:=bf p nw;rw[aj this];exact(X.fT kk).k b o nb nt p
   by_cases z:b=lw
   .rw[z,ao]at p;cases p
   rwa[aj z]at p
  .exact ah6 Z (iw vq L)
  have et:S.ck.zipIdx.take (i+1)=S.ck.zipIdx.take i++[(S.ck[i],i)]:=by
   rw[iq,aa7,aL Bq];simp
  rw[et];unfold wA;rw[Ey,zD,abH,qj];have Iy:∀b xs,db g rl (.lst ys) b=a_ (.tup xs)->db (db g rl<|.lst ys) lw (.lst<|vs++ys) b=a_ (.tup xs):=λb xs e=>by rw[aj<|i5 e Z (by intro z;cases z)];exact e
  exact Ki (Paired.bq e λ_ _ q=>q.keep λb xs e=>Iy b xs<|au (ae.refl _) ij _ _ e) (Paired.bq aab λ_ _ q=>(q.keep Y.Pg).keep λb xs e=>Iy b xs<|L _ _ e)
 rintro σ O ⟨_,c,y,vs,rfl,kp,R,hw,B⟩;rw[jf (by rw[SS];lia)]at B;exact vr xz<|q O lw vs kp R nw hw B
end
def ie.four(w:ie S):S.ck.length<=4:=by rw[w.len];exact w.good.le
def ie.part(w:ie S){c:Nat}(h:S.ck[c]?=a_ k):∃p,S.ps[c]?=a_ p/\p.length<=120/\k.pl<=p.length/\∀s∈p,bY p.length s:=by
 refine oE (cb.mp h) λb _=>?_;have a:S.ps[c]?=a_ (S.ps[c]'(by rw[<-w.len];exact b)):=aL _;exact oA (w.good.part _<|aW a) λd g2=>⟨_,a,d,(w.pl c k _ h a),g2⟩
def FL(h:S.ck[c]?=a_ k)(h':S.ps[c]?=a_ p):uD S c=pN k p:=by unfold uD;rw[h,h']
def Xd(h:S.ck[c]?=a_ k)(h':S.ps[c]?=a_ p):wz S c=(decide (k.pl=p.length)&&decide (k.es=[])):=by unfold wz;rw[h,h']
def Wk(S:Mc)(n:Nat):(uI S n).length<=n:=by
 unfold uI;rw[aA];exact dC (qe _ _)<|qh▸az _
def aeA(S:Mc)(n:Nat):uI S (n+1)=uI S n++(if uD S n=c_ then [(("do":cr),[(n:Int)])] else []):=by
 unfold uI;rw[qi,xv,dB]
 congr 1
 rcases h:uD S n with _|_;simp[h];simp[h]
def alx:(hA:List cr).Nodup:=dk
def X3:([X_,ac1,"tray"]:List cr).Nodup:=dk
section
variable{t:bh}{C CT:e_}{u:nO}
def Fz(t:bh)(C CT PT:e_):Sp:=λvs H Q _=>∃m A S,vs=[.ref m]/\bg t C CT H m A S/\ie S/\cE PT LP LQ H/\∀H' l vs,aG dZ H H'->cE PT LP LQ H'->H l=b_->H' l=a_ (.lst vs)->bt (qQ H') vs (gC S)->Q (.ref l) H'
def ae6:aV gw gw (aP MK):=aZ
def ad8{f PT:e_}(F:aQ K "moves" "Machine.moves" MK f fd)(a:gF K C)(J:mg "len"=b_)(L:mg "range"=b_)(O:Mt P w K mg gl C 2 "may_do" hA (WB t C CT))(R:Mt P w K mg gl C 3 "carries" gw (UT t C CT PT)):aF P w K mg gl aE 4 f fd gw (Fz t C CT PT):=by
 refine F.ok ae6 λaH A _ s H vs Q E l h=>?_
 obtain⟨m,A,S,T,M,W,U,q⟩:=h;subst T;have X:=l.mono (show 2<=3 by decide)
 refine⟨_,ar (aS (bp X0 (eB (N:=[X_,ac1]) (idx:=[0]) xz (cF.of<|by kernel_rfl) (eA<|az _) (kT xz L<|aa (bu dS xz J q_<|aa (a7 (pv 0) xz) af) af)
  (λ_ _ _ _=>bo (i:=1) alx xz (aI xz)<|.inr xz) (λ_ _ _ _=>xS<|dr<|jT (pv 0) a.cl O X<|aa (pv 1) af) λ_ _ _ _=>fj<|aa cp<|aa (pv 1) af)
  (pG (pv 0) a.cl R l))),?_⟩
 refine cG (id M.obj) λdx fs hm G=>?_;have hlen:=r_ M.ts;have h4:=W.four;refine vF xz hm a.cl a.fD G.fD ⟨A.lt,⟨_,xz,.inl<|ag.of M.lt,_,xz,by rw[aA];lia,by rw[aA];lia,?_⟩⟩;have Y:(((A.ts.map λx=>V.ref x.1).length:Int)).toNat=S.ck.length:=by rw[aA];lia
 rw[Y];refine dU (n:=S.ck.length) (λi ys H'=>i<=S.ck.length/\ae H H'/\bt (qQ H') ys (uI S i)) (cg<|cy w4) (gg (ba _) (ae.refl _) .nil) ?_ ?_ ?_ ?_ ?_
 .rintro i ys H' ⟨_,_,e⟩;rw[r_ e];exact Wk S i
 .rintro i ys H' hi _;exact hi
 .rintro ys H' _;exact az _
 .rintro i ys Z hi ⟨_,s1,e⟩ x H2 ⟨eH,ex⟩;subst eH;subst ex;have j:=aL hi;refine cw (W.part j) λp v dw kh hp3=>vM xz (s1 _ _ hm) (G.ms _ dk)<|vr xz<|⟨m,A,S,i,_,p,?_,(M.same s1),j,v,w4,kh,(λs hs=>⟨_,hp3 s hs⟩),(λy c=>(ay _ xz ?_))⟩
  .show [V.ref m,V.int<|0+i]=_;rw[pj]
  rw[aeA,FL j v];refine jW (λk=>?_) λk=>?_
  .refine vr xz ⟨(sl (n:=2)),(λtp z=>⟨hi,s1.fT<|au c z,?_⟩)⟩;rw[k,ei rfl];refine mV (Paired.bq e λ_ _ q=>q.keep λb xs e=>au c z _ _ e)<|ay _ xz ?_;rw[ao];rw[pj];rfl
  refine gg hi (s1.fT c) ?_;rw[k,ee dO,qj];exact Paired.bq e λ_ _ q=>q.keep λb xs e=>c _ _ e
 rintro ys Z ⟨_,s1,e⟩;have hd:=Wk S S.ck.length;refine⟨by rw[r_ e];exact cg<|cy li,λr B=>?_⟩;have s2:=au (o:=.lst ys) s1 B;refine vM xz (s2 _ _ hm) (G.ms _ dk)<|⟨m,A,S,xz,(M.same s2),h4,(iw U s2),(λy lc us d vq nc hc D=>?_)⟩;have cl:=Fs S.kd S.ck.zipIdx;rw[SS]at cl;have D8:=r_ D
 have arH:us.length<=48:=by
  rw[D8];unfold Af;lia
 refine kv r _ _ _ xz xz (d.wx ao) hc ?_ λl3 g=>?_
 .rw[r_ e];exact cg<|cy li
 have k4:aG _ H (db _ _<|.lst<|ys++us):=((aG.of s2).fT d).fT<|aG.of<|au (ae.refl _) g;refine q _ _ _ k4 (iw vq<|au (ae.refl _) g) (((aG.of s2).fT d).t _ g) ao ?_;have I:∀b xs,y b=a_ (.tup xs)->db _ _ (.lst<|ys++us) b=a_ _:=λb xs e=>au (ae.refl _) g _ _ e;exact Ki (Paired.bq D λ_ _ q=>q.keep I) (Paired.bq e λ_ _ q=>(q.keep λb xs e=>d.Pg _ _<|au (ae.refl _) B _ _ e).keep I)
end
def KL(H H':Hp):Prop:=∀b o,(∀xs,o≠.lst xs)->H b=a_ o->H' b=a_ o
def KL.fT(a:KL H H1)(b:KL H1 H2):KL H H2:=λc o n e=>b c o n<|a c o n e
def KL.of(s:ae H H'):KL H H':=λb o _ e=>s b o e
def KL.db(a:H x=a_ (.lst xs)):KL H (db H x o):=λb q n e=>by
 rw[aj λz=>?_]
 .exact e
 .rw[z,a]at e;cases e;exact n _ xz
def KL.lam(k:KL H H'){PT:e_}(h:cE PT pos q H):cE PT pos q H':=by
 refine aB h λps b a=>ay _ (k _ _ (λxs z=>by cases z) b) ?_;obtain e|⟨c,e,a⟩:=a
 .exact .inl e
 exact .inr (ay c e<|k _ _ (λxs z=>by cases z) a)
def KL.tup(k:KL H H'):∀b xs,H b=a_ (.tup xs)->H' b=a_ (.tup xs):=λb xs e=>k b _ (λys z=>by cases z) e
noncomputable def qA(S:Mc)(n:Nat)(num d:Int):Mc:={S with bd:=S.bd.set n num,ov:=S.ov.set n (S.ov.getD n []++[d])}
def ng(S:Mc)(c n:Nat):Mc:=match S.ck[c]? with
 | none=>S
 | some k=>match (bL k.es n).head? with
  | none=>S
  | some e=>qA {S with ck:=S.ck.set c {k with es:=nA k.es n}} n e.num e.d
def CK(S:Mc)(n:Nat):List V:=[.int (n:Nat),.int<|S.bd.getD n 0,oV (S.ov.getD n []).getLast?]
def uj{a:Type}{l:List a}{n:Nat}{x d:a}(h:l[n]?=a_ x):l.getD n d=x:=by rw[eG,h];rfl
section
variable{t:bh}{C CT:e_}{u:nO}
def Ms(t:bh)(C CT:e_):Sp:=λvs H Q _=>∃m A S,vs=[.ref m]/\bg t C CT H m A S/\ie S/\∀H',ae H H'->Q (.bl<|jS S) H'
def ag6:aV gw gw (aP Nz):=aZ
def afB(F:aQ K "ended" "Machine.ended" Nz f fd)(c:gF K C)(L:kz K CT)(O:mg "all"=b_)(R:mg "enumerate"=b_)(U:Mt P w K mg gl C 1 "at_end" hA (My t C CT))(X:Mt P w K mg gl CT 1 "is_empty" gw (Mu CT)):aF P w K mg gl aE 2 f fd gw (Ms t C CT):=by
 refine F.ok ag6 λaH A _ s H vs Q E j h=>?_
 obtain⟨m,A,S,Y,M,W,q⟩:=h;subst Y
 refine⟨_,ar (aS (bu (Ag xz) xz O Cg (aa (eB (N:=[X_,ac1,"tray"]) (idx:=[0]) xz (cF.of<|by kernel_rfl) (BN (az _)<|kr _) (ui (b:=c_) xz R<|aa (a7 (pv 0) xz) af)
  (λ_ _ _ _=>oo xz<|gU (bo (i:=1) X3 xz (aI xz)<|.inr xz)<|gU (bo (i:=2) X3 xz (aI xz)<|.inr xz) og) (λ_ _ _ _=>eQ)
  λ_ _ _ _=>m7 (jT (pv 0) c.cl U j<|aa (pv 1) af)<|oq<|pG (pv 2) L.cl X j) af))),?_⟩
 refine cG (id M.obj) λdx fs hm G=>?_;have Z:=r_ M.ts;have h4:=W.four;have Ru:(A.ts.map λx=>V.ref x.1).length=A.ts.length:=aA _;refine vF xz hm c.cl c.fD G.fD ⟨A.lt,⟨_,xz,ag.of M.lt,dU (n:=A.ts.length) (λi ys H'=>i<=A.ts.length/\ae H H'/\ys=((List.range i).map<|wz S).map V.bl) ?_ ?_ ?_ ?_ ?_ ?_ ?_⟩⟩
 .exact cg (cy w8)
 .exact gg (ba _) (ae.refl _) xz
 .rintro i ys H' ⟨_,_,e⟩;rw[e,aA,aA,qh];exact az _
 .rintro i ys H' hi ⟨_,s1,_⟩;exact gm _ _ (ag.of<|s1 _ _ M.lt) (by rw[cc,aL hi];rfl)
 .rintro ys H' ⟨_,s1,_⟩;exact ay _ (ag.of<|s1 _ _ M.lt)<|Ru▸az _
 .rintro i ys k hi ⟨_,s1,e⟩ z H2 ⟨r,x,d,ez,eH,cU⟩;subst ez;subst eH;have l:=cU _<|ag.of<|s1 _ _ M.lt;rw[cc,aL hi]at l;cases l;have s2:ae H (db _ r<|.tup [.int i,.ref A.ts[i].1]):=au s1 d;have v:db k r _ r=a_ (.tup [.int i,.ref A.ts[i].1]):=ao;generalize db _ r _=H2 at s2 v ⊢;have y:=M.same s2;have a:=aL wf;refine cw (W.part a) λp B dw kh hp3=>aB (y.uy a) λx' D T=>?_;rw[aL hi]at D;cases D;refine eK (id T.obj) λkJ mM ea e1 e2 e3 em el=>?_
  have I:∀b,wz S i=b->ys++[V.bl b]=((List.range<|i+1).map<|wz S).map V.bl:=λb hb=>by
   rw[qi,dB,dB,<-e,<-hb];rfl
  have J:=Xd a B;refine⟨r,⟨_,xz,aq.of v,xz,.int i,[.ref A.ts[i].1],xz,.ref A.ts[i].1,[],xz,xz,?_⟩⟩;dsimp only[jo];rw[ei rfl];refine vM xz (s2 _ _ hm) (G.ms _ dk)<|vr xz<|⟨m,A,S,i,_,p,xz,y,a,B,w4,(tk<|bK (λg=>?_) λg=>?_)⟩
  .refine vM xz ea (em _ dk) (⟨_,_,_,_,_,(dQ _ xz T λH3 s3=>(gg hi (s2.fT s3)<|I _ ?_))⟩);rw[J,eN g,t8]
  refine gg hi s2<|I _ ?_;rw[J,eT g,xA]
 rintro ys k ⟨_,s1,e⟩;refine⟨by rw[e,aA,aA,qh];exact cg<|cy w8,λr d=>dN r _ xz (ag.of<|by rw[ao,e]) ?_⟩;have q:=q _<|au (o:=.lst ys) s1 d;rw[zR,Z];exact q
def Ni(t:bh)(C CT:e_):Sp:=λvs H Q _=>∃m A S st n num d gv,vs=[.ref m,.ref st]/\bg t C CT H m A S/\kA gv m A/\H st=a_ (.tup [.int (n:Nat),.int num,.int d])/\n<12/\S.bd.length=12/\S.ov.length=12/\(∀o∈S.ov,o.length<=16000)/\
 ∀H',bg t C CT H' m A (qA S n num d)->aG (cN m A) H H'->KL H H'->Q .aR H'
def XO:aV [X_,at1,l_] [X_,at1] (aP Ou):=aZ
def yf(h:j<n):oN n (j:Int)=a_ j:=by
 unfold oN
 first | (rw[ei _];simp;done) | (simp;exact w0)
def ahK(F:aQ K "come" "Machine.come" Ou f fd)(g:gF K C):aF P w K mg gl aE 1 f fd [X_,at1] (Ni t C CT):=by
 refine F.ok XO λaH A _ s H vs Q E y h=>?_;refine jk h λm A S st n c=>lG c λnum d gv c M o=>?_;subst c;refine qE o λL k hn p z c=>oA c λr q=>?_;refine let b:TS:=_;⟨_,aw (bC (i:=2) XO.nd xz (aI xz)<|aN bX (pv 1) ax)<|pR b<|aw (qD (aN bX (pv 1) ax)<|sr (a7 (pv 0) xz) (pv 2) set_list)<|ar<|fg<|nu m_ n_ o_ qp (aN bQ (a7 (pv 0) xz)<|pv 2)<|aa (aN bX (pv 1) ax) af,cG (id M.obj) λdx fs hm G=>kC xz k xz<|kC xz k xz<|vF xz hm g.cl g.cells G.cells<|vr xz<|⟨A.ce,_,_,n,xz,xz,M.ce,(yf<|by rw[aA,p];exact hn),?_⟩⟩;have e:=akU M L n num;have k1:aG (cN m A) H (db H _<|.lst<|(S.bd.map V.int).set n<|.int num):=aG.db .ce;have l1:KL H (db H _<|.lst<|(S.bd.map V.int).set n<|.int num):=KL.db M.ce;generalize db H _ _=H1 at e k1 l1 ⊢;refine cG (id e.obj) λB D v x=>?_;have j:=aL wg;refine aB (e.over j) λa ha l=>ay _ xz<|dE m C _ _<|iK _ xz v g.cl g.kU x.kU<|vr xz<|rL (ag.of e.cm) (jl ha) ⟨.inl ⟨xz,_,ag.of l⟩,(kC xz ((l1.tup _ _ k)) xz ?_)⟩;have I:=r _<|aW j;refine uV a _<|iA _ xz xz l (by rw[aA,fR];exact wb) ?_;refine q _ ?_ (k1.fT<|aG.db<|.cs<|aW ha)<|l1.fT<|KL.db l;unfold qA;rw[uj j];exact akS e L j ha d
def KA(t:bh)(C CT:e_):Sp:=λvs H Q _=>∃m A S n,vs=[.ref m,.int (n:Nat)]/\bg t C CT H m A S/\n<12/\S.bd.length=12/\S.ov.length=12/\∀a,H a=b_->Q (.ref a) (db H a<|.tup<|CK S n)
def U0:aV [X_,l_,"comers"] hU (aP LF):=aZ
def ada(F:aQ K "on_board" "Machine.on_board" LF f fd)(b:gF K C)(x:mg "len"=b_):aF P w K mg gl aE 1 f fd hU (KA t C CT):=by
 refine F.ok U0 λaH A _ s H vs Q E J h=>?_
 obtain⟨m,A,S,n,y,M,hn,L,N,q⟩:=h;subst y;refine⟨_,aw (bC (i:=2) U0.nd xz (aI xz)<|aN bQ (a7 (pv 0) xz)<|pv 1)<|ar<|aS<|fj<|aa (pv 1)<|aa (aN bQ (a7 (pv 0) xz)<|pv 1)<|aa (Fl (b0 c7 (bu dS xz x q_<|aa (pv 2) af) ax<|br _) pD<|aN bQ (pv 2)<|GK Xq ax) af,cG (id M.obj) λdx fs hm G=>?_⟩;have g:=aL wg;have p:S.bd[n]?=a_ (S.bd[n]'wg):=aL wg;refine aB (M.over g) λa ha j=>?_
 have k:∀v,oV (S.ov[n]'wg).getLast?=v->∀c,H c=b_->Q (.ref c) (db H c<|.tup [.int (n:Nat),.int<|S.bd[n]'wg,v]):=λv B c D=>by
  have q:=q _ D;unfold CK at q;rw[uj g,uj p,B]at q;exact q
 generalize S.ov[n]'wg=o at g j k;refine vF xz hm b.cl b.kU G.kU<|vr xz<|rL (ag.of M.cm) (jl ha)<|ay _ xz<|vF xz hm b.cl b.cells G.cells<|vr xz<|rL (ag.of M.ce) (jl p)<|vr xz ⟨a,⟨_,xz,.inl<|ag.of j,xz,_,xz,bK (λz=>?_) λz=>?_⟩⟩
 .have I:o=[]:=by
   have l:=z;injection l with l
   rw[aA]at l;exact tU.mp om
  subst I;exact⟨(sl (n:=3)),k _ xz⟩
 have r:o≠[]:=λe=>z (by rw[e];rfl);obtain⟨o',d,rfl⟩:∃o' d,o=o'++[d]:=⟨o.dropLast,o.getLast r,(List.dropLast_concat_getLast r).g8⟩;refine vr xz<|ay _ xz<|rL (ag.of j) (dB▸Wr _ _) ⟨(sl (n:=3)),(k (.int d) ?_)⟩;rw[List.getLast?_append];rfl
end
def ie.bounds(w:ie S){c:Nat}(h:S.ck[c]?=a_ k):k.es.length<=15000:=dC (w.es k<|aW h) w.ac
def yN(S:Mc):Prop:=∀o∈S.ov,o.length<=16000
def acX(h:(bL es n).head?=a_ e):e.n=(n:Int):=by
 have hm:=List.mem_of_mem_head? h;have:=(gz.mp hm).2;simpa using this
noncomputable def iO(S:Mc)(a:lM):Mc:={S with ac:=S.ac++[a]}
noncomputable def yp(S:Mc)(c n:Nat)(k:Ck)(g:Int):Mc:={S with ck:=S.ck.set c {k with tn:=k.tn+1,es:=k.es++[⟨k.tn,n,g,S.ac.length⟩]}}
def setM(S:Mc)(c n r:Nat):Mc:=match S.ck[c]? with
 | none=>S
 | some k=>
  let g:=k.rg.getD r 0
  let S':=iO (yp S c n k g) ⟨J_,c,n,b_,a_ g,b_⟩
  if S.kd = I_ then ng S' c n else S'
noncomputable def iM(S:Mc)(c r:Nat)(v:Int):Mc:=match S.ck[c]? with
 | none=>S
 | some k=>{S with ck:=S.ck.set c {k with rg:=k.rg.set r v}}
def dD(S:Mc)(k:Ck)(n:Nat):Int×Option Int:=match Ct k.es n with
 | some e=>(e.num,a_ e.d)
 | none=>(S.bd.getD n 0,(S.ov.getD n []).getLast?)
def pI(S:Mc)(c r n:Nat):Mc:=match S.ck[c]? with
 | none=>S
 | some k=>iM (iO S ⟨"look",c,n,a_ (dD S k n).1,b_,(dD S k n).2⟩) c r (dD S k n).1
def qI(S:Mc)(c r n:Nat):Mc:=match S.ck[c]? with
 | none=>S
 | some k=>
  let g:=k.rg.getD r 0
  iM (iO (qA S n g S.ac.length) ⟨H_,c,n,a_<|S.bd.getD n 0,a_ g,(S.ov.getD n []).getLast?⟩) c r (S.bd.getD n 0)
section
variable{t:bh}{C CT:e_}{u:nO}
def Mw(t:bh)(C CT PT:e_):Sp:=λvs H Q _=>∃m A S c k n gv,vs=[.ref m,.int (c:Nat),.int (n:Nat)]/\bg t C CT H m A S/\kA gv m A/\cE PT LP LQ H/\S.ck[c]?=a_ k/\(n:Int)∈jj S.kd k.es/\n<12/\S.bd.length=12/\S.ov.length=12/\yN S/\
 ∀H',bg t C CT H' m A (ng S c n)->aG (cN m A) H H'->cE PT LP LQ H'->Q .aR H'
def ag9:aV io io (aP NC):=aZ
def afE{f PT:e_}(F:aQ K as5 "Machine.carry" NC f fd)(g:gF K C)(y:kz K CT)(i:Mt P w K mg gl CT 3 "take" hU (Xz CT PT))(z:Mt P w K mg gl C 1 "come" [X_,at1] (Ni t C CT)):aF P w K mg gl aE 4 f fd io (Mw t C CT PT):=by
 refine F.ok ag9 λaH A _ s H vs Q E r h=>?_;refine jk h λm A S c k a=>ou a λn gv a M L B=>?_;subst a;refine qE B λD j I hn l a=>gH a λJ N q=>?_;refine sP (ar<|fg<|jT (pv 0) g.cl z (r.mono (show 1<=3 by decide))<|aa (FK (aN bQ (a7 (pv 0) xz)<|pv 1) y.cl i.m i.G r i.b .nil dh<|aa (pv 2) af) af) (cG (id M.obj) λdx fs hm G=>aB (M.uy j) λx o T=>eK (id T.obj) λY Z O e1 e2 e3 R el=>vM xz hm (G.ms _ dk)<|vF xz hm g.cl g.fD G.fD<|vr xz<|rL (ag.of M.lt) (BL o)<|rM O (R _ dk)<|vr xz<|⟨x.1,n,_,_,_,_,(iA _ xz T D I λH1 e st p U k1 V v=>?_)⟩);rw[eP]at p;rw[(acX p)]at v;refine⟨m,A,_,st,n,e.num,e.d,gv,xz,YC M L j o k1 U,L,v,hn,l,(gg J N λH2 W X l2=>q _ ?_ ((aG.Qq k1 λb l=>.ts (aW o) l).fT X)<|l2.lam V)⟩;unfold ng;rw[j];dsimp only;rw[p];exact W
def aid(a:e_)(n r:Nat):c9 (.ref a) J_ ([n,r].map λ(n:Nat)=>V.int (n:Int))=aJ Q_ (.int (r:Nat)) (aJ l_ (.int (n:Nat))<|aJ L_ (.ref a) []):=by kernel_rfl
def adE{n:Nat}(hn:n<12)(a:e.n=(n:Int)):(n:Int)∈mq (es++[e]):=by
 refine xK.mpr (dQ n hn xz λz=>?_);rw[WR,ei a]at z;simp at z
def WE(t:bh)(C CT PT:e_):Sp:=λvs H Q _=>∃m A S c k z b a n r gv,vs=[.ref m,.int (c:Nat),.ref z]/\bg t C CT H m A S/\kA gv m A/\ie S/\yN S/\cE PT LP LQ H/\S.ck[c]?=a_ k/\H z=a_ (.ins t.i9 b<|c9 (.ref a) J_<|[n,r].map λ(n:Nat)=>V.int (n:Int))/\n<12/\r<4/\
 ∀H',bg t C CT H' m A (setM S c n r)->aG (cN m A) H H'->cE PT LP LQ H'->Q .aR H'
def WL:aV [X_,ac1,"step","gave"] i0 (aP NB):=aZ
def afD{f PT:e_}(F:aQ K "do_set" "Machine.do_set" NB f fd)(l:gF K C)(cT:kz K CT)(gK:mg "len"=b_)(D:su K mg t)(Z:Mt P w K mg gl CT 1 W_ ki (YQ CT))(DC:Mt P w K mg gl C 4 as5 io (Mw t C CT PT)):aF P w K mg gl aE 5 f fd i0 (WE t C CT PT):=by
 refine F.ok WL λaH A _ s H vs Q E hr h=>?_
 refine zT h λm A S c k z dz a n r I=>NH I λgv I M L W bG=>?_;subst I;refine qE bG λmG hL J p hn I=>oA I λkg q=>?_;refine let d:TS:=_;let j:TS:=_;⟨_,aw (bC (i:=3) WL.nd xz (aI xz)<|aN bQ (aN bQ (a7 (pv 0) xz)<|pv 1)<|a7 (pv 2) xz)<|pR j<|aw (fg<|FK (aN bQ (a7 (pv 0) xz)<|pv 1) cT.cl Z.m Z.G (hr.mono (show 1<=4 by decide)) Z.b .nil dh<|aa (a7 (pv 2) xz)<|aa (pv 3)<|aa (bu dS xz gK q_<|aa (a7 (pv 0) xz) af) af)<|pR d<|aw (fg<|nu m_ n_ o_ qp (a7 (pv 0) xz)<|aa (fj<|aa cp<|aa (pv 1)<|aa (a7 (pv 2) xz)<|aa pD<|aa (pv 3)<|aa pD af) af)<|ar<|bJ (b0 c7 (a7 (pv 0) xz) cp<|br _) (ar<|fg<|jT (pv 0) l.cl DC hr<|aa (pv 1)<|aa (a7 (pv 2) xz) af) b8,?_⟩;rw[aid]at p;refine cG (id M.obj) λdx fs hm G=>aB (M.dX J) λra jr ij=>aB (M.uy J) λx hx T=>eK (id T.obj) λkJ mM ea e1 e2 e3 em el=>aB M.ac λws rH vh=>?_;have aan:=W.ac;have apg:=W.bounds J;have eM:=W.rg k<|aW J
 have QU:∀(nm:cr),(aJ Q_ (.int (r:Nat))<|aJ l_ (.int (n:Nat))<|aJ L_ (.ref a) []).lookup nm=if nm = Q_ then a_ (.int (r:Nat)) else if nm = l_ then a_ (.int (n:Nat)) else if nm = L_ then a_ (.ref a) else none:=λnm=>by
  rw[dJ,dJ,dJ];rfl
 have lr:(aJ Q_ (.int (r:Nat))<|aJ l_ (.int (n:Nat))<|aJ L_ (.ref a) []).lookup (Q_ : cr)=a_ (V.int (r:Nat)):=by rw[QU,ei rfl]
 have ln:(aJ Q_ (.int (r:Nat))<|aJ l_ (.int (n:Nat))<|aJ L_ (.ref a) []).lookup (l_ : cr)=a_ (V.int (n:Nat)):=by rw[QU,ee dk,ei rfl]
 have hg:k.rg[r]?=a_ (k.rg[r]'wg):=aL wg;have eg:k.rg.getD r 0=k.rg[r]'wg:=uj hg;refine vF xz hm l.cl l.dX G.dX<|vr xz<|rL (v:=.ref ra) (ag.of M.rg) (jl jr)<|vF xz p D.mz D.Y1 lr<|rL (ag.of ij) (jl hg) ?_;generalize hgv:k.rg[r]'wg=g at eg;refine ay _ xz<|dE m C dx fs<|iK _ xz hm l.cl l.fD G.fD<|vr xz<|rL (v:=.ref x.1) (ag.of M.lt) (BL hx)<|rM ea (em _ dk)<|vF xz p D.mz D.v5 ln<|vr xz<|vF xz hm l.cl l.ja G.ja<|dN A.ac ws xz (.inl<|ag.of rH)<|⟨x.1,n,g,_,_,_,_,_,(iK _ xz T li li w4 λN T1 k1=>?_)⟩;have kf:=hY.ofA k1 T1;have O:=YC M L J hx kf T1;have ew:((ws.length:Nat):Int)=((S.ac.length:Nat):Int):=by rw[(r_ vh)]
 rw[ew]at O T1
 have cX:N z=a_ (.ins t.i9 dz<|aJ Q_ (.int (r:Nat))<|aJ l_ (.int (n:Nat))<|aJ L_ (.ref a) []):=k1 _ _ (λzb=>by
  obtain y|y:=bH.mp zb
  .rw[y,ea]at p;cases p;rw[QU,ee dk,ee dk,ee dk]at e1;cases e1
  obtain⟨_,_,_,_⟩|⟨_,y2⟩:=T.kinds z zb _ p
  .obtain y|y:=bH.mp y
   .rw[y,T.qs]at p;cases p
   refine oE (nR y) λi I=>oE I λhi ez=>?_;obtain⟨j',e',_⟩:=T.jY i z (by rw[<-ez];exact aL hi);rw[e']at p;cases p
  cases y2) p
 have jK:=BM hL k1 T.kinds;have kp1:aG (cN m A) H N:=aG.Qq kf λb hb=>.ts (aW hx) hb;refine cG (id O.obj) λkK kF tJ G1=>aB O.ac λR U aoK=>ay _ xz<|dE m C kK kF<|⟨_,xz,tJ,l.cl,l.ja,G1.ja,(.inl ⟨xz,_,ag.of U⟩),(ay _ xz<|vF xz cX D.mz D.v5 ln<|vr xz ⟨(sl (n:=6)),(λB ht=>?_)⟩)⟩;have s2:=au (o:=.tup [.str J_,.int (c:Nat),.int (n:Nat),.aR,.int g,.aR]) (ae.refl N) ht;refine⟨A.ac,R,(.ref B),xz,xz,(s2 _ _ U),(by rw[(r_ aoK),fR];exact wb),?_⟩;have X:=Oa (O.same s2) L (s2 _ _ U) (x:=.ref B) (a:=⟨J_,c,n,b_,a_ g,b_⟩) ⟨B,xz,ao⟩;have tj:aG (cN m A) H (db (db N B<|.tup [.str J_,.int (c:Nat),.int (n:Nat),.aR,.int g,.aR]) A.ac<|.lst<|R++[.ref B]):=kp1.fT<|(aG.of s2).fT<|aG.db .ac;have l2:KL N (db (db N B<|.tup [.str J_,.int (c:Nat),.int (n:Nat),.aR,.int g,.aR]) A.ac<|.lst<|R++[.ref B]):=(KL.of s2).fT<|KL.db<|s2 _ _ U;have mJ:=l2.lam jK;have lN:=l2 _ _ (λxs z=>by cases z) cX;generalize db (db N B<|.tup [.str J_,.int (c:Nat),.int (n:Nat),.aR,.int g,.aR]) A.ac (.lst<|R++[.ref B])=H2 at X tj l2 mJ lN ⊢;refine cG (id X.obj) λzo qT lO G3=>?_
 have eS:setM S c n r=if S.kd = I_ then ng (iO (yp S c n k g) ⟨J_,c,n,b_,a_ g,b_⟩) c n else iO (yp S c n k g) ⟨J_,c,n,b_,a_ g,b_⟩:=by
  unfold setM;rw[J];dsimp only;rw[eg]
 rw[eS]at q;refine ay _ xz<|dE m C zo qT<|iK _ xz lO l.cl l.kind G3.kind ⟨xz,⟨_,xz,bK (λiW=>?_) λiW=>?_⟩⟩
 .have Y:S.kd = I_:=Pj iW;rw[ei Y]at q;have o7:c<S.ck.length:=(cb.mp J).1;refine vM xz lO (G3.ms _ dk)<|vr xz<|vF xz lN D.mz D.v5 ln<|⟨m,A,(iO (yp S c n k g) ⟨J_,c,n,b_,a_ g,b_⟩),c,({k with tn:=k.tn+1,es:=k.es++[⟨k.tn,n,g,S.ac.length⟩]}),n,gv,xz,X,L,mJ,?_,?_,hn,(⟨W.bd,W.ov,mG,(λH3 M3 k3 vq=>q H3 M3 (tj.fT k3) vq)⟩)⟩
  .show (S.ck.set c _)[c]?=a_ _;rw[fQ o7]
  show (n:Int)∈jj S.kd (k.es++[⟨k.tn,n,g,S.ac.length⟩]);unfold jj;rw[Y,ee dk];exact adE hn xz
 have Y:¬S.kd = I_:=λe=>iW (by rw[e]);rw[ee Y]at q;exact q H2 X tj mJ
end
end TL
namespace L2
open PySem.SeqAt
def af9:Z0 X (λx y H Q=>∃p xs,∃i:Nat,∃v,x=.ref p/\y=.int (i:Nat)/\H p=a_ (.lst xs)/\xs[i]?=a_ v/\Q v H):=by
 intro p_ s σ H o i ov k Q I c r2 h;obtain⟨p,xs,j,z,a,d⟩:=h;subst a;obtain⟨a,e,b,q⟩:=d;subst a;cases c;refine oE r2 λt a=>?_;subst a;refine aY (I.list<|ag.of e) λl r pl m=>aB (r.get b) λw f g=>?_;have hn:=CG;have n:j<xs.length:=(cb.mp b).1;exact wpAny_getItem_list pl.isList li li (by rw[eP];simpa using f) ⟨z,H,I,g,q⟩
end L2
namespace TL
open PySem.SeqAt L2 L3 L4
def aie(a:e_)(r n:Nat):c9 (.ref a) V_ ([r,n].map λ(n:Nat)=>V.int (n:Int))=aJ "number" (.int (n:Nat)) (aJ Q_ (.int (r:Nat))<|aJ L_ (.ref a) []):=by kernel_rfl
def aif(a:e_)(r n:Nat):c9 (.ref a) W_ ([r,n].map λ(n:Nat)=>V.int (n:Int))=aJ "other" (.int (n:Nat)) (aJ Q_ (.int (r:Nat))<|aJ L_ (.ref a) []):=by kernel_rfl
def agd(a:e_)(r n:Nat):c9 (.ref a) T_ ([r,n].map λ(n:Nat)=>V.int (n:Int))=aJ Y_ (.int (n:Nat)) (aJ Q_ (.int (r:Nat))<|aJ L_ (.ref a) []):=by kernel_rfl
def NM:(aJ x v<|aJ y u<|aJ L_ (.ref a) []).lookup x=a_ v:=by rw[dJ,ei rfl]
def Gi(h:y≠x):(aJ x v<|aJ y u<|aJ L_ (.ref a) []).lookup y=a_ u:=by rw[dJ,ee h,dJ,ei rfl]
def eL(s:Tl)(rg:List Int)(pl:Nat):Nat:=if s.1 = T_/\rg.getD (s.2.getD 0 0) 0=0 then s.2.getD 1 0 else pl+1
def cC(S:Mc)(c:Nat)(s:Tl):Mc:=
 if s.1 = V_ then iM S c (s.2.getD 0 0) (s.2.getD 1 0:Nat)
 else if s.1 = W_ then (match S.ck[c]? with
  | none=>S
  | some k=>iM S c (s.2.getD 0 0)<|(k.rg.getD (s.2.getD 0 0) 0+k.rg.getD (s.2.getD 1 0) 0)%kZ)
 else if s.1 = J_ then setM S c (s.2.getD 0 0) (s.2.getD 1 0)
 else if s.1 = K_ then pI S c (s.2.getD 0 0) (s.2.getD 1 0)
 else if s.1 = H_ then qI S c (s.2.getD 0 0) (s.2.getD 1 0)
 else S
def pQ(S:Mc)(c:Nat)(s:Tl):Mc:=match S.ck[c]? with
 | none=>S
 | some k=>{S with ck:=S.ck.set c {k with pl:=eL s k.rg k.pl,ct:=k.ct+1}}
def va(S:Mc)(c:Nat):Mc:=match S.ck[c]?,S.ps[c]? with
 | some k,a_ p=>(match p[k.pl]? with
  | some s=>pQ (cC S c s) c s
  | none=>S)
 | _,_=>S
section
variable{t:bh}{C CT:e_}{H:Hp}{m:e_}{A:MA}{S:Mc}
def bg.agI(M:bg t C CT H m A S)(b:H z=a_ (.ins cz dz<|c9 (.ref a) x ps)):¬cN m A z:=by
 intro f;cases f with
 | m=>
  refine cG M.obj λdx fs h G=>?_;rw[h]at b;cases b;have e:=G.fD;rw[vP _ dk]at e;cases e
 | lt=>rw[M.lt]at b;cases b
 | pl=>rw[M.pl]at b;cases b
 | ct=>rw[M.ct]at b;cases b
 | rg=>rw[M.rg]at b;cases b
 | ce=>rw[M.ce]at b;cases b
 | ac=>obtain⟨vs,h,_⟩:=M.ac;rw[h]at b;cases b
 | cm=>rw[M.cm]at b;cases b
 | rs h=>
  refine aB (nW M.rs h) λc _ q=>?_;rw[q]at b;cases b
 | cs h=>
  refine aB (nW M.cs h) λc _ q=>?_;rw[q]at b;cases b
 | ts h h2=>
  refine aB (nW M.ts h) λc _ T=>eK (id T.obj) λl n g d o p r s=>?_;obtain y|y:=bH.mp h2
  .rw[y,g]at b;cases b;rw[vP _ dk]at d;cases d
  obtain y|y:=bH.mp y
  .rw[y,T.qs]at b;cases b
  refine oE (nR y) λi j=>oE j λhi k=>?_;obtain⟨u,e',_⟩:=T.jY i z (by rw[<-k];exact aL _);rw[e']at b;cases b
end
section
variable{P:k_}{w:j_}{K:u_}{mg:cr->Option f_}{gl:i_}{t:bh}{C CT:e_}{u:nO}
def Tr(t:bh):Sp:=λvs H Q _=>∃z a c s sz b rg,∃pl:Nat,vs=[.ref z,.int (pl:Nat),.ref b]/\H z=a_ (.ins (cB t s.1) c<|c9 (.ref a) s.1<|s.2.map λ(n:Nat)=>V.int (n:Int))/\bY sz s/\H b=a_ (.lst<|rg.map V.int)/\rg.length=4/\Q (.int (eL s rg pl:Nat)) H
def ab3:aV iX iX (aP JV):=aZ
def abU(F:aQ K "place_behind" "place_behind" JV f fd)(O:yt K mg t u):aF P w K mg gl aE 1 f fd iX (Tr t):=by
 refine F.ok ab3 λaH A _ s H vs Q E o h=>?_
 refine jk h λz a x s sz d=>lG d λy rg pl d c l=>?_;subst d;obtain⟨g,m,B,q⟩:=l;refine⟨_,aw (bJ (PW.pt<|pw_and (dr<|bu ji xz O.st.bl.iP jg<|aa (pv 0)<|aa (fh (v:=.ref _) xz O.st.NK xz) af)<|pw_and1<|b0 c7 (aN bQ (pv 2)<|a7 (pv 0) xz) ax<|br _) (ar<|aS<|a7 (pv 0) xz) b8)<|ar<|aS<|bp jR (pv 1) ax,aB (CH O g c) λD ty n=>vr xz<|dE _ _ _ _<|iA _ xz ty xz n.YV<|tk<|bK (λb=>?_) λb=>?_⟩
 .cases g with
  | skip r p h1 h2 h3=>
   have c:=c;rw[Ce,agd]at c;have j:=aL wg;have k:rg.getD r 0=rg[r]'wg:=uj j;refine vr xz<|vF xz c O.st.qF O.st.X6 (Gi dk)<|rL (ag.of m) (jl j) ⟨xz,⟨_,xz,bK (λi=>?_) λi=>?_⟩⟩
   .have e:eL (T_,[r,p]) rg pl=p:=by
     unfold eL;rw[ei ⟨xz,by show rg.getD r 0=0;rw[k];injection i⟩];rfl
    rw[e]at q;exact vF xz c O.st.qF O.st.Gf NM q
   have e:eL (T_,[r,p]) rg pl=pl+1:=by
    unfold eL;rw[ee λh=>i (by have:=h.2;rw[<-show rg.getD r 0=rg[r]'wg from k];rw[show rg.getD r 0=0 from this])]
   rw[e]at q;exact ay _ xz ⟨_,⟨_,xz,xz,q⟩⟩
  | put=>exact eu (show ("put":cr)="skip" from b) dk
  | add=>exact eu (show ("add":cr)="skip" from b) dk
  | set=>exact eu (show ("set":cr)="skip" from b) dk
  | look=>exact eu (show ("look":cr)="skip" from b) dk
  | swap=>exact eu (show ("swap":cr)="skip" from b) dk
  | clear=>exact eu b dk
 have e:eL s rg pl=pl+1:=by
  unfold eL;rw[ee λh=>b h.1]
 rw[e]at q;exact ay _ xz ⟨_,⟨_,xz,xz,q⟩⟩
end
end TL
namespace L2
def fu.ZQ(h:fu X ss t)(hi:∀D σ H,t' D σ H->t D σ H):fu X ss t':=λp_ s σ H D I q=>h _ s _ H D I<|hi D _ H q
end L2
namespace TL
open PySem.SeqAt L2 L3 L4
variable{P:k_}{w:j_}{K:u_}{mg:cr->Option f_}{gl:i_}
def We(a:e_)(r n:Nat):c9 (.ref a) K_ ([r,n].map λ(n:Nat)=>V.int (n:Int))=aJ l_ (.int (n:Nat)) (aJ Q_ (.int (r:Nat))<|aJ L_ (.ref a) []):=by kernel_rfl
def agc(a:e_)(r n:Nat):c9 (.ref a) H_ ([r,n].map λ(n:Nat)=>V.int (n:Int))=aJ l_ (.int (n:Nat)) (aJ Q_ (.int (r:Nat))<|aJ L_ (.ref a) []):=by kernel_rfl
def Ak(n r:Nat)(a:e_):(aJ l_ (.int (n:Nat))<|aJ Q_ (.int (r:Nat))<|aJ L_ (.ref a) []).lookup (l_ : cr)=a_ (V.int (n:Nat)):=by rw[dJ,ei rfl]
def NO(n r:Nat)(a:e_):(aJ l_ (.int (n:Nat))<|aJ Q_ (.int (r:Nat))<|aJ L_ (.ref a) []).lookup (Q_ : cr)=a_ (V.int (r:Nat)):=by rw[dJ,ee dk,dJ,ei rfl]
section
variable{t:bh}{C CT:e_}{u:nO}
def VJ(t:bh)(C CT:e_):Sp:=λvs H Q _=>∃m A S c k z b a r n gv,vs=[.ref m,.int (c:Nat),.ref z]/\bg t C CT H m A S/\kA gv m A/\ie S/\S.ck[c]?=a_ k/\H z=a_ (.ins t.jF b<|c9 (.ref a) K_<|[r,n].map λ(n:Nat)=>V.int (n:Int))/\r<4/\n<12/\
 ∀H',bg t C CT H' m A (pI S c r n)->aG (cN m A) H H'->KL H H'->Q .aR H'
def Lv:aV [X_,ac1,"step",at1] i0 (aP MQ):=aZ
def aeb(F:aQ K "do_look" "Machine.do_look" MQ f fd)(J:gF K C)(cT:kz K CT)(B:su K mg t)(V:Mt P w K mg gl CT 1 "latest" hU (VF CT))(DB:Mt P w K mg gl C 1 "on_board" hU (KA t C CT)):aF P w K mg gl aE 2 f fd i0 (VJ t C CT):=by
 refine F.ok Lv λaH A _ s H vs Q E hr h=>?_
 refine zT h λm A S c k z dz a r n X=>NH X λgv X M L W bG=>?_;subst X;obtain⟨N,Y,kg,hn,q⟩:=bG;refine let g:TS:=_;let l:TS:=_;⟨_,aw (bC (i:=3) Lv.nd xz (aI xz)<|FK (aN bQ (a7 (pv 0) xz)<|pv 1) cT.cl V.m V.G hr V.b .nil dh<|aa (a7 (pv 2) xz) af)<|pR l<|aw (bJ (b0 XZ (pv 3) pD<|br _) (ar<|bC (i:=3) Lv.nd xz (aI xz)<|jT (pv 0) J.cl DB hr<|aa (a7 (pv 2) xz) af) b8)<|fu.ZQ (t':=λD σ I=>∃st x,σ=[a_ (.ref m),a_<|.int (c:Nat),a_<|.ref z,a_<|.ref st]/\I st=a_ (.tup [x,.int (dD S k n).1,oV (dD S k n).2])/\ae H I/\∀Z H',bg t C CT H' m A (pI S c r n)->aG (cN m A) H H'->KL H H'->D.nx Z H') (pR g<|aw (fg<|nu m_ n_ o_ qp (a7 (pv 0) xz)<|aa (fj<|aa cp<|aa (pv 1)<|aa (a7 (pv 2) xz)<|aa (aN bX (pv 3) ax)<|aa pD<|aa (aN bX (pv 3) ax) af) af)<|ar<|qD (aN bX (pv 3) ax)<|sr (aN bQ (a7 (pv 0) xz)<|pv 1) (a7 (pv 2) xz) set_list) ?tl,?_⟩
 case tl=>
  rintro D σ I ⟨st,x,rfl,O,s1,q⟩;rw[We]at Y;have M1:=M.same s1;refine cG (id M1.obj) λdx fs hm G=>aB M1.ac λws U vh=>?_;have cX:=s1 _ _ Y;refine vF xz hm J.cl J.ja G.ja ⟨.inl ⟨xz,_,ag.of U⟩,ay _ xz<|vF xz cX B.m8 B.xZ (Ak n r a)<|kC (j:=1) xz O xz<|kC (j:=2) xz O xz ⟨(sl (n:=6)),(λp ht=>?_)⟩⟩;have s2:=au (o:=.tup [.str K_,.int (c:Nat),.int (n:Nat),.int (dD S k n).1,.aR,oV (dD S k n).2]) (ae.refl I) ht;have aan:=W.ac;refine⟨A.ac,ws,(.ref p),xz,xz,(s2 _ _ U),(by rw[(r_ vh),fR];exact wb),?_⟩;have R:=Oa (M1.same s2) L (s2 _ _ U) (x:=.ref p) (a:=⟨K_,c,n,a_ (dD S k n).1,b_,(dD S k n).2⟩) ⟨p,xz,ao⟩;have tj:aG (cN m A) H (db (db I p<|.tup [.str K_,.int (c:Nat),.int (n:Nat),.int (dD S k n).1,.aR,oV (dD S k n).2]) A.ac<|.lst<|ws++[.ref p]):=(aG.of s1).fT<|(aG.of s2).fT<|aG.db .ac;have l2:KL I (db (db I p<|.tup [.str K_,.int (c:Nat),.int (n:Nat),.int (dD S k n).1,.aR,oV (dD S k n).2]) A.ac<|.lst<|ws++[.ref p]):=(KL.of s2).fT<|KL.db<|s2 _ _ U;have lN:=l2 _ _ (λxs z=>by cases z) cX;have AQ:=l2.tup _ _ O;generalize db (db I p<|.tup [.str K_,.int (c:Nat),.int (n:Nat),.int (dD S k n).1,.aR,oV (dD S k n).2]) A.ac (.lst<|ws++[.ref p])=H2 at R tj l2 lN AQ ⊢;refine cG (id R.obj) λzo qT lO G3=>aB (R.dX (k:=k) N) λra jr ij=>?_;refine kC (j:=1) xz AQ xz<|vF xz lO J.cl J.dX G3.dX<|vr xz<|rL (v:=.ref ra) (ag.of R.rg) (jl jr)<|vF xz lN B.m8 B.X7 (NO n r a)<|⟨ra,_,_,r,xz,xz,ij,(yf<|by rw[aA,(W.rg k<|aW N)];exact kg),?_⟩;refine q _ _ ?_ (tj.fT<|aG.db<|.rs<|aW jr)<|(KL.of s1).fT<|l2.fT<|KL.db ij
  have e:pI S c r n={ (iO S ⟨K_,c,n,a_ (dD S k n).1,b_,(dD S k n).2⟩)with ck:=S.ck.set c {k with rg:=k.rg.set r (dD S k n).1}}:=by
   unfold pI;rw[N];dsimp only;unfold iM;rw[show (iO S ⟨K_,c,n,a_ (dD S k n).1,b_,(dD S k n).2⟩).ck[c]?=a_ k from N];rfl
  rw[e];exact Gv R L (k:=k) N jr r (dD S k n).1
 refine cG (id M.obj) λdx fs hm G=>aB (M.uy N) λx hx T=>eK (id T.obj) λkJ mM ea e1 e2 e3 em el=>?_;have apg:=W.bounds N;have IF:=Y;rw[We]at IF;refine vF xz hm J.cl J.fD G.fD<|vr xz<|rL (v:=.ref x.1) (ag.of M.lt) (BL hx)<|rM ea (em _ dk)<|vF xz IF B.m8 B.xZ (Ak n r a)<|⟨x.1,n,_,_,_,_,(⟨_,xz,T,li,li,w4,(λiF=>?_),(λe st he O=>?_)⟩)⟩
 .rw[eP]at iF;refine ay _ xz ⟨xz,⟨_,xz,bK (λ_=>vM xz hm (G.ms _ dk)<|vF xz IF B.m8 B.xZ (Ak n r a)<|kv m A S n xz M hn W.bd W.ov λp ht=>?_) λy=>eu xz y⟩⟩;have es:dD S k n=(S.bd.getD n 0,(S.ov.getD n []).getLast?):=by unfold dD;rw[iF]
  refine⟨p,(.int (n:Nat)),xz,?_,(au (ae.refl H) ht),(λZ H' h1 h2 h3=>q H' h1 h2 h3)⟩;rw[ao,es];rfl
 rw[eP]at he;refine ay _ xz ⟨xz,⟨_,xz,bK (λy=>by cases y) λ_=>?_⟩⟩;have es:dD S k n=(e.num,a_ e.d):=by unfold dD;rw[he]
 exact⟨st,(.int e.n),xz,(by rw[es];exact O),(ae.refl H),(λZ H' h1 h2 h3=>q H' h1 h2 h3)⟩
def VH(t:bh)(C CT:e_):Sp:=λvs H Q _=>∃m A S c k z b a r n gv,vs=[.ref m,.int (c:Nat),.ref z]/\bg t C CT H m A S/\kA gv m A/\ie S/\yN S/\S.ck[c]?=a_ k/\H z=a_ (.ins t.ky b<|c9 (.ref a) H_<|[r,n].map λ(n:Nat)=>V.int (n:Int))/\r<4/\n<12/\
 ∀H',bg t C CT H' m A (qI S c r n)->aG (cN m A) H H'->KL H H'->Q .aR H'
def Ls:aV [X_,ac1,"step","gave",at1] i0 (aP MO):=aZ
def ad'(F:aQ K "do_swap" "Machine.do_swap" MO f fd)(b:gF K C)(d:su K mg t)(gK:mg "len"=b_)(DB:Mt P w K mg gl C 1 "on_board" hU (KA t C CT))(DC:Mt P w K mg gl C 1 "come" [X_,at1] (Ni t C CT)):aF P w K mg gl aE 2 f fd i0 (VH t C CT):=by
 refine F.ok Ls λaH A _ s H vs Q E Y h=>?_
 refine zT h λm A S c k z dz a r n O=>NH O λgv O M L W bG=>?_;subst O;refine qE bG λmG p B kg hn q=>⟨_,aw (bC (i:=3) Ls.nd xz (aI xz)<|aN bQ (aN bQ (a7 (pv 0) xz)<|pv 1)<|a7 (pv 2) xz)<|aw (bC (i:=4) Ls.nd xz (aI xz)<|jT (pv 0) b.cl DB Y<|aa (a7 (pv 2) xz) af)<|aw (fg<|jT (pv 0) b.cl DC Y<|aa (fj<|aa (a7 (pv 2) xz)<|aa (pv 3)<|aa (bu dS xz gK q_<|aa (a7 (pv 0) xz) af) af) af)<|aw (fg<|nu m_ n_ o_ qp (a7 (pv 0) xz)<|aa (fj<|aa cp<|aa (pv 1)<|aa (a7 (pv 2) xz)<|aa (aN bX (pv 4) ax)<|aa (pv 3)<|aa (aN bX (pv 4) ax) af) af)<|ar<|qD (aN bX (pv 4) ax)<|sr (aN bQ (a7 (pv 0) xz)<|pv 1) (a7 (pv 2) xz) set_list,?_⟩;rw[agc]at B;refine cG (id M.obj) λdx fs hm G=>aB (M.dX p) λra jr ij=>?_;have eM:=W.rg k<|aW p;have Z:k.rg[r]?=a_ (k.rg[r]'wg):=aL wg;have eg:k.rg.getD r 0=k.rg[r]'wg:=uj Z;refine vF xz hm b.cl b.dX G.dX<|vr xz<|rL (v:=.ref ra) (ag.of M.rg) (jl jr)<|vF xz B d.ow d.NJ (NO n r a)<|rL (ag.of ij) (jl Z) ?_;generalize k.rg[r]'wg=g at eg;refine vM xz hm (G.ms _ dk)<|vF xz B d.ow d.CF (Ak n r a) (kv m A S n xz M hn W.bd W.ov λst aoQ=>?_);have s1:=au (o:=.tup<|CK S n) (ae.refl H) aoQ;have cY:db H st (.tup<|CK S n) st=a_ (.tup [.int (n:Nat),.int<|S.bd.getD n 0,oV (S.ov.getD n []).getLast?]):=ao;have R:=M.same s1;generalize db H st (.tup<|CK S n)=H1 at s1 cY R ⊢;refine aB R.ac λws rH vh=>?_;have tu:=r_ vh;have aan:=W.ac;refine vM xz (s1 _ _ hm) (G.ms _ dk)<|vF xz (s1 _ _ B) d.ow d.CF (Ak n r a)<|vr xz<|vF xz (s1 _ _ hm) b.cl b.ja G.ja<|⟨A.ac,ws,xz,(.inl<|ag.of rH),(sl (n:=3)),(λtp ht=>?_)⟩;have s2:=au (o:=.tup [.int (n:Nat),.int g,.int (ws.length:Nat)]) (ae.refl H1) ht;refine⟨m,A,S,tp,n,g,(ws.length:Nat),gv,xz,(R.same s2),L,ao,hn,W.bd,(gg W.ov mG λD T k2 l2=>?_)⟩;have U:=(KL.of s2).fT l2;have lN:=U _ _ (λxs z=>by cases z)<|s1 _ _ B;have V:=U.tup _ _ cY;refine cG (id T.obj) λzo qT lO G3=>aB T.ac λI N aoJ=>?_;have aoL:I.length=S.ac.length:=r_ aoJ;refine ay _ xz<|dE m C zo qT<|⟨_,xz,lO,b.cl,b.ja,G3.ja,(.inl ⟨xz,_,ag.of N⟩),(ay _ xz<|vF xz lN d.ow d.CF (Ak n r a)<|kC (j:=1) xz V xz<|vr xz<|kC (j:=2) xz V xz ⟨(sl (n:=6)),(λl hq=>?_)⟩)⟩;have y:=au (o:=.tup [.str H_,.int (c:Nat),.int (n:Nat),.int<|S.bd.getD n 0,.int g,oV (S.ov.getD n []).getLast?]) (ae.refl D) hq;refine⟨A.ac,I,(.ref l),xz,xz,(y _ _ N),(by rw[aoL,fR];exact wb),?_⟩;have J:=Oa (T.same y) L (y _ _ N) (x:=.ref l) (a:=⟨H_,c,n,a_<|S.bd.getD n 0,a_ g,(S.ov.getD n []).getLast?⟩) ⟨l,xz,ao⟩;have kp3:aG (cN m A) H (db (db D l<|.tup [.str H_,.int (c:Nat),.int (n:Nat),.int<|S.bd.getD n 0,.int g,oV (S.ov.getD n []).getLast?]) A.ac<|.lst<|I++[.ref l]):=((aG.of s1).fT<|(aG.of s2).fT k2).fT<|(aG.of y).fT<|aG.db .ac;have l3:KL D (db (db D l<|.tup [.str H_,.int (c:Nat),.int (n:Nat),.int<|S.bd.getD n 0,.int g,oV (S.ov.getD n []).getLast?]) A.ac<|.lst<|I++[.ref l]):=(KL.of y).fT<|KL.db<|y _ _ N;have IE:=l3 _ _ (λxs z=>by cases z) lN;have aac:=l3.tup _ _ V;generalize db (db D l<|.tup [.str H_,.int (c:Nat),.int (n:Nat),.int<|S.bd.getD n 0,.int g,oV (S.ov.getD n []).getLast?]) A.ac (.lst<|I++[.ref l])=H3 at J kp3 l3 IE aac ⊢;refine cG (id J.obj) λdx4 fs4 IL G4=>aB (J.dX (k:=k) p) λra4 X aad=>kC (j:=1) xz aac xz<|vF xz IL b.cl b.dX G4.dX<|vr xz<|rL (v:=.ref ra4) (ag.of J.rg) (jl X)<|vF xz IE d.ow d.NJ (NO n r a)<|⟨ra4,_,_,r,xz,xz,aad,(yf<|by rw[aA,eM];exact kg),?_⟩;refine q _ ?_ (kp3.fT<|aG.db<|.rs<|aW X)<|(KL.of s1).fT<|U.fT<|l3.fT<|KL.db aad
 have e:qI S c r n={ (iO (qA S n g (ws.length:Nat)) ⟨H_,c,n,a_<|S.bd.getD n 0,a_ g,(S.ov.getD n []).getLast?⟩)with ck:=S.ck.set c {k with rg:=k.rg.set r (S.bd.getD n 0)}}:=by
  unfold qI;rw[p];dsimp only;rw[eg,tu];unfold iM;rw[show (iO (qA S n g (S.ac.length:Nat)) ⟨H_,c,n,a_<|S.bd.getD n 0,a_ g,(S.ov.getD n []).getLast?⟩).ck[c]?=a_ k from p];rfl
 rw[e];exact Gv J L (k:=k) p X r<|S.bd.getD n 0
end
section
variable{S:Mc}{c:Nat}{k:Ck}
structure Z3(S S':Mc)(c:Nat)(k k':Ck):Prop where
 at':S'.ck[c]?=a_ k'
 pl:k'.pl=k.pl
 ct:k'.ct=k.ct
 rg:k'.rg.length=k.rg.length
def FG(a:S.ck[c]?=a_ k):Z3 S (iM S c r v) c k {k with rg:=k.rg.set r v}:=by
 have e:iM S c r v={S with ck:=S.ck.set c {k with rg:=k.rg.set r v}}:=by unfold iM;rw[a]
 rw[e];exact⟨fQ (cb.mp a).1,xz,xz,fe⟩
def aj3{sz:Nat}(g:bY sz s)(a:S.ck[c]?=a_ k):∃k',Z3 S (cC S c s) c k k':=by
 have b:c<S.ck.length:=(cb.mp a).1;cases g with
 | put r n h1 h2=>exact⟨_,FG a⟩
 | add r o h1 h2=>
  have e:cC S c (W_,[r,o])=iM S c r ((k.rg.getD r 0+k.rg.getD o 0)%kZ):=by
   unfold cC;rw[ee (show ¬(W_ : cr) = V_ from dk),ei xz,a];rfl
  rw[e];exact⟨_,FG a⟩
 | set n r h1 h2=>
  have e:cC S c (J_,[n,r])=setM S c n r:=by kernel_rfl
  rw[e];unfold setM;rw[a];dsimp only
  split
  .unfold ng;rw[show (iO (yp S c n k<|k.rg.getD r 0) ⟨J_,c,n,b_,a_<|k.rg.getD r 0,b_⟩).ck[c]?=a_ {k with tn:=k.tn+1,es:=k.es++[⟨k.tn,n,k.rg.getD r 0,S.ac.length⟩]} from fQ b];dsimp only
   split
   .exact⟨_,⟨fQ b,xz,xz,xz⟩⟩
   exact⟨{k with tn:=k.tn+1,es:=nA (k.es++[⟨k.tn,n,k.rg.getD r 0,S.ac.length⟩]) n},⟨fQ (by show c<(S.ck.set c _).length;rw[fe];exact b),xz,xz,xz⟩⟩
  exact⟨_,⟨fQ b,xz,xz,xz⟩⟩
 | look r n h1 h2=>
  have e:cC S c (K_,[r,n])=iM (iO S ⟨K_,c,n,a_ (dD S k n).1,b_,(dD S k n).2⟩) c r (dD S k n).1:=by
   unfold cC;rw[ee (show ¬(K_ : cr) = V_ from dk),ee (show ¬(K_ : cr) = W_ from dk),ee (show ¬(K_ : cr) = J_ from dk),ei rfl];show pI S c r n=_;unfold pI;rw[a]
  rw[e];have r:=FG (S:=iO S ⟨K_,c,n,a_ (dD S k n).1,b_,(dD S k n).2⟩) (r:=r) (v:=(dD S k n).1) a;exact⟨_,⟨r.at',r.pl,r.ct,r.rg⟩⟩
 | swap r n h1 h2=>
  have e:cC S c (H_,[r,n])=iM (iO (qA S n (k.rg.getD r 0) S.ac.length) ⟨H_,c,n,a_<|S.bd.getD n 0,a_<|k.rg.getD r 0,(S.ov.getD n []).getLast?⟩) c r (S.bd.getD n 0):=by
   unfold cC;rw[ee (show ¬(H_ : cr) = V_ from dk),ee (show ¬(H_ : cr) = W_ from dk),ee (show ¬(H_ : cr) = J_ from dk),ee (show ¬(H_ : cr) = K_ from dk),ei rfl];show qI S c r n=_;unfold qI;rw[a]
  rw[e];have r:=FG (S:=iO (qA S n (k.rg.getD r 0) S.ac.length) ⟨H_,c,n,a_<|S.bd.getD n 0,a_<|k.rg.getD r 0,(S.ov.getD n []).getLast?⟩) (r:=r) (v:=(S.bd.getD n 0)) a;exact⟨_,⟨r.at',r.pl,r.ct,r.rg⟩⟩
 | clear=>
  have e:cC S c (M_,[])=S:=by kernel_rfl
  rw[e];exact⟨k,⟨a,xz,xz,xz⟩⟩
 | skip r q h1 h2 h3=>
  have e:cC S c (T_,[r,q])=S:=by kernel_rfl
  rw[e];exact⟨k,⟨a,xz,xz,xz⟩⟩
end
section
variable{t:bh}{C CT:e_}{u:nO}
def VI(t:bh)(C CT PT:e_):Sp:=λvs H Q _=>∃m A S c k p s sz gv,vs=[.ref m,.int (c:Nat)]/\bg t C CT H m A S/\kA gv m A/\ie S/\yN S/\cE PT LP LQ H/\S.ck[c]?=a_ k/\S.ps[c]?=a_ p/\p[k.pl]?=a_ s/\bY sz s/\
 ∀H',bg t C CT H' m A (va S c)->aG (cN m A) H H'->cE PT LP LQ H'->Q .aR H'
def Lu:aV [X_,ac1,"step","regs"] hA (aP MP):=aZ
def xY(a:S.ck[c]?=a_ k):iM S c r v={S with ck:=S.ck.set c {k with rg:=k.rg.set r v}}:=by unfold iM;rw[a]
def aea{f PT:e_}(F:aQ K "do_step" "Machine.do_step" MP f fd)(cM:gF K C)(O:yt K mg t u)(DP:Dp P w K mg gl 1 "place_behind" iX (Tr t))(DS:Mt P w K mg gl C 5 "do_set" i0 (WE t C CT PT))(DL:Mt P w K mg gl C 2 "do_look" i0 (VJ t C CT))(DW:Mt P w K mg gl C 2 "do_swap" i0 (VH t C CT)):aF P w K mg gl aE 6 f fd hA (VI t C CT PT):=by
 refine aB O.st.cn.top λuT mT rT=>F.ok Lu λaH A _ s H vs Q E hr h=>?_
 refine jk h λm A S c k ab=>Au ab λp st sz gv ab bG=>?_;subst ab;refine qE bG λM L W mG hL ab=>Oy ab λhk hp hs g q=>?_;have jt:=hr.mono (show 2<=5 by decide);refine aB (M.dX hk) λra jr ij=>?_;have eM:=W.rg k<|aW hk;refine lG (M.part hp) λvs b us h1 h2 ab=>oA ab λh3 h4=>aB (qm h4 hs) λv hv ab=>CS ab λz a dz ab Z=>?_;subst ab;have aoZ:=M.agI Z
 have hdo:va S c=pQ (cC S c st) c st:=by
  unfold va;rw[hk,hp];dsimp only;rw[hs]
 refine let d:TS:=_;let j:TS:=_;let l:TS:=_;let x:TS:=_;let B:TS:=_;let I:TS:=_;let J:TS:=_;let N:TS:=_;let R:TS:=_;let T:TS:=_;let U:TS:=_;let X:TS:=_;let Y:TS:=_;⟨_,aw (bC (i:=2) Lu.nd xz (aI xz)<|aN bX (aN bX (a7 (pv 0) xz)<|pv 1)<|aN bQ (a7 (pv 0) xz)<|pv 1) (pR Y (aw (bC (i:=3) Lu.nd xz (aI xz)<|aN bQ (a7 (pv 0) xz)<|pv 1) (pR X (aw (bJ (dr<|bu ji xz O.st.bl.iP jg<|aa (pv 2)<|aa (fh (v:=.ref t.kX) xz O.st.Y5 xz) af) (pR d<|ar<|qD (a7 (pv 2) xz)<|sr (pv 3) (a7 (pv 2) xz) set_list) (pR R (ar (bJ (dr<|bu ji xz O.st.bl.iP jg<|aa (pv 2)<|aa (fh (v:=.ref t.kY) xz O.st.Y6 xz) af) (pR j<|ar<|qD (bp jQ (bp jR (aN bQ (pv 3)<|a7 (pv 2) xz)<|aN bQ (pv 3)<|a7 (pv 2) xz)<|fh xz mT rT)<|sr (pv 3) (a7 (pv 2) xz) set_list) (pR N (ar (bJ (dr<|bu ji xz O.st.bl.iP jg<|aa (pv 2)<|aa (fh (v:=.ref t.i9) xz O.st.GQ xz) af) (pR l<|ar<|fg<|jT (pv 0) cM.cl DS hr<|aa (pv 1)<|aa (pv 2) af) (pR J (ar (bJ (dr<|bu ji xz O.st.bl.iP jg<|aa (pv 2)<|aa (fh (v:=.ref t.jF) xz O.st.NL xz) af) (pR x<|ar<|fg<|jT (pv 0) cM.cl DL jt<|aa (pv 1)<|aa (pv 2) af) (pR I (ar (bJ (dr<|bu ji xz O.st.bl.iP jg<|aa (pv 2)<|aa (fh (v:=.ref t.ky) xz O.st.X9 xz) af) (pR B<|ar<|fg<|jT (pv 0) cM.cl DW jt<|aa (pv 1)<|aa (pv 2) af)
        b8)))))))))))))
  (fu.ZQ (t':=λD σ H1=>σ=[a_ (.ref m),a_<|.int (c:Nat),a_<|.ref z,a_<|.ref ra]/\bg t C CT H1 m A (cC S c st)/\aG (cN m A) H H1/\cE PT LP LQ H1/\∀σ' H',bg t C CT H' m A (va S c)->aG (cN m A) H H'->cE PT LP LQ H'->D.nx σ' H') (pR U<|aw (qD (bN DP (hr.mono (show 1<=5 by decide)) xz<|aa (pv 2)<|aa (aN bQ (a7 (pv 0) xz)<|pv 1)<|aa (pv 3) af)<|sr (a7 (pv 0) xz) (pv 1) set_list)<|pR T<|ar<|aho (a7 (pv 0) xz) (pv 1) af9 ax Yj set_list) ?tl))))),?_⟩
 case tl=>
  rintro D σ H1 ⟨rfl,M1,k1,jK,q⟩;refine oE (aj3 g hk) λk' ef=>cG (id M1.obj) λdx fs hm G=>?_;refine aB (M1.dX ef.at') λra' aae aoU=>?_;have era:ra'=ra:=by rw[jr]at aae;exact(dj aae).g8
  subst era;have hc:=(cb.mp ef.at').1;refine vr xz<|vF xz hm cM.cl cM.places G.places<|vr xz<|rL (ag.of M1.pl) (jl ef.at')<|vr xz<|⟨z,a,dz,st,sz,ra',k'.rg,k'.pl,xz,k1.k z _ aoZ (λps y=>by cases y) Z,g,aoU,(ef.rg▸eM),(vF xz hm cM.cl cM.places G.places<|vr xz<|⟨A.pl,_,_,c,xz,xz,M1.pl,(yf<|by rw[aA];exact hc),?_⟩)⟩;have M2:=akR M1 L ef.at'<|eL st k'.rg k'.pl;have k2:aG (cN m A) _ (db H1 _<|.lst<|((cC S c st).ck.map λk=>V.int k.pl).set c<|.int (eL st k'.rg k'.pl:Nat)):=aG.db .pl;have l2:KL _ (db _ _<|.lst<|((cC S c st).ck.map λk=>V.int k.pl).set c<|.int (eL st k'.rg k'.pl:Nat)):=KL.db M1.pl;generalize db _ _ _=H2 at M2 k2 l2 ⊢;refine cG (id M2.obj) λzo qT lO G3=>?_;have e2:((cC S c st).ck.set c {k' with pl:=eL st _ k'.pl})[c]?=a_ {k' with pl:=eL st k'.rg k'.pl}:=fQ hc;refine ay _ xz<|dE m C _ _<|iK _ xz lO cM.cl cM.counts G3.counts<|vr xz<|⟨A.ct,_,c,(.int _),xz,xz,M2.ct,(by rw[cc,e2];rfl),⟨_,_,xz,xz,A.ct,_,_,c,xz,xz,M2.ct,yf (by rw[aA,fe];exact hc),?_⟩⟩;refine q _ _ ?_ ((k1.fT k2).fT<|aG.db .ct)<|(l2.fT<|KL.db M2.ct).lam jK;rw[hdo]
  have e:pQ (cC S c st) c st={ (cC S c st)with ck:=((cC S c st).ck.set c {k' with pl:=eL st k'.rg k'.pl}).set c {k' with pl:=eL st k'.rg k'.pl,ct:=k'.ct+1}}:=by
   unfold pQ;rw[ef.at',vC]
  rw[e];exact akT M2 L e2<|k'.ct+1
 refine cG (id M.obj) λdx fs hm G=>vF xz hm cM.cl cM.steps G.steps<|vr xz<|⟨A.st,_,_,(.ref b),xz,xz,(aq.of h1),(bA h2),(vF xz hm cM.cl cM.places G.places<|vr xz<|rL (ag.of M.pl) (jl hk)<|⟨b,_,_,(.ref z),xz,xz,(aq.of h3),(bA hv),(ay _ xz<|dE m C _ _<|iK _ xz hm cM.cl cM.dX G.dX<|vr xz<|rL (ag.of M.rg) (jl jr)<|aB (CH O g Z) λD ty c6=>vr xz<|dE _ _ _ _<|iA _ xz ty xz c6.anT<|tk<|bK (λh=>?_) λn1=>?_)⟩)⟩
 .cases g with
  | put r n g1 g2=>
   have Z:=Z;rw[Cw,aie]at Z;refine vF xz Z O.st.uv O.st.Y2 NM<|vr xz<|vF xz Z O.st.uv O.st.Y4 (Gi dk)<|⟨ra,_,_,r,xz,xz,ij,(yf<|by rw[aA,eM];exact g1),(⟨xz,?_,(aG.db<|.rs<|aW jr),((KL.db ij).lam hL),(λσ' H' h1 h2 h3=>q _ h1 h2 h3)⟩)⟩;have e:cC S c (V_,[r,n])=iM S c r n:=rfl;rw[e,xY hk];exact Gv M L hk jr r n
  | add=>exact eu (show ("add":cr)="put" from h) dk
  | set=>exact eu (show ("set":cr)="put" from h) dk
  | look=>exact eu (show ("look":cr)="put" from h) dk
  | swap=>exact eu (show ("swap":cr)="put" from h) dk
  | clear=>exact eu h dk
  | skip=>exact eu (show ("skip":cr)="put" from h) dk
 refine vr xz<|dE _ _ _ _<|iA _ xz ty xz c6.anV<|tk (bK (λh=>?_) λn2=>?_)
 .cases g with
  | add r o g1 g2=>
   have Z:=Z;rw[Cy,aif]at Z;have tL:k.rg[r]?=a_ (k.rg[r]'wg):=aL wg;have hg2:=aL wg;have eg1:k.rg.getD r 0=k.rg[r]'wg:=uj tL;have eg2:k.rg.getD o 0=k.rg[o]'wg:=uj hg2;refine vr xz<|vF xz Z O.st.sD O.st.OB (Gi dk)<|rL (ag.of ij) (jl tL)<|vr xz<|vF xz Z O.st.sD O.st.Y3 NM<|rL (ag.of ij) (jl hg2) ⟨_,⟨_,xz,xz,_,_,xz,xz,by show 0<kZ;decide +kernel,vr xz<|vF xz Z O.st.sD O.st.OB (Gi dk)<|⟨ra,_,_,r,xz,xz,ij,(yf<|by rw[aA,eM];exact g1),(⟨xz,?_,(aG.db<|.rs<|aW jr),((KL.db ij).lam hL),(λσ' H' h1 h2 h3=>q H' h1 h2 h3)⟩)⟩⟩⟩
   have e:cC S c (W_,[r,o])=iM S c r ((k.rg[r]'wg+k.rg[o]'wg)%kZ):=by
    unfold cC;rw[ee (show ¬(W_ : cr) = V_ from dk),ei xz,hk];show iM S c r ((k.rg.getD r 0+k.rg.getD o 0)%kZ)=_;rw[eg1,eg2]
   rw[e,xY hk];exact Gv M L hk jr r _
  | put=>exact eu (show ("put":cr)="add" from h) dk
  | set=>exact eu (show ("set":cr)="add" from h) dk
  | look=>exact eu (show ("look":cr)="add" from h) dk
  | swap=>exact eu (show ("swap":cr)="add" from h) dk
  | clear=>exact eu h dk
  | skip=>exact eu (show ("skip":cr)="add" from h) dk
 refine vr xz<|dE _ _ _ _<|iA _ xz ty xz c6.ZM<|tk (bK (λh=>?_) λn3=>?_)
 .cases g with
  | set n r g1 g2=>
   have Z:=Z;rw[vQ]at Z;refine vM xz hm (G.ms _ dk)<|vr xz<|vr xz ⟨m,⟨A,S,c,k,z,dz,a,n,r,gv,xz,M,L,W,mG,hL,hk,Z,g1,g2,λH1 M1 k1 jK=>⟨xz,?_,k1,jK,(λσ' H' h1 h2 h3=>q _ h1 h2 h3)⟩⟩⟩;have e:cC S c (J_,[n,r])=setM S c n r:=by kernel_rfl
   rw[e];exact M1
  | put=>exact eu (show ("put":cr)="set" from h) dk
  | add=>exact eu (show ("add":cr)="set" from h) dk
  | look=>exact eu (show ("look":cr)="set" from h) dk
  | swap=>exact eu (show ("swap":cr)="set" from h) dk
  | clear=>exact eu h dk
  | skip=>exact eu (show ("skip":cr)="set" from h) dk
 refine vr xz<|dE _ _ _ _<|iA _ xz ty xz c6.YW<|tk (bK (λh=>?_) λn4=>?_)
 .cases g with
  | look r n g1 g2=>
   have Z:=Z;rw[xN]at Z;refine vM xz hm (G.ms _ dk)<|vr xz<|vr xz ⟨m,⟨A,S,c,k,z,dz,a,r,n,gv,xz,M,L,W,hk,Z,g1,g2,λH1 M1 k1 l1=>⟨xz,?_,k1,(l1.lam hL),(λσ' H' h1 h2 h3=>q _ h1 h2 h3)⟩⟩⟩;have e:cC S c (K_,[r,n])=pI S c r n:=by kernel_rfl
   rw[e];exact M1
  | put=>exact eu (show ("put":cr)="look" from h) dk
  | add=>exact eu (show ("add":cr)="look" from h) dk
  | set=>exact eu (show ("set":cr)="look" from h) dk
  | swap=>exact eu (show ("swap":cr)="look" from h) dk
  | clear=>exact eu h dk
  | skip=>exact eu (show ("skip":cr)="look" from h) dk
 refine vr xz<|dE _ _ _ _<|iA _ xz ty xz c6.alq<|tk (bK (λh=>?_) λn5=>?_)
 .cases g with
  | swap r n g1 g2=>
   have Z:=Z;rw[Cd]at Z;refine vM xz hm (G.ms _ dk)<|vr xz<|vr xz ⟨m,⟨A,S,c,k,z,dz,a,r,n,gv,xz,M,L,W,mG,hk,Z,g1,g2,λH1 M1 k1 l1=>⟨xz,?_,k1,(l1.lam hL),(λσ' H' h1 h2 h3=>q _ h1 h2 h3)⟩⟩⟩;have e:cC S c (H_,[r,n])=qI S c r n:=by kernel_rfl
   rw[e];exact M1
  | put=>exact eu (show ("put":cr)="swap" from h) dk
  | add=>exact eu (show ("add":cr)="swap" from h) dk
  | set=>exact eu (show ("set":cr)="swap" from h) dk
  | look=>exact eu (show ("look":cr)="swap" from h) dk
  | clear=>exact eu h dk
  | skip=>exact eu (show ("skip":cr)="swap" from h) dk
 have e:cC S c st=S:=by
  unfold cC;rw[ee n1,ee n2,ee n3,ee n4,ee n5]
 exact⟨xz,(by rw[e];exact M),(aG.refl H),hL,(λσ' H' h1 h2 h3=>q _ h1 h2 h3)⟩
end
def OK:List V->Bool
 | .str _::r=>r.all uU
 | _=>d_
theorem Xk:∀a:List Int,(a.map V.int).all uU=c_
 | []=>rfl
 | i::a=>by rw[fv,BD,Xk a];rfl
def ahU(mv:Mv):OK (qS mv)=true:=Xk _
noncomputable def uS(mv:Mv):bD:=.tuple (.str mv.1::mv.2.map nX)
theorem Wi:∀l m:List Int,t7 (l.map nX) (m.map nX)=decide (l=m)
 | [],[]=>by simp[t7]
 | [],_::_=>by simp[t7]
 | _::_,[]=>by simp[t7]
 | a::l,b::m=>by
  rw[fv,fv];simp only[t7,kQ];rw[Wi l m]
  by_cases h1:a=b
  .subst h1
   by_cases h2:l=m
   .subst h2;simp
   simp[h2]
  simp[h1]
def ajY(a b:Mv):kQ (uS a) (uS b)=decide (a=b):=by
 obtain⟨x,c⟩:=a;obtain⟨y,d⟩:=b;unfold uS;simp only[kQ,t7];rw[Wi]
 by_cases h1:x=y
 .subst h1
  by_cases h2:c=d
  .subst h2;simp
  simp 
 simp[h1]
def ake(l:List Mv)(b:Mv):(l.map uS).any (λd=>kQ d<|uS b)=decide (b∈l):=by
 induction l with
 | nil=>simp
 | cons a l ih=>
  rw[fv,xC,ih,ajY]
  by_cases h:a=b
  .subst h;simp
  have h':¬b=a:=λz=>h z.g8;simp[h,h']
def U9{mv:Mv}(h:Kb mv.1=c_):shaped (uS mv)=true:=by
 unfold uS shaped;rw[jy];refine⟨?_,eN ?_⟩
 .simp only[zO,vw];rw[h,t8];exact UD λa _=>rfl
 have h:=Vn (f:=nX) (k:=1) (l:=mv.2) (λa _=>by simp[EO]);simp only[EO,zG];lia
theorem UB{K:u_}:∀a:List Int,fG K H (a.map V.int)<|a.map nX
 | []=>.nil
 | i::a=>.cons (.int i)<|UB a
def X8{K:u_}{mv:Mv}(h:H p=a_ (.tup<|qS mv)):eX K H (.ref p) (uS mv):=.tup (aq.of h)<|.cons (.str _)<|UB _
section
variable{t:bh}{C CT:e_}{u:nO}
def XE:Sp:=λvs H Q _=>∃p xs,vs=[.ref p]/\H p=a_ (.tup xs)/\(∀x∈xs,∃T,dv H x=a_ T)/\xs.length<=1000/\∀H',ae H H'->Q (.bl<|OK xs) H'
def aiW:aV [as9] [as9] (aP Oq):=aZ
def afP:(hZ:List cr).Nodup:=dk
def ahH(F:aQ K "has_form_of_move" "has_form_of_move" Oq f fd)(T:su K mg t):aF P w K mg gl aE 2 f fd [as9] XE:=by
 have n:aF P w K _ gl _ 1 _ _ _ Fy:=LS T.Qu T.bl;refine F.ok aiW λaH A _ s H vs Q E o h=>?_
 obtain⟨a,xs,p,ha,g,D,k⟩:=h;subst p;have B:=T.bl
 refine let b:TS:=_;⟨_,aw (bJ (PW.pt<|pw_or (jP<|dr<|bu ji xz B.iP jg<|aa (pv 0)<|aa (oh (v:=.ty S_) xz B.tuple iY xz) af)<|pw_or (b0 c7 (bu dS xz B.len q_<|aa (pv 0) af) ax<|br _)<|pw_or1<|jP<|dr<|bu ji xz B.iP jg<|aa (aN bX (pv 0) ax)<|aa (oh (v:=.ty "str") xz B.str boot_str xz) af) (ar<|aS gD) b8) (pR b (ar (aS (bu (Ag xz) xz B.all Cg (aa (eB (N:=[as0]) (idx:=[]) xz (cF.of<|by kernel_rfl) (eA<|ba _)
   (mZ<|Fi Nj (pv 0) (FH ax) FJ)
   (λ_ _ _ _=>bo (i:=0) afP xz (aI xz)<|.inr xz)
   (λ_ _ _ _=>eQ)
   λ_ _ _ _=>pB n o xz T.mW T.Qu.kp T.bW .nil dh<|aa (pv 0) af) af))))),?_⟩
 have j:=ES ha;refine vr xz<|dE _ _ _ _<|iA _ xz (pY j) xz (pO j qc)<|ay _ xz<|eU ?_;rcases xs with _|⟨y,ps⟩
 ·refine vr xz<|dN a _ xz (.inr<|aq.of ha) ⟨xz,⟨_,xz,bK (λe=>?_) (eu xz)⟩⟩;exact jq<|k H<|ae.refl H
 refine vr xz<|dN a _ xz (.inr<|aq.of ha) ⟨xz,⟨_,xz,bK (λe=>?_) λW=>?_⟩⟩
 .injection e with e
  exact eu e (by simp only[eJ];lia)
 refine oE (g y b9) λX d=>kC xz ha xz<|dE _ _ _ _<|iA _ xz (pY d) xz (pO d qc)<|ay _ xz (OH (λh1=>?_) λh1=>?_)
 .have e:OK (y::ps)=false:=by
   cases y with
   | str x=>exact eu ((Gm d).mpr ⟨x,xz⟩)<|h1▸dO
   | _=>rfl
  have q:=k H<|ae.refl H;rw[e]at q;exact q
 refine oE ((Gm d).mp h1) λY G=>?_;subst G;have k:=k;refine ay _ xz<|ay 1 xz ⟨a,⟨_,xz,aq.of ha,?_,λq I=>?_⟩⟩
 .intro z;have l:=z.1;rw[Pu]at l;cases l
 rw[ZX];have s2:ae H (db H q<|.tup ps):=au (ae.refl H) I;have c:db H q _ q=a_ (.tup ps):=ao;generalize db H q _=H3 at s2 c ⊢;have Z:ps.length<=1000:=by rw[eJ]at D;lia
 refine dQ q xz ⟨_,aq.of c⟩<|dU (λi ys H'=>i<=ps.length/\H'=H3/\ys=(ps.take i).map λz=>V.bl<|uU z) (cg<|cy w0) (gg (ba _) xz xz) ?_ ?_ ?_ ?_ ?_
 .rintro i ys H' ⟨_,_,e⟩;rw[e,aA,eZ];exact xl
 .rintro i ys H' hi ⟨_,rfl,_⟩;exact gm _ _ (aq.of c)<|aL hi
 .rintro ys H' ⟨_,rfl,_⟩;exact ay _ (aq.of c)<|az _
 .rintro i ys H' hi ⟨_,rfl,e⟩ z eh ⟨J,L⟩;subst J;have m:=L _<|aq.of c;refine oE (g z<|cx _<|aW m) λM O=>?_;have R:=T6 s2 O;dsimp only[jo,hX];rw[ei rfl];refine vr xz<|⟨z,M,xz,R,hi,xz,?_⟩;rw[iq,m,dB,<-e];rfl
 rintro ys H' ⟨_,rfl,e⟩;refine⟨?_,λr S=>?_⟩
 .rw[e,aA,eZ];have:=cy w0;lia
 have U:ys=(ps.map uU).map V.bl:=by
  rw[e,jf<|az _,jh];rfl
 refine dN r _ xz (ag.of<|by rw[ao,U]) ?_;rw[zR];exact k _<|au s2 S
end
def cJ(S:Mc)(mv:Mv):Mc:=if mv.1="do" then va S (mv.2.getD 0 0).toNat else ng S (mv.2.getD 0 0).toNat (mv.2.getD 1 0).toNat
def BW{mv:Mv}(h:mv∈gC S):(∃c:Nat,mv=(("do":cr),[(c:Int)])/\c<S.ck.length/\uD S c=c_)\/(∃(c:Nat)(k:Ck)(n:Int),mv=((as5 : cr),[(c:Int),n])/\S.ck[c]?=a_ k/\n∈jj S.kd k.es):=by
 obtain h|h:=ir.mp h
 .left
  refine aB (cj.mp h) λc b a=>?_;subst a;exact oA (gz.mp b) λh1 h2=>dQ c xz (nU.mp h1) h2
 right
 refine aB (abF.mp h) λa d hm=>?_;obtain⟨k,c⟩:=a;refine aB (cj.mp hm) λn hn a=>?_;subst a;exact⟨c,k,n,xz,List.mem_zipIdx_iff_getElem?.mp d,hn⟩
def Vb{mv:Mv}(h:mv∈gC S):Kb mv.1=true:=by
 obtain⟨c,rfl,_,_⟩|⟨c,k,n,rfl,_,_⟩:=BW h
 .show Kb "do"=c_;decide +kernel
 show Kb as5 = c_;decide +kernel
def LV(W:ie S)(d:c<S.ck.length)(h:uD S c=c_):∃k p s sz,S.ck[c]?=a_ k/\S.ps[c]?=a_ p/\p[k.pl]?=a_ s/\bY sz s:=by
 have a:=aL d;refine cw (W.part a) λp b _ _ f=>?_;rw[FL a b]at h;unfold pN at h;rcases e:p[S.ck[c].pl]? with _|s
 ·rw[e]at h;cases h
 exact⟨_,p,s,_,a,b,e,f s<|aW e⟩
def ajz(mv:Mv):∀x∈qS mv,∃T,dv H x=a_ T:=by
 intro x a;obtain e|e:=bH.mp a
 .rw[e];exact⟨_,xz⟩
 refine aB (cj.mp e) λi _ b=>?_;subst b;exact⟨_,xz⟩
def ajA{mv:Mv}(h:mv∈gC S):(qS mv).length<=1000:=by
 rcases BW h with ⟨c,rfl,_⟩ | ⟨c,k,n,rfl,_⟩ <;> simp[qS]
section
variable{t:bh}{C CT:e_}{u:nO}
def Pl(t:bh)(C CT PT:e_):Sp:=λvs H Q _=>∃m A S p mv gv,vs=[.ref m,.ref p]/\bg t C CT H m A S/\kA gv m A/\ie S/\yN S/\cE PT LP LQ H/\H p=a_ (.tup<|qS mv)/\mv∈gC S/\
 ∀H',bg t C CT H' m A (cJ S mv)->aG (cN m A) H H'->cE PT LP LQ H'->Q .aR H'
def ak8:aV [X_,as9] [X_,as9] (aP Pr):=aZ
def Aj(r:fJ k A):A.units+65<cLine:=by have:=r.un;lia
def agl{K:u_}(h:bt (qQ H) vs l):fG K H vs (l.map uS):=Ld (F:=qQ H) (λv a q=>by
 obtain⟨p,rfl,q⟩:=q;exact X8 q) h
def ajh{f PT:e_}(F:aQ K "do" "Machine.do" Pr f fd)(B:gF K C)
  (DF:Dp P w K mg gl 2 "has_form_of_move" [as9] XE)
  (DM:Mt P w K mg gl C 4 "moves" gw (Fz t C CT PT))
  (DS:Mt P w K mg gl C 6 "do_step" hA (VI t C CT PT))
  (DC:Mt P w K mg gl C 4 as5 io (Mw t C CT PT)):aF P w K mg gl aE 7 f fd [X_,as9] (Pl t C CT PT):=by
 refine F.ok ak8 λaH A _ s H vs Q E o h=>?_
 refine mX h λm A S p mv gv e M L W bG=>?_;subst e;obtain⟨U,yx,V,r,q⟩:=bG;have jt:=o.mono (show 2<=6 by decide);have X:=o.mono (show 4<=6 by decide);refine⟨_,aw (bJ (PW.pt<|pw_or (jP<|dr<|bN DF jt xz<|aa (pv 1) af)<|pw_or1<|b0 (U6<|Aj o) (pv 1) (pG (pv 0) B.cl DM X) xz) vE b8)<|ar<|bJ (b0 c7 (aN bX (pv 1) ax) cp<|br _) (ar<|fg<|jT (pv 0) B.cl DS o<|aa (aN bX (pv 1) ax) af)<|ar<|fg<|jT (pv 0) B.cl DC X<|aa (aN bX (pv 1) ax)<|aa (aN bX (pv 1) ax) af,vr xz<|⟨p,_,xz,V,(ajz _),(ajA r),(λH1 s1=>(ay _ xz ?_))⟩⟩;rw[ahU];have D:=M.same s1;refine cG (id D.obj) λdx fs hm G=>eU<|vr xz<|vM xz hm (G.ms _ dk)<|⟨m,A,S,xz,D,W,(iw yx s1),(λH2 l vs I Y hn lP tw=>?_)⟩;have j:=I.Pg _ _<|s1 _ _ V;refine⟨l,vs,_,(⟨_,xz,(ag.of lP),(agl tw),(X8 j),(U9<|Vb r),(λd hd=>?_),(ay _ xz ?_)⟩)⟩
 .refine aB (cj.mp hd) λa ha e=>?_;subst e;exact U9<|Vb ha
 rw[ei xz,ake];have k02:=(aG.of s1).fT I
 rw[eN r];refine eU ?_;have J:=D.pJ I;refine cG (id J.obj) λzo qT Z G3=>?_;have kk:∀H',aG _ _ _->aG (cN m A) H H':=λH' k=>(k02.mono λb z=>z.elim).fT k;obtain⟨c,rfl,hc,uO⟩|⟨c,k,n,rfl,v,iH⟩:=BW r
 .exact Au (LV W hc uO) λk pt st sz v e=>gH e λtH cY g=>kC xz j xz ⟨xz,⟨_,xz,bK (λ_=>vM xz Z (G3.ms _ dk)<|kC xz j xz<|⟨m,A,S,c,k,pt,st,sz,gv,xz,J,L,W,U,(⟨Y,v,tH,cY,g,(λH3 N O R=>q _ N (kk _ O) R)⟩)⟩)<|eu xz⟩⟩
 refine aB (M.uy v) λx hx T=>aY (Ve T.wf iH) λi hi e _=>?_;subst e;exact kC xz j xz ⟨xz,⟨_,xz,bK (λy=>eu (show (as5 : cr)="do" from Pj y) dk) λ_=>vM xz Z (G3.ms _ dk)<|kC xz j xz<|kC xz j xz<|⟨m,A,S,c,k,i,gv,xz,J,L,Y,v,iH,hi,(⟨W.bd,W.ov,U,(λH3 N O R=>q _ N (kk _ O) R)⟩)⟩⟩⟩
end
def ama:dW V_ = a_ [4,kZ]:=by kernel_rfl
def amb:dW W_ = a_ [4,4]:=by kernel_rfl
def al':dW J_ = a_ [12,4]:=by kernel_rfl
def akb:dW K_ = a_ [4,12]:=by kernel_rfl
def aj':dW H_ = a_ [4,12]:=by kernel_rfl
def aiq:dW M_ = a_ []:=by kernel_rfl
def aka:dW T_ = a_ [4,121]:=by kernel_rfl
def Ay{a b:Nat}{u v:Int}(e:dW x=a_ [u,v])(h1:(a:Int)<u)(h2:(b:Int)<v):stepOk [.str x,.int a,.int b]=true:=by
 show (match dW x with | none=>d_ | some bs=>decide ([V.int a,V.int b].length=bs.length)&&([V.int a,V.int b].zip _).all λp=>oJ _ _)=c_;rw[e];show (decide (2=2)&&((decide (0<=(a:Int))&&decide ((a:Int)<u))&&((decide (0<=(b:Int))&&decide ((b:Int)<v))&&c_)))=c_;rw[eN h1,eN h2,eN<|xw a,eN<|xw b];rfl
def top_lt{m:Nat}(h:m<10^60):(m:Int)<kZ:=by
 have e:((10^60:Nat):Int)=kZ:=dk;rw[<-e];exact Int.ofNat_lt.mpr h
def BX{sz:Nat}(g:bY sz t):stepOk (tv t)=true:=by
 cases g with
 | put r m h1 h2=>exact Ay ama li<|top_lt h2
 | add r m h1 h2=>exact Ay amb om li
 | set r m h1 h2=>exact Ay al' li om
 | look r m h1 h2=>exact Ay akb om li
 | swap r m h1 h2=>exact Ay aj' om om
 | clear=>
  show (match dW M_ with | none=>d_ | some bs=>decide (([]:List V).length=bs.length)&&(([]:List V).zip bs).all λp=>oJ p.1 p.2)=c_;rw[aiq];rfl
 | skip r m h1 h2 h3=>exact Ay aka li li
def Wc{sz:Nat}(g:bY sz t):(t.2.map λ(n:Nat)=>V.int (n:Int)).length<=900:=by
 rw[aA];have:=g.len;exact w4
def W8(l:List Nat):∀y∈l.map λ(n:Nat)=>V.int (n:Int),∃T,dv H y=a_ T:=λy a=>by
 refine aB (cj.mp a) λn _ b=>?_;subst b;exact⟨_,xz⟩
def aes{sz:Nat}(g:bY sz s)(h:s.1 = T_):∃r q:Nat,s=((T_ : cr),[r,q])/\q<=sz:=by
 cases g with
 | skip r q _ h2 _=>exact⟨r,q,xz,h2⟩
 | put r n _ _=>exact eu (show ("put":cr)="skip" from h) dk
 | add r n _ _=>exact eu (show ("add":cr)="skip" from h) dk
 | set r n _ _=>exact eu (show ("set":cr)="skip" from h) dk
 | look r n _ _=>exact eu (show ("look":cr)="skip" from h) dk
 | swap r n _ _=>exact eu (show ("swap":cr)="skip" from h) dk
 | clear=>exact eu h dk
def alP(K:u_)(h:autoParam (X.K=K) a8):i7 X (.builtin "isinstance") (ZI K):=by subst h;exact ji
def WY:(hZ:List cr).Nodup:=dk
theorem xF{a b:Type}{F:a->b->Prop}:∀{l:List a}{r:List b}{i:Nat}{x:a},bt F l r->l[i]?=a_ x->∃y,r[i]?=a_ y/\F x y
 | _,_,_,_,.nil,e=>by simp at e
 | _,_,0,_,.cons h _,e=>by simp at e;subst e;exact⟨_,xz,h⟩
 | _,_,i+1,x,.cons _ t,e=>by
  exact aB (xF (i:=i) t<|by simpa using e) λy h1 h2=>ay y (by simpa using h1) h2
def ais(n:Nat):(cQ n c_).all id=true:=by
 induction n with
 | zero=>rfl
 | succ n ih=>rw[xu,BD,ih];rfl
section
variable{t:bh}{u:nO}
def YM:Sp:=λvs H Q _=>∃v ps,vs=[v]/\iB H v ps/\cV ps/\∀H',ae H H'->Q (.bl c_) H'
def ala:aV hJ hJ (aP Pw):=aZ
def ajl(F:aQ K "has_clerks" "has_clerks" Pw f fd)(B:Bl mg)(C:∃u,mg "CLERKS"=a_ u/\df (.int 4) u):aF P w K mg gl aE 1 f fd hJ YM:=by
 refine aB C λO q y=>F.ok ala λaH A _ s H vs Q E R h=>?_
 refine ou h λv ps j z g k=>?_;subst j;refine fk z λa xs j ha l=>?_;subst j
 refine let c:TS:=_;⟨_,aw (bJ (PW.pt<|pw_or (jP<|dr<|bu ji xz B.iP jg<|aa (pv 0)<|aa (oh (v:=.ty S_) xz B.tuple iY xz) af)<|pw_or1<|jP<|afe CP CP ax (bu dS xz B.len q_<|aa (pv 0) af)<|fh xz q y)
   vE b8)
  (pR c (ar (aS (bu (Ag xz) xz B.all Cg (aa (eB (N:=[as0]) (idx:=[]) xz (cF.of<|by kernel_rfl) (eA<|ba _)
   (mZ<|pv 0) (λ_ _ _ _=>bo (i:=0) WY xz (aI xz)<|.inr xz) (λ_ _ _ _=>eQ)
   λ_ _ _ _=>bu (alP K) xz B.iP jg<|aa (pv 0)<|aa (oh (v:=.ty S_) xz B.tuple iY xz) af) af))))),?_⟩
 have m:=ES ha;have hi:uG S_ S_ = true:=qc;have S:=r_ l;have T:=g.ne;have g2:=g.le;refine vr xz<|dE _ _ _ _<|iA _ xz (pY m) xz (pO m qc)<|ay _ xz ?_;rw[hi];refine eU<|vr xz<|dN a _ xz (.inr<|aq.of ha) ⟨_,⟨_,xz,xz,_,xz,bK (λh1=>⟨_,⟨_,xz,xz,_,xz,nv (λh2=>eu (show (xs.length:Int)<=4 by lia) h2) λh2=>ay _ xz<|dQ a xz ⟨xs,aq.of ha⟩<|dU (n:=xs.length) (λi ys H'=>i<=xs.length/\ae H H'/\ys=(cQ i c_).map V.bl) (cg<|cy w8) (gg (ba _) (ae.refl _) xz) ?_ ?_ ?_ ?_ ?_⟩⟩) λh1=>eu (show 1<=(xs.length:Int) by lia) h1⟩⟩
 .refine λi ys H' d=>gH d λ_ _ e=>?_;rw[e,aA,tV];exact az _
 .exact λi ys H' hi d=>gH d λ_ s1 _=>gm _ _ (aq.of<|s1 _ _ ha)<|aL hi
 .exact λys H' d=>gH d λ_ s1 _=>ay _ (aq.of<|s1 _ _ ha)<|az _
 .refine λi ys H' D d x U G=>gH d λ_ s1 e=>oA G λI J=>?_;subst I;refine aB (xF l<|J _<|aq.of<|s1 _ _ ha) λp _ j=>fk j λb us j L _=>?_;subst j;have o:=ES<|s1 _ _ L;refine vr xz<|dE _ _ _ _<|⟨_,xz,(pY o),xz,(pO o qc),D,s1,?_⟩;rw[hi,e,aa4,dB];rfl
 refine λys H' d=>gH d λ_ s1 e=>⟨?_,λr M=>?_⟩
 .rw[e,aA,tV];exact cg<|cy w8
 refine dN r _ xz (ag.of<|by rw[ao,e]) ?_;rw[ais];exact k _<|au s1 M
def XF:Sp:=λvs H Q _=>∃(v:V)(s:Tl)(p n:Nat),vs=[v,.int (p:Nat),.int (n:Nat)]/\jm H v s/\bY n s/\p<120/\∀H',ae H H'->Q (.bl c_) H'
def XM:aV ["told",Y_,"length","step"] ["told",Y_,"length"] (aP Ot):=aZ
def ahI(F:aQ K "fits" "fits" Ot f fd)(O:yt K mg t u):aF P w K mg gl aE 5 f fd ["told",Y_,"length"] XF:=by
 have T:=O.st;have l:aF P w K _ gl _ 4 _ _ _ _:=BV T;refine aB T.cn.long λG m rL=>F.ok XM λaH A _ s H vs Q E o h=>?_;obtain⟨v,st,p,n,c,x,g,I,k⟩:=h;subst c;refine let b:TS:=_;⟨_,aw (ahn λpn=>ar<|bC (i:=3) XM.nd xz (aI xz)<|pB l o xz T.mO T.AW.kp T.bO .nil dh<|aa (pv 0) af)<|pR b<|aw (bJ (PW.pt<|pw_and (dr<|bu ji xz T.bl.iP jg<|aa (pv 3)<|aa (fh (v:=.ref _) xz T.NK xz) af)<|pw_and1<|b0 CQ (a7 (pv 3) xz) (pv 2)<|br _) vE b8)<|ar<|aS<|jB yc (pv 1) (fh xz m rL)<|br _,aB x λa c ha=>?_⟩;subst c;have y:decide ((p:Int)<120)=true:=eN li;refine vr xz<|uV a _ (iA _ xz ha (BX g) ⟨Wc g,W8 _⟩ λz dx J s1 L e=>?_);have d:=k _ s1;rw[<-y]at d;refine aB (CH O g e) λC ty B=>vr xz<|⟨_,(.ref _),(.ref C),(.ref _),(decide<|st.1 = T_),xz,ty,xz,B.YV,(tk<|bK (λj=>cG (aes g j) λr q c M=>?_) λj=>eU<|ay _ xz ⟨_,⟨_,xz,xz,d⟩⟩)⟩;subst c;refine vF xz e T.qF T.Gf xz<|vr xz ⟨_,⟨_,xz,xz,_,xz,bK (λD=>?_) λ_=>⟨_,xz,_,_,xz,xz,d⟩⟩⟩;exact eu D (by lia)
def XC:Sp:=λvs H Q _=>∃v ps,vs=[v]/\iB H v ps/\cV ps/\∀H',ae H H'->Q .aR H'
def CA:aV [O_,ac1,as0,Y_,"told"] hJ (aP KI):=aZ
def ahC(F:aQ K "look_over" "look_over" KI f fd)(B:Bl mg)(O:mg "enumerate"=b_)(L:Dp P w K mg gl 1 "has_clerks" hJ YM)(X:Dp P w K mg gl 5 "fits" ["told",Y_,"length"] XF):aF P w K mg gl aE 6 f fd hJ XC:=by
 refine F.ok CA λaH A _ s H vs Q E R h=>?_
 refine ou h λv ps C Y g k=>?_;subst C;refine fk Y λa xs C ha S=>?_;subst C
 refine let l:TS:=_;let o:TS:=_;let t:TS:=_;⟨_,aw (bJ (jP<|dr<|pB L.G (R.mono qc) xz L.m L.k L.b .nil dh<|aa (pv 0) af) vE b8)
  (pR t<|ar<|i3 hV xz (ui (b:=d_) xz O<|aa (pv 0) af) (oo xz<|gU (bo (i:=1) CA.nd xz<|aI xz)<|gU (bo (i:=2) CA.nd xz<|aI xz) og)<|pR o<|ar<|i3 hV xz (ui (b:=d_) xz O<|aa (pv 2) af) (oo xz<|gU (bo (i:=3) CA.nd xz<|aI xz)<|gU (bo (i:=4) CA.nd xz<|aI xz) og)<|pR l<|ar<|bJ (jP<|dr<|bN X R xz<|aa (pv 4)<|aa (pv 3)<|aa (bu dS xz B.len q_<|aa (pv 2) af) af) vE b8),?_⟩
 refine vr xz<|⟨(.ref a),ps,xz,⟨a,xs,xz,ha,S⟩,g,(λH1 s1=>(ay _ xz<|eU ?_))⟩
 let Z:IV:=λi σ H'=>∃c q p d,σ=[a_ (.ref a),c,q,p,d]/\ae H H'
 refine vr xz<|dN a _ xz (aq.of<|s1 _ _ ha)<|x9 (n:=xs.length) Z ⟨b_,b_,b_,b_,xz,s1⟩ ?_ ?_ ?_ ?_
 .exact λi σ H' hi D=>Au D λ_ _ _ _ _ s2=>gm _ _ (aq.of<|s2 _ _ ha)<|aL hi
 .exact λσ H' D=>Au D λ_ _ _ _ _ s2=>ay _ (aq.of<|s2 _ _ ha)<|az _
 .intro i σ H2 hi D z H3 M;obtain⟨c,q,p,d,C,s2⟩:=D;subst C;refine ou M λr x bR ez eH cU=>?_;subst ez;subst eH;refine aB (xF S<|cU _<|aq.of<|s2 _ _ ha) λpt tH C=>fk C λb us C J T=>?_;subst C;refine oA (g.part _<|aW tH) λg3 U=>?_;rw[<-(r_ T)]at g3 U;have V:ae H (db _ r<|.tup [.int i,.ref b]):=au s2 bR;refine⟨r,([.int i,.ref b]),xz,(aq.of ao),xz,(gm _ _ xz<|dN _ _ xz xz ?_)⟩
  let W2:IV:=λj σ H'=>∃p d,σ=[a_ (.ref a),a_<|.int i,a_<|.ref b,p,d]/\ae H H'
  refine vr xz<|dN b _ xz (aq.of<|V _ _ J)<|x9 (n:=us.length) W2 ⟨p,d,xz,V⟩ ?_ ?_ ?_ ?_
  .exact λj σ H' W D=>cG D λ_ _ _ I=>gm _ _ (aq.of<|I _ _ J)<|aL W
  .exact λσ H' D=>cG D λ_ _ _ I=>ay _ (aq.of<|I _ _ J)<|az _
  .refine λj σ H4 W D z' H5 M=>cG D λp' d' C I=>?_;subst C;refine ou M λr' y wZ ez' Sk oU=>?_;subst ez';subst Sk;refine aB (xF T<|oU _<|aq.of<|I _ _ J) λst cY hI=>?_;have N:ae H (db _ _<|.tup [.int j,y]):=au I wZ;exact⟨r',([.int j,y]),xz,(aq.of ao),xz,(gm _ _ xz<|dN y _ xz xz<|ay _ xz<|vr xz<|vr xz ⟨b,⟨_,xz,.inr<|aq.of<|N _ _ J,y,st,j,us.length,xz,hI.keep λb xs e=>N _ _ e,U _<|aW cY,wh,λH6 s6=>⟨_,xz,eU ⟨_,_,xz,N.fT s6⟩⟩⟩⟩)⟩
  refine λσ H4 D=>cG D λp' d' C I=>?_;subst C;exact⟨_,_,_,(ay _ xz I)⟩
 intro σ H2 D;obtain⟨_,_,_,_,C,s2⟩:=D;subst C;exact k _ s2
end
structure gx(H0:Hp)(m:e_)(H:Hp)(R:e_->Nat->Prop):Prop where
 l:∃gv:e_->Nat,∀a v,R a v->gv a=v
 p:∀a v,R a v->H a≠b_
 f:∀a v,R a v->a=m\/H0 a=b_
 t:∀b,H b=b_->H0 b=b_
section
variable{H0 H H':Hp}{m:e_}{R R':e_->Nat->Prop}
def gx.keep(h:gx H0 m H R)(k:∀b,H' b=b_->H b=b_):gx H0 m H' R:=⟨h.l,λa v r z=>h.p a v r<|k a z,h.f,λb z=>h.t b<|k b z⟩
def gx.adds(h:gx H0 m H R)(k:∀b,H' b=b_->H b=b_){B:e_->Prop}{n:Nat}(c:∀b,B b->H b=b_)(d:∀b,B b->H' b≠b_):gx H0 m H' λa v=>R a v\/(B a/\v=n):=by
 obtain⟨⟨gv,h1⟩,h2,h3,h4⟩:=h
 classical
 refine⟨⟨λa=>if B a then n else gv a,λa v r=>?_⟩,λa v r=>?_,λa v r=>?_,λb z=>h4 b<|k b z⟩
 .obtain r|⟨r,rfl⟩:=r
  .show (if B a then n else gv a)=v;rw[ee λz=>h2 a v r<|c a z];exact h1 a v r
  show (if B a then v else gv a)=v;rw[ei r]
 .obtain r|⟨r,rfl⟩:=r
  .exact λz=>h2 a v r<|k a z
  exact d a r
 obtain r|⟨r,rfl⟩:=r
 .exact h3 a v r
 exact .inr (h4 a<|c a r)
def gx.add(h:gx H0 m H R)(k:∀b,H' b=b_->H b=b_)(d:H b=b_)(e:H' b≠b_):gx H0 m H' λa v=>R a v\/(a=b/\v=n):=
 h.adds k (B:=λa=>a=b) (λc z=>by rw[z];exact d) (λc z=>by rw[z];exact e)
def qt:∀b,db H x o b=b_->H b=none:=λb e=>by
 by_cases z:b=x
 .rw[z,ao]at e;cases e
 rwa[aj z]at e
def gx.new(h:gx H0 m H R)(c:H b=b_):gx H0 m (db H b o) λa v=>R a v\/(a=b/\v=n):=h.add qt c (by rw[ao];intro z;cases z)
end
structure bz(m:e_)(H H':Hp):Prop where
 k:∀b o,b≠m->H b=a_ o->H' b=a_ o
 t:∀b,H' b=b_->H b=b_
def bz.of(s:ae H H'):bz m H H':=⟨λb o _ e=>s b o e,λb h=>s.free h⟩
def bz.fT(a:bz m H H1)(b:bz m H1 H2):bz m H H2:=⟨λc o n e=>b.k c o n<|a.k c o n e,λc h=>a.t c<|b.t c h⟩
def bz.db:bz m H (db H m o):=⟨λb q n e=>by rw[aj n];exact e,qt⟩
section
variable{t:bh}{C CT:e_}{u:nO}
def jU.same(s':ae H H')(h:jU t H v s):jU t H' v s:=h.keep λb C dx fs e _=>s' _ _ e
def US(t:bh):Sp:=λvs H Q _=>∃v p,vs=[v]/\IsPart H v p/\p.length<=120/\(∀s∈p,bY p.length s)/\∀H' b us,ae H H'->H b=b_->H' b=a_ (.tup us)->bt (jU t H') us p->Q (.ref b) H'
def adT:aV hZ hZ (aP LB):=aZ
def WX:(im:List cr).Nodup:=dk
theorem JX{a b:Type}{F:a->b->Prop}{x:a}{y:b}(h:F x y):∀{l:List a}{r:List b},bt F l r->bt F (l++[x]) (r++[y])
 | _,_,.nil=>.cons h .nil
 | _,_,.cons g t=>.cons g<|JX h t
def ac9(F:aQ K "steps_of" "steps_of" LB f fd)(T:su K mg t)(D:mg S_ = b_):aF P w K mg gl aE 5 f fd hZ (US t):=by
 have G:aF P w K _ gl _ 4 _ _ _ _:=BV T;refine F.ok adT λaH A _ s H vs Q E I h=>?_
 refine ou h λv p d J g L=>?_;subst d;refine fk J λa vs d ha j=>?_;subst d;refine oA L λM k=>?_
 refine⟨_,ar (aS (fw ma xz D iY (aa (eB (N:=["told"]) (idx:=[]) xz (cF.of<|by kernel_rfl) (eA<|ba _) (mZ<|pv 0)
  (λ_ _ _ _=>bo (i:=0) WX xz (aI xz)<|.inr xz) (λ_ _ _ _=>eQ) λ_ _ _ _=>pB G I xz T.mO T.AW.kp T.bO .nil dh<|aa (pv 0) af) af))),?_⟩
 have hlen:=r_ j;refine ay _ xz<|dQ a xz ⟨_,aq.of ha⟩<|dU (n:=vs.length) (λi ys H'=>i<=vs.length/\ae H H'/\bt (jU t H') ys (p.take i)) (cg<|cy w8) (gg (ba _) (ae.refl _) .nil) ?_ ?_ ?_ ?_ ?_
 .refine λi ys H' c=>gH c λ_ _ e=>?_;rw[r_ e,eZ];exact xl
 .exact λi ys H' hi c=>gH c λ_ s1 _=>gm _ _ (aq.of<|s1 _ _ ha)<|aL hi
 .exact λys H' c=>gH c λ_ s1 _=>ay _ (aq.of<|s1 _ _ ha)<|az _
 .refine λi ys O hi c z H2 R=>gH c λ_ s1 e=>oA R λS U=>?_;subst S;refine aB (xF j<|U _<|aq.of<|s1 _ _ ha) λst m V=>?_;have x:=M _<|aW m;have W:=V.keep λb xs e=>s1 _ _ e;refine aB W λb d X=>?_;subst d;dsimp only[jo,hX];rw[ei rfl];refine vr xz<|uV b _ (iA _ xz X (BX x) ⟨Wc x,W8 _⟩ λz dx H3 y IF Y=>(gg hi (s1.fT y) ?_));rw[iq,m];exact JX ⟨z,b,dx,xz,Y⟩ (Paired.bq e λ_ _ q=>q.same y)
 refine λys O c=>gH c λ_ s1 e=>?_;have Z:=r_ e;rw[eZ]at Z;refine⟨cg<|cy li,λr B=>⟨r,ys,xz,.inl ⟨ag.of ao,λl g=>?_⟩⟩⟩;have s2:=au (o:=.lst ys) s1 B;rw[jf li]at e;exact k _ l _ (au (o:=.tup ys) s2 g) (s2.free g) ao (Paired.bq e λ_ _ q=>(q.same<|au (ae.refl _) B).same<|au (ae.refl _) g)
end
structure wC(K:u_)(x qual:cr)(st:bv)(f:e_)(fd:jO)(d:cr):Prop where
 ex:∃(oc:f_)(od:Option e_)(T:e_)(kV doc pm:f_)(an:Option e_)(aH ct:f_)(jc:Array (Option f_))(c1:f_)(d1:Option e_)(n1:Nat)(p7:Array (Option f_))(tk:Nat),fd=B_ x qual (lF st) (iZ st) (aP st) (.ref T) kV doc pm an aH ct/\K.lookup f=a_ ⟨oc,od,.func fd,jc⟩/\W.codeIn K aH qual=c_/\K.lookup T=a_ ⟨c1,d1,.seq #[.str d tk] n1,p7⟩
 kp:x_ K (.ref f)=c_
noncomputable def k0:Ck:=⟨0,0,[0,0,0,0],0,[]⟩
def bj(kd:cr)(ps:List Pt):Mc:=⟨kd,ps,ps.map λ_=>k0,cQ 12 0,[],cQ 12 []⟩
theorem JY{a b c:Type}{F:a->b->Prop}{y:b}:∀{l:List a}{r:List c},l.length=r.length->(∀x∈l,F x y)->bt F l (r.map λ_=>y)
 | [],[],_,_=>.nil
 | [],_::_,h,_=>by cases h
 | _::_,[],h,_=>by cases h
 | x::l,z::r,h,g=>.cons (g x<|by simp) (JY (by simpa using h) λx d=>g x<|cx _ d)
theorem Uo{a b:Type}{F:a->b->Prop}{y:b}:∀{l:List a}{n:Nat},l.length=n->(∀x∈l,F x y)->bt F l (cQ n y)
 | [],0,_,_=>.nil
 | [],_+1,h,_=>by cases h
 | _::_,0,h,_=>by cases h
 | x::l,n+1,h,g=>.cons (g x<|by simp) (Uo (by simpa using h) λx c=>g x<|cx _ c)
def alC:([U_,as0]:List cr).Nodup:=dk
def GP:(hZ:List cr).Nodup:=dk
def alB:([l_]:List cr).Nodup:=dk
def Ae{a:Type}{l:List a}{x y:a}{i:Nat}(h:(l++[x])[i]?=a_ y):l[i]?=a_ y\/(i=l.length/\y=x):=by
 by_cases hi:i<l.length
 .left;rwa[Bv hi]at h
 right
 rw[Jk li]at h
 by_cases e:i-l.length=0
 .rw[e]at h;simp at h;exact⟨li,h.g8⟩
 rw[xt (by simp;lia)]at h;cases h
def gx.nx(n:Nat)(h:gx H0 m H R)(d:H b=b_):∃c,gx H0 m (db H b o) c/\(∀a v,R a v->c a v)/\c b n:=⟨_,h.new d,λa v z=>.inl z,.inr ⟨xz,xz⟩⟩
def gx.nw(n:Nat)(h:gx H0 m H R)(d:H b=b_):∃H' c,H'=db H b o/\ae H H'/\H' b=a_ o/\gx H0 m H' c/\(∀a v,R a v->c a v)/\c b n:=aY (h.nx n d) λc a i r=>⟨_,c,xz,au (ae.refl _) d,ao,a,i,r⟩
def wq{fs:List (cr×V)}(x:cr)(v:V)(_:h m=a_ (.ins C dx fs))(a:fs.length<=k)(O:gx H m h R):∃f h',f=aJ x v fs/\h'=db h m (.ins C dx f)/\f.length<=k+1/\bz m h h'/\h' m=a_ (.ins C dx f)/\gx H m h' R:=⟨_,_,xz,xz,dC (rY x v _)<|zE a,bz.db,ao,O.keep qt⟩
def gx.nxs(n:Nat)(B:e_->Prop)(h:gx H0 m H R)(k:∀b,H' b=b_->H b=b_)(d:∀b,B b->H b=b_)(e:∀b,B b->H' b≠b_):∃c,gx H0 m H' c/\(∀a v,R a v->c a v)/\∀b,B b->c b n:=⟨_,h.adds k d e,λa v z=>.inl z,λb z=>.inr ⟨z,xz⟩⟩
def bz.tup{fs:List (cr×V)}(k:bz m H H')(hm:H m=a_ (.ins C dx fs)):∀b xs,H b=a_ (.tup xs)->H' b=a_ (.tup xs):=λb xs e=>k.k b _ (λz=>by rw[z,hm]at e;cases e) e
def bz.lst{fs:List (cr×V)}(k:bz m H H')(hm:H m=a_ (.ins C dx fs))(e:H b=a_ (.lst xs)):H' b=a_ (.lst xs):=k.k b _ (λz=>by rw[z,hm]at e;cases e) e
def jD{fs a:List (cr×V)}(e:a=aJ x v fs):a.lookup x=a_ v:=by rw[e,dJ,ei rfl]
def aD{fs a:List (cr×V)}(h:fs.lookup y=r)(e:a=aJ x v fs)(n:y≠x):a.lookup y=r:=by rw[e,dJ,ee n];exact h
def Wa{K:u_}{H h:Hp}{m C dx pg:e_}{fs:List (cr×V)}{c:cr}{d:List V}{ps:List Pt}{D:Ends}{σ:L2.St}{R:e_->Nat->Prop}{k:Nat}(n:Nat)(y:σ[0]?=a_ (a_<|.ref m))(A:σ[1]?=a_ (a_<|.ref pg))(f:h pg=a_ (.tup d))(J:d.length=ps.length)(h4:ps.length<=4)(hm:h m=a_ (.ins C dx fs))(cl:da K C)(na:bM K C c)(L:fs.length<=k)(M:k<900)(O:gx H m h R)(q:∀l h' g j,g=aJ c (.ref l) fs->g.length<=k+1->h' m=a_ (.ins C dx g)->h' l=a_ (.lst<|ps.map λ_=>V.int 0)->bz m h h'->gx H m h' j->(∀a v,R a v->j a v)->j l n->D.nx σ h'):Px K (nE 0) (Ob (ZR K<|nE 1) (hX 0) jo (tC<|.int 0) [] 1) c D σ h:=by
 refine⟨_,A,pg,xz,⟨_,aq.of f⟩,dU (n:=d.length) (λi ys H'=>i<=d.length/\H'=h/\ys=(ps.take i).map λ_=>V.int 0) (cg<|cy li) (gg (ba _) xz xz) ?_ ?_ ?_ ?_ ?_⟩
 .intro i ys H' b;obtain⟨_,_,e⟩:=b;rw[e,aA,eZ];lia
 .intro i ys H' hi b;obtain⟨_,rfl,_⟩:=b;exact gm _ _ (aq.of f)<|aL hi
 .intro ys H' b;obtain⟨_,rfl,_⟩:=b;exact ay _ (aq.of f)<|az _
 .intro i ys H' hi b z N B;obtain⟨_,rfl,e⟩:=b;obtain⟨E,Q⟩:=B;subst E;dsimp only[jo,hX];rw[ei rfl];refine gg hi xz ?_;rw[iq,aL (show i<ps.length by lia),dB,<-e];rfl
 intro ys H' b;obtain⟨_,F,e⟩:=b;subst F;rw[jf li]at e;subst e;refine⟨by rw[aA];exact cg<|cy li,λl r=>?_⟩;have s1:ae _ (db _ l<|.lst<|ps.map λ_=>V.int 0):=au (ae.refl _) r;have s:db H' l _ l=a_ (.lst<|ps.map λ_=>V.int 0):=ao;obtain⟨S,t,G,I⟩:=O.nx (o:=.lst<|ps.map λ_=>V.int 0) n r;have p:=s1 _ _ hm;generalize db _ l _=v at s1 s t p ⊢;refine⟨_,y,m,C,dx,fs,xz,p,cl,na,li,?_⟩;have u:bz m v (db v m<|.ins C dx<|aJ c (.ref l) fs):=bz.db;exact q l _ _ _ xz (by have:=rY c (V.ref l) fs;lia) ao (u.lst p s) ((bz.of s1).fT u) (t.keep<|qt (x:=m)) G I
section
variable{t:bh}{C CT:e_}{u:nO}
def wC.ok{st:bv}(F:wC K x qual st f fd d)(S:aV N ps (aP st))
  (b:∀(aH:f_)(A:h_)(outer:List Env)(s:g_)(H:Hp)(vs:List V)(Q:VK)(E:XK),fJ k (A.deeper<|d8 qual (aP st) s.zS f aH)->sp vs H Q E->
   ∃t,fu (oG aE P w K mg gl N qual (aP st) f aH A outer s H E).oK (iZ st) t/\t {nx:=λ_ H'=>Q .aR H',rt:=Q} (start N vs) H) (len:∀vs H Q E,sp vs H Q E->vs.length=ps.length:=by intro _ _ _ _ h;(repeat obtain⟨_,h⟩:=h);subst_vars;rfl):aF P w K mg gl aE (k+1) f fd ps sp:=by
 refine zT F.ex λoc od T kV doc pm an aH ct jc a=>jk a λc1 d1 n1 p7 tk a=>C9 a λa lk c _=>?_;subst a;exact yh lk c S len λA outer s H vs Q E e g=>aB (b _ A _ s H _ Q E e g) λt h q=>ay t h.oK q
def mC(h:us.length=3):∃a b c,us=[a,b,c]/\True:=by
 rcases us with _|⟨a,l⟩;cases h
 cases l with
 | nil=>cases h
 | cons b l=>exact oE (Jr.mp<|BH<|BH h) λc z=>⟨a,b,c,by rw[z],trivial⟩
def ah0(F:wC K P_ "Machine.__init__" F5 f fd N_):dn K fd ii []:=by
 refine zT F.ex λoc od T kV doc pm an aH ct jc d=>jk d λc1 d1 n1 p7 tk d=>C9 d λd lk i g=>?_;subst d;intro s us h e;obtain⟨a,b,c,z,_⟩:=(mC<|by rw[qj]at e;exact e);subst z;exact W.binds_K h xz g xz xz xz
def FA(t:bh)(C CT:e_):Sp:=λvs H Q _=>∃m dx v ps kd,vs=[.ref m,v,.str kd]/\H m=a_ (.ins C dx [])/\iB H v ps/\cV ps/\(kd = N_\/kd = l_\/kd = I_)/\
 ∀H' A gv,bg t C CT H' m A (bj kd ps)->kA gv m A->v=.ref A.pg->bz m H H'->(∀b,cN m A b->b=m\/H b=b_)->Q .aR H'
def ag3:aV ii ii (aP F5):=aZ
def afw{f:e_}{fd:jO}(F:wC K P_ "Machine.__init__" F5 f fd N_)(r:gF K C)(T:su K mg t)(iE:mg S_ = b_)(eM:mg "range"=b_)(DK:Dp P w K mg gl 6 "look_over" hJ XC)(DT:Dp P w K mg gl 3 "tray_of" [U_] (VC CT))(DS:Dp P w K mg gl 5 "steps_of" hZ (US t)):aF P w K mg gl aE 7 f fd ii (FA t C CT):=by
 refine aB T.cn.names λuN mN rN=>aB T.cn.dX λuR mR rR=>F.ok ag3 λaH A _ s H vs Q E hr h=>?_
 obtain⟨m,dx,v,ps,kd,ab,hm,hP,g,iW,q⟩:=h;subst ab;have hr5:=hr.mono (show 5<=6 by decide)
 refine let R1:TS:=_;let R2:TS:=_;let R3:TS:=_;let R4:TS:=_;let R5:TS:=_;let R6:TS:=_;let R7:TS:=_;let R8:TS:=_;let R9:TS:=_;let J:TS:=_;⟨_,aw (fg<|bN DK hr xz<|aa (pv 1) af) (pR J (aw (dP (pv 0) (eB (N:=[U_,as0]) (idx:=[2]) xz (cF.of<|by kernel_rfl) (eA<|az _) (mZ<|pv 1) (λ_ _ _ _=>bo (i:=1) alC xz (aI xz)<|.inr xz) (λ_ _ _ _=>eQ)
    λ_ _ _ _=>bN DT (hr.mono (show 3<=6 by decide)) xz<|aa (pv 0) af) xz)
  (pR R9 (aw (dP (pv 0) (pv 1) xz) (pR R8 (aw (dP (pv 0) (pv 2) xz) (pR R7 (aw (dP (pv 0) (fw ma xz iE iY (aa (eB (N:=[as0]) (idx:=[]) xz (cF.of<|by kernel_rfl) (eA<|ba _) (mZ<|pv 1) (λ_ _ _ _=>bo (i:=0) GP xz (aI xz)<|.inr xz) (λ_ _ _ _=>eQ)
    λ_ _ _ _=>bN DS hr5 xz<|aa (pv 0) af) af)) xz)
  (pR R6 (aw (dP (pv 0) (eB (N:=[as0]) (idx:=[]) xz (cF.of<|by kernel_rfl) (eA<|ba _) (mZ<|pv 1) (λ_ _ _ _=>bo (i:=0) GP xz (aI xz)<|.inr xz) (λ_ _ _ _=>eQ) λ_ _ _ _=>ax) xz)
  (pR R5 (aw (dP (pv 0) (eB (N:=[as0]) (idx:=[]) xz (cF.of<|by kernel_rfl) (eA<|ba _) (mZ<|pv 1) (λ_ _ _ _=>bo (i:=0) GP xz (aI xz)<|.inr xz) (λ_ _ _ _=>eQ) λ_ _ _ _=>ax) xz)
  (pR R4 (aw (dP (pv 0) (eB (N:=[as0]) (idx:=[]) xz (cF.of<|by kernel_rfl) (eA<|ba _) (mZ<|pv 1) (λ_ _ _ _=>bo (i:=0) GP xz (aI xz)<|.inr xz) (λ_ _ _ _=>eQ) λ_ _ _ _=>bp Ga (eC<|aa ax af)<|fh xz mR rR) xz)
  (pR R3<|aw (dP (pv 0) (bp Ga (eC<|aa ax af)<|fh xz mN rN) xz)<|pR R2<|aw (dP (pv 0) (eC af) xz)<|pR R1<|ar<|dP (pv 0) (eB (N:=[l_]) (idx:=[]) xz (cF.of<|by kernel_rfl) (eA<|ba _) (kT xz eM<|aa (fh xz mN rN) af) (λ_ _ _ _=>bo (i:=0) alB xz (aI xz)<|.inr xz) (λ_ _ _ _=>eQ) λ_ _ _ _=>eC af) xz))))))))))))))),?_⟩
 refine fk (id hP) λpg bc ab Y tI=>?_;subst ab;refine vr xz<|⟨(.ref _),ps,xz,hP,g,(λH1 s1=>?_)⟩;have c8:=r_ tI;have hle:=g.le;have tJ:=s1 _ _ hm;obtain⟨R0,o0,r0⟩:∃R,gx H m H1 R/\R m 2:=⟨λa v=>a=m/\v=2,⟨⟨λ_=>2,λa v z=>z.2.g8⟩,λa v z e=>(by rw[z.1,tJ]at e;cases e),λa v z=>.inl z.1,λb z=>s1.free z⟩,xz,xz⟩
 have Dl:V.str kd=.str N_\/V.str kd=.str l_\/V.str kd=.str I_:=by
  obtain e|e|e:=iW
  .exact .inl (by rw[e])
  .exact .inr (.inl<|by rw[e])
  exact .inr (.inr<|by rw[e])
 refine ay _ xz<|dQ pg xz ⟨_,aq.of<|s1 _ _ Y⟩<|dU (n:=bc.length) (λi ys H'=>i<=bc.length/\∃ts:List (e_×e_×List e_),ys=(ts.map λx=>V.ref x.1)/\ts.length=i/\ae H1 H'/\(∀x∈ts,dM H' x.1 CT kd 0 [] x.2.1 x.2.2)/\∃R,gx H m H' R/\(∀a v,R0 a v->R a v)/\∀j x,ts[j]?=a_ x->∀b∈x.1::x.2.1::x.2.2,R b<|28+6*j) (cg<|cy<|by exact w8) ⟨ba _,⟨[],xz,xz,ae.refl _,λx B=>(by cases B),R0,o0,λ_ _ z=>z,λj x z=>(by simp at z)⟩⟩ ?_ ?_ ?_ ?_ ?_
 .intro i ys H' c;obtain⟨_,ts,rfl,rfl,_⟩:=c;rw[aA];exact az _
 .intro i ys H' hi c;obtain⟨_,ts,_,_,s2,_⟩:=c;exact gm _ _ (aq.of<|(s1.fT s2) _ _ Y)<|aL hi
 .intro ys H' c;obtain⟨_,ts,_,_,s2,_⟩:=c;exact ay _ (aq.of<|(s1.fT s2) _ _ Y)<|az _
 .intro i ys H2 hi c z H3 Z;obtain⟨_,ts,rfl,rfl,s2,ht,R,o2,r2,r3⟩:=c;obtain⟨eH,cX⟩:=Z;subst eH;dsimp only[jo,hX];rw[ei rfl];refine vr xz (dQ _ xz iW λH4 x q' qr T4 k4 iH=>?_);have s4:ae _ H4:=λb o e=>k4 b o (by simp) e
  obtain⟨R',o4,i4,n4⟩:=o2.nxs (28+6*ts.length) (λb=>b∈x::q'::qr) (λb z=>s4.free z) iH (λb D y=>by
   refine oE (T4.there b D) λo e=>?_;rw[e]at y;cases y)
  refine⟨hi,⟨ts++[(x,q',qr)],by rw[dB];rfl,by rw[dG];rfl,s2.fT s4,λy d=>?_,R',o4,λa v z=>i4 a v<|r2 a v z,λj y d b D=>?_⟩⟩
  .obtain d|d:=ir.mp d
   .exact(ht y d).keep (λb _ o e=>s4 b o e) λb xs e=>s4 b _ e
   rw[cO.mp d];exact T4
  obtain d|⟨e1,e2⟩:=Ae d
  .exact i4 _ _ (r3 j y d b D)
  subst e1;subst e2;exact n4 b D
 intro ys H2 c;obtain⟨_,ts,rfl,tD,s2,ht,R1,o2,i1,r1⟩:=c;refine⟨by rw[aA];exact cg<|cy (by exact wu),λlt Iq=>eK (o2.nw (o:=.lst<|ts.map λx=>V.ref x.1) 4 Iq) λH3 R2 e s3 dg o3 i2 r2=>?_⟩;rw[<-e];have lO:=s3 _ _<|s2 _ _ tJ;have T3:=λx B=>(ht x B).keep (λb _ o e=>s3 b o e) λb xs e=>s3 b _ e;have K3:bz m H H3:=bz.of<|s1.fT<|s2.fT s3;refine vr xz<|kv m C _ _ xz lO r.cl r.fD qc (eK (wq "trays" (V.ref lt) lO (az 0) o3) λkF H4 kI e Bo k4 IL o4=>?_);rw[<-kI,<-e];refine ay _ xz<|vr xz<|kv m C _ _ xz IL r.cl r.program (by exact wb) (eK (wq O_ (V.ref pg) IL Bo o4) λmM H5 kj e xh k5 Bm o5=>?_);rw[<-kj,<-e];clear e;have K5:=(K3.fT k4).fT k5;refine ay _ xz<|vr xz<|kv m C _ _ xz Bm r.cl r.kind (by exact wb) (eK (wq U_ (V.str kd) Bm xh o5) λqT H6 jL e Bn k6 hm6 o6=>?_);rw[<-jL,<-e];have K6:=K5.fT k6;have Hr:=K6.tup hm _ _ Y;refine ay _ xz<|dQ pg xz ⟨_,aq.of Hr⟩<|dU (n:=bc.length) (λi ys H'=>i<=bc.length/\ae H6 H'/\bt (An t H') ys (ps.take i)) (cg<|cy<|by exact w8) (gg (ba _) (ae.refl _) .nil) ?_ ?_ ?_ ?_ ?_
 .intro i ys H' c;obtain⟨_,_,e⟩:=c;rw[r_ e,eZ];exact xl
 .intro i ys H' hi c;obtain⟨_,s,_⟩:=c;exact gm _ _ (aq.of<|s _ _ Hr)<|aL hi
 .intro ys H' c;obtain⟨_,s,_⟩:=c;exact ay _ (aq.of<|s _ _ Hr)<|az _
 .intro i ys H' hi c z eh Z;obtain⟨_,s7,e⟩:=c;obtain⟨eH,cX⟩:=Z;subst eH;refine aB (xF tI<|cX _<|aq.of<|s7 _ _ Hr) λp hp hI=>oA (g.part p<|aW hp) λg1 g2=>?_;dsimp only[jo,hX];rw[ei rfl];refine vr xz<|⟨z,p,xz,((hI.keep<|K6.tup hm).keep λb xs e=>s7 _ _ e),g1,g2,(λH8 b us X nb D kE=>⟨hi,s7.fT X,?_⟩)⟩;rw[iq,hp];exact JX ⟨b,us,xz,D,kE⟩ (Paired.bq e λ_ _ q=>q.keep (λb xs e=>X _ _ e) λb C dx fs e _=>X _ _ e)
 intro ys H7 c;obtain⟨_,s7,e7⟩:=c;have apc:=r_ e7;rw[eZ]at apc;rw[jf li]at e7;refine⟨cg<|cy li,λr7 nr7=>⟨r7,ys,xz,.inl ⟨ag.of ao,λst A8=>?_⟩⟩⟩;have X:ae _ (db _ _<|.tup ys):=au (au (ae.refl _) nr7) A8;have cY:db (db H7 r7<|.lst ys) _ _ st=a_ (.tup ys):=ao;generalize db _ _ _=H8 at X cY ⊢;have ve:=s7.fT X;have y':=ve _ _ hm6;have o8:=o6.keep (λb z=>ve.free z);have K8:=K6.fT<|bz.of ve;refine vr xz<|kv m C _ _ xz y' r.cl r.steps (by exact wb) (eK (wq "steps" (V.ref st) y' Bn o8) λfs4 H9 kH e tN k9 hm9 o9=>?_);rw[<-kH,<-e];clear e;have K9:=K8.fT k9;have aoY:=K9.tup hm _ _ Y;refine Wa 6 xz xz aoY c8 hle hm9 r.cl r.places tN qc o9 λpl H11 fs5 R3 kG xg aaj Se k10 o11 i10 r10=>?_;have K11:=K9.fT k10;have am3:=K11.tup hm _ _ Y;refine Wa 8 xz xz am3 c8 hle aaj r.cl r.counts xg qc o11 λct H13 fs6 R4 jx zd aai hct k12 o13 i12 r12=>?_;have K13:=K11.fT k12;have Pb:=K13.tup hm _ _ Y;refine ay _ xz<|dQ pg xz ⟨_,aq.of Pb⟩<|dU (n:=bc.length) (λi ys H'=>i<=bc.length/\∃rs:List e_,ys=rs.map V.ref/\rs.length=i/\ae H13 H'/\(∀a∈rs,H' a=a_ (.lst<|([0,0,0,0]:List Int).map V.int))/\∃R,gx H m H' R/\(∀a v,R4 a v->R a v)/\∀(j:Nat)a,rs[j]?=a_ a->R a (24+6*j)) (cg<|cy<|by exact w8) ⟨ba _,⟨[],xz,xz,ae.refl _,λx B=>(by cases B),R4,o13,λ_ _ z=>z,λj x z=>(by simp at z)⟩⟩ ?_ ?_ ?_ ?_ ?_
 .intro i ys H' c;obtain⟨_,rs,rfl,rfl,_⟩:=c;rw[aA];exact az _
 .intro i ys H' hi c;obtain⟨_,rs,_,_,s,_⟩:=c;exact gm _ _ (aq.of<|s _ _ Pb)<|aL hi
 .intro ys H' c;obtain⟨_,rs,_,_,s,_⟩:=c;exact ay _ (aq.of<|s _ _ Pb)<|az _
 .intro i ys H' hi c z eh Z;obtain⟨_,rs,rfl,rfl,s,oW,R,oR,iR,QM⟩:=c;obtain⟨eH,cX⟩:=Z;subst eH;dsimp only[jo,hX];rw[ei rfl];refine⟨qc,λy ny=>⟨y,4,_,xz,xz,ao,qc,qc,qc,λx nx=>?_⟩⟩;have sy:ae _ (db _ y<|.lst [.int 0]):=au (ae.refl _) ny;have oy:=oR.keep (λb z=>sy.free z);refine aY (oy.nx (o:=.lst<|([0,0,0,0]:List _).map V.int) (24+6*rs.length) nx) λR' o' i' r'=>?_;have sx:ae _ (db _ x<|.lst<|([0,0,0,0]:List _).map V.int):=au sy nx;have B:db (db eh y<|.lst [.int 0]) x _ x=a_ (.lst<|([0,0,0,0]:List Int).map V.int):=ao;refine⟨hi,⟨rs++[x],by rw[dB];rfl,by rw[dG];rfl,s.fT sx,λy d=>?_,R',o',λa v z=>i' a v<|iR a v z,λj y d=>?_⟩⟩
  .obtain d|d:=ir.mp d
   .exact sx _ _ (oW y d)
   rw[cO.mp d];exact B
  obtain d|⟨e1,e2⟩:=Ae d
  .exact i' _ _ (QM j y d)
  subst e1;subst e2;exact r'
 intro ys H14 c;obtain⟨_,rs,rfl,apa,QH,oW,R5,o14,i14,r14⟩:=c;refine⟨by rw[aA];exact cg<|cy (by exact wu),λrg Ip=>eK (o14.nw (o:=.lst<|rs.map V.ref) 10 Ip) λH15 R6 e wW eM o15 i15 r15=>?_⟩;rw[<-e];clear e;have Hu:=wW _ _<|QH _ _ aai;have aoT:=λa ha=>wW _ _<|oW a ha;have K15:=K13.fT<|bz.of<|QH.fT wW;refine vr xz<|kv m C _ _ xz Hu r.cl r.dX (by exact wb) (eK (wq "regs" (V.ref rg) Hu zd o15) λfs7 Bu W e zc k16 ao' o16=>?_);rw[<-W,<-e];clear e;have K16:=K15.fT k16;refine⟨qc,λy ny=>⟨y,12,_,xz,xz,ao,qc,qc,qc,λce nce=>?_⟩⟩;have sy:ae _ (db _ y<|.lst [.int 0]):=au (ae.refl _) ny;have oy:=o16.keep (λb z=>sy.free z);refine aY (oy.nx (o:=.lst<|(cQ 12 0).map V.int) 12 nce) λR7 o17 i17 r17=>?_;have Ik:ae _ (db _ _<|.lst<|(cQ 12 0).map V.int):=au sy nce;have xj:db (db Bu y<|.lst [.int 0]) _ _ ce=a_ (.lst<|(cQ 12 (0:Int)).map V.int):=ao;rw[show (cQ (12:Int).toNat [V.int 0]).flatten=(cQ 12 (0:Int)).map V.int from rfl];generalize db (db Bu y<|.lst [.int 0]) ce (.lst<|(cQ 12 (0:Int)).map V.int)=H17 at Ik xj o17 ⊢;have Qd:=Ik _ _ ao';have K17:=K16.fT<|bz.of Ik;refine vr xz<|kv m C dx fs7 xz Qd r.cl r.cells (by exact wb) (eK (wq "cells" (V.ref ce) Qd zc o17) λfs8 H18 U e RJ k18 ao9 o18=>?_);rw[<-U,<-e];clear e;have K18:=K17.fT k18;refine⟨qc,λac nac=>eK (o18.nw (o:=.lst []) 14 nac) λH19 R8 e QG rH o19 i19 r19=>?_⟩;rw[<-e];clear e;have Qc:=QG _ _ ao9;have K19:=K18.fT<|bz.of QG;refine vr xz<|kv m C dx fs8 xz Qc r.cl r.ja (by exact wb) (eK (wq "acts" (V.ref ac) Qc RJ o19) λfs9 H20 O e RI k20 ao8 o20=>?_);rw[<-O,<-e];clear e;have K20:=K19.fT k20;refine⟨12,xz,qc,qc,?_⟩;rw[show (12:Int).toNat=12 from rfl];refine dU (n:=12) (λi ys H'=>i<=12/\∃rs:List e_,ys=rs.map V.ref/\rs.length=i/\ae H20 H'/\(∀a∈rs,H' a=a_ (.lst<|([]:List Int).map V.int))/\∃R,gx H m H' R/\(∀a v,R8 a v->R a v)/\∀(j:Nat)a,rs[j]?=a_ a->R a (26+6*j)) (cg<|cy li) ⟨ba _,⟨[],xz,xz,ae.refl _,λx B=>(by cases B),R8,o20,λ_ _ z=>z,λj x z=>(by simp at z)⟩⟩ ?_ ?_ ?_ ?_ ?_
 .intro i ys H' c;obtain⟨_,rs,rfl,rfl,_⟩:=c;rw[aA];exact az _
 .intro i ys H' hi c;obtain⟨_,rs,_,_,s,_⟩:=c;exact hi
 .intro ys H' c;obtain⟨_,rs,_,_,s,_⟩:=c;exact az _
 .intro i ys H' hi c z eh Z;obtain⟨_,rs,rfl,rfl,s,oW,R,oR,iR,QM⟩:=c;obtain⟨eH,cX⟩:=Z;subst eH;dsimp only[jo,hX];rw[ei rfl];refine⟨qc,λx nx=>aY (oR.nx (o:=.lst<|([]:List Int).map V.int) (26+6*rs.length) nx) λR' o' i' r'=>?_⟩;have sx:ae eh (db eh x<|.lst<|([]:List Int).map V.int):=au (ae.refl _) nx;have B:db eh x (.lst<|([]:List Int).map V.int) x=a_ (.lst<|([]:List Int).map V.int):=ao;refine⟨hi,⟨rs++[x],by rw[dB];rfl,by rw[dG];rfl,s.fT sx,λy d=>?_,R',o',λa v z=>i' a v<|iR a v z,λj y d=>?_⟩⟩
  .obtain d|d:=ir.mp d
   .exact sx _ _ (oW y d)
   rw[cO.mp d];exact B
  obtain d|⟨e1,e2⟩:=Ae d
  .exact i' _ _ (QM j y d)
  subst e1;subst e2;exact r'
 intro ys H21 c;obtain⟨_,cs,rfl,aak,QF,IU,R9,o21,i21,r21⟩:=c;refine⟨by rw[aA];exact cg<|cy (by exact w6),λcm Iw=>eK (o21.nw (o:=.lst<|cs.map V.ref) 16 Iw) λH22 J e Ij hcm o22 i22 r22=>?_⟩;rw[<-e];clear e;have Ht:=Ij _ _<|QF _ _ ao8;have aph:=λa ha=>Ij _ _<|IU a ha;have K22:=K20.fT<|bz.of<|QF.fT Ij;refine vr xz<|kv m C dx fs9 xz Ht r.cl r.kU (by exact wb) (eK (wq "comers" (V.ref cm) Ht RI o22) λaap Jh G e arR IA ao7 S=>?_);rw[<-G,<-e];clear e;have K23:=K22.fT IA;have n20:=(bz.of (m:=m)<|QF.fT Ij).fT IA;have n19:=k20.fT n20;have n18:=(bz.of (m:=m) QG).fT n19;have n17:=k18.fT n18;have n16:=(bz.of (m:=m) Ik).fT n17;have D2:=k16.fT n16;have n13:=(bz.of (m:=m)<|QH.fT wW).fT D2;have n11:=k12.fT n13;have n9:=k10.fT n11;have n8:=k9.fT n9;have n6:=(bz.of (m:=m) ve).fT n8;have n3:=k4.fT<|k5.fT<|k6.fT n6;have j9:=i22;have j8:∀a v,R8 a v->J a v:=λa v z=>j9 _ _<|i21 _ _ z;have j7:∀a v,R7 a v->J a v:=λa v z=>j8 _ _<|i19 _ _ z;have j6:∀a v,R6 a v->J a v:=λa v z=>j7 _ _<|i17 _ _ z;have j5:∀a v,R5 a v->J a v:=λa v z=>j6 _ _<|i15 _ _ z;have j4:∀a v,R4 a v->J a v:=λa v z=>j5 _ _<|i14 _ _ z;have j3:∀a v,R3 a v->J a v:=λa v z=>j4 _ _<|i12 _ _ z;have j2:∀a v,R2 a v->J a v:=λa v z=>j3 _ _<|i10 _ _ z;have j1:∀a v,R1 a v->J a v:=λa v z=>j2 _ _<|i2 _ _ z;have j0:∀a v,R0 a v->J a v:=λa v z=>j1 _ _<|i1 _ _ z;refine oE S.l λgv I=>?_;have lm:=I _ _<|j0 _ _ r0;have tk:=aD (aD (jD kI) kj dk) jL dk;have aoN:ts.length=ps.length:=by exact wo
 have ij:rs.length=ps.length:=by exact wo
 have no:∀x∈jC,aap.lookup x=none:=by
  intro x B
  have n:∀y∈(["trays",O_,U_,"steps","places","counts","regs","cells","acts","comers"]:List cr),x≠y:=by
   intro y d e;subst e
   revert B
   revert x
   decide +kernel
  have hn:([]:List (cr×V)).lookup x=none:=rfl;exact aD (aD (aD (aD (aD (aD (aD (aD (aD (aD hn kI<|n _<|by simp) kj<|n _<|by simp) jL<|n _<|by simp) kH<|n _<|by simp) kG<|n _<|by simp) jx<|n _<|by simp) W<|n _<|by simp) U<|n _<|by simp) O<|n _<|by simp) G<|n _ (by simp)
 have M:bg t C CT Jh m ⟨lt,ts,pg,st,pl,ct,rg,rs,ce,ac,cm,cs⟩ (bj kd ps):=by
  refine⟨⟨dx,aap,ao7,⟨aD (aD (aD (aD (aD (aD (aD (aD (aD (jD kI) kj dk) jL dk) kH dk) kG dk) jx dk) W dk) U dk) O dk) G dk,aD (aD (aD (aD (aD (aD (aD (aD (jD kj) jL dk) kH dk) kG dk) jx dk) W dk) U dk) O dk) G dk,aD (aD (aD (aD (aD (aD (aD (jD jL) kH dk) kG dk) jx dk) W dk) U dk) O dk) G dk,aD (aD (aD (aD (aD (aD (jD kH) kG dk) jx dk) W dk) U dk) O dk) G dk,aD (aD (aD (aD (aD (jD kG) jx dk) W dk) U dk) O dk) G dk,aD (aD (aD (aD (jD jx) W dk) U dk) O dk) G dk,aD (aD (aD (jD W) U dk) O dk) G dk,aD (aD (jD U) O dk) G dk,aD (jD O) G dk,jD G,no,by exact w4⟩⟩,n3.lst lO dg,?_,hP.keep<|K23.tup hm,⟨ys,n8.tup y' _ _ cY,?_⟩,?_,?_,D2.lst Hu eM,?_,n17.lst Qd xj,⟨[],n19.lst Qc rH,.nil⟩,IA.lst Ht hcm,?_⟩
  .refine JY aoN λx B=>(T3 x B).keep (λb D o e=>n3.k b o (λz=>?_) e)<|n3.tup lO;refine oE (zA B) λj hj=>?_;have:=I _ _<|j1 _ _<|r1 j x hj b D;rw[z,lm]at this;exact wk
  .refine Paired.bq (Paired.bq e7 λ_ _ q=>q.keep (λb xs e=>X _ _ e) λb C dx fs e _=>X _ _ e) λ_ _ q=>q.keep (n8.tup y') λb C' Et mP e h=>n8.k b _ (λz=>?_) e;obtain⟨x,us,v,e1,e2⟩:=h;rw[z,y']at e;cases e;rw[e2,vP "trays" dk]at tk;cases tk
  .have h:=n11.lst aaj Se;rw[h];show _=a_ (HO.lst<|(ps.map λ_=>k0).map λk=>V.int (k.pl:Nat));rw[jh];rfl
  .have h:=n13.lst aai hct;rw[h];show _=a_ (HO.lst<|(ps.map λ_=>k0).map λk=>V.int (k.ct:Nat));rw[jh];rfl
  .exact JY (F:=λa(k:Ck)=>Jh a=a_ (.lst<|k.rg.map V.int)) (y:=k0) ij λa ha=>D2.lst Hu<|aoT a ha
  exact Uo (F:=λa(o:List Int)=>Jh a=a_ (.lst<|o.map V.int)) (y:=[]) aak λa ha=>IA.lst Ht<|aph a ha
 have L:kA gv m ⟨lt,ts,pg,st,pl,ct,rg,rs,ce,ac,cm,cs⟩:=⟨lm,I _ _<|j2 _ _ r2,I _ _<|j3 _ _ r10,I _ _<|j4 _ _ r12,I _ _<|j6 _ _ r15,I _ _<|j7 _ _ r17,I _ _<|j8 _ _ r19,I _ _ r22,λi a z=>I _ _<|j5 _ _<|r14 i a z,λi a z=>I _ _<|j9 _ _<|r21 i a z,λi x z b D=>I _ _<|j1 _ _<|r1 i x z b D⟩;refine q Jh _ gv M L xz K23 λb D=>?_;cases D with
 | m=>exact .inl xz
 | lt=>exact S.f _ _<|j2 _ _ r2
 | pl=>exact S.f _ _<|j3 _ _ r10
 | ct=>exact S.f _ _<|j4 _ _ r12
 | rg=>exact S.f _ _<|j6 _ _ r15
 | ce=>exact S.f _ _<|j7 _ _ r17
 | ac=>exact S.f _ _<|j8 _ _ r19
 | cm=>exact S.f _ _ r22
 | rs h=>
  exact oE (zA h) λj hj=>S.f _ _<|j5 _ _<|r14 j _ hj
 | cs h=>
  exact oE (zA h) λj hj=>S.f _ _<|j9 _ _<|r21 j _ hj
 | ts h h2=>
  exact oE (zA h) λj hj=>S.f _ _<|j1 _ _<|r1 j _ hj _ h2
end
structure lj(n:Nat)(S:Mc):Prop where
 wf:ie S
 ac:S.ac.length<=n
 ov:∀o∈S.ov,o.length<=n
def lj.ovf(W:lj n S)(h:n<=16000):yN S:=λo a=>dC (W.ov o a) h
structure qZ(n:Nat)(S S':Mc)(c:Nat)(k k':Ck):Prop where
 ck:S'.ck=S.ck.set c k'
 ps:S'.ps=S.ps
 kd:S'.kd=S.kd
 rg:k'.rg.length=k.rg.length
 bd:S'.bd.length=S.bd.length
 HG:S'.ov.length=S.ov.length
 HN:S.ac.length<=S'.ac.length
 HM:S'.ac.length<=S.ac.length+1
 es:k'.es.length<=S'.ac.length
 ov:∀o∈S'.ov,o.length<=n+1
def ahq(W:lj n S)(i:Nat):(S.ov.getD i []).length<=n:=by
 rcases h:S.ov[i]? with _|o
 ·rw[eG,h];exact ba _
 rw[eG,h];exact W.ov o<|aW h
def XY(W:lj n S):∀o∈S.ov.set i (S.ov.getD i []++[d]),o.length<=n+1:=by
 intro o a;obtain h|h:=zw a
 .exact vx (W.ov o h)
 rw[h,dG];exact zE<|ahq W i
def Ox(W:lj n S):∀o∈S.ov,o.length<=n+1:=λo a=>vx<|W.ov o a
def agk(es:List gy)(n:Int):(nA es n).length<=es.length:=aa2
def Ac{a:Type}{l:List a}{c:Nat}{k:a}(h:l[c]?=a_ k):l.set c k=l:=by
 refine oE (cb.mp h) λb e=>?_;rw[<-e];exact List.set_getElem_self _
section
variable{S:Mc}{n c:Nat}{k:Ck}
def Wd(W:lj n S)(a:S.ck[c]?=a_ k):qZ n S S c k k:=⟨(Ac a).g8,xz,xz,xz,xz,xz,az _,kr _,W.wf.es k<|aW a,Ox W⟩
def FQ(h:qZ n S S' c k k')(a:c<S.ck.length)(r:Nat)(v:Int):qZ n S (iM S' c r v) c k {k' with rg:=k'.rg.set r v}:=by
 have e:S'.ck[c]?=a_ k':=by rw[h.ck];exact fQ a
 rw[xY e];exact⟨by rw[h.ck,vC],h.ps,h.kd,by rw[fe];exact h.rg,h.bd,h.HG,h.HN,h.HM,h.es,h.ov⟩
def Vg(W:lj n S)(h:qZ n S S' c k k')(b:S'.ov=S.ov)(f:c<S.ck.length)(i:Nat):∃a,qZ n S (ng S' c i) c k a/\a.pl=k'.pl/\a.ct=k'.ct:=by
 have e:S'.ck[c]?=a_ k':=by rw[h.ck];exact fQ f
 unfold ng;rw[e];dsimp only;rcases (bL k'.es i).head? with _|x;exact⟨k',h,xz,xz⟩
 refine dQ ({k' with es:=nA _ i}) ⟨by show S'.ck.set c _=_;rw[h.ck,vC],h.ps,h.kd,h.rg,?_,?_,h.HN,h.HM,dC (agk _ _) h.es,?_⟩ xz xz
 .show (S'.bd.set i _).length=_;rw[fe];exact h.bd
 .show (S'.ov.set i<|S'.ov.getD i []++[x.d]).length=_;rw[fe];exact h.HG
 show ∀o∈S'.ov.set i _,o.length<=n+1;rw[b];exact XY W
def aij{sz:Nat}(W:lj n S)(g:bY sz s)(a:S.ck[c]?=a_ k):∃k',qZ n S (cC S c s) c k k'/\k'.pl=k.pl/\k'.ct=k.ct:=by
 have f:=(cb.mp a).1;have b:=Wd W a;cases g with
 | put r m h1 h2=>exact⟨_,FQ b f _ _,xz,xz⟩
 | add r o h1 h2=>
  have e:cC S c (W_,[r,o])=iM S c r ((k.rg.getD r 0+k.rg.getD o 0)%kZ):=by
   unfold cC;rw[ee (show ¬(W_ : cr) = V_ from dk),ei xz,a];rfl
  rw[e];exact dQ _ (FQ b f _ _) xz xz
 | set i r h1 h2=>
  have e:cC S c (J_,[i,r])=setM S c i r:=by kernel_rfl
  rw[e];unfold setM;rw[a];dsimp only
  have d:qZ n S (iO (yp S c i k<|k.rg.getD r 0) ⟨J_,c,i,b_,a_<|k.rg.getD r 0,b_⟩) c k {k with tn:=k.tn+1,es:=k.es++[⟨k.tn,i,k.rg.getD r 0,S.ac.length⟩]}:=by
   refine⟨xz,xz,xz,xz,xz,xz,?_,?_,?_,λo h=>Ox W o h⟩
   .show _<=(S.ac++[_]).length;rw[dG];exact JG _ _
   .show (S.ac++[_]).length<=_;rw[dG];exact az _
   show (k.es++[_]).length<=(S.ac++[_]).length;rw[dG,dG];exact zE<|W.wf.es k<|aW a
  split
  .exact aY (Vg W d xz f i) λt j l p=>dQ _ j l p
  exact dQ _ d xz xz
 | look r i h1 h2=>
  have e:cC S c (K_,[r,i])=iM (iO S ⟨K_,c,i,a_ (dD S k i).1,b_,(dD S k i).2⟩) c r (dD S k i).1:=by
   unfold cC;rw[ee (show ¬(K_ : cr) = V_ from dk),ee (show ¬(K_ : cr) = W_ from dk),ee (show ¬(K_ : cr) = J_ from dk),ei rfl];show pI S c r i=_;unfold pI;rw[a]
  rw[e]
  have d:qZ n S (iO S ⟨K_,c,i,a_ (dD S k i).1,b_,(dD S k i).2⟩) c k k:=by
   refine⟨b.ck,xz,xz,xz,xz,xz,?_,?_,?_,λo h=>Ox W o h⟩
   .show _<=(S.ac++[_]).length;rw[dG];exact JG _ _
   .show (S.ac++[_]).length<=_;rw[dG];exact az _
   show _<=(S.ac++[_]).length;rw[dG];exact vx<|W.wf.es k<|aW a
  exact dQ _ (FQ d f _ _) xz xz
 | swap r i h1 h2=>
  have e:cC S c (H_,[r,i])=iM (iO (qA S i (k.rg.getD r 0) S.ac.length) ⟨H_,c,i,a_<|S.bd.getD i 0,a_<|k.rg.getD r 0,(S.ov.getD i []).getLast?⟩) c r (S.bd.getD i 0):=by
   unfold cC;rw[ee (show ¬(H_ : cr) = V_ from dk),ee (show ¬(H_ : cr) = W_ from dk),ee (show ¬(H_ : cr) = J_ from dk),ee (show ¬(H_ : cr) = K_ from dk),ei rfl];show qI S c r i=_;unfold qI;rw[a]
  rw[e]
  have d:qZ n S (iO (qA S i (k.rg.getD r 0) S.ac.length) ⟨H_,c,i,a_<|S.bd.getD i 0,a_<|k.rg.getD r 0,(S.ov.getD i []).getLast?⟩) c k k:=by
   refine⟨b.ck,xz,xz,xz,?_,?_,?_,?_,?_,?_⟩
   .show (S.bd.set i _).length=_;rw[fe]
   .show (S.ov.set i _).length=_;rw[fe]
   .show _<=(S.ac++[_]).length;rw[dG];exact JG _ _
   .show (S.ac++[_]).length<=_;rw[dG];exact az _
   .show _<=(S.ac++[_]).length;rw[dG];exact vx<|W.wf.es k<|aW a
   exact XY W
  exact dQ _ (FQ d f _ _) xz xz
 | clear=>
  have e:cC S c (M_,[])=S:=by kernel_rfl
  rw[e];exact dQ k b xz xz
 | skip r q h1 h2 h3=>
  have e:cC S c (T_,[r,q])=S:=by kernel_rfl
  rw[e];exact dQ k b xz xz
def Yl(W:lj n S)(hn:n<15000)(h:qZ n S S' c k k')(d:S.ck[c]?=a_ k)(f:∀p,S.ps[c]?=a_ p->k'.pl<=p.length):lj (n+1) S':=by
 have j:=W.ac;have h2:=h.HM;have g:=(cb.mp d).1;refine⟨⟨by rw[h.ps];exact W.wf.good,by rw[h.ck,fe,h.ps];exact W.wf.len,by rw[h.bd];exact W.wf.bd,by rw[h.HG];exact W.wf.ov,?_,?_,li,?_⟩,li,h.ov⟩
 .intro x a;rw[h.ck]at a;obtain y|y:=zw a
  .exact W.wf.rg x y
  rw[y,h.rg];exact W.wf.rg k<|aW d
 .intro i x p a b;rw[h.ps]at b;rw[h.ck]at a
  by_cases e:c=i
  .subst e;rw[fQ g]at a;cases a;exact f p b
  rw[lC e]at a;exact W.wf.pl i x p a b
 intro x a;rw[h.ck]at a;obtain y|y:=zw a
 .exact dC (W.wf.es x y) h.HN
 rw[y];exact h.es
def aeK{s:Tl}{rg:List Int}{pl:Nat}{p:Pt}(g:bY p.length s)(h:pl<p.length):eL s rg pl<=p.length:=by
 unfold eL
 split
 .rename_i a
  cases g with
  | skip r q h1 h2 h3=>exact h2
  | put=>exact eu (show ("put":cr)="skip" from a.1) dk
  | add=>exact eu (show ("add":cr)="skip" from a.1) dk
  | set=>exact eu (show ("set":cr)="skip" from a.1) dk
  | look=>exact eu (show ("look":cr)="skip" from a.1) dk
  | swap=>exact eu (show ("swap":cr)="skip" from a.1) dk
  | clear=>exact eu a.1 dk
 exact h
def ahZ{mv:Mv}(W:lj n S)(hn:n<15000)(h:mv∈gC S):lj (n+1) (cJ S mv)/\(cJ S mv).kd=S.kd/\(cJ S mv).ps=S.ps/\(cJ S mv).ck.length=S.ck.length:=by
 obtain⟨c,rfl,d,r⟩|⟨c,k,i,rfl,a,z⟩:=BW h
 .obtain⟨k,p,s,_,a,b,j,_⟩:=LV W.wf d r;refine cw (W.wf.part a) λt m _ _ u=>?_;have v:t=p:=by rw[b]at m;exact(dj m).g8
  subst v;have g:=u s<|aW j;refine aY (aij W g a) λk' f l x=>?_
  have e:cJ S ("do",[(c:Int)])=pQ (cC S c s) c s:=by
   unfold cJ;rw[ei rfl];show va S ((c:Int)).toNat=_;rw[eP];unfold va;rw[a,b];dsimp only;rw[j]
  rw[e];have y:(cC S c s).ck[c]?=a_ k':=by rw[f.ck];exact fQ d
  have F:qZ n S (pQ (cC S c s) c s) c k {k' with pl:=eL s k'.rg k'.pl,ct:=k'.ct+1}:=by
   unfold pQ;rw[y];exact⟨by show (cC S c s).ck.set c _=_;rw[f.ck,vC],f.ps,f.kd,f.rg,f.bd,f.HG,f.HN,f.HM,f.es,f.ov⟩
  refine⟨Yl W hn F a λq o=>?_,F.kd,F.ps,by rw[F.ck,fe]⟩;rw[b]at o;cases o;exact aeK g<|l▸((cb.mp j).1)
 have d:=(cb.mp a).1
 have e:cJ S (as5,[(c:Int),i])=ng S c i.toNat:=by
  unfold cJ;rw[ee (show ¬(as5 : cr)="do" from dk)];show ng S ((c:Int)).toNat _=_;rw[eP];rfl
 rw[e];exact aY (Vg W (Wd W a) xz d i.toNat) λA f l x=>⟨Yl W hn f a λp b=>by rw[l];exact W.wf.pl c k p a b,f.kd,f.ps,by rw[f.ck,fe]⟩
end
def NI(g:cV ps):lj 0 (bj kd ps):=by
 refine⟨⟨g,by show (ps.map _).length=_;rw[aA];rfl,by rfl,by rfl,?_,?_,ba _,?_⟩,az _,?_⟩
 .refine λk a=>aB (cj.mp a) λ_ _ b=>?_;subst b;rfl
 .intro c k p a e;have:k∈(ps.map λ_=>k0):=aW a;refine aB (cj.mp this) λ_ _ b=>?_;subst b;exact ba _
 .refine λk a=>aB (cj.mp a) λ_ _ b=>?_;subst b;exact az _
 intro o d;rw[Sz d];exact az _
noncomputable def fA(k:Ck):Nat×List (Int×Int)×List Int:=(k.pl,k.es.map λe=>(e.n,e.num),k.rg)
def a9(S:Mc):List (Nat×List (Int×Int)×List Int)×List Int:=(S.ck.map fA,S.bd)
def jn(L:List Mc)(S:Mc):List Mc:=if a9 S∈L.map a9 then L else L++[S]
def pS(S:Mc)(L:List Mc)(mvs:List Mv):List Mc:=mvs.foldl (λL mv=>jn L<|cJ S mv) L
noncomputable def aM(S0:Mc):Nat->List Mc
 | 0=>[S0]
 | k+1=>match (aM S0 k)[k]? with
  | some S=>pS S (aM S0 k)<|gC S
  | none=>aM S0 k
def afb(L:List Mc)(S:Mc):L <+: jn L S:=by
 unfold jn
 split
 .exact JH _
 exact List.prefix_append _ _
theorem MW:∀{mvs:List Mv}{L:List Mc},L <+: pS S L mvs
 | [],L=>JH _
 | mv::mvs,L=>(afb L _).fT<|MW (mvs:=mvs)
def Ab(h:(aM S0 k)[k]?=a_ S):aM S0 (k+1)=pS S (aM S0 k) (gC S):=by
 rw[aM,h]
def BS(h:(aM S0 k).length<=k):aM S0 (k+1)=aM S0 k:=by
 rw[aM,xt h]
def vJ(S0:Mc)(k:Nat):aM S0 k <+: aM S0 (k+1):=by
 rcases h:(aM S0 k)[k]? with _|S
 ·rw[BS<|xp.mp h];exact JH _
 rw[Ab h];exact MW
theorem Cm(S0:Mc)(k:Nat):∀d,aM S0 k <+: aM S0 (k+d)
 | 0=>JH _
 | d+1=>(Cm S0 k d).fT<|vJ S0<|k+d
def agA(S0:Mc)(h:j<=k):(aM S0 j).length<=(aM S0 k).length:=by
 have:=(Cm S0 j<|k-j).length_le;rwa[Nat.add_sub_cancel' h]at this
theorem UL(h:(aM S0 k).length<=k):∀d,aM S0 (k+d)=aM S0 k
 | 0=>rfl
 | d+1=>by
  have ih:=UL h d;show aM S0 (k+d+1)=_;rw[BS (by rw[ih];lia),ih]
theorem MX{Pv:Mc->Prop}:∀{mvs:List Mv}{L:List Mc},(∀T∈L,Pv T)->(∀mv∈mvs,Pv<|cJ S mv)->∀T∈pS S L mvs,Pv T
 | [],L,h,_=>h
 | mv::mvs,L,h,k=>by
  refine MX (mvs:=mvs) (L:=jn L<|cJ S mv) (λT a=>?_) λm hm=>k m<|cx _ hm;unfold jn at a
  split at a
  .exact h T a
  obtain z|z:=ir.mp a
  .exact h T z
  rw[cO.mp z];exact k mv b9
theorem Ln{Pv:Nat->Mc->Prop}(m:Nat)(a:Pv 0 S0)(hm:∀k S,Pv k S->Pv (k+1) S)(b:∀k S mv,k<m->Pv k S->mv∈gC S->Pv (k+1) (cJ S mv)):∀k,k<=m->∀S∈aM S0 k,Pv k S
 | 0,_,S,h=>by rw[cO.mp h];exact a
 | k+1,hk,S,h=>by
  have ih:=Ln m a hm b k<|SW hk;rcases e:(aM S0 k)[k]? with _|T
  ·rw[BS<|xp.mp e]at h;exact hm k S<|ih S h
  rw[Ab e]at h;exact MX (λU c=>hm k U<|ih U c) (λmv d=>b k T mv hk (ih T<|aW e) d) S h
def ahl(S:Mc)(h:(L.map a9).Nodup):((jn L S).map a9).Nodup:=by
 unfold jn
 split
 .exact h
 next n=>
 rw[dB,EB];refine⟨h,by simp,λa ha b c e=>n ?_⟩;rw[List.map_singleton,cO]at c;rw[<-c,<-e];exact ha
theorem Yn:∀{mvs:List Mv}{L:List Mc},(L.map a9).Nodup->((pS S L mvs).map a9).Nodup
 | [],_,h=>h
 | mv::mvs,L,h=>Yn (mvs:=mvs)<|ahl _ h
theorem Fu(S0:Mc):∀k,((aM S0 k).map a9).Nodup
 | 0=>by simp[aM]
 | k+1=>by
  rcases h:(aM S0 k)[k]? with _|S
  ·rw[BS<|xp.mp h];exact Fu S0 k
  rw[Ab h];exact Yn<|Fu S0 k
noncomputable def jb(k:Ck):bD:=.tuple<|k.rg.map .int
noncomputable def oz(k:Ck):bD:=.tuple (k.es.map λe=>.tuple [.int e.n,.int e.num])
noncomputable def yI(S:Mc):bD:=.tuple<|S.bd.map .int
def i8(S:Mc):bD:=.tuple [.tuple (S.ck.map jb),yI S]
def eR(S:Mc):bD:=.tuple [.tuple (S.ck.map λk=>.int (k.pl:Nat)),.tuple<|S.ck.map oz,i8 S]
def L7{l a:List Int}(h:l.map nX=a.map nX):l=a:=(List.map_inj_right λx y e=>by cases e;rfl).mp h
def XR{k k':Ck}(h:jb k=jb k'):k.rg=k'.rg:=L7<|abD h
def aeR(h:oz k=oz k'):(k.es.map λe=>(e.n,e.num))=k'.es.map λe=>(e.n,e.num):=by
 have h:=abD h
 have d:∀{l c:List gy},(l.map λe=>BG [.int e.n,.int e.num])=(c.map λe=>BG [.int e.n,.int e.num])->(l.map λe=>(e.n,e.num))=c.map λe=>(e.n,e.num):=by
  intro l
  induction l with
  | nil=>intro c h;rcases c with _|⟨_,_⟩;rfl;cases h
  | cons x l ih=>intro c h;cases c with
   | nil=>cases h
   | cons y c=>
    rw[fv,fv]at h ⊢;obtain⟨h1,h2⟩:=xB h;rw[ih h2];injection h1 with h1
    injection h1 with a b
    injection a with a
    injection b with b _
    injection b with b
    rw[a,b]
 exact d h
theorem ZO{e i j k:Type}{f:e->i}{g:e->j}{h:e->k}:∀{l d:List e},l.map f=d.map f->l.map g=d.map g->l.map h=d.map h->(l.map λx=>(f x,g x,h x))=d.map λx=>(f x,g x,h x)
 | [],[],_,_,_=>rfl
 | [],_::_,h,_,_=>by cases h
 | _::_,[],h,_,_=>by cases h
 | x::l,y::d,a,b,c=>by
  rw[fv,fv]at a b c ⊢;obtain⟨m,n⟩:=xB a;obtain⟨b1,b2⟩:=xB b;obtain⟨c1,o⟩:=xB c;rw[ZO n b2 o,m,b1,c1]
def akP{pl wt rg:Ck->bD}{l d:List Ck}(h:(l.map λk=>(nX (k.pl:Nat),oz k,jb k))=d.map λk=>(nX (k.pl:Nat),oz k,jb k)):l.map fA=d.map fA:=by
 induction l generalizing d with
 | nil=>cases d with
  | nil=>rfl
  | cons _ _=>cases h
 | cons x l ih=>cases d with
  | nil=>cases h
  | cons y d=>
   rw[fv,fv]at h ⊢;obtain⟨h1,h2⟩:=xB h;rw[ih h2];injection h1 with a b
   injection b with b c
   injection a with a
   unfold fA;rw[Int.ofNat_inj.mp a,aeR b,XR c]
def Lo{b:Type}{f:Ck->b}(c:∀k k',fA k=fA k'->f k=f k'){l a:List Ck}(h:l.map fA=a.map fA):l.map f=a.map f:=by
 induction l generalizing a with
 | nil=>cases a with
  | nil=>rfl
  | cons _ _=>cases h
 | cons x l ih=>cases a with
  | nil=>cases h
  | cons y a=>
   rw[fv,fv]at h ⊢;obtain⟨h1,h2⟩:=xB h;rw[c _ _ h1,ih h2]
def N9(h:fA k=fA k'):k.pl=k'.pl/\oz k=oz k'/\jb k=jb k':=by
 injection h with a b
 injection b with b c
 unfold oz jb;rw[c,show (k.es.map λe=>BG [.int _,.int _])=(k.es.map λe=>(e.n,e.num)).map λp=>BG [.int p.1,.int p.2] by rw[jh];rfl,b,jh];exact⟨a,xz,xz⟩
def Ui{S S':Mc}:eR S=eR S'↔a9 S=a9 S':=by
 constructor
 .intro h;injection h with h
  injection h with h1 h
  injection h with h2 h
  injection h with h3 _
  injection h1 with h1
  injection h2 with h2
  injection h3 with h3
  injection h3 with h3 h4
  injection h3 with h3
  injection h4 with h4 _
  injection h4 with h4
  unfold a9;rw[akP (pl:=jb) (wt:=jb) (rg:=jb)<|ZO h1 h2 h3,L7 h4]
 intro h;injection h with h1 h2
 unfold eR i8 yI;rw[h2,Lo (f:=λk=>nX (k.pl:Nat)) (λk k' e=>by rw[(N9 e).1]) h1,Lo (f:=oz) (λk k' e=>(N9 e).2.1) h1,Lo (f:=jb) (λk k' e=>(N9 e).2.2) h1]
def AA(n:Nat)(l:List Int):cu (n+1) (.tuple<|l.map .int)=true:=lY.mpr λx a=>by
 obtain⟨i,_,rfl⟩:=cj.mp a;cases n <;> rfl
def Dc(h:∀x∈l,cu n x=c_):cu (n+1) (.tuple l)=true:=lY.mpr h
def Dd{a:Type}{n:Nat}{f:a->bD}{l:List a}(h:∀x,cu n (f x)=c_):cu (n+1) (.tuple<|l.map f)=true:=Dc λx b=>by
 obtain⟨i,_,rfl⟩:=cj.mp b;exact h i
def Yg(n:Nat)(k:Ck):cu (n+2) (oz k)=true:=Dd λe=>AA n [e.n,e.num]
def Az(n:Nat)(S:Mc):cu (n+3) (i8 S)=true:=Dc λx a=>by
 obtain z|z:=bH.mp a
 .rw[z];exact Dd λk=>AA n _
 rw[cO.mp z];exact AA _ _
def xU(S:Mc):cu 8 (eR S)=true:=Dc λx a=>by
 obtain z|z:=bH.mp a
 .rw[z];exact Dd λk=>rfl
 obtain z|z:=bH.mp z
 .rw[z];exact Dd (Yg 4)
 rw[cO.mp z];exact Az 4 S
def gf(L:List Mc):List bD:=(L.filter jS).map i8
def Mf(W:ie S)(h:jS S=c_):∀(c:Nat)(k:Ck)(p:Pt),S.ck[c]?=a_ k->S.ps[c]?=a_ p->k.pl=p.length/\k.es=[]:=by
 intro c k p a b;have:=lY.mp h c<|nU.mpr (cb.mp a).1;unfold wz at this;rw[a,b]at this;simpa using this
def agi{S S':Mc}(W:ie S)(f:ie S')(ps:S.ps=S'.ps)(h:jS S=c_)(h':jS S'=c_)(e:i8 S=i8 S'):a9 S=a9 S':=by
 injection e with e
 injection e with h1 h2
 injection h1 with h1
 injection h2 with h2 _
 injection h2 with h2
 unfold a9;rw[L7 h2];have g:S.ck.length=S'.ck.length:=by have:=fF kM h1;simpa using this
 refine fF (·,S'.bd) (JC λc=>?_);rw[cc,cc];rcases a:S.ck[c]? with _|k;rw[xt (by rw[<-g];exact xp.mp a)]
 have i:=(cb.mp a).1;obtain⟨k',b⟩:∃k',S'.ck[c]?=a_ k':=⟨_,aL li⟩;obtain⟨p,d⟩:∃p,S.ps[c]?=a_ p:=⟨_,aL<|by rw[<-W.len];exact i⟩;obtain⟨j,l⟩:=Mf W h c k p a d;obtain⟨b1,b2⟩:=Mf f h' c k' p b (by rw[<-ps];exact d)
 have m:jb k=jb k':=by
  have:=fF (·[c]?) h1;simpa[a,b]using this
 rw[b];show a_ _=a_ _;unfold fA;rw[j,l,b1,b2,XR m]
structure nM(kd:cr)(ps:List Pt)(n:Nat)(S:Mc):Prop where
 W:lj n S
 kd:S.kd=kd
 ps:S.ps=ps
def nM.up{kd:cr}{ps:List Pt}{n:Nat}{S:Mc}(h:nM kd ps n S):nM kd ps (n+1) S:=⟨⟨h.W.wf,vx h.W.ac,λo a=>vx<|h.W.ov o a⟩,h.kd,h.ps⟩
def nM.mv{kd:cr}{ps:List Pt}{n:Nat}{S:Mc}(h:nM kd ps n S)(hn:n<15000){mv:Mv}(hm:mv∈gC S):nM kd ps (n+1) (cJ S mv):=by
 obtain⟨a,b,c,_⟩:=ahZ h.W hn hm;exact⟨a,b.fT h.kd,c.fT h.ps⟩
def Lm{kd:cr}{ps:List Pt}(g:cV ps){k:Nat}(a:k<=15000):∀S∈aM (bj kd ps) k,nM kd ps k S:=
 Ln 15000 ⟨NI g,xz,xz⟩ (λ_ _ h=>h.up) (λ_ _ _ h b hm=>b.mv h hm) k a
theorem Xc:∀{L:List Mc},(L.map a9).Nodup->(∀S∈L,nM kd ps n S)->(gf L).Nodup
 | [],_,_=>List.nodup_nil
 | S::L,h,f=>by
  rw[fv,zJ]at h;have ih:=Xc h.2 λT a=>f T<|cx _ a;unfold gf at ih ⊢;rw[kL]
  by_cases e:jS S=c_
  .rw[ei e,fv,zJ];refine⟨λz=>?_,ih⟩;obtain⟨T,a,d⟩:=cj.mp z;obtain⟨b,g⟩:=gz.mp a;have fS:=f S b9;have c:=f T<|cx _ b;exact h.1<|cj.mpr ⟨T,b,agi c.W.wf fS.W.wf (c.ps.fT fS.ps.g8) g e d⟩
  rw[ee e];exact ih
def UI(n:Nat){l c:List Int}(h:l.length=c.length):alike (n+1) (.tuple<|l.map .int) (.tuple<|c.map .int)=true:=by
 show (decide _&&List.all _ _)=c_;rw[jy];refine⟨eN (by simpa using h),lY.mpr λp d=>?_⟩;obtain⟨a,b⟩:=p;have h1:=EI d;obtain⟨i,_,rfl⟩:=cj.mp h1.1;obtain⟨j,_,rfl⟩:=cj.mp h1.2;cases n <;> rfl
def adp{S S':Mc}(W:ie S)(c:ie S')(h:S.ck.length=S'.ck.length):alike 8 (i8 S) (i8 S')=true:=by
 show (decide (2=2)&&(alike 7 _ _&&(alike 7 _ _&&c_)))=c_;rw[Bool.and_true,jy,jy];refine⟨xz,?_,UI 6<|by rw[W.bd,c.bd]⟩;show (decide _&&List.all _ _)=c_;rw[jy];refine⟨eN (by simpa using h),lY.mpr λp d=>?_⟩;obtain⟨a,b⟩:=p;have h1:=EI d;obtain⟨k,e,rfl⟩:=cj.mp h1.1;obtain⟨k',f,rfl⟩:=cj.mp h1.2;exact UI 5 (by rw[W.rg k e,c.rg k' f])
def aiH{K:u_}(k:∀b o,(∃ys,o=.tup ys)\/(∃ob ys,o=.jZ ob (.tup ys))->H b=a_ o->H' b=a_ o)(h:aq K H a xs):aq K H' a xs:=by
 obtain (h|⟨o,h⟩)|h:=h
 .exact .inl (.inl<|k _ _ (.inl ⟨_,xz⟩) h)
 .exact .inl (.inr ⟨o,k _ _ (.inr ⟨_,_,xz⟩) h⟩)
 exact .inr h
def TK(H H':Hp):Prop:=∀b o,(∃ys,o=.tup ys)\/(∃ob ys,o=.jZ ob (.tup ys))->H b=a_ o->H' b=a_ o
def TK.of(s:ae H H'):TK H H':=λb o _ e=>s b o e
def TK.Ds(k:aG dZ H H'):TK H H':=λb o h e=>k.k b o (λz=>z) (λps z=>by subst z;rcases h with ⟨_,h⟩ | ⟨_,_,h⟩ <;> cases h) e
def aiz(h:H a=a_ o)(n:¬((∃ys,o=.tup ys)\/(∃ob ys,o=.jZ ob (.tup ys)))):TK H (db H a u):=λb o' h' e=>by
 rw[aj λz=>?_]
 .exact e
 subst z;rw[h]at e;cases e;exact n h'
def qu{K:u_}(k:TK H H'):∀{n:Nat}{d:bD}{v:V},cu n d=c_->eX K H v d->eX K H' v d:=by
 intro n
 induction n with
 | zero=>
  intro d v g h;obtain⟨i,rfl⟩|⟨m,xs,z,_⟩:=jA g
  .cases h;exact .int i
  cases z
 | succ m ih=>
  intro d v g h;obtain⟨i,rfl⟩|⟨f,xs,z,rfl,e⟩:=jA g
  .cases h;exact .int i
  cases z;cases h with
  | tup h1 h2=>
   refine .tup (aiH k h1) ?_
   have all:∀{vs:List V}{ds:List bD},(∀d∈ds,cu m d=c_)->fG K H vs ds->fG K H' vs ds:=by
    intro vs
    induction vs with
    | nil=>intro ds _ h;cases h;exact .nil
    | cons v vs il=>
     intro ds c h;cases h with
     | cons a b=>exact .cons (ih (c _ b9) a)<|il (λd hd=>c d<|cx _ hd) b
   exact all e h2
theorem nZ{K:u_}(k:TK H H'):∀{vs:List V}{ds:List bD},(∀d∈ds,cu n d=c_)->fG K H vs ds->fG K H' vs ds
 | _,_,_,.nil=>.nil
 | _,_,g,.cons a b=>.cons (qu k (g _ b9) a)<|nZ k (λd hd=>g d<|cx _ hd) b
theorem Mg{K:u_}:∀{vs:List V}{ds:List bD},fG K H vs ds->eX K H v d->fG K H (vs++[v]) (ds++[d])
 | _,_,.nil,h=>.cons h .nil
 | _,_,.cons a b,h=>.cons a<|Mg b h
theorem vK{K:u_}:∀{vs:List V}{ds:List bD},fG K H vs ds->vs.length=ds.length
 | _,_,.nil=>rfl
 | _,_,.cons _ b=>fF (· + 1)<|vK b
theorem Dg{K:u_}:∀l:List Int,fG K H (l.map V.int)<|l.map nX
 | []=>.nil
 | i::l=>.cons (.int i)<|Dg l
def Gw(K:u_)(h:autoParam (X.K=K) a8):i7 X (.type S_) (λxs H Q=>∃p ys,xs=[.ref p]/\((ag K H p ys/\∀l,H l=b_->Q (.ref l) (db H l<|.tup ys))\/(aq K H p ys/\Q (.ref p) H))):=by subst h;exact ma
def Fo{K:u_}(c:n=ds.length)(e:n<=1000)(g:∀d∈ds,cu k d=c_)(f:∀(i:Nat)d a(Q:VK),ds[i]?=a_ d->ae H a->(∀y b,ae a b->eX K b y d->Q y b)->te (σ0.set j<|a_<|.int (i:Nat)) a Q)(h:∀ys a,ae H a->fG K a ys ds->Kf ys a):C0 (wR 0 n) (hX j) jo te σ0 H Kf:=by
 subst c;refine dU (n:=ds.length) (λi ys a=>i<=ds.length/\ae H a/\fG K a ys (ds.take i)) (cg<|cy e) ⟨ba _,ae.refl _,.nil⟩ ?_ ?_ ?_ ?_ ?_
 .rintro i ys a ⟨hi,_,r⟩;rw[vK r,eZ];exact xl
 .exact λi ys a hi _=>hi
 .exact λys a _=>az _
 .rintro i ys a hi ⟨_,s1,r⟩ x b ⟨l,ex⟩;subst l;subst ex;have hd:=aL hi;dsimp only[hX,jo];rw[ei xz,pj];refine f i _ _ _ hd s1 λy o s2 m=>⟨hi,s1.fT s2,?_⟩;rw[iq,hd];exact Mg (nZ (TK.of s2) (λd hd=>g d<|List.mem_of_mem_take hd) r) m
 rintro ys a ⟨_,s1,r⟩;rw[jf<|az _]at r;exact h _ _ s1 r
def Gh{a:Type}{f:a->bD}{l:List a}{i:Nat}(h:(l.map f)[i]?=a_ d):∃k,l[i]?=a_ k/\d=f k:=by
 rw[cc]at h;obtain⟨k,h1,h2⟩:=vt.mp h;exact⟨k,h1,h2.g8⟩
section
variable{t:bh}{C CT:e_}
structure Bw(mg:cr->Option f_):Prop where
 tuple:mg S_ = b_
 range:mg "range"=b_
 len:mg "len"=b_
 sorted:mg "sorted"=b_
def xX(K:u_)(t:bh)(C CT:e_)(f:Mc->bD):Sp:=λvs H Q _=>∃m A S,vs=[.ref m]/\bg t C CT H m A S/\ie S/\(∀k∈S.ck,k.es.length<64)/\∀H' p,ae H H'->eX K H' (.ref p) (f S)->Q (.ref p) H'
def ae5:aV hO hO (aP MG):=aZ
def OA:([as6,ac1]:List cr).Nodup:=dk
def VW(h:iB H v ps):∃a vs,v=.ref a/\H a=a_ (.tup vs)/\vs.length=ps.length:=by
 obtain⟨a,vs,e,ha,r⟩:=h;exact⟨a,vs,e,ha,r_ r⟩
def ad7(F:aQ K "registers_of" "registers_of" MG f fd)(B:Bw mg)(e:gF K C)(n:Mt P w K mg gl C 1 "registers" hA (Nd t C CT)):aF P w K mg gl aE 2 f fd hO (xX K t C CT λS=>.tuple<|S.ck.map jb):=by
 refine F.ok ae5 λaH A _ s H vs Q E u h=>?_
 obtain⟨m,A,S,rfl,M,W,_,q⟩:=h
 refine⟨_,ar (aS (fw ma xz B.tuple iY (aa (eB (N:=[as6,ac1]) (idx:=[0]) xz (cF.of<|by kernel_rfl) (eA<|az _) (kT xz B.range<|aa (bu dS xz B.len q_<|aa (a7 (pv 0) xz) af) af)
  (λ_ _ _ _=>bo (i:=1) OA xz (aI xz)<|.inr xz) (λ_ _ _ _=>eQ) λ_ _ _ _=>fw (Gw K) xz B.tuple iY<|aa (jT (pv 0) e.cl n u<|aa (pv 1) af) af) af))),?_⟩
 obtain⟨dx,fs,hm,G⟩:=id M.obj;obtain⟨pg,g,v,a,b⟩:=VW M.pg;have h4:=W.four;have D:=W.len;cases v;have hn:(g.length:Int).toNat=(S.ck.map jb).length:=by rw[aA,eP];lia
 have j:∀{l:List _}{d:bD},d∈l.map jb->cu 5 d=true:=λh=>by obtain⟨k,_,rfl⟩:=cj.mp h;exact AA 4 _
 refine vF xz hm e.cl e.program G.program ⟨A.pg,g,xz,.inr<|aq.of a,_,xz,li,li,Fo (K:=K) hn li (λd hd=>j hd) (λi d x Q hd s1 c=>?_) λys x s1 r=>?_⟩
 .obtain⟨k,y,rfl⟩:=Gh hd;exact vM xz (s1 _ _ hm) (G.ms _ dk)<|vr xz ⟨m,A,S,i,k,xz,M.same s1,y,λl b=>⟨l,_,xz,.inl ⟨ag.of ao,λp a=>c _ _ (au (au (ae.refl _) b) a)<|.tup (aq.of ao)<|Dg _⟩⟩⟩
 have b:=vK r;rw[aA]at b;refine⟨by rw[fR];lia,λl z=>⟨l,ys,xz,.inl ⟨ag.of ao,λp a=>?_⟩⟩⟩;have s2:=au (o:=.tup ys) (au (ae.refl _) z) a;exact q _ p (s1.fT s2)<|.tup (aq.of ao)<|nZ (TK.of s2) (λd hd=>j hd) r
def ag7:aV hO hO (aP NA):=aZ
def afC(F:aQ K "end_of" "end_of" NA f fd)(B:Bw mg)(e:gF K C)(g:Dp P w K mg gl 2 "registers_of" hO (xX K t C CT λS=>.tuple<|S.ck.map jb))(i:Mt P w K mg gl C 1 "board" gw (Mx t C CT)):aF P w K mg gl aE 3 f fd hO (xX K t C CT i8):=by
 refine F.ok ag7 λaH A _ s H vs Q E c h=>?_;obtain⟨m,A,S,rfl,M,W,j,q⟩:=h;refine⟨_,ar<|aS<|fj<|aa (bN g c xz<|aa (pv 0) af)<|aa (fw ma xz B.tuple iY<|aa (pG (pv 0) e.cl i<|c.mono qc) af) af,?_⟩;obtain⟨dx,fs,hm,G⟩:=id M.obj;refine vr xz ⟨m,A,S,xz,M,W,j,λo p s1 u=>vM xz (s1 _ _ hm) (G.ms _ dk) ⟨m,A,S,xz,M.same s1,λl v=>⟨l,_,xz,.inl ⟨ag.of ao,λb x=>⟨sl (n:=2),λr d=>?_⟩⟩⟩⟩⟩;have s2:ae _ (db _ b<|.tup<|S.bd.map V.int):=au (au (ae.refl _) v) x;have g2:db (db o l<|.lst<|S.bd.map V.int) b _ b=a_ (.tup<|S.bd.map V.int):=ao;generalize db _ b _=H2 at s2 g2 d ⊢;have a:ae _ (db _ r<|.tup [.ref p,.ref b]):=au (ae.refl _) d;exact q _ r (s1.fT<|s2.fT a)<|.tup (aq.of ao)<|.cons (qu (TK.of<|s2.fT a) (Dd λk=>AA 5 _) u)<|.cons (.tup (aq.of<|a _ _ g2)<|Dg _) .nil
def KG:aV [as6,"places","waiting"] hO (aP LC):=aZ
def afj{K:u_}(r:bt (Gu H) us es):fG K H us (es.map λe=>.tuple [.int e.n,.int e.num]):=Ld (λv e h=>by obtain⟨p,rfl,a⟩:=h;exact .tup (aq.of a)<|.cons (.int _)<|.cons (.int _) .nil) r
def ac'(F:aQ K "stand_of" "stand_of" LC f fd)(B:Bw mg)(o:gF K C)(Y:Dp P w K mg gl 3 "end_of" hO (xX K t C CT i8))(Z:Mt P w K mg gl C 1 "where" hA (Wy t C CT λk=>k.pl))(DT:Mt P w K mg gl C 2 "waiting" hA (UR t C CT)):aF P w K mg gl aE 4 f fd hO (xX K t C CT eR):=by
 refine F.ok KG λaH A _ s H vs Q E y h=>?_
 obtain⟨m,A,S,rfl,M,W,T,q⟩:=h;have jt:=y.mono (show 2<=3 by decide)
 refine let a:TS:=_;let b:TS:=_;⟨_,aw (bC (i:=1) KG.nd xz (aI xz) (fw ma xz B.tuple iY (aa (eB (N:=[as6,ac1]) (idx:=[0]) xz (cF.of<|by kernel_rfl) (eA<|az _) (kT xz B.range<|aa (bu dS xz B.len q_<|aa (a7 (pv 0) xz) af) af)
  (λ_ _ _ _=>bo (i:=1) OA xz (aI xz)<|.inr xz) (λ_ _ _ _=>eQ) λ_ _ _ _=>jT (pv 0) o.cl Z (y.mono (show 1<=3 by decide))<|aa (pv 1) af) af)))
  (pR b (aw (bC (i:=2) KG.nd xz (aI xz) (fw ma xz B.tuple iY (aa (eB (N:=[as6,ac1]) (idx:=[0]) xz (cF.of<|by kernel_rfl) (eA<|az _) (kT xz B.range<|aa (bu dS xz B.len q_<|aa (a7 (pv 0) xz) af) af)
  (λ_ _ _ _=>bo (i:=1) OA xz (aI xz)<|.inr xz) (λ_ _ _ _=>eQ) λ_ _ _ _=>fw (Gw K) xz B.tuple iY<|aa (jT (pv 0) o.cl DT jt<|aa (pv 1) af) af) af)))
  (pR a<|ar<|aS<|fj<|aa (pv 1)<|aa (pv 2)<|aa (bN Y y xz<|aa (pv 0) af) af))),?_⟩
 obtain⟨dx,fs,hm,G⟩:=id M.obj;obtain⟨pg,D,e1,g,U⟩:=VW M.pg;have h4:=W.four;have hlen:=W.len;cases e1;have hn:∀f:Ck->bD,(D.length:Int).toNat=(S.ck.map f).length:=λf=>by rw[aA,eP];lia
 have I:∀d∈S.ck.map λk=>nX k.pl,cu 5 d=true:=λd h=>by obtain⟨k,_,rfl⟩:=cj.mp h;rfl
 have J:∀d∈S.ck.map oz,cu 5 d=true:=λd h=>by obtain⟨k,_,rfl⟩:=cj.mp h;exact Yg 3 k
 refine vF xz hm o.cl o.program G.program ⟨A.pg,D,xz,.inr<|aq.of g,_,xz,li,li,Fo (K:=K) (hn λk=>.int _) li I (λi d H1 Q hd s1 c=>?_) λys H1 s1 r=>?_⟩
 .obtain⟨k,u,rfl⟩:=Gh hd;exact vM xz (s1 _ _ hm) (G.ms _ dk)<|vr xz ⟨m,A,S,i,k,xz,M.same s1,u,c _ _ (ae.refl _)<|.int _⟩
 have L:=vK r;rw[aA]at L;refine⟨by rw[fR];lia,λl O=>⟨l,ys,xz,.inl ⟨ag.of ao,λp1 dw=>?_⟩⟩⟩;have s2:ae _ (db _ _<|.tup ys):=au (au (ae.refl _) O) dw;have d1:eX K _ _ _:=.tup (aq.of ao)<|nZ (TK.of s2) I r;have j:=s1.fT s2;generalize db _ _ _=H2 at j d1 ⊢;refine vF xz (j _ _ hm) o.cl o.program G.program ⟨A.pg,D,xz,.inr<|aq.of<|j _ _ g,_,xz,li,li,Fo (K:=K) (hn _) li J (λi d H3 Q hd s1 c=>?_) λV H3 s1 r=>?_⟩
 .obtain⟨k,u,rfl⟩:=Gh hd;exact vM xz (s1 _ _<|j _ _ hm) (G.ms _ dk)<|vr xz ⟨m,A,S,i,k,xz,M.same<|j.fT s1,u,T k<|aW u,λH4 l us s4 _ U hu=>⟨l,us,xz,.inl ⟨ag.of U,λp g=>c _ _ (au s4 g)<|.tup (aq.of ao)<|afj<|Paired.bq hu λ_ _ z=>by obtain⟨p,e,h⟩:=z;exact⟨p,e,(au (ae.refl _) g) _ _ h⟩⟩⟩⟩
 have L:=vK r;rw[aA]at L;refine⟨by rw[fR];lia,λl O=>⟨l,V,xz,.inl ⟨ag.of ao,λp2 kh=>?_⟩⟩⟩;have s2:ae _ (db _ _<|.tup V):=au (au (ae.refl _) O) kh;have X:eX K _ _ _:=.tup (aq.of ao)<|nZ (TK.of s2) J r;have v:=s1.fT s2;generalize db _ _ _=H4 at v X ⊢;refine ay _ xz<|vr xz<|vr xz ⟨m,A,S,xz,M.same<|j.fT v,W,T,λH5 p R g=>?_⟩;refine⟨sl (n:=3),λr bR=>?_⟩;have x:ae _ (db _ r<|.tup [.ref p1,.ref p2,.ref p]):=au (ae.refl _) bR;exact q _ r (j.fT<|v.fT<|R.fT x)<|.tup (aq.of ao)<|.cons (qu (TK.of<|v.fT<|R.fT x) (Dc I) d1)<|.cons (qu (TK.of<|R.fT x) (Dc J) X)<|.cons (qu (TK.of x) (Az 3 S) g) .nil
end
def afM:(["tray"]:List cr).Nodup:=dk
def afO:(["regs"]:List cr).Nodup:=dk
def adh:(["comers"]:List cr).Nodup:=dk
def af7:cV [[]]:=⟨qc,qc,λp a=>by
 rw[cO.mp a];exact⟨qc,λt z=>by cases z⟩⟩
def bz.sI{fs:List (cr×V)}(k:bz m H H')(hm:H m=a_ (.ins C dx fs))(e:H b=a_ (.lst xs)):H' b=a_ (.lst xs):=k.k b _ (λz=>by rw[z,hm]at e;cases e) e
def Fw{K:u_}{fs f:List (cr×V)}(n:Nat)(k:σ[0]?=a_ (a_<|.ref m))(r:σ[1]?=a_ (a_<|.ref x))(hm:h m=a_ (.ins C dx fs))(cl:da K C)(na:bM K C fld)(lk:fs.lookup fld=a_ (.ref a))(ha:h a=a_ (.lst xs))(s:h x=a_ (.ins C cZ f))(t:f.length<=20)(O:gx H x h R)(y:f.lookup fld=a_ u)(q:∀l h' b c,b=aJ fld (.ref l) f->b.length<=20->h' x=a_ (.ins C cZ b)->h' l=a_ (.lst xs)->bz x h h'->gx H x h' c->(∀a v,R a v->c a v)->c l n->D.nx σ h'):Px K (nE 1) (Qn (λxs H Q=>∃p ys,xs=[.ref p]/\(ag K H p ys\/aq K H p ys)/\∀l,H l=b_->Q (.ref l) (db H l<|.lst ys))<|YE (Hd K (nE 0) fld) Hc) fld D σ h:=by
 refine⟨_,k,m,C,dx,fs,_,xz,hm,cl,na,lk,a,xs,xz,.inl<|ag.of ha,λl e=>?_⟩;have s1:ae h (db h l<|.lst xs):=au (ae.refl _) e;have g:db h l (.lst xs) l=a_ (.lst xs):=ao;obtain⟨z,i,A,B⟩:=O.nx (o:=.lst xs) n e;have d:=s1 _ _ s;generalize db h l (.lst xs)=v at s1 g i d ⊢;refine⟨_,r,x,C,cZ,f,xz,d,cl,na,li,?_⟩;have j:bz x v (db v x<|.ins C cZ<|aJ fld (.ref l) f):=bz.db;exact q l _ _ z xz (by rw[ub y];exact t) ao (j.sI d g) ((bz.of s1).fT j) (i.keep<|qt (H:=v) (x:=x)) A B
section
variable{t:bh}{C CT:e_}
def Xy(t:bh)(C CT:e_):Sp:=λvs H Q _=>∃m A S,vs=[.ref m]/\bg t C CT H m A S/\(S.kd = N_\/S.kd = l_\/S.kd = I_)/\S.ck.length<=4/\S.ov.length<=12/\
 ∀H' x a gv,bg t C CT H' x a S->kA gv x a->ae H H'->(∀b,cN x a b->H b=b_)->Q (.ref x) H'
def WK:aV [X_,"other"] gw (aP Nt):=aZ
def afv(F:aQ K "twin" "Machine.twin" Nt f fd)(L:gF K C)(cT:kz K CT)(iG:mg "list"=b_)(mk:Mk K C fI)(GI:aF P w K mg gl aE 7 fI dI ii (FA t C CT))(C3:mg "Machine"=a_ (.ref C))(b3:dn K dI ii [])(DT:Mt P w K mg gl CT 3 "twin" gw (WA CT)):aF P w K mg gl aE 9 f fd gw (Xy t C CT):=by
 refine F.ok WK λaH A _ s H vs Q E hr h=>?_
 obtain⟨m,A,S,ab,M,iW,h4,h12,q⟩:=h;subst ab;have nQ:=hr.mono (show 3<=8 by decide)
 refine let c:TS:=_;let d:TS:=_;let g:TS:=_;let p:TS:=_;let r:TS:=_;let u:TS:=_;let B:TS:=_;let D:TS:=_;let I:TS:=_;⟨_,aw (bC (i:=1) WK.nd xz (aI xz)<|pA mk GI hr xz C3 b3 .nil dh<|aa (fj<|aa (fj af) af)<|aa (a7 (pv 0) xz) af) (pR I (aw (dP (pv 1) (a7 (pv 0) xz) xz) (pR D (aw (dP (pv 1) (a7 (pv 0) xz) xz) (pR B (aw (dP (pv 1) (eB (N:=["tray"]) (idx:=[]) xz (cF.of<|by kernel_rfl) (eA<|ba _) (kx<|a7 (pv 0) xz) (λ_ _ _ _=>bo (i:=0) afM xz (aI xz)<|.inr xz) (λ_ _ _ _=>eQ) λ_ _ _ _=>pG (pv 0) cT.cl DT nQ) xz)
  (pR u (aw (dP (pv 1) (fw xD xz iG r9<|aa (a7 (pv 0) xz) af) xz) (pR r (aw (dP (pv 1) (fw xD xz iG r9<|aa (a7 (pv 0) xz) af) xz) (pR p (aw (dP (pv 1) (eB (N:=["regs"]) (idx:=[]) xz (cF.of<|by kernel_rfl) (eA<|ba _) (kx<|a7 (pv 0) xz) (λ_ _ _ _=>bo (i:=0) afO xz (aI xz)<|.inr xz) (λ_ _ _ _=>eQ) λ_ _ _ _=>fw (GR K) xz iG r9<|aa (pv 0) af) xz)
  (pR g (aw (dP (pv 1) (fw xD xz iG r9<|aa (a7 (pv 0) xz) af) xz) (pR d (aw (dP (pv 1) (fw xD xz iG r9<|aa (a7 (pv 0) xz) af) xz) (pR c (aw (dP (pv 1) (eB (N:=["comers"]) (idx:=[]) xz (cF.of<|by kernel_rfl) (eA<|ba _) (kx<|a7 (pv 0) xz) (λ_ _ _ _=>bo (i:=0) adh xz (aI xz)<|.inr xz) (λ_ _ _ _=>eQ) λ_ _ _ _=>fw (GR K) xz iG r9<|aa (pv 0) af) xz)
  (ar<|aS<|pv 1))))))))))))))))))),?_⟩
 refine cG (id M.obj) λdx fs hm G=>⟨qc,λp0 n0=>⟨by show 1<=bZ;decide,λp1 n1=>?_⟩⟩;have s1:ae H (db (db H p0<|.tup []) p1<|.tup [.ref p0]):=au (au (ae.refl _) n0) n1;have dw:db (db H p0<|.tup []) p1 (.tup [.ref p0]) p1=a_ (.tup [.ref p0]):=ao;have IK:db (db H p0<|.tup []) p1 (.tup [.ref p0]) p0=a_ (.tup []):=au (ae.refl _) n1 _ _ ao;generalize db (db H p0<|.tup []) p1 (.tup [.ref p0])=H1 at s1 dw IK ⊢;refine vF xz (s1 _ _ hm) L.cl L.kind G.kind λx kK nx fK ne=>?_;have sb:ae H1 (db (db H1 kK<|.own x) x<|.ins C kK []):=au (au (ae.refl _) fK) (by rw[aj ne.g8];exact nx);have D6:db (db H1 kK<|.own x) x (.ins C kK []) x=a_ (.ins C kK []):=ao;refine qo x kK (.ref p1) ([[]]) S.kd xz D6 ⟨p1,[.ref p0],xz,sb _ _ dw,.cons ⟨p0,[],xz,sb _ _ IK,.nil⟩ .nil⟩ af7 iW λW A2 aol M2 L2' ev k2 fr2=>⟨xz,?_⟩;have p8:H x=none:=s1.free nx;have S0:ae H W:=λb o e=>k2.k b o (bf e p8)<|sb _ _<|s1 b o e;refine cG (id M2.obj) λJ f0 vg G0=>?_;obtain⟨R0,O0,r0⟩:∃R,gx H x W R/\R x 2:=⟨λa v=>a=x/\v=2,⟨⟨λ_=>2,λa v z=>z.2.g8⟩,λa v z e=>(by rw[z.1,vg]at e;cases e),λa v z=>.inl z.1,λb z=>S0.free z⟩,xz,xz⟩;have Ec:=G0.wM;have K0:bz x W W:=⟨λb o _ e=>e,λb z=>z⟩;refine ay _ xz<|dE m C dx fs<|iK _ xz (S0 _ _ hm) L.cl L.program G.program<|vr xz<|kv x C J f0 xz vg L.cl L.program wb ?_;obtain⟨f1,X⟩:∃f,f=aJ O_ (.ref A.pg:V) f0:=⟨_,xz⟩;have Bo:f1.length<=20:=by rw[X,ub<|G0.program];exact Ec
 rw[<-X];have Q0:bz x W (db W x<|.ins C J f1):=bz.db;have cU:db W x (.ins C J f1) x=a_ (.ins C J f1):=ao;have O1:=O0.keep<|qt (H:=W) (x:=x) (o:=.ins C J f1);obtain⟨R1,O1,j1⟩:∃R,gx H x (db W x<|.ins C J f1) R/\∀a v,R0 a v->R a v:=⟨_,O1,λ_ _ z=>z⟩;have K1:bz x W (db W x<|.ins C J f1):=K0.fT Q0;generalize db W x (.ins C J f1)=h1 at Q0 cU O1 K1 ⊢;have S1:ae H h1:=λb o e=>K1.k b o (bf e p8)<|S0 b o e;refine ay _ xz<|dE m C dx fs<|iK _ xz (S1 _ _ hm) L.cl L.steps G.steps<|vr xz<|kv x C J f1 xz cU L.cl L.steps wb ?_;obtain⟨f2,Y⟩:∃f,f=aJ "steps" (.ref A.st:V) f1:=⟨_,xz⟩;have xh:f2.length<=20:=by rw[Y,ub<|aD (G0.steps) X dk];exact Bo
 rw[<-Y];have QZ:bz x h1 (db h1 x<|.ins C J f2):=bz.db;have lB:db h1 x (.ins C J f2) x=a_ (.ins C J f2):=ao;have O2:=O1.keep<|qt (H:=h1) (x:=x) (o:=.ins C J f2);obtain⟨R2,O2,j2⟩:∃R,gx H x (db h1 x<|.ins C J f2) R/\∀a v,R1 a v->R a v:=⟨_,O2,λ_ _ z=>z⟩;have K2:bz x W (db h1 x<|.ins C J f2):=K1.fT QZ;generalize db h1 x (.ins C J f2)=h2 at QZ lB O2 K2 ⊢;have S2:ae H h2:=λb o e=>K2.k b o (bf e p8)<|S0 b o e;have Rc:=r_ M.ts;refine ay _ xz<|dE m C dx fs<|iK _ xz (S2 _ _ hm) L.cl L.fD G.fD<|dQ A.lt xz ⟨_,ag.of<|S2 _ _ M.lt⟩<|dU (n:=A.ts.length) (λi ys H'=>i<=A.ts.length/\∃ts:List (e_×e_×List e_),ys=(ts.map λx=>V.ref x.1)/\ts.length=i/\ae h2 H'/\bt (HR CT S.kd H') ts (S.ck.take i)/\∃R,gx H x H' R/\(∀a v,R2 a v->R a v)/\∀j y,ts[j]?=a_ y->∀b∈y.1::y.2.1::y.2.2,R b<|28+6*j) ?_ ?_ ?_ ?_ ?_ ?_ ?_
 .exact cg (cy w8)
 .exact⟨ba _,⟨[],xz,xz,ae.refl _,.nil,R2,O2,λ_ _ z=>z,λj y z=>(by simp at z)⟩⟩
 .rintro i ys H' ⟨_,ts,rfl,rfl,_⟩;rw[aA];exact az _
 .rintro i ys H' hi ⟨_,ts,_,_,U,_⟩;exact gm _ _ (ag.of<|U _ _<|S2 _ _ M.lt)<|aL (by rw[aA];exact hi)
 .rintro ys H' ⟨_,ts,_,_,U,_⟩;exact ay _ (ag.of<|U _ _<|S2 _ _ M.lt) (by rw[aA];exact az _)
 .rintro i ys H' hi ⟨_,ts,rfl,rfl,U,tD,R,oR,iR,rR⟩ z eh ⟨eH,cX⟩;subst eH;have hz:=cX _<|ag.of<|U _ _<|S2 _ _ M.lt;have hk:S.ck[ts.length]?=a_ (S.ck[ts.length]'wf):=aL wf;refine aB (M.uy hk) λy O T=>?_;rw[cc,O]at hz;have kc:z=V.ref y.1:=(dj hz).g8;subst kc;have sT:ae H eh:=S2.fT U;have T2:HR CT S.kd eh y S.ck[ts.length]:=T.keep (λb _ o e=>sT b o e) λb xs e=>sT b _ e;refine eK (id T2.obj) λdy fy hay _ _ _ hmy _=>?_;dsimp only[jo,hX];rw[ei rfl];refine vr xz (⟨y.1,dy,fy,xz,hay,(hmy _ dk),(⟨y.1,S.kd,_,_,y.2.1,y.2.2,xz,T2,(λH4 z q' qr T4 s4 fr4=>?_)⟩)⟩)
  obtain⟨R',o4,i4,n4⟩:=oR.nxs (28+6*ts.length) (λb=>b∈z::q'::qr) (λb z=>s4.free z) fr4 (λb hb y=>by
   refine oE (T4.there b hb) λo e=>?_;rw[e]at y;cases y)
  refine⟨hi,⟨ts++[(z,q',qr)],by rw[dB];rfl,by rw[dG];rfl,U.fT s4,?_,R',o4,λa v z=>i4 a v<|iR a v z,λj y O b hb=>?_⟩⟩
  .rw[iq,hk];exact mV (Paired.bq tD λ_ _ q=>q.keep (λb _ o e=>s4 b o e) λb xs e=>s4 b _ e) T4
  obtain O|⟨e1,e2⟩:=Ae O
  .exact i4 _ _ (rR j y O b hb)
  subst e1;subst e2;exact n4 b hb
 rintro ys IY ⟨_,ts,rfl,tD,Ih,iE,Rc3,Oc3,ic3,QK⟩;rw[jf li]at iE;refine⟨by rw[aA];exact cg<|cy wu,λlt Iq=>?_⟩;have t3:ae IY (db IY lt<|.lst<|ts.map λx=>V.ref x.1):=au (ae.refl _) Iq;have glt:db IY lt (.lst<|ts.map λx=>V.ref x.1) lt=a_ (.lst<|ts.map λx=>V.ref x.1):=ao;refine aY (Oc3.nx (o:=.lst<|ts.map λx=>V.ref x.1) 4 Iq) λRv3 Ov3 iv3 yR=>?_;generalize db IY lt (.lst<|ts.map λx=>V.ref x.1)=v3 at t3 glt Ov3 ⊢;refine vr xz<|kv x C J f2 xz (t3 _ _<|Ih _ _ lB) L.cl L.fD wb ?_;obtain⟨f3,Z⟩:∃f,f=aJ "trays" (.ref lt:V) f2:=⟨_,xz⟩;have Bn:f3.length<=20:=by rw[Z,ub<|aD (aD (G0.fD) X dk) Y dk];exact xh
 rw[<-Z];have QY:bz x v3 (db v3 x<|.ins C J f3):=bz.db;have hx3:db v3 x (.ins C J f3) x=a_ (.ins C J f3):=ao;obtain⟨R3,O3,j3,q3,QN⟩:∃R,gx H x (db v3 x<|.ins C J f3) R/\(∀a v,R2 a v->R a v)/\(∀a v,Rv3 a v->R a v)/\(∀a v,Rc3 a v->R a v):=⟨_,Ov3.keep<|qt (H:=v3) (x:=x) (o:=.ins C J f3),λ_ _ z=>iv3 _ _<|ic3 _ _ z,λ_ _ z=>z,λ_ _ z=>iv3 _ _ z⟩;have K3:bz x W (db v3 x<|.ins C J f3):=K2.fT<|(bz.of<|Ih.fT t3).fT QY;generalize db v3 x (.ins C J f3)=h3 at QY hx3 O3 K3 ⊢;have S3:ae H h3:=λb o e=>K3.k b o (bf e p8)<|S0 b o e;refine Fw 6 xz xz (S3 _ _ hm) L.cl L.places G.places (S3 _ _ M.pl) hx3 Bn O3 (aD (aD (aD (G0.places) X dk) Y dk) Z dk) λpl h4 f4 R4 kH tN D7 Se k4 O4 j4 q4=>?_;have K4:=K3.fT k4;have S4:ae H h4:=λb o e=>K4.k b o (bf e p8)<|S0 b o e;refine Fw 8 xz xz (S4 _ _ hm) L.cl L.counts G.counts (S4 _ _ M.ct) D7 tN O4 (aD (aD (aD (aD (G0.counts) X dk) Y dk) Z dk) kH dk) λct h5 f5 R5 kG xg Bd gct k5 O5 j5 q5=>?_;have K5:=K4.fT k5;have S5:ae H h5:=λb o e=>K5.k b o (bf e p8)<|S0 b o e;have apa:=r_ M.rs;refine ay _ xz<|dE m C dx fs<|iK _ xz (S5 _ _ hm) L.cl L.dX G.dX<|dQ A.rg xz ⟨_,ag.of<|S5 _ _ M.rg⟩<|dU (n:=A.rs.length) (λi ys H'=>i<=A.rs.length/\∃rs:List e_,ys=rs.map V.ref/\rs.length=i/\ae h5 H'/\bt (λa(k:Ck)=>H' a=a_ (.lst<|k.rg.map V.int)) rs (S.ck.take i)/\∃R,gx H x H' R/\(∀a v,R5 a v->R a v)/\∀(j:Nat)a,rs[j]?=a_ a->R a (24+6*j)) ?_ ?_ ?_ ?_ ?_ ?_ ?_
 .exact cg (cy w8)
 .exact⟨ba _,⟨[],xz,xz,ae.refl _,.nil,R5,O5,λ_ _ z=>z,λj y z=>(by simp at z)⟩⟩
 .rintro i ys H' ⟨_,rs,rfl,rfl,_⟩;rw[aA];exact az _
 .rintro i ys H' hi ⟨_,rs,_,_,U,_⟩;exact gm _ _ (ag.of<|U _ _<|S5 _ _ M.rg)<|aL (by rw[aA];exact hi)
 .rintro ys H' ⟨_,rs,_,_,U,_⟩;exact ay _ (ag.of<|U _ _<|S5 _ _ M.rg) (by rw[aA];exact az _)
 .rintro i ys H' hi ⟨_,rs,rfl,rfl,U,oW,R,oR,iR,rR⟩ z eh ⟨eH,cX⟩;subst eH;have hz:=cX _<|ag.of<|U _ _<|S5 _ _ M.rg;have hk:S.ck[rs.length]?=a_ (S.ck[rs.length]'wf):=aL wf;refine aB (qm M.rs hk) λy O D4=>?_;rw[cc,O]at hz;have kc:z=V.ref y:=(dj hz).g8;subst kc;dsimp only[jo,hX];rw[ei rfl];refine vr xz ⟨y,⟨_,xz,.inl<|ag.of<|U _ _<|S5 _ _ D4,λl nl=>?_⟩⟩;generalize S.ck[rs.length]'wf=k at hk D4;have s4:=au (o:=.lst<|k.rg.map V.int) (ae.refl eh) nl;refine aY (oR.nx (o:=.lst<|k.rg.map V.int) (24+6*rs.length) nl) λR' o4 i4 n4=>⟨hi,⟨rs++[l],by rw[dB];rfl,by rw[dG];rfl,U.fT s4,?_,R',o4,λa v z=>i4 a v<|iR a v z,λj y O=>?_⟩⟩
  .rw[iq,hk];exact mV (Paired.bq oW λ_ _ q=>s4 _ _ q) ao
  obtain O|⟨e1,e2⟩:=Ae O
  .exact i4 _ _ (rR j y O)
  subst e1;subst e2;exact n4
 rintro ys IX ⟨_,yS,rfl,aq7,Ig,aaf,Rc6,Oc6,ic6,rc6⟩;rw[jf li]at aaf;refine⟨by rw[aA];exact cg<|cy wu,λrg Ip=>?_⟩;have t6:ae IX (db IX rg<|.lst<|yS.map V.ref):=au (ae.refl _) Ip;have grg:db IX rg (.lst<|yS.map V.ref) rg=a_ (.lst<|yS.map V.ref):=ao;refine aY (Oc6.nx (o:=.lst<|yS.map V.ref) 10 Ip) λRv6 Ov6 iv6 rv6=>?_;generalize db IX rg (.lst<|yS.map V.ref)=v6 at t6 grg Ov6 ⊢;refine vr xz<|kv x C J f5 xz (t6 _ _<|Ig _ _ Bd) L.cl L.dX wb ?_;obtain⟨f6,jx⟩:∃f,f=aJ "regs" (.ref rg:V) f5:=⟨_,xz⟩;have zd:f6.length<=20:=by rw[jx,ub<|aD (aD (aD (aD (aD (G0.dX) X dk) Y dk) Z dk) kH dk) kG dk];exact xg
 rw[<-jx];have QX:bz x v6 (db v6 x<|.ins C J f6):=bz.db;have hx6:db v6 x (.ins C J f6) x=a_ (.ins C J f6):=ao;obtain⟨R6,O6,j6,q6,qc6⟩:∃R,gx H x (db v6 x<|.ins C J f6) R/\(∀a v,R5 a v->R a v)/\(∀a v,Rv6 a v->R a v)/\(∀a v,Rc6 a v->R a v):=⟨_,Ov6.keep<|qt (H:=v6) (x:=x) (o:=.ins C J f6),λ_ _ z=>iv6 _ _<|ic6 _ _ z,λ_ _ z=>z,λ_ _ z=>iv6 _ _ z⟩;have K6:bz x W (db v6 x<|.ins C J f6):=K5.fT<|(bz.of<|Ig.fT t6).fT QX;generalize db v6 x (.ins C J f6)=h6 at QX hx6 O6 K6 ⊢;have S6:ae H h6:=λb o e=>K6.k b o (bf e p8)<|S0 b o e;refine Fw 12 xz xz (S6 _ _ hm) L.cl L.cells G.cells (S6 _ _ M.ce) hx6 zd O6 (aD (aD (aD (aD (aD (aD (G0.cells) X dk) Y dk) Z dk) kH dk) kG dk) jx dk) λce h7 f7 R7 jw zc hx7 gce k7 O7 j7 q7=>?_;have K7:=K6.fT k7;have S7:ae H h7:=λb o e=>K7.k b o (bf e p8)<|S0 b o e;refine aB (id M.ac) λacs apl apm=>Fw 14 xz xz (S7 _ _ hm) L.cl L.ja G.ja (S7 _ _ apl) hx7 zc O7 (aD (aD (aD (aD (aD (aD (aD (G0.ja) X dk) Y dk) Z dk) kH dk) kG dk) jx dk) jw dk) λac h8 f8 R8 je RJ Q7 gac k8 O8 j8 q8=>?_;have K8:=K7.fT k8;have S8:ae H h8:=λb o e=>K8.k b o (bf e p8)<|S0 b o e;have aak:=r_ M.cs;refine ay _ xz<|dE m C dx fs<|iK _ xz (S8 _ _ hm) L.cl L.kU G.kU<|dQ A.cm xz ⟨_,ag.of<|S8 _ _ M.cm⟩<|dU (n:=A.cs.length) (λi ys H'=>i<=A.cs.length/\∃rs:List e_,ys=rs.map V.ref/\rs.length=i/\ae h8 H'/\bt (λa(k:List Int)=>H' a=a_ (.lst<|k.map V.int)) rs (S.ov.take i)/\∃R,gx H x H' R/\(∀a v,R8 a v->R a v)/\∀(j:Nat)a,rs[j]?=a_ a->R a (26+6*j)) ?_ ?_ ?_ ?_ ?_ ?_ ?_
 .exact cg (cy w8)
 .exact⟨ba _,⟨[],xz,xz,ae.refl _,.nil,R8,O8,λ_ _ z=>z,λj y z=>(by simp at z)⟩⟩
 .rintro i ys H' ⟨_,rs,rfl,rfl,_⟩;rw[aA];exact az _
 .rintro i ys H' hi ⟨_,rs,_,_,U,_⟩;exact gm _ _ (ag.of<|U _ _<|S8 _ _ M.cm)<|aL (by rw[aA];exact hi)
 .rintro ys H' ⟨_,rs,_,_,U,_⟩;exact ay _ (ag.of<|U _ _<|S8 _ _ M.cm) (by rw[aA];exact az _)
 .rintro i ys H' hi ⟨_,rs,rfl,rfl,U,oW,R,oR,iR,rR⟩ z eh ⟨eH,cX⟩;subst eH;have hz:=cX _<|ag.of<|U _ _<|S8 _ _ M.cm;have hk:S.ov[rs.length]?=a_ (S.ov[rs.length]'wf):=aL wf;refine aB (qm M.cs hk) λy O D4=>?_;rw[cc,O]at hz;have kc:z=V.ref y:=(dj hz).g8;subst kc;dsimp only[jo,hX];rw[ei rfl];refine vr xz ⟨y,⟨_,xz,.inl<|ag.of<|U _ _<|S8 _ _ D4,λl nl=>?_⟩⟩;generalize S.ov[rs.length]'wf=k at hk D4;have s4:=au (o:=.lst<|k.map V.int) (ae.refl eh) nl;refine aY (oR.nx (o:=.lst<|k.map V.int) (26+6*rs.length) nl) λR' o4 i4 n4=>⟨hi,⟨rs++[l],by rw[dB];rfl,by rw[dG];rfl,U.fT s4,?_,R',o4,λa v z=>i4 a v<|iR a v z,λj y O=>?_⟩⟩
  .rw[iq,hk];exact mV (Paired.bq oW λ_ _ q=>s4 _ _ q) ao
  obtain O|⟨e1,e2⟩:=Ae O
  .exact i4 _ _ (rR j y O)
  subst e1;subst e2;exact n4
 rintro ys IW ⟨_,zr,rfl,aq9,Ie,aag,Rc9,Oc9,ic9,rc9⟩;rw[jf li]at aag;refine⟨by rw[aA];exact cg<|cy wu,λcm Iw=>?_⟩;have t9:ae IW (db IW cm<|.lst<|zr.map V.ref):=au (ae.refl _) Iw;have gcm:db IW cm (.lst<|zr.map V.ref) cm=a_ (.lst<|zr.map V.ref):=ao;refine aY (Oc9.nx (o:=.lst<|zr.map V.ref) 16 Iw) λRv9 Ov9 iv9 rv9=>?_;generalize db IW cm (.lst<|zr.map V.ref)=v9 at t9 gcm Ov9 ⊢;refine vr xz<|kv x C J f8 xz (t9 _ _<|Ie _ _ Q7) L.cl L.kU wb ?_;obtain⟨f9,ik⟩:∃f,f=aJ "comers" (.ref cm:V) f8:=⟨_,xz⟩;have RI:f9.length<=20:=by rw[ik,ub<|aD (aD (aD (aD (aD (aD (aD (aD (G0.kU) X dk) Y dk) Z dk) kH dk) kG dk) jx dk) jw dk) je dk];exact RJ
 rw[<-ik];have QW:bz x v9 (db v9 x<|.ins C J f9):=bz.db;have hx9:db v9 x (.ins C J f9) x=a_ (.ins C J f9):=ao;obtain⟨R9,O9,j9,q9,qc9⟩:∃R,gx H x (db v9 x<|.ins C J f9) R/\(∀a v,R8 a v->R a v)/\(∀a v,Rv9 a v->R a v)/\(∀a v,Rc9 a v->R a v):=⟨_,Ov9.keep<|qt (H:=v9) (x:=x) (o:=.ins C J f9),λ_ _ z=>iv9 _ _<|ic9 _ _ z,λ_ _ z=>z,λ_ _ z=>iv9 _ _ z⟩;have K9:bz x W (db v9 x<|.ins C J f9):=K8.fT<|(bz.of<|Ie.fT t9).fT QW;generalize db v9 x (.ins C J f9)=h9 at QW hx9 O9 K9 ⊢;have S9:ae H h9:=λb o e=>K9.k b o (bf e p8)<|S0 b o e;refine vr xz ?_;have n9:bz x h9 h9:=⟨λb o _ e=>e,λb z=>z⟩;have J9:∀a v,R9 a v->R9 a v:=λ_ _ z=>z;have m9:bz x v9 h9:=QW.fT n9;have y9:=(Ie.fT t9) _ _ Q7;have n8:bz x h8 h9:=(bz.of<|Ie.fT t9).fT m9;have J8:∀a v,R8 a v->R9 a v:=λa v z=>J9 a v<|j9 a v z;have n7:=k8.fT n8;have J7:∀a v,R7 a v->R9 a v:=λa v z=>J8 a v<|j8 a v z;have J6:∀a v,R6 a v->R9 a v:=λa v z=>J7 a v<|j7 a v z;have m6:bz x v6 h9:=QX.fT<|k7.fT n7;have y6:=(Ig.fT t6) _ _ Bd;have n5:bz x h5 h9:=(bz.of<|Ig.fT t6).fT m6;have J5:∀a v,R5 a v->R9 a v:=λa v z=>J6 a v<|j6 a v z;have n4:=k5.fT n5;have J4:∀a v,R4 a v->R9 a v:=λa v z=>J5 a v<|j5 a v z;have J3:∀a v,R3 a v->R9 a v:=λa v z=>J4 a v<|j4 a v z;have m3:bz x v3 h9:=QY.fT<|k4.fT n4;have y3:=(Ih.fT t3) _ _ lB;have n2:bz x h2 h9:=(bz.of<|Ih.fT t3).fT m3;have J2:∀a v,R2 a v->R9 a v:=λa v z=>J3 a v<|j3 a v z;have n1:bz x h1 h9:=QZ.fT n2;have J1:∀a v,R1 a v->R9 a v:=λa v z=>J2 a v<|j2 a v z;have n0:bz x W h9:=Q0.fT n1;have J0:∀a v,R0 a v->R9 a v:=λa v z=>J1 a v<|j1 a v z;have nn1:∀y∈jC,y≠(O_ : cr):=by decide +kernel
 have nn2:∀y∈jC,y≠("steps":cr):=by decide +kernel
 have nn3:∀y∈jC,y≠("trays":cr):=by decide +kernel
 have nn4:∀y∈jC,y≠("places":cr):=by decide +kernel
 have nn5:∀y∈jC,y≠("counts":cr):=by decide +kernel
 have nn6:∀y∈jC,y≠("regs":cr):=by decide +kernel
 have nn7:∀y∈jC,y≠("cells":cr):=by decide +kernel
 have nn8:∀y∈jC,y≠("acts":cr):=by decide +kernel
 have nn9:∀y∈jC,y≠("comers":cr):=by decide +kernel
 refine oE O9.l λgv ib=>?_;have lx:=ib _ _<|J0 _ _ r0;refine aB (id M.st) λiT Bh qa=>?_;have kt:∀b xs,H b=a_ (.tup xs)->h9 b=a_ (.tup xs):=λb xs e=>S9 _ _ e
 have M9:bg t C CT h9 x ⟨lt,ts,A.pg,A.st,pl,ct,rg,yS,ce,ac,cm,zr⟩ S:=by
  refine⟨⟨J,f9,hx9,?_⟩,m3.sI y3 glt,?_,M.pg.keep kt,⟨iT,kt _ _ Bh,Paired.bq qa λ_ _ q=>q.keep kt λb C dx fs e _=>S9 _ _ e⟩,n4.sI D7 Se,n5.sI Bd gct,m6.sI y6 grg,Paired.bq aaf λa k q=>m6.sI y6<|t6 _ _ q,n7.sI hx7 gce,⟨acs,n8.sI Q7 gac,Paired.bq apm λ_ _ q=>q.keep kt⟩,m9.sI y9 gcm,Paired.bq aag λa k q=>m9.sI y9<|t9 _ _ q⟩
  .exact⟨aD (aD (aD (aD (aD (aD (jD Z) kH dk) kG dk) jx dk) jw dk) je dk) ik dk,aD (aD (aD (aD (aD (aD (aD (aD (jD X) Y dk) Z dk) kH dk) kG dk) jx dk) jw dk) je dk) ik dk,aD (aD (aD (aD (aD (aD (aD (aD (aD (G0.kind) X dk) Y dk) Z dk) kH dk) kG dk) jx dk) jw dk) je dk) ik dk,aD (aD (aD (aD (aD (aD (aD (jD Y) Z dk) kH dk) kG dk) jx dk) jw dk) je dk) ik dk,aD (aD (aD (aD (aD (jD kH) kG dk) jx dk) jw dk) je dk) ik dk,aD (aD (aD (aD (jD kG) jx dk) jw dk) je dk) ik dk,aD (aD (aD (jD jx) jw dk) je dk) ik dk,aD (aD (jD jw) je dk) ik dk,aD (jD je) ik dk,jD ik,λy O=>aD (aD (aD (aD (aD (aD (aD (aD (aD (G0.ms y O) X<|nn1 y O) Y<|nn2 y O) Z<|nn3 y O) kH<|nn4 y O) kG<|nn5 y O) jx<|nn6 y O) jw<|nn7 y O) je<|nn8 y O) ik<|nn9 y O,RI⟩
  refine iu iE λj y k O _ T=>T.keep (λb hb o e=>m3.k b o (λz=>?_)<|t3 _ _ e) λb xs e=>m3.tup y3 _ _<|t3 _ _ e;have:=ib _ _<|J3 _ _<|QN _ _<|QK j y O b hb;rw[z,lx]at this;exact wk
 have L9:kA gv x ⟨lt,ts,A.pg,A.st,pl,ct,rg,yS,ce,ac,cm,zr⟩:=⟨lx,ib _ _<|J3 _ _<|q3 _ _ yR,ib _ _<|J4 _ _<|q4,ib _ _<|J5 _ _<|q5,ib _ _<|J6 _ _<|q6 _ _ rv6,ib _ _<|J7 _ _<|q7,ib _ _<|J8 _ _<|q8,ib _ _<|q9 _ _ rv9,λi a z=>ib _ _<|J6 _ _<|qc6 _ _<|rc6 i a z,λi a z=>ib _ _<|qc9 _ _<|rc9 i a z,λi y z b hb=>ib _ _<|J3 _ _<|QN _ _<|QK i y z b hb⟩
 have fr:∀a v,R9 a v->H a=none:=λa v z=>by
  obtain e|e:=O9.f a v z
  .rw[e];exact p8
  exact e
 refine q h9 x _ gv M9 L9 S9 λb hb=>?_;cases hb with
 | m=>exact p8
 | lt=>exact fr _ _<|J3 _ _<|q3 _ _ yR
 | pl=>exact fr _ _<|J4 _ _<|q4
 | ct=>exact fr _ _<|J5 _ _<|q5
 | rg=>exact fr _ _<|J6 _ _<|q6 _ _ rv6
 | ce=>exact fr _ _<|J7 _ _<|q7
 | ac=>exact fr _ _<|J8 _ _<|q8
 | cm=>exact fr _ _<|q9 _ _ rv9
 | rs h=>
  exact oE (zA h) λj hj=>fr _ _<|J6 _ _<|qc6 _ _<|rc6 j _ hj
 | cs h=>
  exact oE (zA h) λj hj=>fr _ _<|qc9 _ _<|rc9 j _ hj
 | ts h h2=>
  exact oE (zA h) λj hj=>fr _ _<|J3 _ _<|QN _ _<|QK j _ hj _ h2
end
def aj9(s:ae H H1)(fr:∀b,cN x A b->H b=b_)(k:aG (cN x A) H1 H2):aG dZ H H2:=
 ⟨λb o _ hn e=>k.k b o (λz=>by rw[fr b z]at e;cases e) hn<|s b o e,λb z=>s.free<|k.t b z⟩
section
variable{t:bh}{C CT PT:e_}
def kindS(kd:cr):Prop:=kd = N_\/kd = l_\/kd = I_
def VM(t:bh)(C CT PT:e_):Sp:=λvs H Q _=>∃m A S p mv,vs=[.ref m,.ref p]/\bg t C CT H m A S/\ie S/\yN S/\kindS S.kd/\cE PT LP LQ H/\H p=a_ (.tup<|qS mv)/\mv∈gC S/\
 ∀H' x a,bg t C CT H' x a (cJ S mv)->(∀b,cN x a b->H b=b_)->aG dZ H H'->cE PT LP LQ H'->Q (.ref x) H'
def VT:aV [as6,as9,"other"] [as6,as9] (aP Ke):=aZ
def aec(F:aQ K "behind_move" "behind_move" Ke f fd)(b:gF K C)(g:Mt P w K mg gl C 9 "twin" gw (Xy t C CT))(j:Mt P w K mg gl C 7 "do" [X_,as9] (Pl t C CT PT)):
  aF P w K mg gl aE 10 f fd [as6,as9] (VM t C CT PT):=by
 refine F.ok VT λaH A _ s H vs Q E c h=>?_
 .obtain⟨m,A,S,p,mv,rfl,M,W,ov,kd,lam,k,l,q⟩:=h;refine let a:TS:=_;⟨_,aw (bC (i:=2) VT.nd xz (aI xz)<|pG (pv 0) b.cl g c)<|pR a<|aw (fg<|jT (pv 2) b.cl j (c.mono qc)<|aa (pv 1) af)<|ar<|aS<|pv 2,?_⟩;obtain⟨dx,fs,hm,G⟩:=id M.obj;refine vM xz hm (G.ms _ dk) ⟨m,A,S,xz,M,kd,W.four,ua W.ov,λz x d gv e n s1 fr=>?_⟩;obtain⟨B,D,o,r⟩:=id e.obj;refine vM xz o (r.ms _ dk)<|vr xz ⟨x,d,S,p,mv,gv,xz,e,n,W,ov,iw lam s1,s1 _ _ k,l,λu v y l2=>?_⟩;exact vr xz<|q u x d v fr (aj9 s1 fr y) l2
end
def bg.OC(M:bg t C CT H m A S)(a:cN m A b):∃o,H b=a_ o/\((∃C dx fs,o=.ins C dx fs)\/∃xs,o=.lst xs):=by
 cases a with
 | m=>obtain⟨dx,fs,h,_⟩:=M.obj;exact⟨_,h,.inl ⟨_,_,_,xz⟩⟩
 | lt=>exact⟨_,M.lt,.inr ⟨_,xz⟩⟩
 | pl=>exact⟨_,M.pl,.inr ⟨_,xz⟩⟩
 | ct=>exact⟨_,M.ct,.inr ⟨_,xz⟩⟩
 | rg=>exact⟨_,M.rg,.inr ⟨_,xz⟩⟩
 | ce=>exact⟨_,M.ce,.inr ⟨_,xz⟩⟩
 | ac=>obtain⟨vs,h,_⟩:=M.ac;exact⟨_,h,.inr ⟨_,xz⟩⟩
 | cm=>exact⟨_,M.cm,.inr ⟨_,xz⟩⟩
 | rs h=>obtain⟨c,_,q⟩:=nW M.rs h;exact⟨_,q,.inr ⟨_,xz⟩⟩
 | cs h=>obtain⟨c,_,q⟩:=nW M.cs h;exact⟨_,q,.inr ⟨_,xz⟩⟩
 | ts h h2=>
  exact aB (nW M.ts h) λc _ q=>oE (q.there _ h2) λo e=>⟨o,e,q.kinds _ h2 _ e⟩
def jH(t:bh)(C CT lm dy fd:e_)(H:Hp)(v:V)(S:Mc):Prop:=∃m A,v=.ref m/\bg t C CT H m A S/\∀b,cN m A b->b≠lm/\b≠dy/\b≠fd
def bg.up(M:bg t C CT H m A S)(a:H p=a_ o)(c:(∃xs,o=.lst xs)\/∃ks,o=.dT ks)(n:¬cN m A p):bg t C CT (db H p u) m A S:=by
 have d:∀b xs,H b=a_ (.tup xs)->b≠p:=λb xs e z=>by
  subst z;rw[a]at e;cases e;rcases c with ⟨_,z⟩ | ⟨_,z⟩ <;> cases z
 have f:∀b C dx fs,H b=a_ (.ins C dx fs)->b≠p:=λb C dx fs e z=>by
  subst z;rw[a]at e;cases e;rcases c with ⟨_,z⟩ | ⟨_,z⟩ <;> cases z
 exact M.keep (λb g o e=>by rw[aj λz=>n (by rw[<-z];exact g)];exact e) (λb xs e=>by rw[aj<|d b xs e];exact e) λb C dx fs e=>by rw[aj<|f b C dx fs e];exact e
def Gj{PT p:e_}(h:cE PT LP LQ H)(d:H p=a_ o)(f:(∃xs,o=.lst xs)\/∃ks,o=.dT ks):cE PT LP LQ (db H p u):=by
 obtain⟨ps,h1,h2⟩:=h
 have n:∀b o',H b=a_ o'->(∀xs,o'≠.lst xs)->(∀ks,o'≠.dT ks)->b≠p:=λb o' e n1 g z=>by
  subst z;rw[d]at e;cases e;obtain⟨_,z⟩|⟨_,z⟩:=f
  .exact n1 _ z
  .exact g _ z
 refine⟨ps,by rw[aj (n _ _ h1 (λxs z=>by cases z) λks z=>by cases z)];exact h1,?_⟩;obtain e|⟨c,e,a⟩:=h2
 .exact .inl e
 .exact .inr ⟨c,e,by rw[aj (n _ _ a (λxs z=>by cases z) λks z=>by cases z)];exact a⟩
def ah'(k:aG dZ H0 H)(n:H0 p=b_):aG dZ H0 (db H p u):=
 ⟨λb o h1 h2 e=>by rw[aj (λz=>by rw[z,n]at e;cases e)];exact k.k b o h1 h2 e,λb e=>k.t b<|qt b e⟩
def FX(a:H p=a_ o)(b:(∃xs,o=.lst xs)\/∃ks,o=.dT ks):TK H (db H p u):=aiz a λz=>by
 rcases b with ⟨_,e⟩ | ⟨_,e⟩ <;> rcases z with ⟨_,z⟩ | ⟨_,_,z⟩ <;> rw[e]at z <;> cases z
structure BF(K:u_)(t:bh)(C CT PT:e_)(H:Hp)(lm dy fd:e_)(L:List Mc)(G Fd:List bD):Prop where
 lst:∃ms,H lm=a_ (.lst ms)/\bt (jH t C CT lm dy fd H) ms L
 yF:∃ks,H dy=a_ (.dT ks)/\Ax K H ks/\ks.map (·.1)=G
 Qt:∃fs,H fd=a_ (.lst fs)/\fG K H fs Fd/\∀d∈Fd,cu 8 d=c_
 lam:cE PT LP LQ H
 ne:lm≠dy/\lm≠fd/\dy≠fd
def E5{K:u_}(k:TK H H')(h:Ax K H ks):Ax K H' ks:=λx a=>⟨(h x a).1,(h x a).2.1,qu k (h x a).2.1 (h x a).2.2⟩
section
variable{K:u_}{t:bh}{C CT PT:e_}{H H':Hp}{lm dy fd:e_}{L:List Mc}{G Fd:List bD}
def BF.keep(h:BF K t C CT PT H lm dy fd L G Fd)(k:aG dZ H H')(l:cE PT LP LQ H'):BF K t C CT PT H' lm dy fd L G Fd:=by
 obtain⟨⟨ms,b,c⟩,⟨ks,b1,b2,d⟩,⟨fs,c1,g,a⟩,_,n⟩:=h;have tk:=TK.Ds k;exact⟨⟨ms,k.wx b,Paired.bq c λv S⟨m,A,e,M,f⟩=>⟨m,A,e,M.pJ k,f⟩⟩,⟨ks,k.k _ _ (λz=>z) (λps z=>by cases z) b1,E5 tk b2,d⟩,⟨fs,k.wx c1,nZ tk a g,a⟩,l,n⟩
def BF.same(h:BF K t C CT PT H lm dy fd L G Fd)(s:ae H H'):BF K t C CT PT H' lm dy fd L G Fd:=h.keep (aG.of s)<|iw h.lam s
def BF.put(h:BF K t C CT PT H lm dy fd L G Fd)(e:H dy=a_ (.dT ks))(a:AB K H (d,b)):BF K t C CT PT (db H dy<|.dT<|ks++[(d,b)]) lm dy fd L (G++[d]) Fd:=by
 obtain⟨⟨ms,g,i⟩,⟨p,b1,b2,j⟩,⟨fs,c1,k,c⟩,lam,n⟩:=h;rw[e]at b1;cases b1;have tk:TK H (db H dy<|.dT<|ks++[(d,b)]):=FX e<|.inr ⟨_,xz⟩;refine⟨⟨ms,by rw[aj n.1];exact g,Paired.bq i λv S⟨m,A,l,M,f⟩=>⟨m,A,l,M.up e (.inr ⟨_,xz⟩) λz=>(f _ z).2.1 xz,f⟩⟩,⟨_,ao,λx o=>?_,by rw[dB,j];rfl⟩,⟨fs,by rw[aj n.2.2.g8];exact c1,nZ tk c k,c⟩,Gj lam e<|.inr ⟨_,xz⟩,n⟩;obtain z|z:=ir.mp o
 .exact E5 tk b2 x z
 .rw[cO.mp z];exact⟨a.1,a.2.1,qu tk a.2.1 a.2.2⟩
def BF.app(h:BF K t C CT PT H lm dy fd L G Fd)(e:H lm=a_ (.lst ms))(m:jH t C CT lm dy fd H v S):BF K t C CT PT (db H lm<|.lst<|ms++[v]) lm dy fd (L++[S]) G Fd:=by
 obtain⟨⟨k,b,g⟩,⟨ks,b1,b2,i⟩,⟨fs,c1,j,c⟩,lam,n⟩:=h;rw[e]at b;cases b;have tk:TK H (db H lm<|.lst<|ms++[v]):=FX e<|.inl ⟨_,xz⟩;have up:∀v S,jH t C CT lm dy fd H v S->jH t C CT lm dy fd (db H lm<|.lst<|ms++[v]) v S:=λv S⟨m,A,a,M,f⟩=>⟨m,A,a,M.up e (.inl ⟨_,xz⟩) λz=>(f _ z).1 xz,f⟩;have d:∀u S,jH t C CT lm dy fd H u S->jH t C CT lm dy fd (db H lm<|.lst<|ms++[v]) u S:=λv S⟨m,A,a,M,f⟩=>⟨m,A,a,M.up e (.inl ⟨_,xz⟩) λz=>(f _ z).1 xz,f⟩;exact⟨⟨_,ao,Paired.snoc (Paired.bq g d)<|d v S m⟩,⟨ks,by rw[aj n.1.g8];exact b1,E5 tk b2,i⟩,⟨fs,by rw[aj n.2.1.g8];exact c1,nZ tk c j,c⟩,Gj lam e<|.inl ⟨_,xz⟩,n⟩
def BF.found(h:BF K t C CT PT H lm dy fd L G Fd){fs:List V}(e:H fd=a_ (.lst fs))(g:cu 8 d=c_)(hd:eX K H v d):BF K t C CT PT (db H fd<|.lst<|fs++[v]) lm dy fd L G (Fd++[d]):=by
 obtain⟨⟨ms,b,c⟩,⟨ks,b1,b2,i⟩,⟨o,c1,j,a⟩,lam,n⟩:=h;rw[e]at c1;cases c1;have tk:TK H (db H fd<|.lst<|fs++[v]):=FX e<|.inl ⟨_,xz⟩;refine⟨⟨ms,by rw[aj n.2.1];exact b,Paired.bq c λv S⟨m,A,k,M,f⟩=>⟨m,A,k,M.up e (.inl ⟨_,xz⟩) λz=>(f _ z).2.2 xz,f⟩⟩,⟨ks,by rw[aj n.2.2];exact b1,E5 tk b2,i⟩,⟨_,ao,Mg (nZ tk a j)<|qu tk g hd,λx l=>?_⟩,Gj lam e<|.inl ⟨_,xz⟩,n⟩;obtain z|z:=ir.mp l
 .exact a x z
 .rw[cO.mp z];exact g
def BF.at(h:BF K t C CT PT H lm dy fd L G Fd){i:Nat}(e:L[i]?=a_ S):∃ms v m A,H lm=a_ (.lst ms)/\ms.length=L.length/\ms[i]?=a_ v/\v=.ref m/\bg t C CT H m A S/\∀b,cN m A b->b≠lm/\b≠dy/\b≠fd:=by
 obtain⟨ms,c,a⟩:=h.lst;obtain⟨v,d,m,A,g,M,f⟩:=qm a e;exact⟨ms,v,m,A,c,r_ a,d,g,M,f⟩
end
noncomputable def akO:bv->List bv
 | .While _ b _ _=>b
 | _=>[]
noncomputable def fBody:bv->List bv
 | .For _ _ b _ _=>b
 | _=>[]
abbrev Qv:List bv:=akO<|(iZ ur).getD 4<|.Pass ⟨0,0,0,0⟩
def agg{S:Mc}{L:List Mc}{mvs:List Mv}{i:Nat}{mv:Mv}(h:mvs[i]?=a_ mv):pS S L (mvs.take<|i+1)=jn (pS S L<|mvs.take i) (cJ S mv):=by
 unfold pS;rw[iq,h,aby];rfl
def W0{κ:Mc->bD}(a:∀{S S'},κ S=κ S'↔a9 S=a9 S'){L:List Mc}:κ S∈L.map κ↔a9 S∈L.map a9:=by
 rw[cj,cj];exact⟨λ⟨T,h,e⟩=>⟨T,h,a.mp e⟩,λ⟨T,h,e⟩=>⟨T,h,a.mpr e⟩⟩
def ahm{κ:Mc->bD}(a:∀{S S'},κ S=κ S'↔a9 S=a9 S'){L:List Mc}(h:κ S∈L.map κ):jn L S=L:=by
 unfold jn;rw[ei<|(W0 a).mp h]
def afc{κ:Mc->bD}(a:∀{S S'},κ S=κ S'↔a9 S=a9 S'){L:List Mc}(h:κ S∉L.map κ):jn L S=L++[S]:=by
 unfold jn;rw[ee λz=>h<|(W0 a).mpr z]
theorem Xa:∀{mvs:List Mv}{L:List Mc},(pS S L mvs).length<=L.length+mvs.length
 | [],L=>az _
 | mv::mvs,L=>by
  have h:=Xa (S:=S) (mvs:=mvs) (L:=jn L<|cJ S mv)
  have h2:(jn L<|cJ S mv).length<=L.length+1:=by
   unfold jn
   split
   .exact kr _
   .rw[dG];exact az _
  rw[eJ];show (pS S (jn L<|cJ S mv) mvs).length<=_;lia
def aed(W:ie S):(gC S).length<=60:=by
 unfold gC uI;rw[dG,aA];have h1:=qe (uD S)<|List.range S.ck.length;rw[qh]at h1;have h2:(Af S).length<=12*S.ck.zipIdx.length:=Fs _ _;rw[SS]at h2;have h4:=W.four;lia
def yb(S0:Mc)(n j:Nat):Prop:=(∀i,i<j->i<(aM S0 i).length/\(aM S0 i).length<=n)/\¬(j<(aM S0 j).length/\(aM S0 j).length<=n)
def yb.le(h:yb S0 n j):j<=n/\(j<=(aM S0 j).length):=by
 cases j with
 | zero=>exact⟨ba _,ba _⟩
 | succ i=>
  obtain⟨a,b⟩:=h.1 i<|rP i;exact⟨li,dC a<|agA S0<|kr i⟩
def ajM(k1:aG dZ H H1)(hm:H m=b_)(k:bz m H1 H2):aG dZ H H2:=⟨λb o n hn e=>k.k b o (λz=>by rw[z,hm]at e;cases e)<|k1.k b o n hn e,λb h=>k1.t b<|k.t b h⟩
def Yd{PT m C dx:e_}{fs:List (cr×V)}(k:bz m H H')(hm:H m=a_ (.ins C dx fs))(h:cE PT LP LQ H):cE PT LP LQ H':=
 BM (F:=[m]) h (λb o n e=>k.k b o (λz=>n<|by rw[z];exact cO.mpr xz) e) λb a o e=>by rw[cO.mp a,hm]at e;cases e;exact .inl ⟨_,_,_,xz⟩
theorem Lc{K:u_}:∀{vs:List V}{ds:List bD},fG K H vs ds->bt (eX K H) vs ds
 | _,_,.nil=>.nil
 | _,_,.cons a b=>.cons a<|Lc b
theorem U5{K:u_}:∀{vs:List V}{ds:List bD},(∀d∈ds,cu 8 d=c_)->TK H H'->bt (eX K H) vs ds->fG K H' vs ds
 | _,_,_,_,.nil=>.nil
 | _,_,g,k,.cons a b=>.cons (qu k (g _ b9) a)<|U5 (λd hd=>g d<|cx _ hd) k b
section
variable{t:bh}{C CT PT:e_}
def CW(K:u_)(S0:Mc)(n j:Nat)(H H':Hp)(p:e_):Prop:=
 if n<(aM S0 j).length then H' p=a_ (.tup [.str "more"])
 else ∃l c es,H' p=a_ (.tup [.str "ends",.ref l])/\H l=b_/\H' l=a_ (.lst c)/\fG K H' c es/\es.Perm (gf<|aM S0 j)/\es.Pairwise λa b=>oM a b=c_
def uw(S:Mc):Prop:=∀c∈S.ck,c.es.length<64
def XG(K:u_)(PT:e_):Sp:=λvs H Q _=>∃v ps kd n,vs=[v,.str kd,.int (n:Nat)]/\iB H v ps/\cV ps/\kindS kd/\n<=2000/\cE PT LP LQ H/\
 (∀k,k<=n->(aM (bj kd ps) k).length<=n->∀S∈aM (bj kd ps) k,uw S/\∀mv∈gC S,uw<|cJ S mv)/\(∀k,k<=n->(aM (bj kd ps) k).length<=n->(gf<|aM (bj kd ps) k).length<64)/\
 ∀j H' p,yb (bj kd ps) n j->aG dZ H H'->cE PT LP LQ H'->CW K (bj kd ps) n j H H' p->Q (.ref p) H'
abbrev Dt:List cr:=[O_,U_,"most","machines","known","found",Y_,as6,as9,"other","stand"]
def sj:aV Dt [O_,U_,"most"] (aP ur):=aZ
def Vl(h:(aM S0 k)[k]?=a_ S):gf ((aM S0<|k+1).take<|k+1)=gf ((aM S0 k).take k)++if jS S=c_ then [i8 S] else []:=by
 have a:=(cb.mp h).1;obtain⟨r,b⟩:=vJ S0 k;rw[<-b,List.take_append_of_le_length a,iq,h];unfold gf;rw[xv,dB]
 congr 1
 by_cases e:jS S=c_
 .rw[ei e];simp[e]
 .rw[ee e];simp[e]
structure FI(K:u_)(t:bh)(C CT PT:e_)(κ:Mc->bD)(H0 H:Hp)(lm dy fd m:e_)(S:Mc)(L:List Mc)(Fd:List bD):Prop where
 b:BF K t C CT PT H lm dy fd L (L.map κ) Fd
 m:jH t C CT lm dy fd H (.ref m) S
 k:aG (λb=>b=lm\/b=dy) H0 H
def jH.keep(h:jH t C CT lm dy fd H v S)(k:aG dZ H H'):jH t C CT lm dy fd H' v S:=by
 obtain⟨m,A,e,M,f⟩:=h;exact⟨m,A,e,M.pJ k,f⟩
def aG.alw(k:aG F H0 H)(k':aG dZ H H'):aG F H0 H':=k.fT (k'.mono λb z=>z.elim)
def ahJ{f fI:e_}{fd dI:jO}(F:aQ K "ends" "ends" ur f fd)(B:Bw mg)(cM:gF K C)(mk:Mk K C fI)(GI:aF P w K mg gl aE 7 fI dI ii (FA t C CT))(C3:mg "Machine"=a_ (.ref C))(b3:dn K dI ii [])(DS:Dp P w K mg gl 4 "stand_of" hO (xX K t C CT eR))(DE:Dp P w K mg gl 3 "end_of" hO (xX K t C CT i8))(DN:Mt P w K mg gl C 2 "ended" gw (Ms t C CT))(DM:Mt P w K mg gl C 4 "moves" gw (Fz t C CT PT))(DB:Dp P w K mg gl 10 "behind_move" [as6,as9] (VM t C CT PT)):aF P w K mg gl aE 11 f fd [O_,U_,"most"] (XG K PT):=by
 refine F.ok sj λaH A outer s H vs Q E hr h=>?_
 .obtain⟨v,ps,kd,n,rfl,hP,hg,hk,hn,lam,hW,hE,q⟩:=h;have hu:=qf (Ex (show 10<=65 by decide) _)<|Aj hr;have hu3:=qf (Ex (show 30<=65 by decide) _)<|Aj hr;have kg:=hr.mono (show 4<=10 by decide);have nQ:=hr.mono (show 3<=10 by decide);have jt:=hr.mono (show 2<=10 by decide);have Ri:=hr.mono (show 8<=10 by decide)
  obtain⟨tF,pF,uF⟩:∃tF,fu (oG aE P w K mg gl Dt "ends" (aP ur) f aH A outer s H E).oK (fBody<|Qv.getD 2<|.Pass ⟨0,0,0,0⟩) tF/\∀(D:Ends)(σ:L2.St)(O H2:Hp)(lm dy fd m p:e_)(k:Nat)(R U:Option V)(S:Mc)(L:List Mc)(Fd:List bD)(mv:Mv),σ=[a_ v,a_<|.str kd,a_<|.int (n:Nat),a_<|.ref lm,a_<|.ref dy,a_<|.ref fd,a_<|.int (k:Nat),a_<|.ref m,a_<|.ref p,R,U]->FI K t C CT PT eR O H2 lm dy fd m S L Fd->nM kd ps k S->k<14000->L.length<=15000->H2 p=a_ (.tup<|qS mv)->mv∈gC S->uw (cJ S mv)->
    (∀H3 X Y,FI K t C CT PT eR O H3 lm dy fd m S (jn L<|cJ S mv) Fd->D.nx [a_ v,a_<|.str kd,a_<|.int (n:Nat),a_<|.ref lm,a_<|.ref dy,a_<|.ref fd,a_<|.int (k:Nat),a_<|.ref m,a_<|.ref p,X,Y] H3)->tF D σ H2:=by
   refine let a:TS:=_;let c:TS:=_;⟨_,aw (bC (i:=9) sj.nd xz (aI xz)<|bN DB hr xz<|aa (pv 7)<|aa (pv 8) af)<|pR c<|aw (bC (i:=10) sj.nd xz (aI xz)<|bN DS kg xz<|aa (pv 9) af)<|ar<|bJ (XU<|ac0 hu (pv 10)<|pv 4) (pR a<|aw (aff hu (pv 4) (pv 10) gD xz)<|ar<|fg<|nu m_ n_ o_ qp (pv 3)<|aa (pv 9) af) b8,?_⟩;rintro D σ O H2 lm dy fd m p k R U S L Fd mv rfl I lX arQ hL hp gu Ek nx;obtain⟨m',A,e,M,fM⟩:=I.m;cases e;refine vr xz<|vr xz ⟨m,A,S,p,mv,xz,M,lX.W.wf,lX.W.ovf li,by rw[lX.kd];exact hk,I.b.lam,hp,gu,λH3 x A' M3 fr k3 l3=>?_⟩;have apM:=lX.mv li gu;refine vr xz ⟨x,A',cJ S mv,xz,M3,apM.W.wf,Ek,λH4 sp s4 hd=>?_⟩;have k4:=k3.fT<|aG.of s4;have B4:=I.b.keep k4<|iw l3 s4;have m4:jH t C CT lm dy fd H4 (.ref m) S:=jH.keep ⟨m,A,xz,M,fM⟩ k4;have kp4:=aG.alw I.k k4;obtain⟨ks,d1,d2,d3⟩:=B4.yF;refine ay _ xz<|ay _ xz ?_;refine⟨dy,ks,sp,eR<|cJ S mv,xz,d1,d2,xz,⟨xz,xU _,hd⟩,_,xz,nv (λxa=>?_) λhi=>?_⟩
   .rw[d3]at xa;obtain⟨ms,a1,a2⟩:=B4.lst;have la:=r_ a2;have lk:ks.length=L.length:=by have:=fF kM d3;simpa using this
    refine⟨_,xz,_,xz,dy,ks,sp,eR<|cJ S mv,xz,xz,d1,d2,xz,⟨xz,xU _,hd⟩,by rw[fR];lia,by rw[d3];exact xa,?_⟩;have B5:=B4.put d1 (d:=eR<|cJ S mv) (b:=sp) ⟨xz,xU _,hd⟩;have up5:∀v T,jH t C CT lm dy fd H4 v T->jH t C CT lm dy fd (db H4 dy<|.dT<|ks++[(eR<|cJ S mv,sp)]) v T:=λv T⟨m,A,e1,M,f⟩=>⟨m,A,e1,M.up d1 (.inr ⟨_,xz⟩) λz=>(f _ z).2.1 xz,f⟩;have kp5:aG (λb=>b=lm\/b=dy) O (db H4 dy<|.dT<|ks++[(eR<|cJ S mv,sp)]):=kp4.fT<|aG.db<|.inr xz;have a5:db H4 dy (.dT<|ks++[(eR<|cJ S mv,sp)]) lm=a_ (.lst ms):=by rw[aj B4.ne.1];exact a1
    have nw:jH t C CT lm dy fd H4 (.ref x) (cJ S mv):=⟨x,A',xz,M3.same s4,λb hb=>by
     have xo:=fr b hb;obtain⟨ms0,c1,_⟩:=I.b.lst;obtain⟨ks0,c2,_⟩:=I.b.yF;obtain⟨fs0,c3,_⟩:=I.b.Qt;exact⟨λz=>(by rw[z,c1]at xo;cases xo),λz=>(by rw[z,c2]at xo;cases xo),λz=>(by rw[z,c3]at xo;cases xo)⟩⟩
    have nw5:=up5 _ _ nw;have m5:=up5 _ _ m4;generalize db H4 dy (.dT<|ks++[(eR<|cJ S mv,sp)])=H5 at B5 kp5 a5 nw5 m5 ⊢;refine dQ _ xz (.inl ⟨xz,_,ag.of a5⟩)<|vr xz<|⟨lm,ms,(.ref x),xz,xz,a5,(by rw[fR];lia),?_⟩;refine nx _ _ _ ⟨?_,?_,kp5.fT<|aG.db<|.inl xz⟩
    .rw[afc Ui xa,dB];exact B5.app a5 nw5
    .obtain⟨m',A,e1,M,f⟩:=m5;exact⟨m',A,e1,M.up a5 (.inl ⟨_,xz⟩) λz=>(f _ z).1 xz,f⟩
   .rw[d3]at hi;refine nx _ _ _ ⟨?_,m4,kp4⟩;rw[ahm Ui hi];exact B4
  generalize Ed:bj kd ps=S0 at *
  obtain⟨tR,pT,uR⟩:∃tR,fu (oG aE P w K mg gl Dt "ends" (aP ur) f aH A outer s H E).oK (Qv.drop 2) tR/\∀(D:Ends)(σ:L2.St)(O:Hp)(lm dy fd m:e_)(k:Nat)(Z R U:Option V)(S:Mc)(Fd:List bD),σ=[a_ v,a_<|.str kd,a_<|.int (n:Nat),a_<|.ref lm,a_<|.ref dy,a_<|.ref fd,a_<|.int (k:Nat),a_<|.ref m,Z,R,U]->BF K t C CT PT O lm dy fd (aM S0 k) ((aM S0 k).map eR) Fd->jH t C CT lm dy fd O (.ref m) S->(aM S0 k)[k]?=a_ S->nM kd ps k S->(aM S0 k).length<=n->(∀mv∈gC S,uw<|cJ S mv)->
    (∀H3 y8 X Y,BF K t C CT PT H3 lm dy fd (aM S0<|k+1) ((aM S0<|k+1).map eR) Fd->aG (λb=>b=lm\/b=dy) O H3->D.nx [a_ v,a_<|.str kd,a_<|.int (n:Nat),a_<|.ref lm,a_<|.ref dy,a_<|.ref fd,a_<|.int ((k+1:Nat):Int),a_<|.ref m,y8,X,Y] H3)->tR D σ O:=by
   refine⟨_,aw (i3 hV xz (kx<|pG (pv 7) cM.cl DM kg) (bo (i:=8) sj.nd xz<|aI xz) pF)<|ar<|ai5 (i:=6) sj.nd xz (aI xz) ax Yj,?_⟩;rintro D σ O lm dy fd m k Z R U S Fd rfl B1 m1 hS lX hL Ek nx;obtain⟨m',A1,e,M,fM⟩:=id m1;cases e;have hkl:=(cb.mp hS).1;obtain⟨dx,fs,hm,G⟩:=id M.obj;refine vM xz hm (G.ms _ dk) ⟨m,A1,S,xz,M,lX.W.wf,B1.lam,λH2 l us k2 l2 nl hl Bk=>⟨l,xz,⟨_,ag.of hl⟩,?_⟩⟩;have B2:=B1.keep k2 l2;have m2:=jH.keep m1 k2;obtain⟨ms1,a1,_⟩:=B1.lst;obtain⟨ks1,b1,_⟩:=B1.yF;have DX:l≠lm:=λz=>by rw[z,a1]at nl;cases nl
   have nld:l≠dy:=λz=>by rw[z,b1]at nl;cases nl
   have hlen:=r_ Bk;have ml:=aed lX.W.wf;refine Cc (xs:=us) (λi σ H'=>∃y8 X Y,σ=[a_ v,a_<|.str kd,a_<|.int (n:Nat),a_<|.ref lm,a_<|.ref dy,a_<|.ref fd,a_<|.int (k:Nat),a_<|.ref m,y8,X,Y]/\FI K t C CT PT eR H2 H' lm dy fd m S (pS S (aM S0 k)<|(gC S).take i) Fd) ⟨Z,R,U,xz,B2,m2,aG.refl _⟩ ?_ ?_ ?_
   .rintro i σ H' _ ⟨_,_,_,_,I⟩;exact ag.of<|I.k.k _ _ (λz=>z.elim DX nld) (λps z=>by cases z) hl
   .rintro i x σ H' hx ⟨y8,X,Y,rfl,I⟩;obtain⟨mv,hmi,p,rfl,hp⟩:=zS Bk hx;have gu:=aW hmi
    have iV:H' p=a_ (.tup<|qS mv):=I.k.tup (λb z xs e=>by
     obtain z|z:=z
     .rw[z,k2.wx a1]at e;cases e
     .rw[z,k2.k _ _ (λz=>z) (λps z=>by cases z) b1]at e;cases e) _ _ hp
    refine uF _ _ H2 H' lm dy fd m p k X Y S _ Fd mv xz I lX li (by have h5:=Xa (S:=S) (mvs:=(gC S).take i) (L:=aM S0 k);rw[eZ]at h5;lia) iV gu (Ek mv gu) λH3 u9 u10 I3=>?_;rw[<-agg hmi]at I3;exact⟨_,_,_,xz,I3⟩
   .rintro σ H' ⟨y8,X,Y,rfl,I⟩;rw[hlen,jf<|az _,<-Ab hS]at I;refine⟨_,xz,(k:Int),1,xz,xz,?_⟩;exact nx H' y8 X Y I.b<|(k2.mono λb z=>z.elim).fT I.k
  obtain⟨tW,pW,uW⟩:∃tW,fu (oG aE P w K mg gl Dt "ends" (aP ur) f aH A outer s H E).oK Qv tW/\∀(D:Ends)(σ:L2.St)(O:Hp)(lm dy fd:e_)(k:Nat)(z7 Z R U:Option V)(S:Mc),σ=[a_ v,a_<|.str kd,a_<|.int (n:Nat),a_<|.ref lm,a_<|.ref dy,a_<|.ref fd,a_<|.int (k:Nat),z7,Z,R,U]->BF K t C CT PT O lm dy fd (aM S0 k) ((aM S0 k).map eR) (gf<|(aM S0 k).take k)->(aM S0 k)[k]?=a_ S->nM kd ps k S->(aM S0 k).length<=n->uw S->(∀mv∈gC S,uw<|cJ S mv)->
    (∀H3 y7 y8 X Y,BF K t C CT PT H3 lm dy fd (aM S0<|k+1) ((aM S0<|k+1).map eR) (gf<|(aM S0<|k+1).take<|k+1)->aG (λb=>b=lm\/b=dy\/b=fd) O H3->D.nx [a_ v,a_<|.str kd,a_<|.int (n:Nat),a_<|.ref lm,a_<|.ref dy,a_<|.ref fd,a_<|.int ((k+1:Nat):Int),y7,y8,X,Y] H3)->tW D σ O:=by
   refine let g:TS:=_;⟨_,aw (bC (i:=7) sj.nd xz (aI xz)<|aN bQ (pv 3)<|pv 6)<|pR g<|aw (bJ (dr<|pG (pv 7) cM.cl DN jt) (ar<|fg<|nu m_ n_ o_ qp (pv 5)<|aa (bN DE nQ xz<|aa (pv 7) af) af) b8) pT,?_⟩;rintro D σ O lm dy fd k z7 Z R U S rfl B1 hS lX hL Ek aar nx;have hkl:=(cb.mp hS).1;obtain⟨ms,v0,m,A1,a1,al,av,rfl,M,fM⟩:=B1.at hS;obtain⟨dx,fs,hm,G⟩:=id M.obj;have m1:jH t C CT lm dy fd O (.ref m) S:=⟨m,A1,xz,M,fM⟩;refine vr xz<|vr xz<|rL (v:=.ref m) (ag.of a1) (bA av) ?_;refine vM xz hm (G.ms _ dk) ⟨m,A1,S,xz,M,lX.W.wf,λH2 s2=>⟨_,xz,jW (λhe=>?_) λhe=>?_⟩⟩
   .obtain⟨mM,c1,c2,c3⟩:=(B1.same s2).Qt;refine dQ _ xz (.inl ⟨xz,_,ag.of c1⟩)<|vr xz ⟨m,A1,S,xz,M.same s2,lX.W.wf,Ek,λH3 p s3 hd=>?_⟩;have B3:=B1.same<|s2.fT s3;have Sn:=s3 _ _ c1;have RH:=vK c2
    have hel:(gf<|(aM S0 k).take k).length<=k:=by
     unfold gf;rw[aA];exact dC (qe _ _) (by rw[eZ];exact zI _ _)
    refine⟨fd,mM,(.ref p),xz,xz,Sn,(by rw[fR];lia),?_⟩;have B4:=B3.found Sn (Az 5 S) hd;have m4:jH t C CT lm dy fd (db H3 fd<|.lst<|mM++[.ref p]) (.ref m) S:=⟨m,A1,xz,(M.same<|s2.fT s3).up Sn (.inl ⟨_,xz⟩) λz=>(fM _ z).2.2 xz,fM⟩;have k4:aG (λb=>b=lm\/b=dy\/b=fd) O (db H3 fd<|.lst<|mM++[.ref p]):=(aG.of<|s2.fT s3).fT<|aG.db<|.inr<|.inr xz;refine uR _ _ _ lm dy fd m k Z R U S _ xz B4 m4 hS lX hL aar λH5 y8 X Y B5 k5=>?_;refine nx H5 _ y8 X Y ?_<|k4.fT (k5.mono λb z=>z.imp id .inl);rw[Vl hS,ei he];exact B5
   .refine uR _ _ _ lm dy fd m k Z R U S _ xz (B1.same s2) (jH.keep m1<|aG.of s2) hS lX hL aar λH5 y8 X Y B5 k5=>?_;refine nx H5 _ y8 X Y ?_<|(aG.of s2).fT (k5.mono λb z=>z.imp id .inl);rw[Vl hS,ee (by rw[he];decide),qj];exact B5
  obtain⟨t5,p5,u5⟩:∃t5,fu (oG aE P w K mg gl Dt "ends" (aP ur) f aH A outer s H E).oK ((iZ ur).drop 5) t5/\∀(D:Ends)(σ:L2.St)(O:Hp)(lm dy fd:e_)(k:Nat)(z7 Z R U:Option V),σ=[a_ v,a_<|.str kd,a_<|.int (n:Nat),a_<|.ref lm,a_<|.ref dy,a_<|.ref fd,a_<|.int (k:Nat),z7,Z,R,U]->BF K t C CT PT O lm dy fd (aM S0 k) ((aM S0 k).map eR) (gf<|(aM S0 k).take k)->yb S0 n k->aG dZ H O->D.rt=Q->t5 D σ O:=by
   refine⟨_,ar<|aS<|Fl (b0 CQ (bu dS xz B.len q_<|aa (pv 3) af) (pv 2)<|br _) (fj<|aa cp af)<|fj<|aa cp<|aa (bu (acm hu3) xz B.sorted boot_sorted<|aa (pv 5) af) af,?_⟩;rintro D σ O lm dy fd k z7 Z R U rfl B1 he k1 rfl;obtain⟨ms,a1,a2⟩:=B1.lst;have al:=r_ a2;refine vr xz<|dN lm ms xz (.inl<|ag.of a1)<|ay _ xz ⟨_,_,xz,xz,_,xz,bK (λh1=>?_) λh1=>?_⟩
   .refine⟨sl (n:=1),λp hp=>?_⟩;have s2:ae O (db O p<|.tup [.str "more"]):=au (ae.refl _) hp;refine q k _ p he (k1.fT<|aG.of s2) (iw B1.lam s2) ?_;unfold CW;rw[ei li];exact ao
   .have hkn:=he.le;have yy:(aM S0 k).take k=aM S0 k:=jf (by have:=he.2;lia);obtain⟨fs,c1,c2,c3⟩:=B1.Qt;rw[yy]at c2 c3;have hf:=Lm hg (kd:=kd) (k:=k) li;rw[Ed]at hf;have e64:=hE k hkn.1 li
    have mem:∀d∈gf (aM S0 k),∃S∈aM S0 k,d=i8 S:=λd hd=>by
     obtain⟨S,h1,h2⟩:=cj.mp hd;exact⟨S,(gz.mp h1).1,h2.g8⟩
    refine vr xz ⟨fd,fs,gf<|aM S0 k,xz,ag.of c1,e64,Lc c2,λd hd=>?_,λd hd e ze=>?_,Xc (Fu S0 k) hf,λl zs es hl hz pm pw=>⟨sl (n:=2),λp hp=>?_⟩⟩
    .obtain⟨S,_,rfl⟩:=mem d hd;exact⟨Az 5 S,_,_,xz⟩
    .obtain⟨S,hS,rfl⟩:=mem d hd;obtain⟨T,hT,rfl⟩:=mem e ze;have f1:=hf S hS;have f2:=hf T hT;exact adp f1.W.wf f2.W.wf (by rw[f1.W.wf.len,f2.W.wf.len,f1.ps,f2.ps])
    .have s2:ae O (db O l<|.lst zs):=au (ae.refl _) hl;have g2:db O l (.lst zs) l=a_ (.lst zs):=ao;generalize db O l (.lst zs)=H2 at s2 g2 hp ⊢;have s3:ae H2 (db H2 p<|.tup [.str "ends",.ref l]):=au (ae.refl _) hp;refine q k _ p he (k1.fT<|aG.of<|s2.fT s3) (iw B1.lam<|s2.fT s3) ?_;unfold CW;rw[ee li];refine⟨l,zs,es,ao,k1.t l hl,s3 _ _ g2,U5 (λd hd=>?_) (TK.of<|s2.fT s3) hz,pm,pw⟩;obtain⟨S,_,rfl⟩:=mem d<|pm.mem_iff.mp hd;exact Az 5 S
  refine let j:TS:=_;let r:TS:=_;let J:TS:=_;let N:TS:=_;⟨_,aw (bC (i:=3) sj.nd xz (aI xz)<|eC<|aa (pA mk GI Ri xz C3 b3 .nil dh<|aa (pv 0)<|aa (pv 1) af) af)<|pR N<|aw (bC (i:=4) sj.nd xz (aI xz)<|afi hu (bN DS kg xz<|aa (aN bQ (pv 3) ax) af) gD)<|pR J<|aw (bC (i:=5) sj.nd xz (aI xz)<|eC af)<|pR r<|aw (bC (i:=6) sj.nd xz (aI xz) ax)<|pR j<|aw (Fh hV (PW.pt<|pw_and (b0 yc (pv 6) (bu dS xz B.len q_<|aa (pv 3) af)<|br _)<|pw_and1<|b0 CP (bu dS xz B.len q_<|aa (pv 3) af) (pv 2)<|br _) pW) p5,?_⟩;refine ay _ xz (vr xz λx dx nx fK ne=>?_);have sb:ae H (db (db H dx<|.own x) x<|.ins C dx []):=au (au (ae.refl _) fK) (by rw[aj ne.g8];exact nx);have D6:db (db H dx<|.own x) x (.ins C dx []) x=a_ (.ins C dx []):=ao;generalize db (db H dx<|.own x) x (.ins C dx [])=Hb at sb D6 ⊢;refine qo x dx v ps kd xz D6 (hP.keep λb xs e=>sb b _ e) hg hk λh0 A2 aol M2 L2' ev k2 fr2=>⟨xz,sl (n:=1),λlm DX=>?_⟩;rw[Ed]at M2;have k0:aG dZ H h0:=ajM (aG.of sb) nx k2;have l0:=Yd k2 D6<|iw lam sb;have s1:ae h0 (db h0 lm<|.lst [.ref x]):=au (ae.refl _) DX;have g1:db h0 lm (.lst [.ref x]) lm=a_ (.lst [.ref x]):=ao;have arD:=k0.t _ DX
  have fx:∀b,cN x A2 b->b≠lm:=λb hb z=>by
   obtain⟨o,e,_⟩:=M2.OC hb;rw[z,DX]at e;cases e
  generalize db h0 lm (.lst [.ref x])=h1 at s1 g1 ⊢;have M3:=M2.same s1;have k1:=k0.fT<|aG.of s1;have l1:=iw l0 s1;refine λdy Iv=>?_;have s2:ae h1 (db h1 dy<|.dT []):=au (ae.refl _) Iv;have g2:db h1 dy (.dT []) dy=a_ (.dT []):=ao;have aoi:=k1.t _ Iv
  have fx2:∀b,cN x A2 b->b≠dy:=λb hb z=>by
   obtain⟨o,e,_⟩:=M3.OC hb;rw[z,Iv]at e;cases e
  have nkm:lm≠dy:=bf g1 Iv;generalize db h1 dy (.dT [])=h2 at s2 g2 ⊢;have w0:=Lm hg (kd:=kd) (k:=0) li (bj kd ps) (by rw[aM];exact cO.mpr xz)
  have z0:uw S0:=by
   rw[<-Ed];intro x hx;obtain⟨_,_,rfl⟩:=cj.mp hx;exact Nat.zero_lt_succ 63
  rw[Ed]at w0;refine vr xz<|rL (v:=.ref x) (ag.of<|s2 _ _ g1) xz ⟨x,A2,S0,xz,M3.same s2,w0.W.wf,z0,λh3 p s3 hd=>⟨p,eR S0,xz,s3 _ _ g2,xz,⟨xz,xU _,hd⟩,?_⟩⟩;have Qf:=s3 _ _ g2;have sZ:=s2.fT s3;have tk:TK h3 (db h3 dy<|.dT [(eR S0,p)]):=FX Qf<|.inr ⟨_,xz⟩;have k4:aG dZ H (db h3 dy<|.dT [(eR S0,p)]):=ah' (k1.fT<|aG.of sZ) aoi;have l4:cE PT LP LQ (db h3 dy<|.dT [(eR S0,p)]):=Gj (iw l1 sZ) Qf<|.inr ⟨_,xz⟩;have M4:=(M3.same sZ).up (u:=.dT [(eR S0,p)]) Qf (.inr ⟨_,xz⟩) λz=>fx2 _ z rfl;have g4:db h3 dy (.dT [(eR S0,p)]) dy=a_ (.dT [(eR S0,p)]):=ao;have a4:db h3 dy (.dT [(eR S0,p)]) lm=a_ (.lst [.ref x]):=by rw[aj nkm];exact sZ _ _ g1
  have d4:=qu tk (xU S0) hd;generalize db h3 dy (.dT [(eR S0,p)])=h4 at k4 l4 M4 g4 a4 d4 ⊢;refine⟨qc,λfd D0=>?_⟩;have s5:ae h4 (db h4 fd<|.lst []):=au (ae.refl _) D0;have g5:db h4 fd (.lst []) fd=a_ (.lst []):=ao;have arE:=k4.t _ D0
  have fx3:∀b,cN x A2 b->b≠fd:=λb hb z=>by
   obtain⟨o,e,_⟩:=M4.OC hb;rw[z,D0]at e;cases e
  have n1:lm≠fd:=bf a4 D0;have n2:dy≠fd:=bf g4 D0;generalize db h4 fd (.lst [])=h5 at s5 g5 ⊢;have B5:BF K t C CT PT h5 lm dy fd (aM S0 0) ((aM S0 0).map eR) (gf<|(aM S0 0).take 0):=⟨⟨_,s5 _ _ a4,.cons ⟨x,A2,xz,M4.same s5,λb hb=>⟨fx b hb,fx2 b hb,fx3 b hb⟩⟩ .nil⟩,⟨_,s5 _ _ g4,λy hy=>(by rw[cO.mp hy];exact⟨xz,xU _,qu (TK.of s5) (xU S0) d4⟩),xz⟩,⟨[],g5,.nil,λd hd=>nomatch hd⟩,iw l4 s5,nkm,n1,n2⟩;have k5:=k4.fT<|aG.of s5;refine⟨λμ σ H'=>∃k z7 Z R U,μ=n+1-k/\σ=[a_ v,a_<|.str kd,a_<|.int (n:Nat),a_<|.ref lm,a_<|.ref dy,a_<|.ref fd,a_<|.int (k:Nat),z7,Z,R,U]/\(∀i,i<k->i<(aM S0 i).length/\(aM S0 i).length<=n)/\BF K t C CT PT H' lm dy fd (aM S0 k) ((aM S0 k).map eR) (gf<|(aM S0 k).take k)/\aG dZ H H',⟨_,0,b_,b_,b_,b_,xz,xz,(λi h=>eu h<|zH _),B5,k5⟩,?_⟩;rintro μ σ H6 ⟨k,z7,Z,R,U,rfl,rfl,hI,B6,k6⟩;obtain⟨ms,a1,a2⟩:=B6.lst;have al:=r_ a2;have fin:¬(k<(aM S0 k).length/\(aM S0 k).length<=n)->yb S0 n k:=λh=>⟨hI,h⟩;refine ay _ xz<|vr xz<|dN lm ms xz (.inl<|ag.of a1) ⟨_,_,xz,xz,_,xz,bK (λh1=>?_) λh1=>?_⟩
  .refine vr xz (dN lm ms xz (.inl<|ag.of a1)<|ay _ xz ⟨_,_,xz,xz,_,xz,bK (λh2=>?_) λh2=>?_⟩)
   .have hk1:k<(aM S0 k).length:=li;have hS:(aM S0 k)[k]?=a_ ((aM S0 k)[k]'hk1):=aL hk1;have Rr:=tY hk1;generalize (aM S0 k)[k]'hk1=S at hS Rr;have hf:=Lm hg (kd:=kd) (k:=k) li;rw[Ed]at hf;have zW:=hW k li li S Rr;refine⟨_,λσ' H' z=>z,uW _ _ H6 lm dy fd k z7 Z R U S xz B6 hS (hf S Rr) li zW.1 zW.2 λH7 y7 y8 X Y B7 k7=>⟨n+1-(k+1),li,k+1,y7,y8,X,Y,xz,xz,λi hi=>?_,B7,?_⟩⟩
    .by_cases z:i=k
     .subst z;exact⟨hk1,li⟩
     .exact hI i li
    .exact⟨λb o h1 h2 e=>k7.k b o (λz=>by rcases z with z | z | z <;> rw[z]at e <;> simp_all) h2<|k6.k b o h1 h2 e,λb e=>k6.t b<|k7.t b e⟩
   .exact u5 _ _ H6 lm dy fd k z7 Z R U xz B6 (fin li) k6 xz
  .exact eU (u5 _ _ H6 lm dy fd k z7 Z R U xz B6 (fin li) k6 xz)
end
abbrev Es:=List<|Int×Int
abbrev Cv:=Nat×Es×List Int
abbrev Vw:=List Cv×List Int
noncomputable def gG(es:List gy):Es:=es.map λe=>(e.n,e.num)
noncomputable def gI(n:Nat)(e:Int×Int):Bool:=decide<|e.1=(n:Int)
def CN(es:Es)(bd:List Int)(n:Nat):Int:=((es.filter<|gI n).getLast?.map (·.2)).getD<|bd.getD n 0
def uH(s:Tl)(es:Es)(bd:List Int):Int:=if s.1 = K_ then CN es bd (s.2.getD 1 0) else bd.getD (s.2.getD 1 0) 0
def iC(s:Tl)(rg:List Int)(v:Int):List Int:=
 if s.1 = V_ then rg.set (s.2.getD 0 0) (s.2.getD 1 0:Nat)
 else if s.1 = W_ then rg.set (s.2.getD 0 0) ((rg.getD (s.2.getD 0 0) 0+rg.getD (s.2.getD 1 0) 0)%kZ)
 else if s.1 = K_ then rg.set (s.2.getD 0 0) v
 else if s.1 = H_ then rg.set (s.2.getD 0 0) v else rg
def eY(kd:cr)(s:Tl)(es:Es)(rg:List Int):Es:=if s.1 = J_ then (if kd = I_ then es else es++[(((s.2.getD 0 0:Nat):Int),rg.getD (s.2.getD 1 0) 0)]) else es
def eE(kd:cr)(s:Tl)(rg bd:List Int):List Int:=if s.1 = J_ then (if kd = I_ then bd.set (s.2.getD 0 0) (rg.getD (s.2.getD 1 0) 0) else bd) else if s.1 = H_ then bd.set (s.2.getD 1 0) (rg.getD (s.2.getD 0 0) 0) else bd
def cR(kd:cr)(s:Tl)(x:Cv)(bd:List Int):Cv:=(eL s (iC s x.2.2<|uH s x.2.1 bd) x.1,eY kd s x.2.1 x.2.2,iC s x.2.2<|uH s x.2.1 bd)
def KY(es:List gy)(n:Nat):(gG es).filter (gI n)=gG (bL es n):=by
 unfold gG bL;rw[List.filter_map];rfl
def agU(S:Mc)(k:Ck)(n:Nat):(dD S k n).1=CN (gG k.es) S.bd n:=by
 unfold dD CN Ct;rw[KY];unfold gG;rw[List.getLast?_map];cases (bL k.es n).getLast? <;> rfl
section
variable{S:Mc}{c:Nat}{k:Ck}{s:Tl}
def ajQ(a:c<S.ck.length)(h:X.ck=S.ck.set c k'):pQ X c s={X with ck:=S.ck.set c {k' with pl:=eL s k'.rg k'.pl,ct:=k'.ct+1}}:=by
 unfold pQ;rw[h,fQ a];dsimp only;rw[vC]
def agj{sz:Nat}(g:bY sz s)(a:S.ck[c]?=a_ k)(hn:S.kd = I_->k.es=[]):a9 (pQ (cC S c s) c s)=((S.ck.map fA).set c<|cR S.kd s (fA k) S.bd,eE S.kd s k.rg S.bd):=by
 have d:c<S.ck.length:=(cb.mp a).1
 have b:∀{X:Mc}{k1:Ck},cC S c s=X->X.ck=S.ck.set c k1->k1.pl=k.pl->k1.rg=iC s k.rg (uH s (gG k.es) S.bd)->gG k1.es=eY S.kd s (gG k.es) k.rg->X.bd=eE S.kd s k.rg S.bd->a9 (pQ (cC S c s) c s)=((S.ck.map fA).set c<|cR S.kd s (fA k) S.bd,eE S.kd s k.rg S.bd):=λ{X k1}h h1 f j l n=>by
  rw[h,ajQ d h1];show ((S.ck.set c _).map fA,X.bd)=_;rw[qk,n]
  congr 2
  show (eL s k1.rg k1.pl,gG k1.es,k1.rg)=_;rw[f,j,l];rfl
 have z:S={S with ck:=S.ck.set c k}:=by rw[Ac a]
 cases g with
 | put r m h1 h2=>exact b ((show _=iM S c r m by kernel_rfl).fT<|xY a) xz xz (by kernel_rfl) (by kernel_rfl) (by kernel_rfl)
 | add r o h1 h2=>
  have e:cC S c (W_,[r,o])=iM S c r ((k.rg.getD r 0+k.rg.getD o 0)%kZ):=by
   unfold cC;rw[ee (show ¬(W_ : cr) = V_ from dk),ei xz,a];rfl
  exact b (e.fT<|xY a) xz xz (by kernel_rfl) (by kernel_rfl) (by kernel_rfl)
 | set i r h1 h2=>
  have e:cC S c (J_,[i,r])=setM S c i r:=by kernel_rfl
  unfold setM at e;rw[a]at e;dsimp only at e
  by_cases kd:S.kd = I_
  .rw[ei kd]at e;unfold ng at e;rw[show (iO (yp S c i k<|k.rg.getD r 0) ⟨J_,c,i,b_,a_<|k.rg.getD r 0,b_⟩).ck[c]?=_ from fQ d]at e;dsimp only at e;rw[hn kd,show (bL ([]++[⟨k.tn,i,k.rg.getD r 0,S.ac.length⟩]) i).head?=a_ ⟨k.tn,i,k.rg.getD r 0,S.ac.length⟩ by simp[bL],show nA ([]++[⟨k.tn,i,k.rg.getD r 0,S.ac.length⟩]) i=[] by simp[nA]]at e;refine b (k1:={k with tn:=k.tn+1,es:=[]}) e (vC ..) xz (by kernel_rfl) ?_ ?_
   .show _=if (J_ : cr) = J_ then _ else _
    rw[ei xz,ei kd,hn kd]
   .show S.bd.set i _=if (J_ : cr) = J_ then _ else _
    rw[ei xz,ei kd];rfl
  .rw[ee kd]at e;refine b (k1:={k with tn:=k.tn+1,es:=k.es++[⟨k.tn,i,k.rg.getD r 0,S.ac.length⟩]}) e xz xz (by kernel_rfl) ?_ ?_
   .show (k.es++[_]).map _=if (J_ : cr) = J_ then _ else _
    rw[ei xz,ee kd,dB];rfl
   .show S.bd=if (J_ : cr) = J_ then _ else _
    rw[ei xz,ee kd]
 | look r i h1 h2=>
  have e:cC S c (K_,[r,i])=pI S c r i:=by kernel_rfl
  unfold pI at e;rw[a]at e;refine b (e.fT<|xY (S:=iO S _) a) xz xz ?_ (by kernel_rfl) (by kernel_rfl);show k.rg.set r (dD S k i).1=_;rw[agU]
  kernel_rfl
 | swap r i h1 h2=>
  have e:cC S c (H_,[r,i])=qI S c r i:=by kernel_rfl
  unfold qI at e;rw[a]at e;exact b (e.fT<|xY (S:=iO (qA S _ _ _) _) a) xz xz (by kernel_rfl) (by kernel_rfl) (by kernel_rfl)
 | clear=>exact b ((show _=S by kernel_rfl).fT z) xz xz (by kernel_rfl) (by kernel_rfl) (by kernel_rfl)
 | skip r q h1 h2 h3=>exact b ((show _=S by kernel_rfl).fT z) xz xz (by kernel_rfl) (by kernel_rfl) (by kernel_rfl)
def ads(a:S.ck[c]?=a_ k)(h:(gG k.es).find? (gI n)=a_ ((n:Int),num)):a9 (ng S c n)=((S.ck.map fA).set c (k.pl,(gG k.es).eraseP<|gI n,k.rg),S.bd.set n num):=by
 have h2:(gG<|bL k.es n).head?=a_ ((n:Int),num):=by rw[<-KY,abw];exact h
 unfold ng;rw[a];dsimp only;unfold gG at h2;rw[List.head?_map]at h2;cases e:(bL k.es n).head? with
 | none=>rw[e]at h2;cases h2
 | some x=>
  rw[e]at h2;injection h2 with h2
  injection h2 with h3 h4
  show ((S.ck.set c _).map fA,S.bd.set n x.num)=_;rw[qk,h4]
  congr 2
  show (k.pl,gG<|nA k.es n,k.rg)=_
  congr 2
  unfold gG nA;rw[List.eraseP_map];rfl
end
inductive lK (kd:cr) (ps:List Pt) (V:Vw):Vw->Prop
 | act {c:Nat} {x:Cv} {p:Pt} {s:Tl}:V.1[c]?=a_ x->ps[c]?=a_ p->p[x.1]?=a_ s->(fE s=c_->x.2.1=[])->lK kd ps V (V.1.set c (cR kd s x V.2),eE kd s x.2.2 V.2)
 | lh {c n:Nat} {x:Cv} {num:Int}:V.1[c]?=a_ x->x.2.1.find? (gI n)=a_ ((n:Int),num)->n<12->(kd="row"->x.2.1.head?=a_ ((n:Int),num))->lK kd ps V (V.1.set c (x.1,x.2.1.eraseP (gI n),x.2.2),V.2.set n num)
def X':bL es n≠[]↔∃num,(gG es).find? (gI n)=a_ ((n:Int),num):=by
 have h:(gG es).find? (gI n)=(gG<|bL es n).head?:=by rw[<-KY,abw]
 rw[h];cases e:bL es n with
 | nil=>exact⟨λz=>eu xz z,λ⟨_,z⟩=>by cases z⟩
 | cons x l=>
  refine⟨λ_=>⟨x.num,?_⟩,λ_ z=>by cases z⟩;have a:x∈bL es n:=by rw[e];exact b9
  have hn:=eF (gz.mp a).2;show a_ (x.n,x.num)=_;rw[hn]
def Mp{c:Nat}{x:Cv}(h:(a9 S).1[c]?=a_ x):∃k,S.ck[c]?=a_ k/\x=fA k:=by
 unfold a9 at h;rw[cc]at h;obtain⟨k,h1,h2⟩:=vt.mp h;exact⟨k,h1,h2.g8⟩
structure qX(kd:cr)(V:Vw):Prop where
 nm:∀x∈V.1,∀e∈x.2.1,∃m:Nat,m<12/\e.1=(m:Int)
 no:kd = I_->∀x∈V.1,x.2.1=[]
def Wt{n c:Nat}(W:lj n S)(O:qX S.kd (a9 S))(a:S.ck[c]?=a_ k)(b:S.ps[c]?=a_ p)(d:p[k.pl]?=a_ s):a9 (cJ S ("do",[(c:Int)]))=((a9 S).1.set c<|cR S.kd s (fA k) S.bd,eE S.kd s k.rg S.bd):=by
 obtain⟨g,f,_,_,h⟩:=W.wf.part a;have i:g=p:=by rw[b]at f;exact(dj f).g8
 subst i
 have e:cJ S ("do",[(c:Int)])=pQ (cC S c s) c s:=by
  unfold cJ;rw[ei rfl];show va S ((c:Int)).toNat=_;rw[eP];unfold va;rw[a,b];dsimp only;rw[d]
 rw[e];exact agj (h s<|aW d) a λz=>Jv.mp<|O.no z (fA k)<|cj.mpr ⟨k,aW a,xz⟩
def Lp{c n:Nat}{num:Int}(a:S.ck[c]?=a_ k)(h:(gG k.es).find? (gI n)=a_ ((n:Int),num)):a9 (cJ S (as5,[(c:Int),(n:Int)]))=((a9 S).1.set c (k.pl,(gG k.es).eraseP<|gI n,k.rg),S.bd.set n num):=by
 have e:cJ S (as5,[(c:Int),(n:Int)])=ng S c n:=by
  unfold cJ;rw[ee (show ¬(as5 : cr)="do" from dk)];rfl
 rw[e,ads a h];rfl
def FU{c:Nat}(a:S.ck[c]?=a_ k):(a9 S).1[c]?=a_ (fA k):=by unfold a9;rw[cc,a];rfl
def E3{n:Nat}{mv:Mv}(W:lj n S)(O:qX S.kd (a9 S))(h:mv∈gC S):lK S.kd S.ps (a9 S) (a9<|cJ S mv):=by
 obtain⟨c,rfl,v,d⟩|⟨c,k,i,rfl,b,f⟩:=BW h
 .obtain⟨k,p,s,_,b,t,u,_⟩:=LV W.wf v d;rw[Wt W O b t u];rw[FL b t]at d;unfold pN at d;rw[u]at d;refine .act (FU b) t u λz=>?_;have h2:(decide (k.es=[])||!fE s)=true:=d;rw[z]at h2;have h3:k.es=[]:=by simpa using h2
  show gG _=[];rw[h3];rfl
 unfold jj at f
 split at f
 .next hr=>
  obtain⟨e,r,rfl⟩:=cj.mp (show i∈(k.es.head?.toList.map (·.n)) by cases h:k.es.head? <;> rw[h]at f <;> simpa using f);rcases g:k.es with _|⟨a,l⟩
  ·rw[g]at r;cases r
  rw[g]at r;have x:e=a:=by simpa using r
  subst x;obtain⟨m,hm,j⟩:=O.nm (fA k) (cj.mpr ⟨k,aW b,xz⟩) (e.n,e.num) (by show _∈k.es.map _;rw[g];exact b9);have j:e.n=(m:Int):=j;have y:(gG k.es).head?=a_ ((m:Int),e.num):=by unfold gG;rw[g,<-j];rfl
  have o:(gG k.es).find? (gI m)=a_ ((m:Int),e.num):=by
   unfold gG;rw[g,fv,JL,j,show gI m _=c_ from eN rfl]
  rw[j,Lp b o];exact .lh (FU b) o hm λ_=>y
 next nr=>
 obtain⟨n,hn,rfl,q⟩:=xK.mp f;obtain⟨num,o⟩:=X'.mp q;rw[Lp b o];exact .lh (FU b) o hn λz=>eu z nr
def ajG(a:c<S.ck.length)(h:uD S c=c_):(("do":cr),[(c:Int)])∈gC S:=pf _<|cj.mpr ⟨c,gz.mpr ⟨nU.mpr a,h⟩,xz⟩
def aj5{c:Nat}{n:Int}(a:S.ck[c]?=a_ k)(h:n∈jj S.kd k.es):((as5 : cr),[(c:Int),n])∈gC S:=by
 refine gh _ ?_;exact abF.mpr ⟨(k,c),aW (by rw[aa7,a];simp),cj.mpr ⟨n,h,xz⟩⟩
def adF{n:Nat}{V:Vw}(W:lj n S)(O:qX S.kd (a9 S))(h:lK S.kd S.ps (a9 S) V):∃mv∈gC S,a9 (cJ S mv)=V:=by
 cases h with
 | @act c x p s h1 hp hs rD=>
  obtain⟨k,b,rfl⟩:=Mp h1;refine⟨_,ajG (cb.mp b).1 ?_,Wt W O b hp hs⟩;rw[FL b hp];unfold pN;rw[show p[k.pl]?=a_ s from hs];show (decide (k.es=[])||!fE s)=c_;rcases e:fE s with _|_;simp;have:=Jv.mp (rD e);rw[this];rfl
 | @lh c m x num h1 hf hn hr=>
  obtain⟨k,b,rfl⟩:=Mp h1;refine⟨_,aj5 b ?_,Lp b hf⟩;unfold jj
  split
  .next z=>
   have h2:(gG k.es).head?=a_ ((m:Int),num):=hr z;unfold gG at h2;rw[List.head?_map]at h2;rcases e:k.es.head? with _|a
   ·rw[e]at h2;cases h2
   rw[e]at h2;injection h2 with h2
   injection h2 with h3 h4
   show (m:Int)∈[a.n];rw[h3];exact b9
  exact xK.mpr ⟨m,hn,xz,X'.mpr ⟨num,hf⟩⟩
noncomputable def sG(ps:List Pt):Vw:=(ps.map λ_=>(0,[],[0,0,0,0]),cQ 12 0)
def Fc(kd:cr)(ps:List Pt):a9 (bj kd ps)=sG ps:=by
 show ((ps.map λ_=>k0).map _,_)=_;rw[jh];rfl
inductive g9 (kd:cr) (ps:List Pt):Vw->Prop
 | new:g9 kd ps (sG ps)
 | st {V V':Vw}:g9 kd ps V->lK kd ps V V'->g9 kd ps V'
def Cp{b:Type}{l:List b}{c:Nat}{a x:b}(h:x∈l.set c a):x∈l\/x=a:=zw h
def qX.st{V V':Vw}(g:cV ps)(O:qX kd V)(h:lK kd ps V V'):qX kd V':=by
 cases h with
 | @act c x p s h1 hp hs rD=>
  have a:=aW h1;have j:=(g.part p<|aW hp).2 s<|aW hs
  have f:(∀e∈(cR kd s x V.2).2.1,∃m:Nat,m<12/\e.1=(m:Int))/\(kd = I_->(cR kd s x V.2).2.1=x.2.1):=by
   show (∀e∈eY _ s _ _,_)/\(kd = I_->eY _ s _ _=x.2.1);unfold eY
   by_cases z:s.1 = J_
   .rw[ei z]
    by_cases y:kd = I_
    .rw[ei y];exact⟨O.nm x a,λ_=>rfl⟩
    rw[ee y];refine⟨λe d=>?_,λq=>eu q y⟩;obtain h|h:=ir.mp d
    .exact O.nm x a e h
    rw[cO.mp h];refine⟨s.2.getD 0 0,?_,xz⟩;cases j with
    | set n r h1 h2=>exact h1
    | put=>exact eu (show ("put":cr)="set" from z) dk
    | add=>exact eu (show ("add":cr)="set" from z) dk
    | look=>exact eu (show ("look":cr)="set" from z) dk
    | swap=>exact eu (show ("swap":cr)="set" from z) dk
    | clear=>exact eu z dk
    | skip=>exact eu (show ("skip":cr)="set" from z) dk
   rw[ee z];exact⟨O.nm x a,λ_=>rfl⟩
  refine⟨λy b=>?_,λz y b=>?_⟩
  .obtain h|h:=Cp b
   .exact O.nm y h
   rw[h];exact f.1
  obtain h|h:=Cp b
  .exact O.no z y h
  rw[h,f.2 z];exact O.no z x a
 | @lh c n x num h1 i hn hr=>
  have a:=aW h1;refine⟨λy b=>?_,λz y b=>?_⟩
  .obtain h|h:=Cp b
   .exact O.nm y h
   rw[h];exact λe d=>O.nm x a e<|Jq d
  rw[O.no z x a]at i;cases i
def qX.new(kd:cr)(ps:List Pt):qX kd (sG ps):=by
 refine⟨λx a e b=>?_,λ_ x a=>?_⟩
 .obtain⟨_,_,rfl⟩:=cj.mp a;cases b
 obtain⟨_,_,rfl⟩:=cj.mp a;rfl
def g9.ok{V:Vw}(g:cV ps)(h:g9 kd ps V):qX kd V:=by
 induction h with
 | new=>exact qX.new _ _
 | st _ s ih=>exact ih.st g s
def xQ(g:cV ps):∀k,k<=14000->∀S∈aM (bj kd ps) k,nM kd ps k S/\g9 kd ps (a9 S):=
 Ln (Pv:=λk S=>nM kd ps k S/\g9 kd ps (a9 S)) 14000 ⟨⟨NI g,xz,xz⟩,by rw[Fc];exact .new⟩ (λ_ _ h=>⟨h.1.up,h.2⟩) λk S mv a h hm=>by
  obtain⟨f,r⟩:=h;have s:=E3 f.W (f.kd▸r.ok g) hm;rw[f.kd,f.ps]at s;exact⟨f.mv li hm,r.st s⟩
def afd(L:List Mc)(S:Mc):a9 S∈(jn L S).map a9:=by
 unfold jn
 split
 .assumption
 rw[dB];exact gh _ b9
theorem Xb:∀{mvs:List Mv}{L:List Mc}{mv:Mv},mv∈mvs->a9 (cJ S mv)∈(pS S L mvs).map a9
 | m::mvs,L,mv,h=>by
  obtain rfl|h:=bH.mp h
  .exact(SX a9<|MW (mvs:=mvs) (L:=jn L<|cJ S mv)).subset (afd L _)
  exact Xb (mvs:=mvs) (L:=jn L<|cJ S m) h
def Vv(g:cV ps)(b:k<=14000)(l:i<k)(e:(aM (bj kd ps) k)[i]?=a_ S)(s:lK kd ps (a9 S) V'):V'∈(aM (bj kd ps) k).map a9:=by
 obtain⟨hi,e⟩:=cb.mp e
 have c:i<(aM (bj kd ps) i).length:=tS λz=>by
  have st:=UL (S0:=bj kd ps) (k:=i) li<|k-i;rw[show i+(k-i)=k by lia]at st;rw[st]at hi;exact z hi
 obtain⟨f,d⟩:=xQ g k b S<|e ▸ tY hi;obtain⟨mv,hm,h⟩:=adF f.W (by rw[f.kd];exact d.ok g) (V:=V') (by rw[f.kd,f.ps];exact s)
 have j:(aM (bj kd ps) i)[i]?=a_ S:=by
  obtain⟨t,a⟩:=Cm _ i<|k-i;rw[show i+(k-i)=k by lia]at a;have:(aM (bj kd ps) k)[i]?=a_ S:=by rw[aL hi,e]
  rw[<-a,Bv c]at this;exact this
 have h2:V'∈(aM (bj kd ps)<|i+1).map a9:=by
  rw[Ab j,<-h];exact Xb hm
 have h3:=Cm (bj kd ps) (i+1)<|k-(i+1);rw[show i+1+(k-(i+1))=k by lia]at h3;exact(SX _ h3).subset h2
def ahg(g:cV ps)(a:k<=14000)(b:(aM (bj kd ps) k).length<=k){V:Vw}(h:g9 kd ps V):V∈(aM (bj kd ps) k).map a9:=by
 induction h with
 | new=>
  rw[<-Fc _ _];have:=(Cm (bj kd ps) 0 k).subset<|cO.mpr xz;rw[Nat.zero_add]at this;exact cj.mpr ⟨_,this,xz⟩
 | @st V V' r s ih=>
  obtain⟨S,c,rfl⟩:=cj.mp ih;obtain⟨i,hi,e⟩:=nR c;exact Vv g a (ip hi b) (by rw[aL hi,e]) s
def yL(ps:List Pt)(V:Vw):Prop:=∀(c:Nat)(x:Cv)(p:Pt),V.1[c]?=a_ x->ps[c]?=a_ p->x.1=p.length/\x.2.1=[]
noncomputable def PR(V:Vw):bD:=.tuple [.tuple (V.1.map λx=>.tuple<|x.2.2.map .int),.tuple<|V.2.map .int]
def Lb(S:Mc):i8 S=PR (a9 S):=by
 unfold i8 PR yI a9;rw[jh];rfl
def EW(W:ie S):jS S=c_↔yL S.ps (a9 S):=by
 constructor
 .intro h c x p g d;obtain⟨k,e,rfl⟩:=Mp g;obtain⟨a,b⟩:=Mf W h c k p e d;exact⟨a,by show k.es.map _=[];rw[b];rfl⟩
 intro h;refine lY.mpr λc i=>?_;have f:=nU.mp i;have e:=aL f;obtain⟨p,d⟩:∃p,S.ps[c]?=a_ p:=⟨_,aL<|by rw[<-W.len];exact f⟩;obtain⟨a,b⟩:=h c _ p (FU e) d;rw[Xd e d,eN (show S.ck[c].pl=p.length from a),eN<|Jv.mp b];rfl
def xV(g:cV ps)(b:k<=14000)(c:(aM (bj kd ps) k).length<=k):d∈gf (aM (bj kd ps) k)↔∃V,g9 kd ps V/\yL ps V/\d=PR V:=by
 constructor
 .intro h;obtain⟨S,h1,rfl⟩:=cj.mp h;obtain⟨h1,h2⟩:=gz.mp h1;obtain⟨f,r⟩:=xQ g k b S h1;exact⟨a9 S,r,by rw[<-f.ps];exact(EW f.W.wf).mp h2,Lb S⟩
 rintro⟨V,r,a,rfl⟩;obtain⟨S,h1,rfl⟩:=cj.mp<|ahg g b c r;obtain⟨f,_⟩:=xQ g k b S h1;exact cj.mpr ⟨S,gz.mpr ⟨h1,(EW f.W.wf).mpr<|by rw[f.ps];exact a⟩,Lb S⟩
def ahQ(g:cV ps){V:Vw}(h:g9 I_ ps V):g9 N_ ps V:=by
 induction h with
 | new=>exact .new
 | @st V V' r s ih=>
  have O:=r.ok g;cases s with
  | @act c x p s h1 hp hs rD=>
   have i:=O.no xz x<|aW h1
   by_cases z:s.1 = J_
   .have a:=ih.st<|.act h1 hp hs rD;have k:=(g.part p<|aW hp).2 s (aW hs)
    have hn:s.2.getD 0 0<12:=by
     cases k with
     | set n r h1 h2=>exact h1
     | put=>exact eu (show ("put":cr)="set" from z) dk
     | add=>exact eu (show ("add":cr)="set" from z) dk
     | look=>exact eu (show ("look":cr)="set" from z) dk
     | swap=>exact eu (show ("swap":cr)="set" from z) dk
     | clear=>exact eu z dk
     | skip=>exact eu (show ("skip":cr)="set" from z) dk
    have d:eY N_ s x.2.1 x.2.2=[(((s.2.getD 0 0:Nat):Int),x.2.2.getD (s.2.getD 1 0) 0)]:=by
     unfold eY;rw[ei z,ee dk,i];rfl
    have f:eY I_ s x.2.1 x.2.2=[]:=by unfold eY;rw[ei z,ei xz,i]
    have b:=a.st (.lh (kd:=N_) (c:=c) (n:=s.2.getD 0 0) (num:=x.2.2.getD (s.2.getD 1 0) 0) (x:=cR N_ s x V.2) (fQ<|(cb.mp h1).1) (by
     show (eY _ s _ _).find? _=_;rw[d,JL,show gI _ _=c_ from eN rfl]) hn λ_=>by
     show (eY _ s _ _).head?=_;rw[d];rfl)
    have e:(((V.1.set c<|cR N_ s x V.2,eE N_ s x.2.2 V.2):Vw).1.set c ((cR N_ s x V.2).1,(cR N_ s x V.2).2.1.eraseP<|gI<|s.2.getD 0 0,(cR N_ s x V.2).2.2),((V.1.set c<|cR N_ s x V.2,eE N_ s x.2.2 V.2):Vw).2.set (s.2.getD 0 0)<|x.2.2.getD (s.2.getD 1 0) 0)=((V.1.set c<|cR I_ s x V.2,eE I_ s x.2.2 V.2):Vw):=by
     show ((V.1.set c _).set c (_,(eY N_ s x.2.1 x.2.2).eraseP _,_),(eE N_ s x.2.2 V.2).set _ _)=(V.1.set c (_,eY I_ s x.2.1 x.2.2,_),eE I_ s x.2.2 V.2);rw[vC,d,f];unfold eE;rw[ei z,ee dk,ei z,ei xz,Td,show gI (s.2.getD 0 0) (((s.2.getD 0 0:Nat):Int),x.2.2.getD (s.2.getD 1 0) 0)=c_ from eN rfl];rfl
    rw[e]at b;exact b
   have d:cR I_ s x V.2=cR N_ s x V.2:=by
    unfold cR eY;rw[ee z,ee z]
   have f:eE I_ s x.2.2 V.2=eE N_ s x.2.2 V.2:=by
    unfold eE;rw[ee z,ee z]
   rw[d,f];exact ih.st<|.act h1 hp hs rD
  | @lh c n x num h1 j hn hr=>
   rw[O.no xz x<|aW h1]at j;cases j
def ae'{V:Vw}(h:g9 N_ ps V):g9 l_ ps V:=by
 induction h with
 | new=>exact .new
 | @st V V' r s ih=>
  refine ih.st ?_;rcases s with ⟨h1,a,b,c⟩|⟨h1,d,hn,g⟩
  ·have e:∀s x bd,cR N_ s x bd=cR l_ s x bd:=λs x bd=>by
    unfold cR eY;rw[ee (show ¬(N_ : cr) = I_ from dk),ee (show ¬(l_ : cr) = I_ from dk)]
   have f:∀s rg bd,eE N_ s rg bd=eE l_ s rg bd:=λs rg bd=>by
    unfold eE;rw[ee (show ¬(N_ : cr) = I_ from dk),ee (show ¬(l_ : cr) = I_ from dk)]
   rw[e,f];exact .act h1 a b c
  exact .lh h1 d hn λz=>eu z dk
def Sh(ps:List Pt)(c n:Nat):Prop:=∃(d:Nat)(p:Pt)(s:Tl),d≠c/\ps[d]?=a_ p/\s∈p/\(s.1 = J_/\s.2.getD 0 0=n\/s.1 = H_/\s.2.getD 1 0=n)
structure AL(kd:cr)(ps:List Pt)(R:Nat->Nat->Nat->Prop):Prop where
 cl:∀(c:Nat)(p:Pt)(i:Nat)(s:Tl)(rg:List Int)(m:Nat),ps[c]?=a_ p->p[i]?=a_ s->(s.1 = J_/\s.2.getD 0 0=m\/fE s=d_/\R c i m)->R c (eL s rg i) m
 lk:∀(c:Nat)(p:Pt)(i:Nat)(s:Tl)(m:Nat),ps[c]?=a_ p->p[i]?=a_ s->s.1 = K_->Sh ps c (s.2.getD 1 0)->R c i m->m=s.2.getD 1 0
 st:kd = l_->∀(c:Nat)(p:Pt)(i:Nat)(s:Tl)(m:Nat),ps[c]?=a_ p->p[i]?=a_ s->s.1 = J_->R c i m->m=s.2.getD 0 0
inductive gq (un:Nat->Prop) (p:Pt):Option Nat->List Int->Nat×List Int->Es->Nat×List Int->Prop
 | nil {o:Option Nat} {bd:List Int} {g:Nat×List Int}:gq un p o bd g [] g
 | AE {n:Nat} {bd:List Int} {g:Nat×List Int} {es:Es} {g':Nat×List Int} {s:Tl}:p[g.1]?=a_ s->s.1 ≠ "set"->fE s=d_->(s.1="look"->s.2.getD 1 0=n\/un (s.2.getD 1 0))->gq un p (a_ n) bd (eL s (iC s g.2 (bd.getD (s.2.getD 1 0) 0)) g.1,iC s g.2 (bd.getD (s.2.getD 1 0) 0)) es g'->gq un p (a_ n) bd g es g'
 | set {o:Option Nat} {bd:List Int} {g:Nat×List Int} {es:Es} {g':Nat×List Int} {s:Tl}:p[g.1]?=a_ s->s.1="set"->gq un p (a_ (s.2.getD 0 0)) (bd.set (s.2.getD 0 0) (g.2.getD (s.2.getD 1 0) 0)) (g.1+1,g.2) es g'->gq un p o bd g ((((s.2.getD 0 0:Nat):Int),g.2.getD (s.2.getD 1 0) 0)::es) g'
def WN{s:Tl}(h:s.1 ≠ K_)(k:fE s=d_)(rg:List Int)(v w:Int):iC s rg v=iC s rg w:=by
 unfold iC;rw[ee h,ee h];have h2:s.1 ≠ H_:=λz=>by unfold fE at k;rw[eN z]at k;cases k
 rw[ee h2,ee h2]
def L8{l:List Int}{n m:Nat}{v:Int}(hn:n<l.length):(l.set n v).getD m 0=if n=m then v else l.getD m 0:=by
 rw[eG,eG]
 by_cases e:n=m
 .subst e;rw[fQ hn,ei rfl];rfl
 rw[lC e,ee e]
def UW{l a:List Int}{n m:Nat}{v:Int}(h:l.length=a.length)(k:n=m\/l.getD m 0=a.getD m 0):(l.set n v).getD m 0=(a.set n v).getD m 0:=by
 by_cases hn:n<l.length
 .rw[L8 hn,L8 (by rw[<-h];exact hn)]
  split
  .rfl
  next z=>exact k.resolve_left z
 rw[aaP li,aaP li];obtain rfl|k:=k
 .rw[eG,eG,xt li,xt li]
 exact k
def gq.frame{un:Nat->Prop}{p:Pt}{o:Option Nat}{bd:List Int}{g g':Nat×List Int}{es:Es}(h:gq un p o bd g es g'):∀{a:List Int},bd.length=a.length->(∀m,un m->bd.getD m 0=a.getD m 0)->(∀n,o=a_ n->bd.getD n 0=a.getD n 0)->gq un p o a g es g':=by
 induction h with
 | nil=>exact λ_ _ _=>.nil
 | @AE n bd g es g' s h1 h2 h3 h4 _ ih=>
  intro a b c d
  have e:iC s g.2 (bd.getD (s.2.getD 1 0) 0)=iC s g.2 (a.getD (s.2.getD 1 0) 0):=by
   by_cases z:s.1 = K_
   .obtain y|y:=h4 z
    .rw[y,d n rfl]
    rw[c _ y]
   exact WN z h3 _ _ _
  refine .AE h1 h2 h3 h4 ?_;rw[<-e];exact ih b c d
 | @set o bd g es g' s h1 h2 _ ih=>
  intro a b c _;refine .set h1 h2 (ih (by rw[fe,fe];exact b) (λm hm=>UW b<|.inr<|c m hm) λn e=>?_);injection e with e
  exact UW b<|.inl e
noncomputable def uB(bd:List Int)(es:Es):List Int:=es.foldl (λb e=>b.set e.1.toNat e.2) bd
noncomputable def ye(o:Option Nat)(es:Es):Option Nat:=(es.getLast?.map λe=>e.1.toNat).or o
def adl(o:Option Nat)(n:Nat)(v:Int)(es:Es):ye o (((n:Int),v)::es)=ye (a_ n) es:=by
 unfold ye;rw[abk];cases es.getLast? <;> rfl
def gq.fT{un:Nat->Prop}(h:gq un p o bd g es g'):∀{a:Es}{g2:Nat×List Int},gq un p (ye o es) (uB bd es) g' a g2->gq un p o bd g (es++a) g2:=by
 induction h with
 | nil=>exact λh=>h
 | AE h1 h2 h3 h4 _ ih=>exact λh=>.AE h1 h2 h3 h4<|ih h
 | @set o bd g es g' s h1 h2 _ ih=>
  intro a g2 h;rw[adl]at h;exact .set h1 h2<|ih h
theorem VV{m:Nat}(hm:m<12):∀{es:Es}{bd:List Int},bd.length=12->(∀e∈es,∃n:Nat,n<12/\e.1=(n:Int))->(uB bd es).getD m 0=CN es bd m
 | [],_,_,_=>rfl
 | e::es,bd,hl,h=>by
  obtain⟨n,hn,a⟩:=h e b9;show (uB (bd.set e.1.toNat e.2) es).getD m 0=_;rw[(VV hm (es:=es) (bd:=bd.set e.1.toNat e.2) (by rw[fe];exact hl) λx b=>h x<|cx _ b)];unfold CN;rw[a,eP,L8 li,kL];unfold gI;rw[a]
  by_cases z:n=m
  .rw[ei z,ei (by rw[z];exact eN xz),abk];cases (es.filter λe=>decide<|e.1=(m:Int)).getLast? <;> rfl
  rw[ee z,ee (by simp;lia)]
def gq.V2{un:Nat->Prop}(h:gq un p b_ bd g [] g'):g=g':=by
 cases h;rfl
def gq.commit{un:Nat->Prop}(d:ps[c]?=a_ p)(h:gq un p o bd g es g'):∀{cs:List Cv},o≠b_->cs[c]?=a_ (g.1,[],g.2)->g9 I_ ps (cs,bd)->∃g2,g9 I_ ps (cs.set c (g2.1,[],g2.2),bd)/\gq un p b_ bd g2 es g':=by
 induction h with
 | @nil o bd g=>
  intro cs _ b r;exact⟨g,by rw[Ac b];exact r,.nil⟩
 | @AE n bd g es g' s h1 h2 h3 h4 _ ih=>
  intro cs _ b r;have f:s.1 ≠ H_:=λz=>by unfold fE at h3;rw[eN z]at h3;cases h3
  have a:=r.st (.act b d h1 λz=>rfl)
  have i:cR I_ s (g.1,[],g.2) bd=(eL s (iC s g.2<|bd.getD (s.2.getD 1 0) 0) g.1,[],iC s g.2<|bd.getD (s.2.getD 1 0) 0):=by
   have e:uH s [] bd=bd.getD (s.2.getD 1 0) 0:=by unfold uH;split <;> rfl
   unfold cR eY;rw[ee h2];rw[e]
  have j:eE I_ s g.2 bd=bd:=by
   unfold eE;rw[ee h2,ee f]
  have a:=a;rw[i,j]at a;obtain⟨g2,r2,l2⟩:=ih (λz=>by cases z) (fQ (cb.mp b).1) a;rw[vC]at r2;exact⟨g2,r2,l2⟩
 | @set o bd g es g' s h1 h2 hl _=>
  intro cs _ b r;exact⟨g,by rw[Ac b];exact r,.set h1 h2 hl⟩
abbrev Un(ps:List Pt)(c:Nat)(n:Nat):Prop:=¬Sh ps c n
structure vc(ps:List Pt)(V N:Vw):Prop where
 bd:N.2=V.2
 ln:N.1.length=V.1.length
 ck:∀(c:Nat)(x:Cv),V.1[c]?=a_ x->∃g p,N.1[c]?=a_ (g.1,[],g.2)/\ps[c]?=a_ p/\gq (Un ps c) p b_ V.2 g x.2.1 (x.1,x.2.2)
structure Hv(kd:cr)(R:Nat->Nat->Nat->Prop)(V:Vw):Prop where
 bd:V.2.length=12
 r:∀(c:Nat)(x:Cv),V.1[c]?=a_ x->∀e∈x.2.1,∃m:Nat,m<12/\e.1=(m:Int)/\R c x.1 m
 one:kd = l_->∀x∈V.1,∀e∈x.2.1,∀e'∈x.2.1,e.1=e'.1
def aip(kd:cr)(s:Tl)(rg bd:List Int):(eE kd s rg bd).length=bd.length:=by
 unfold eE
 split
 .split
  .exact fe ..
  rfl
 split
 .exact fe ..
 rfl
def VP{sz:Nat}(g:bY sz s)(z:s.1 = J_):s.2.getD 0 0<12/\fE s=false:=by
 cases g with
 | set n r h1 h2=>exact⟨h1,L0 _⟩
 | put=>exact eu (show ("put":cr)="set" from z) dk
 | add=>exact eu (show ("add":cr)="set" from z) dk
 | look=>exact eu (show ("look":cr)="set" from z) dk
 | swap=>exact eu (show ("swap":cr)="set" from z) dk
 | clear=>exact eu z dk
 | skip=>exact eu (show ("skip":cr)="set" from z) dk
def aeg{sz:Nat}(g:bY sz s)(z:s.1 = K_):s.2.getD 1 0<12:=by
 cases g with
 | look r n h1 h2=>exact h2
 | put=>exact eu (show ("put":cr)="look" from z) dk
 | add=>exact eu (show ("add":cr)="look" from z) dk
 | set=>exact eu (show ("set":cr)="look" from z) dk
 | swap=>exact eu (show ("swap":cr)="look" from z) dk
 | clear=>exact eu z dk
 | skip=>exact eu (show ("skip":cr)="look" from z) dk
section
variable{kd:cr}{ps:List Pt}{R:Nat->Nat->Nat->Prop}{V V' N:Vw}
def Hv.st(g:cV ps)(F:AL kd ps R)(h:Hv kd R V)(s:lK kd ps V V'):Hv kd R V':=by
 cases s with
 | @act c x p s h1 hp hs rD=>
  have o:=aW h1;have u:=(g.part p<|aW hp).2 s<|aW hs
  have i:∀e∈x.2.1,∃m:Nat,m<12/\e.1=(m:Int)/\R c (cR kd s x V.2).1 m:=λe b=>by
   obtain⟨m,hm,j,f⟩:=h.r c x h1 e b;refine⟨m,hm,j,F.cl c p _ s _ m hp hs<|.inr ⟨?_,f⟩⟩;rcases z:fE s with _|_;rfl;rw[rD z]at b;cases b
  have t:(∀e∈(cR kd s x V.2).2.1,∃m:Nat,m<12/\e.1=(m:Int)/\R c (cR kd s x V.2).1 m)/\(kd = l_->∀e∈(cR kd s x V.2).2.1,∀e'∈(cR kd s x V.2).2.1,e.1=e'.1):=by
   show (∀e∈eY _ s _ _,_)/\(kd = l_->∀e∈eY _ s _ _,∀e'∈eY _ s _ _,_);unfold eY
   by_cases z:s.1 = J_
   .rw[ei z]
    by_cases y:kd = I_
    .rw[ei y];exact⟨i,λq=>h.one q x o⟩
    rw[ee y];refine⟨λe b=>?_,λq=>?_⟩
    .obtain k|k:=ir.mp b
     .exact i e k
     rw[cO.mp k];exact⟨_,(VP u z).1,xz,F.cl c p _ s _ _ hp hs<|.inl ⟨z,xz⟩⟩
    have all:∀e∈x.2.1++[(((s.2.getD 0 0:Nat):Int),x.2.2.getD (s.2.getD 1 0) 0)],e.1=((s.2.getD 0 0:Nat):Int):=λe b=>by
     obtain k|k:=ir.mp b
     .obtain⟨m,_,j,f⟩:=h.r c x h1 e k;rw[j,F.st q c p x.1 s m hp hs z f]
     rw[cO.mp k]
    exact λe b e' l=>(all e b).fT (all _ l).g8
   rw[ee z];exact⟨i,λq=>h.one q x o⟩
  refine⟨(aip ..).fT h.bd,λd y a=>?_,λq y a=>?_⟩
  .by_cases e:c=d
   .subst e;have a:=a;rw[fQ (cb.mp h1).1]at a;cases a;exact t.1
   have a:=a;rw[lC e]at a;exact h.r d y a
  obtain k|k:=Cp a
  .exact h.one q y k
  rw[k];exact t.2 q
 | @lh c n x num h1 hf hn f=>
  refine⟨(fe ..).fT h.bd,λd y a=>?_,λq y a=>?_⟩
  .by_cases e:c=d
   .subst e;have a:=a;rw[fQ (cb.mp h1).1]at a;cases a;exact λe b=>h.r c x h1 e<|Jq b
   have a:=a;rw[lC e]at a;exact h.r d y a
  obtain k|k:=Cp a
  .exact h.one q y k
  rw[k];exact λe b e' l=>h.one q x (aW h1) e (Jq b) _<|Jq l
def Hv.new:Hv kd R (sG ps):=by
 refine⟨tV ..,λc x a e b=>?_,λ_ x a e b=>?_⟩
 .obtain⟨_,_,rfl⟩:=cj.mp<|aW a;cases b
 obtain⟨_,_,rfl⟩:=cj.mp a;cases b
def gq.inv{un:Nat->Prop}(h:gq un p b_ bd g l g'):l=[]\/∃s es,p[g.1]?=a_ s/\s.1 = J_/\l=(((s.2.getD 0 0:Nat):Int),g.2.getD (s.2.getD 1 0) 0)::es/\gq un p (a_<|s.2.getD 0 0) (bd.set (s.2.getD 0 0)<|g.2.getD (s.2.getD 1 0) 0) (g.1+1,g.2) es g':=by
 cases h with
 | nil=>exact .inl xz
 | set h1 h2 h3=>exact .inr ⟨_,_,h1,h2,xz,h3⟩
def gq.other(h:gq (Un ps d) p b_ bd g es g')(hn:Sh ps d n):gq (Un ps d) p b_ (bd.set n v) g es g':=
 h.frame (fe ..).g8 (λm hm=>by
  rw[eG,eG,lC (show n≠m from λe=>hm<|by rw[<-e];exact hn)]) λn z=>by cases z
def vc.st(g:cV ps)(T:kd = N_\/kd = l_)(F:AL kd ps R)(G:Hv kd R V)(S:vc ps V N)(r:g9 I_ ps N)(s:lK kd ps V V'):∃U,g9 I_ ps U/\vc ps V' U:=by
 have W:kd ≠ I_:=by rcases T with rfl | rfl <;> decide +kernel
 have put:∀{c:Nat}{x x':Cv}{g2:Nat×List Int}{p:Pt}{bd:List Int},V.1[c]?=a_ x->ps[c]?=a_ p->gq (Un ps c) p b_ bd g2 x'.2.1 (x'.1,x'.2.2)->(∀(d:Nat)(y:Cv)(q:Pt)(g:Nat×List Int),d≠c->gq (Un ps d) q b_ V.2 g y.2.1 (y.1,y.2.2)->gq (Un ps d) q b_ bd g y.2.1 (y.1,y.2.2))->vc ps (V.1.set c x',bd) (N.1.set c (g2.1,[],g2.2),bd):=λ{c x x' g2 p bd}h1 b f ho=>by
  have X:=(cb.mp h1).1;refine⟨xz,by rw[fe,fe,S.ln],λd y o=>?_⟩;have o:=o
  by_cases e:c=d
  .subst e;rw[fQ X]at o;cases o;exact⟨g2,p,fQ<|S.ln▸X,b,f⟩
  rw[lC e]at o;obtain⟨Y,q,h3,h4,h5⟩:=S.ck d y o;exact⟨Y,q,by rw[lC e];exact h3,h4,ho d y q Y (λz=>e z.g8) h5⟩
 have Z:N=(N.1,V.2):=by rw[<-S.bd]
 cases s with
 | @act c x p s h1 b j rD=>
  obtain⟨i,H,t,iV,f⟩:=S.ck c x h1;have ep:H=p:=by rw[b]at iV;exact(dj iV).g8
  subst ep;have gs:=(g.part _<|aW b).2 s<|aW j
  by_cases z:s.1 = J_
  .have A:eE kd s x.2.2 V.2=V.2:=by unfold eE;rw[ei z,ee W]
   have B:∀v,iC s x.2.2 v=x.2.2:=λv=>by
    unfold iC;rw[ee (by rw[z];decide +kernel),ee (by rw[z];decide +kernel),ee (by rw[z];decide +kernel),ee (by rw[z];decide +kernel)]
   have C:cR kd s x V.2=(x.1+1,x.2.1++[(((s.2.getD 0 0:Nat):Int),x.2.2.getD (s.2.getD 1 0) 0)],x.2.2):=by
    unfold cR eY eL;rw[B,ei z,ee W,ee λy=>eu (z.g8.fT y.1) dk]
   rw[A,C];exact⟨(N.1.set c _,V.2),by rw[Ac t,<-Z];exact r,put h1 b (f.fT<|.set j z .nil) λd y q g _ h=>h⟩
  by_cases k:x.2.1=[]
  .rw[k]at f;have eg:=f.V2
   have I:cR I_ s (x.1,[],x.2.2) V.2=cR kd s x V.2:=by
    unfold cR eY;rw[ee z,ee z,k]
   have M:eE I_ s x.2.2 V.2=eE kd s x.2.2 V.2:=by unfold eE;rw[ee z,ee z]
   have J:(cR kd s x V.2).2.1=[]:=by
    show eY _ s _ _=[];unfold eY;rw[ee z,k]
   have a:=r.st (.act t b (by rw[eg];exact j) λ_=>rfl);rw[S.bd,eg]at a;have a:=a;rw[I,M]at a;refine⟨_,by rw[show cR _ s x _=((cR _ s x _).1,[],(cR _ s x _).2.2) by rw[<-J]]at a;exact a,put (g2:=((cR kd s x V.2).1,(cR kd s x V.2).2.2)) h1 b (by rw[J];exact .nil) λd y q g hd h=>?_⟩;unfold eE;rw[ee z]
   split
   .next w=>exact h.other ⟨c,H,s,λe=>hd e.g8,b,aW j,.inr ⟨w,xz⟩⟩
   exact h
  have D:fE s=false:=by
   rcases y:fE s with _|_;rfl;exact eu (rD y) k
  have D9:s.1 ≠ H_:=λz=>by unfold fE at D;rw[eN z]at D;cases D
  have A:eE kd s x.2.2 V.2=V.2:=by unfold eE;rw[ee z,ee D9]
  have J:eY kd s x.2.1 x.2.2=x.2.1:=by unfold eY;rw[ee z]
  have nm:=λe he=>(show ∃n:Nat,n<12/\e.1=(n:Int) from (G.r c x h1 e he).imp λm h=>⟨h.1,h.2.1⟩)
  obtain⟨L,lS⟩:∃L,x.2.1.getLast?=a_ L:=by
   rcases e:x.2.1.getLast? with _|y;exact eu (List.getLast?_eq_none_iff.mp e) k;exact⟨y,xz⟩
  have anc:ye b_ x.2.1=a_ L.1.toNat:=by unfold ye;rw[lS];rfl
  have ev:iC s x.2.2 (uH s x.2.1 V.2)=iC s x.2.2 ((uB V.2 x.2.1).getD (s.2.getD 1 0) 0):=by
   by_cases w:s.1 = K_
   .unfold uH;rw[ei w,VV (aeg gs w) G.bd nm]
   exact WN w D _ _ _
  have C:cR kd s x V.2=(eL s (iC s x.2.2<|(uB V.2 x.2.1).getD (s.2.getD 1 0) 0) x.1,x.2.1,iC s x.2.2<|(uB V.2 x.2.1).getD (s.2.getD 1 0) 0):=by
   unfold cR;rw[J,ev]
  rw[A,C];refine⟨(N.1.set c _,V.2),by rw[Ac t,<-Z];exact r,put h1 b ?_ λd y q g _ h=>h⟩
  have t2:gq (Un ps c) H (ye b_ x.2.1) (uB V.2 x.2.1) (x.1,x.2.2) [] (eL s (iC s x.2.2<|(uB V.2 x.2.1).getD (s.2.getD 1 0) 0) x.1,iC s x.2.2<|(uB V.2 x.2.1).getD (s.2.getD 1 0) 0):=by
   rw[anc];refine .AE j z D (λw=>?_) .nil
   by_cases sh:Sh ps c (s.2.getD 1 0)
   .obtain⟨m,_,em,O⟩:=G.r c x h1 L<|List.mem_of_getLast? lS;exact .inl (by rw[em,eP];exact(F.lk c H x.1 s m b j w sh O).g8)
   exact .inr sh
  have:=f.fT t2;rw[qj]at this;exact this
 | @lh c n x num h1 u hn O=>
  obtain⟨i,p,t,b,f⟩:=S.ck c x h1
  obtain⟨rest,k⟩:∃rest,x.2.1=((n:Int),num)::rest:=by
   rcases e:x.2.1 with _|⟨a,l⟩
   ·rw[e]at u;cases u
   rw[e]at u;refine⟨l,fF (· :: l) ?_⟩;obtain q|q:=T
   .have h2:=O q;rw[e]at h2;exact dj h2
   have h2:=G.one q x (aW h1) a (by rw[e];exact b9) _ (by rw[e];exact Ew u);rw[JL,show gI n a=c_ from eN h2]at u;exact dj u
  rw[k]at f;have B:x.2.1.eraseP (gI n)=rest:=by rw[k,Td,show gI n _=c_ from eN rfl];rfl
  rw[B];obtain⟨s,es,j,z,Q,f⟩:=f.inv.resolve_left λw=>by cases w
  injection Q with Q M
  injection Q with E I
  have E:=Int.ofNat_inj.mp E;subst M;rw[<-E,<-I]at f
  have C:cR I_ s (i.1,[],i.2) V.2=(i.1+1,[],i.2):=by
   have B:∀v,iC s i.2 v=i.2:=λv=>by
    unfold iC;rw[ee (by rw[z];decide +kernel),ee (by rw[z];decide +kernel),ee (by rw[z];decide +kernel),ee (by rw[z];decide +kernel)]
   unfold cR eY eL;rw[B,ei z,ei xz,ee λy=>eu (z.g8.fT y.1) dk]
  have A:eE I_ s i.2 V.2=V.2.set n num:=by unfold eE;rw[ei z,ei xz,<-E,<-I]
  have a:=r.st (.act (kd:=I_) t b j λ_=>rfl);rw[S.bd]at a;have a:g9 I_ ps (N.1.set c<|cR I_ s (i.1,[],i.2) V.2,eE I_ s i.2 V.2):=a;rw[C,A]at a;obtain⟨g2,r2,l2⟩:=f.commit b (λw=>by cases w) (fQ (cb.mp t).1) a;rw[vC]at r2;exact⟨_,r2,put (x':=(x.1,rest,x.2.2)) h1 b l2 λd y q g hd h=>h.other ⟨c,p,s,λe=>hd e.g8,b,aW j,.inl ⟨z,E.g8⟩⟩⟩
def vc.new:vc ps (sG ps) (sG ps):=by
 refine⟨xz,xz,λc x a=>?_⟩;have b:(ps.map λ_=>((0,[],[0,0,0,0]):Cv))[c]?=a_ x:=a;rw[cc]at b;obtain⟨p,d,rfl⟩:=vt.mp b;exact⟨(0,[0,0,0,0]),p,a,d,.nil⟩
def agP(g:cV ps)(a:kd = N_\/kd = l_)(F:AL kd ps R)(h:g9 kd ps V):Hv kd R V/\∃N,g9 I_ ps N/\vc ps V N:=by
 induction h with
 | new=>exact⟨Hv.new,_,.new,vc.new⟩
 | st r s ih=>
  obtain⟨h,N,rN,S⟩:=ih;exact⟨h.st g F s,vc.st g a F h S rN s⟩
def adV(g:cV ps)(f:kd = N_\/kd = l_)(F:AL kd ps R)(h:g9 kd ps V)(a:∀x∈V.1,x.2.1=[]):g9 I_ ps V:=by
 obtain⟨_,N,r,S⟩:=agP g f F h
 have e:N=V:=by
  refine Prod.ext (JC λc=>?_) S.bd;rcases b:V.1[c]? with _|x;rw[xt (S.ln▸xp.mp b)];obtain⟨j,p,i,_,d⟩:=S.ck c x b;have ex:=a x<|aW b;rw[ex]at d;rw[i,d.V2,<-ex]
 rw[<-e];exact r
end
end TL
namespace L2
def iU(H:Hp)(l:e_)(xs:List V):Prop:=H l=a_ (.lst xs)\/H l=a_ (.tup xs)
def iU.same(h:iU H l xs)(s:ae H H'):iU H' l xs:=h.imp (s _ _)<|s _ _
def ZH(K:u_):R2:=λx y H Q=>AD K x y H Q\/wm K x y H Q
def NS(K:u_)(h:autoParam (X.K=K) a8):A5 X (ZH K):=by
 subst h;intro d e p_ s σ H x y v u Q I a b h c;obtain h|h:=h
 .exact bQ _ _ _ s _ H x y v u Q I a b h c
 exact bX _ _ _ s _ H x y v u Q I a b h c
def Nk{K:u_}(h:iU H l xs)(e:iQ xs i=a_ v)(q:Q v H):ZH K (.ref l) (.int i) H Q:=
 h.elim (λh=>.inl ⟨l,_,_,_,xz,xz,ag.of h,e,q⟩) λh=>.inr ⟨l,_,_,_,xz,xz,aq.of h,e,q⟩
end L2
namespace TL
open PySem.SeqAt L2 L3 L4
variable{P:k_}{w:j_}{K:u_}{mg:cr->Option f_}{gl:i_}
def jm.same(s:ae H H')(h:jm H v t):jm H' v t:=h.keep λ_ _ e=>s _ _ e
def IsPart.same(s:ae H H')(h:IsPart H v p):IsPart H' v p:=h.keep λ_ _ e=>s _ _ e
def iB.same(s:ae H H')(h:iB H v p):iB H' v p:=h.keep λ_ _ e=>s _ _ e
theorem Paired.at'{a b:Type}{F:a->b->Prop}:∀{l:List a}{m:List b}{i:Nat}{x:a},bt F l m->l[i]?=a_ x->∃y,m[i]?=a_ y/\F x y
 | _,_,_,_,.nil,h=>by simp at h
 | _,_,0,_,.cons h _,e=>by
  simp only[List.getElem?_cons_zero,xx]at e;subst e;exact⟨_,xz,h⟩
 | _,_,i+1,_,.cons _ t,e=>by
  rw[aaS]at e ⊢;exact Paired.at' t e
def Lw(s:ae H H')(h:H l=b_):ae H (db H' l o):=λb u e=>by
 rw[aj<|bf e h];exact s b u e
def aeH:rW J_ = a_ (.type J_):=dk
def aiK(P:k_)(w:j_)(K:u_)(a:X.calm=c_)(h1:autoParam (X.prog=P) a8)(h2:autoParam (X.w=w) a8)(h3:autoParam (X.K=K) a8):i7 X (.type J_) (YT P w K):=by subst h1 h2 h3;exact aeC a
def agN(P:k_)(w:j_)(a:X.calm=c_)(h1:autoParam (X.prog=P) a8)(h2:autoParam (X.w=w) a8):i7 X (.builtin "sorted") (XT P w):=by subst h1 h2;exact ack a
def agL:Sp:=λvs H Q _=>∃a p,vs=[.ref a,.int p]/\∀l,H l=b_->Q (.ref l) (db H l<|.lst [.int (p+1)])
def agK(K:u_):Sp:=λvs H Q _=>∃a C dx fs p q,vs=[.ref a,.int p]/\H a=a_ (.ins C dx fs)/\da K C/\bM K C Y_/\fs.lookup (Y_ : cr)=a_ (.int q)/\
 ∀H' l b,ae H H'->H l=b_->H' l=a_ (.lst<|b.map V.int)->iJ b (qL [p+1,q])->Q (.ref l) H'
def acw:aV ia ia (aP ET):=aZ
def ace(F:aQ K ac2 "Skip.nexts" ET f fd)(g:mg "sorted"=b_)(i:mg J_ = b_):aF P w K mg gl aE 1 f fd ia (agK K):=by
 refine F.ok acw λaH A _ s H vs Q E o h=>?_
 obtain⟨a,C,dx,fs,p,q,rfl,ha,cl,na,j,k⟩:=h;refine⟨_,ar<|aS<|bu (agN P w xz) xz g boot_sorted<|aa (fw (aiK P w K xz) xz i aeH<|aa (eC<|aa (bp jR (pv 1) ax)<|aa (a7 (pv 0) xz) af) af) af,⟨_,xz,_,_,xz,xz,_,xz,a,C,dx,fs,_,xz,ha,cl,na,j,by show 2<=bZ;decide,λl0 c=>⟨l0,[p+1,q],xz,ag.of ao,by show 2<4000;decide,λb d=>⟨b,_,xz,ao,?_,λl m e n=>?_⟩⟩⟩⟩
 .have:=V0 [p+1,q];simp only[eJ,List.length_nil]at this;omega
 have s1:ae H (db _ l<|.lst<|m.map V.int):=au (au (au (ae.refl _) c) d) e;exact λ_=>k _ l _ s1 ((au (au (ae.refl _) c) d).free e) ao n
def ag2:aV ia ia (aP FD):=aZ
def aft(F:aQ K ac2 "Step.nexts" FD f fd):aF P w K mg gl aE 1 f fd ia agL:=by
 refine F.ok ag2 λaH A _ s H vs Q E c h=>?_;obtain⟨a,p,rfl,k⟩:=h;exact⟨_,ar<|aS<|eC<|aa (bp jR (pv 1) ax) af,_,xz,_,_,xz,xz,by show 1<=bZ;decide,λl b=>k l b⟩
def ak5:Sp:=λvs H Q _=>∃a,vs=[.ref a]/\Q .aR H
def aiN:aV gw gw (aP GA):=aZ
def Cs(F:aQ K as4 "Step.sets" GA f fd):aF P w K mg gl aE 1 f fd gw ak5:=by
 refine F.ok aiN λaH A _ s H vs Q E b h=>?_;obtain⟨a,rfl,k⟩:=h;exact⟨_,ar<|aS pD,k⟩
def YN(K:u_)(nm:cr):Sp:=λvs H Q _=>∃a C dx fs v,vs=[.ref a]/\H a=a_ (.ins C dx fs)/\da K C/\bM K C nm/\fs.lookup nm=a_ v/\Q v H
def aiO:aV gw gw (aP GC):=aZ
def ahu(F:aQ K as4 "Set.sets" GC f fd):aF P w K mg gl aE 1 f fd gw (YN K l_):=by
 refine F.ok aiO λaH A _ s H vs Q E c h=>?_;obtain⟨a,C,dx,fs,v,rfl,ha,cl,na,b,k⟩:=h;exact⟨_,ar<|aS<|a7 (pv 0) xz,_,xz,a,C,dx,fs,v,xz,ha,cl,na,b,k⟩
def agZ:aV gw gw (aP FY):=aZ
def afn(F:aQ K as4 "Swap.sets" FY f fd):aF P w K mg gl aE 1 f fd gw (YN K l_):=by
 refine F.ok agZ λaH A _ s H vs Q E c h=>?_;obtain⟨a,C,dx,fs,v,rfl,ha,cl,na,b,k⟩:=h;exact⟨_,ar<|aS<|a7 (pv 0) xz,_,xz,a,C,dx,fs,v,xz,ha,cl,na,b,k⟩
structure Dz where
 (a6:nO)
 (wN Zd AY ZV ZU:e_)
 (PK NU PJ OM OL:jO)
structure lI(K:u_)(mg:cr->Option f_)(t:bh)(u:Dz):Prop where
 ob:yt K mg t u.a6
 sorted:mg "sorted"=b_
 set:mg J_ = b_
 an7:aQ K ac2 "Step.nexts" FD u.wN u.PK
 Qy:dn K u.PK ia []
 ajU:aQ K ac2 "Skip.nexts" ET u.Zd u.NU
 OV:dn K u.NU ia []
 alu:Meth K t.kX ac2 u.wN
 alv:Meth K t.kY ac2 u.wN
 als:Meth K t.i9 ac2 u.wN
 ajp:Meth K t.jF ac2 u.wN
 ajn:Meth K t.ky ac2 u.wN
 ahO:Meth K t.qG ac2 u.wN
 ajo:Meth K t.jE ac2 u.Zd
 De:aQ K as4 "Step.sets" GA u.AY u.PJ
 yJ:dn K u.PJ gw []
 alY:aQ K as4 "Set.sets" GC u.ZV u.OM
 PX:dn K u.OM gw []
 alW:aQ K as4 "Swap.sets" FY u.ZU u.OL
 PV:dn K u.OL gw []
 ak3:Meth K t.kX as4 u.AY
 ak4:Meth K t.kY as4 u.AY
 ak2:Meth K t.i9 as4 u.ZV
 aiG:Meth K t.jF as4 u.AY
 aiE:Meth K t.ky as4 u.ZU
 agJ:Meth K t.qG as4 u.AY
 aiF:Meth K t.jE as4 u.AY
def lI.st{K:u_}{mg:cr->Option f_}(T:lI K mg t u):su K mg t:=T.ob.st
def setB(s:Tl):Option Nat:=if s.1 = J_ then s.2.head? else b_
def kD(s:Tl)(i:Nat):List Nat:=if s.1 = T_ then [i+1,s.2.getD 1 0] else [i+1]
def mw(s:Tl):Option Nat:=if s.1 = K_ then s.2[1]? else b_
def oC(s:Tl):Option Nat:=if s.1 = J_ then s.2.head? else if s.1 = H_ then s.2[1]? else b_
def Dn(i:Nat)(s:Tl):L5.Sp:=⟨setB s,fE s,kD s i⟩
def Co(ns:List Nat):setB (V_,ns)=none:=by kernel_rfl
def Cq(ns:List Nat):setB (W_,ns)=none:=by kernel_rfl
def set_set(ns:List Nat):setB (J_,ns)=ns.head?:=by kernel_rfl
def B'(ns:List Nat):setB (K_,ns)=none:=by kernel_rfl
def B8(ns:List Nat):setB (H_,ns)=none:=by kernel_rfl
def BU(ns:List Nat):setB (M_,ns)=none:=by kernel_rfl
def B9(ns:List Nat):setB (T_,ns)=none:=by kernel_rfl
def LX(ns:List Nat):mw (V_,ns)=none:=by kernel_rfl
def aeV(ns:List Nat):oC (V_,ns)=none:=by kernel_rfl
def LZ(ns:List Nat):mw (W_,ns)=none:=by kernel_rfl
def aeW(ns:List Nat):oC (W_,ns)=none:=by kernel_rfl
def LW(ns:List Nat):mw (J_,ns)=none:=by kernel_rfl
def VN(ns:List Nat):oC (J_,ns)=ns.head?:=by kernel_rfl
def E4(ns:List Nat):mw (K_,ns)=ns[1]?:=by kernel_rfl
def adP(ns:List Nat):oC (K_,ns)=none:=by kernel_rfl
def KR(ns:List Nat):mw (H_,ns)=none:=by kernel_rfl
def UU(ns:List Nat):oC (H_,ns)=ns[1]?:=by kernel_rfl
def Kq(ns:List Nat):mw (M_,ns)=none:=by kernel_rfl
def acU(ns:List Nat):oC (M_,ns)=none:=by kernel_rfl
def KS(ns:List Nat):mw (T_,ns)=none:=by kernel_rfl
def adO(ns:List Nat):oC (T_,ns)=none:=by kernel_rfl
noncomputable abbrev nV(n:Nat):V:=.int (n:Int)
noncomputable def natOf:V->Nat
 | .int i=>i.toNat
 | _=>0
def afh{L:List Int}{a:List V}(h:a.Perm (L.map V.int))(g:∀x∈L,0<=x):∃ks:List Nat,a=ks.map nV/\(∀c:Nat,c∈ks↔(c:Int)∈L)/\ks.length=L.length:=by
 have b:∀v∈a,∃x∈L,0<=x/\v=V.int x:=λv b=>by
  obtain⟨x,f,e⟩:=cj.mp<|h.mem_iff.mp b;exact⟨x,f,g x f,e.g8⟩
 refine⟨a.map natOf,?_,λc=>⟨λd=>?_,λd=>cj.mpr ⟨V.int c,h.mem_iff.mpr<|cj.mpr ⟨_,d,xz⟩,by show ((c:Int)).toNat=c;omega⟩⟩,by rw[aA,h.length_eq,aA]⟩
 .rw[jh];refine((SM λv h1=>?_).fT<|List.map_id _).g8;obtain⟨x,_,h2,rfl⟩:=b v h1;show V.int ((x.toNat:Nat):Int)=V.int x;rw[SN h2]
 obtain⟨v,h1,e⟩:=cj.mp d;obtain⟨x,h2,h3,rfl⟩:=b v h1;have e:x.toNat=c:=e;rw[<-e,SN h3];exact h2
noncomputable def C8:Option Nat->V
 | none=>.aR
 | some n=>.int (n:Int)
def W7(T:lI K mg t u){sz:Nat}(g:bY sz s)(b:H z=a_ (.ins (cB t s.1) dx<|c9 (.ref a) s.1<|s.2.map λ(n:Nat)=>V.int (n:Int))):∃C:e_,gE K H (.ref z) (.ref C)/\v_ K (.ref C) (.ref t.i9)=a_ (setB s).isSome:=by
 refine aB (CH T.ob g b) λC ty c=>⟨C,ty,?_⟩;rw[c.ZM];cases g <;> kernel_rfl
def af3(T:lI K mg t u){sz:Nat}(g:bY sz s)(b:H z=a_ (.ins (cB t s.1) dx<|c9 (.ref a) s.1<|s.2.map λ(n:Nat)=>V.int (n:Int))):∃C:e_,gE K H (.ref z) (.ref C)/\v_ K (.ref C) (.ref t.jF)=a_ (mw s).isSome:=by
 refine aB (CH T.ob g b) λC ty c=>⟨C,ty,?_⟩;rw[c.YW];cases g <;> kernel_rfl
def afK{t:bh}{u:Dz}(T:lI K mg t u){z a dx:e_}{H:Hp}{s:Tl}{sz:Nat}(i:Nat)(g:bY sz s)(d:H z=a_ (.ins (cB t s.1) dx<|c9 (.ref a) s.1<|s.2.map λ(n:Nat)=>V.int (n:Int))):∃C f fd pn sp,H z=a_ (.ins C dx<|c9 (.ref a) s.1<|s.2.map λ(n:Nat)=>V.int (n:Int))/\da K C/\Meth K C ac2 f/\aF P w K mg gl aE 1 f fd pn sp/\dn K fd pn []/\∀(Q:VK)(E:XK),(∀l H'(b:List Nat),ae H H'->H l=b_->H' l=a_ (.lst<|b.map nV)->(∀c,c∈b↔c∈kD s i)->b.length<=2->Q (.ref l) H')->sp [.ref z,.int (i:Int)] H Q E:=by
 have one:∀{C:e_},cB t s.1=C->da K C->Meth K C ac2 u.wN->kD s i=[i+1]->∃C f fd pn sp,H z=a_ (.ins C dx<|c9 (.ref a) s.1<|s.2.map λ(n:Nat)=>V.int (n:Int))/\da K C/\Meth K C ac2 f/\aF P w K mg gl aE 1 f fd pn sp/\dn K fd pn []/\∀(Q:VK)(E:XK),(∀l H'(b:List Nat),ae H H'->H l=b_->H' l=a_ (.lst<|b.map nV)->(∀c,c∈b↔c∈kD s i)->b.length<=2->Q (.ref l) H')->sp [.ref z,.int (i:Int)] H Q E:=λ{C}e c m j=>
  ⟨C,_,_,_,_,e ▸ d,c,m,aft T.an7,T.Qy,λQ E q=>⟨z,(i:Int),xz,λl h=>q l _ [i+1] (au (ae.refl H) h) h ao (λc=>by rw[j]) (kr 1)⟩⟩
 cases g with
 | put=>exact one (Cw _) T.st.uv T.alu (by kernel_rfl)
 | add=>exact one (Cy _) T.st.sD T.alv (by kernel_rfl)
 | set=>exact one (vQ _) T.st.mz T.als (by kernel_rfl)
 | look=>exact one (xN _) T.st.m8 T.ajp (by kernel_rfl)
 | swap=>exact one (Cd _) T.st.ow T.ajn (by kernel_rfl)
 | clear=>exact one (E7 _) T.st.xW T.ahO (by kernel_rfl)
 | skip r m h1 h2 h3=>
  have d:=d;rw[Ce]at d;refine⟨_,_,_,_,_,d,T.st.qF,T.ajo,ace T.ajU T.sorted T.set,T.OV,λQ E q=>⟨z,_,dx,_,i,m,xz,d,T.st.qF,T.st.Gf,?_,λH' l b s1 h h4 k=>?_⟩⟩
  .show (c9 _ _ [V.int r,V.int m]).lookup _=a_ _
   kernel_rfl
  have hm:∀x,x∈qL [i+1,m]↔x=i+1\/x=m:=λx=>by rw[afm];simp
  obtain⟨ks,o,p,v⟩:=afh (k.map V.int) λx y=>by rcases(hm x).mp y with e | e <;> omega
  refine q l _ _ s1 h (o ▸ h4) (λc=>?_) (v▸V0 _);rw[p,hm,show kD _ i=[i+1,m] by kernel_rfl,bH,cO];omega
def agQ(T:lI K mg t u){sz:Nat}(g:bY sz s)(b:H z=a_ (.ins (cB t s.1) dx<|c9 (.ref a) s.1<|s.2.map λ(n:Nat)=>V.int (n:Int))):∃C f fd pn sp,H z=a_ (.ins C dx<|c9 (.ref a) s.1<|s.2.map λ(n:Nat)=>V.int (n:Int))/\da K C/\Meth K C as4 f/\aF P w K mg gl aE 1 f fd pn sp/\dn K fd pn []/\∀(Q:VK)(E:XK),Q (C8<|oC s) H->sp [.ref z] H Q E:=by
 cases g with
 | put r m h1 h2=>
  rw[aeV];have b:=b;rw[Cw]at b;exact⟨_,_,_,_,_,b,T.st.uv,T.ak3,Cs T.De,T.yJ,λQ E q=>⟨z,xz,q⟩⟩
 | add r m h1 h2=>
  rw[aeW];have b:=b;rw[Cy]at b;exact⟨_,_,_,_,_,b,T.st.sD,T.ak4,Cs T.De,T.yJ,λQ E q=>⟨z,xz,q⟩⟩
 | set r m h1 h2=>
  rw[VN];have b:=b;rw[vQ]at b;refine⟨_,_,_,_,_,b,T.st.mz,T.ak2,ahu T.alY,T.PX,λQ E q=>⟨z,_,dx,_,.int r,xz,b,T.st.mz,T.st.v5,?_,q⟩⟩;show (aJ Q_ (V.int (m:Int))<|aJ l_ (V.int (r:Int))<|aJ L_ (.ref a) []).lookup (l_ : cr)=a_ (V.int (r:Int));rw[dJ,ee dk,dJ,ei rfl]
 | look r m h1 h2=>
  rw[adP];have b:=b;rw[xN]at b;exact⟨_,_,_,_,_,b,T.st.m8,T.aiG,Cs T.De,T.yJ,λQ E q=>⟨z,xz,q⟩⟩
 | swap r m h1 h2=>
  rw[UU];have b:=b;rw[Cd]at b;refine⟨_,_,_,_,_,b,T.st.ow,T.aiE,afn T.alW,T.PV,λQ E q=>⟨z,_,dx,_,.int m,xz,b,T.st.ow,T.st.CF,?_,q⟩⟩;show (aJ l_ (V.int (m:Int))<|aJ Q_ (V.int (r:Int))<|aJ L_ (.ref a) []).lookup (l_ : cr)=a_ (V.int (m:Int));rw[dJ,ei rfl]
 | clear=>
  rw[acU];have b:=b;rw[E7]at b;exact⟨_,_,_,_,_,b,T.st.xW,T.agJ,Cs T.De,T.yJ,λQ E q=>⟨z,xz,q⟩⟩
 | skip r m h1 h2 h3=>
  rw[adO];have b:=b;rw[Ce]at b;exact⟨_,_,_,_,_,b,T.st.qF,T.aiF,Cs T.De,T.yJ,λQ E q=>⟨z,xz,q⟩⟩
def LY{t:bh}:(c9 (.ref a) K_ [V.int (r:Int),V.int (m:Int)]).lookup (l_ : cr)=a_ (V.int (m:Int)):=by
 show (aJ l_ (V.int (m:Int))<|aJ Q_ (V.int (r:Int))<|aJ L_ (.ref a) []).lookup (l_ : cr)=a_ (V.int (m:Int));rw[dJ,ei rfl]
def WH{t:bh}:(c9 (.ref a) J_ [V.int (r:Int),V.int (m:Int)]).lookup (l_ : cr)=a_ (V.int (r:Int)):=by
 show (aJ Q_ (V.int (m:Int))<|aJ l_ (V.int (r:Int))<|aJ L_ (.ref a) []).lookup (l_ : cr)=a_ (V.int (r:Int));rw[dJ,ee dk,dJ,ei rfl]
def FT(a b:Nat):EN (a:Int) (b:Int)=((a ||| b:Nat):Int):=by
 rw[bitOr_and,bitAnd_pp (xw a)<|xw b,eP,eP];have:=nat_or_add_and a b;omega
def Wq(a b:Nat):EL (a:Int) (b:Int)=((a &&& b:Nat):Int):=by
 rw[bitAnd_pp (xw a)<|xw b,eP,eP]
def Mz(m:Nat):(1:Int)*(2:Int)^(m:Int).toNat=((1 <<< m:Nat):Int):=by
 rw[eP,SV,Int.one_mul];simp
def iN(s:Tl)(a:Nat):Nat:=L5.behind ⟨setB s,fE s,[]⟩ a
def Nc:Sp:=λvs H Q _=>∃a m:Nat,vs=[nV a,nV m]/\m<12/\Q (nV<|a ||| (1 <<< m)) H
def aiL:aV hD hD (aP Of):=aZ
def ahw(F:aQ K "with_name" "with_name" Of f fd):aF P w K mg gl aE 1 f fd hD Nc:=by
 refine F.ok aiL λaH A _ s H vs Q E b h=>?_;obtain⟨a,m,rfl,hm,k⟩:=h;refine⟨_,ar<|aS<|bp GL (pv 0)<|bp As ax<|pv 1,⟨_,xz,_,xz,_,_,xz,xz,⟨om,om,qc⟩,_,_,xz,xz,?_⟩⟩;show Q (V.int<|EN (a:Int)<|(1:Int)*(2:Int)^(m:Int).toNat) H;rw[Mz,FT];exact k
def Kz:Sp:=λvs H Q _=>∃a b:Nat,vs=[nV a,nV b]/\Q (nV<|a-(a &&& b)) H
def adR:aV iv iv (aP Lx):=aZ
def ac5(F:aQ K "without_all" "without_all" Lx f fd):aF P w K mg gl aE 1 f fd iv Kz:=by
 refine F.ok adR λaH A _ s H vs Q E c h=>?_;obtain⟨a,b,rfl,k⟩:=h;refine⟨_,ar<|aS<|bp ai8 (pv 0)<|bp Gd (pv 0)<|pv 1,⟨_,xz,_,xz,_,xz,_,_,xz,xz,_,_,xz,xz,?_⟩⟩;have d:a &&& b<=a:=Nat.and_le_left;have e:(a:Int)-((a &&& b:Nat):Int)=((a-(a &&& b):Nat):Int):=om;show Q (V.int<|(a:Int)-EL (a:Int) (b:Int)) H;rw[Wq,e];exact k
def Nf(t:bh):Sp:=λvs H Q _=>∃(v:V)(s:Tl)(sz a:Nat),vs=[v,nV a]/\jU t H v s/\bY sz s/\Q (nV<|iN s a) H
def aiS:aV ["step",as8] ["step",as8] (aP Oj):=aZ
def ahB(T:lI K mg t u)(F:aQ K "names_behind" "names_behind" Oj f fd)(o:Dp P w K mg gl 1 "with_name" hD Nc):aF P w K mg gl aE 2 f fd ["step",as8] (Nf t):=by
 refine F.ok aiS λaH A _ s H vs Q E j h=>?_
 obtain⟨v,st,sz,n,rfl,⟨z,a,dx,rfl,d⟩,g,k⟩:=h;refine let b:TS:=_;⟨_,aw (bJ (dr<|LR (pv 0) j dh) (ar<|aS ax) b8)<|pR b<|aw (bJ (dr<|bu ji xz T.st.bl.iP jg<|aa (pv 0)<|aa (fh (v:=.ref _) xz T.st.GQ xz) af) (ar<|aS<|bN o j xz<|aa (pv 1)<|aa (a7 (pv 0) xz) af) b8)<|ar<|aS<|pv 1,?_⟩;obtain⟨D,ty,one⟩:=W7 T g d;obtain⟨C,p,x,pn,sp,y,cl,B,G,bi,q⟩:=Yq (P:=P) (w:=w) (gl:=gl) (mg:=mg) T.ob g d;refine⟨_,xz,z,C,dx,_,p,x,pn,sp,xz,y,vP R_ dk (.ref a) st.1 (st.2.map λ(n:Nat)=>V.int n),cl,B,G,bi,q _ _ ?_⟩
 refine⟨_,xz,jW (λi=>?_) λi=>?_⟩
 .have e:iN st n=0:=by unfold iN L5.behind;rw[ei i]
  rw[e]at k;exact k
 refine⟨_,xz,_,_,_,_,_,xz,ty,xz,one,_,xz,jW (λc=>?_) λc=>?_⟩
 .cases g with
  | set nm r h1 h2=>
   have l:H z=a_ (.ins (cB t J_) dx<|c9 (.ref a) J_ [V.int (nm:Int),V.int (r:Int)]):=d;rw[vQ]at l;refine⟨_,xz,_,xz,z,_,dx,_,.int _,xz,l,T.st.mz,T.st.v5,?_,n,nm,xz,h1,?_⟩
   .unfold c9;rw[ee dk,ee dk,ei xz,dJ,ee dk,dJ,ei rfl];rfl
   have e:iN (J_,[nm,r]) n=n ||| (1 <<< nm):=by unfold iN L5.behind;rw[L0,set_set];rfl
   rw[e]at k;exact k
  | put=>rw[Co]at c;cases c
  | add=>rw[Cq]at c;cases c
  | look=>rw[B']at c;cases c
  | swap=>rw[B8]at c;cases c
  | clear=>rw[BU]at c;cases c
  | skip=>rw[B9]at c;cases c
 have e:iN st n=n:=by
  unfold iN L5.behind;rw[i]
  have:setB st=none:=by cases h:setB st with
   | none=>rfl
   | some m=>rw[h]at c;cases c
  rw[this];rfl
 rw[e]at k;exact⟨_,xz,k⟩
def Ng(t:bh):Sp:=λvs H Q _=>∃(v:V)(s:Tl)(sz i:Nat)(l:e_)(row:List Nat),vs=[v,nV i,.ref l]/\jU t H v s/\bY sz s/\iU H l (row.map nV)/\i<row.length/\(∀a∈kD s i,a<row.length)/\
 ∀(b:e_)(H':Hp)(ks:List Nat),ae H H'->H b=b_->H' b=a_ (.lst<|ks.map nV)->(∀c,c∈ks↔c∈kD s i/\iN s (row.getD i 0)-(iN s (row.getD i 0) &&& row.getD c 0)≠0)->Q (.ref b) H'
def XI:aV ["step",Y_,N_,"behind"] kN (aP LG):=aZ
def aju:(["behind",N_,"after"]:List cr).Nodup:=dk
def qH{row:List Nat}{i:Nat}(h:i<row.length):iQ (row.map nV) (i:Int)=a_ (nV<|row.getD i 0):=by
 refine bA ?_;rw[cc,aL h,eG,aL h];rfl
def ahD(T:lI K mg t u)(F:aQ K "places_lacking" "places_lacking" LG f fd)(L:Dp P w K mg gl 2 "names_behind" ["step",as8] (Nf t))(M:Dp P w K mg gl 1 "without_all" iv Kz):aF P w K mg gl aE 3 f fd kN (Ng t):=by
 refine F.ok XI λaH A _ s H vs Q E o h=>?_
 obtain⟨v,st,sz,i,l,row,rfl,g,p,y,hi,O,k⟩:=h;have B:=o.mono (show 1<=2 by decide)
 refine let d:TS:=_;⟨_,aw (bC (i:=3) XI.nd xz (uo xz)<|bN L o xz<|aa (pv 0)<|aa (aN (NS K) (pv 2)<|pv 1) af) (pR d (ar (aS (eB (N:=["behind",N_,"after"]) (idx:=[3,2]) xz (cF.of<|by kernel_rfl) (eA<|az _)
   (kx<|ad0 (k:=1) (CX:=aE) (E:=E0) (P:=P) (w:=w) (K:=K) (mg:=mg) (gl:=gl) (pv 0) B dh<|aa (pv 1) af)
   (λ_ _ _ _=>bo (i:=2) aju xz (aI xz)<|.inr xz)
   (λ_ _ _ _=>xS<|b0 pH (bN M B xz<|aa (pv 0)<|aa (aN (NS K) (pv 1)<|pv 2) af) ax<|br _)
   λ_ _ _ _=>pv 2)))),?_⟩
 refine⟨_,xz,_,xz,_,xz,Nk y (qH hi) ⟨_,st,sz,_,xz,g,p,?_⟩⟩;obtain⟨z,a,dx,rfl,R⟩:=g;generalize S:iN _ _=b;obtain⟨C,U,W,pn,sp,X,cl,Y,G,bi,q⟩:=afK (P:=P) (w:=w) (gl:=gl) (mg:=mg) T i p R;refine⟨_,xz,z,C,dx,_,U,W,pn,sp,xz,X,vP ac2 dk (.ref a) st.1 (st.2.map λ(n:Nat)=>V.int n),cl,Y,G,bi,_,xz,q _ _ λZ H1 ns s1 n1 h1 D lP=>⟨Z,xz,⟨_,ag.of h1⟩,?_⟩⟩;have P':=y.same s1
 let ok:Nat->Bool:=λa=>decide<|b-(b &&& row.getD a 0)≠0
 refine dU (n:=(ns.map nV).length) (λm ys H'=>H'=H1/\ys=((ns.take m).filter ok).map nV) (cg<|cy<|by rw[aA];omega) ⟨xz,xz⟩ ?_ ?_ ?_ ?_ ?_
 .rintro m ys H' ⟨_,e⟩;rw[e,aA];have:=qe ok<|ns.take m;rw[eZ]at this;omega
 .rintro m ys H' j ⟨rfl,_⟩;exact⟨_,_,ag.of h1,aL j⟩
 .rintro ys H' ⟨rfl,_⟩;exact⟨_,ag.of h1,az _⟩
 .rintro m ys H' j ⟨rfl,e⟩ x eh ⟨eH,cU⟩;subst eH;have I:=cU _<|ag.of h1;rw[aA]at j;rw[cc,aL j]at I;cases I;have dg:=O _<|(D _).mp<|tY j;refine⟨_,xz,_,xz,_,xz,Nk P' (qH dg) ⟨b,_,xz,xz,_,xz,?_⟩⟩;have et:ns.take (m+1)=ns.take m++[ns[m]]:=by rw[iq,aL _];rfl
  rw[et,xv,dB];refine nv (λh=>?_) λh=>?_
  .have g:ok ns[m]=true:=eN λz=>h (by rw[z];rfl);refine⟨_,xz,xz,?_⟩;rw[e,Jo g];rfl
  have g:ok ns[m]=false:=eT λz=>z (by
   injection h with h
   omega)
  refine⟨xz,?_⟩;rw[e,Jp<|g▸dO];simp
 rintro ys H' ⟨rfl,e⟩;rw[aA,jf<|az _]at e;have RH:=qe ok ns;refine⟨by rw[e,aA];exact cg<|cy om,λr J=>k r _ (ns.filter ok) (au s1 J) (s1.free J) (by rw[ao,e]) λc=>?_⟩;rw[gz,D c,S];exact and_congr_right λ_=>decide_eq_true_iff
def GN{sz i:Nat}(g:bY sz s)(hi:i<sz):∀a∈kD s i,a<=sz:=λa ha=>by
 unfold kD at ha
 split at ha
 .rename_i h
  cases g with
  | skip r m h1 h2 h3=>
   obtain e|e:=bH.mp ha
   .omega
   rw[cO.mp e];exact h2
  | put=>exact eu (show ("put":cr)="skip" from h) dk
  | add=>exact eu (show ("add":cr)="skip" from h) dk
  | set=>exact eu (show ("set":cr)="skip" from h) dk
  | look=>exact eu (show ("look":cr)="skip" from h) dk
  | swap=>exact eu (show ("swap":cr)="skip" from h) dk
  | clear=>exact eu h dk
 .have:=cO.mp ha;omega
def FP(h:a<n):oN n (a:Int)=a_ a:=by
 unfold oN;rw[ei om,ei om,eP]
def oB(part:Pt):List L5.Sp:=part.mapIdx Dn
def Ff(part:Pt):(oB part).length=part.length:=by unfold oB;simp
def Wx{part:Pt}:(oB part)[i]?=part[i]?.map (Dn i):=by unfold oB;rw[List.getElem?_mapIdx]
def aio(s:Tl)(i a:Nat):L5.behind (Dn i s) a=iN s a:=rfl
def ahN(h:jU t H v s)(b:H l=a_ (.lst xs)):jU t (db H l o) v s:=by
 obtain⟨z,a,dx,e,h⟩:=h;refine⟨z,a,dx,e,?_⟩;rw[aj λq=>by rw[q,b]at h;cases h];exact h
def E2(row:List Nat):(row.map nV).map natOf=row:=by
 rw[jh];have:(natOf ∘ nV)=id:=by funext n;rfl
 rw[this,List.map_id]
def wK(lr:e_)(B:Nat)(σ:L2.St)(H:Hp):Nat:=match (σ[3]? : Option (Option V)),H lr with
 | some (a_ (V.bl c_)),a_ (HO.lst vs)=>1+B-(vs.map natOf).sum
 | _,_=>0
structure sX(t:bh)(part:Pt)(H0 H:Hp)(ls lr:e_)(iT:List V)(row:List Nat):Prop where
 same:ae H0 H
 new:H0 lr=b_
 steps:H ls=a_ (.lst iT)
 objs:bt (jU t H) iT part
 row:H lr=a_ (.lst<|row.map nV)
 ne:ls≠lr
def sX.grow{part:Pt}{ls lr:e_}{row:List Nat}(s:sX t part H0 H ls lr iT row)(e:ae H H'):sX t part H0 H' ls lr iT row:=
 ⟨s.same.fT e,s.new,e _ _ s.steps,Paired.bq s.objs λ_ _ q=>q.same e,e _ _ s.row,s.ne⟩
def sX.set{part:Pt}{ls lr:e_}{row:List Nat}(s:sX t part H0 H ls lr iT row)(a:List Nat):sX t part H0 (db H lr<|.lst<|a.map nV) ls lr iT a:=
 ⟨Lw s.same s.new,s.new,by rw[aj s.ne];exact s.steps,Paired.bq s.objs λ_ _ q=>ahN q s.row,ao,s.ne⟩
structure lL(n:Nat)(row:List Nat):Prop where
 len:row.length=n+1
 lt:∀x∈row,x<2^12
def lL.at'(s:lL n row)(i:Nat):row.getD i 0<2^12:=by
 rw[eG];rcases e:row[i]? with _|x;exact(by decide:0<2^12);exact s.lt x<|aW e
def lL.set(s:lL n row)(a:b<2^12):lL n (row.set c<|L5.g6 row c ||| b):=by
 refine⟨by rw[fe];exact s.len,λx d=>?_⟩;obtain q|q:=zw d
 .exact s.lt x q
 rw[q];exact abu (s.at' c) a
def lL.sum(s:lL n row):row.sum<=(n+1)*4096:=by
 have:∀(l:List Nat),(∀x∈l,x<2^12)->l.sum<=l.length*4096:=by
  intro l
  induction l with
  | nil=>simp
  | cons x l ih=>
   intro h;have h1:=h x (by simp);have h2:=ih λy a=>h y<|cx _ a;rw[List.sum_cons,eJ,TV];omega
 have:=this _ s.lt;rw[s.len]at this;exact this
def Yu{sz a:Nat}(g:bY sz s)(h:a<2^12):iN s a<2^12:=by
 unfold iN L5.behind
 split
 .decide
 cases g with
 | set n r h1 h2=>
  rw[set_set];refine abu h ?_;rw[SV];exact Nat.pow_lt_pow_right qc h1
 | put=>rw[Co];exact h
 | add=>rw[Cq];exact h
 | look=>rw[B'];exact h
 | swap=>rw[B8];exact h
 | clear=>rw[BU];exact h
 | skip=>rw[B9];exact h
def Hj(row:List Nat)(p:Pt):Prop:=row.length=p.length+1/\L5.NY (oB p) p.length row/\∀x∈row,x<2^12
def Zy:Sp:=λvs H Q _=>∃(v:V)(part:Pt),vs=[v]/\IsPart H v part/\part.length<=120/\(∀t∈part,bY part.length t)/\∀(b:V)(row:List Nat)(H':Hp),ae H H'->(∃a,b=.ref a/\H' a=a_ (.tup<|row.map nV))->Hj row part->Q b H'
def qO:aV [as0,"steps",N_,"grown",Y_,"step","behind","lacking","after"] hZ (aP MJ):=aZ
def WQ(n:Nat):(cQ n ([V.int 0]:List V)).flatten=(cQ n 0).map nV:=by
 induction n with
 | zero=>rfl
 | succ n ih=>rw[xu,EC,ih,xu];rfl
def alj{u:Dz}(T:lI K mg t u)(F:aQ K "marks_of_part" "marks_of_part" MJ f fd)(lS:mg "enumerate"=b_)(DB:Dp P w K mg gl 2 "names_behind" ["step",as8] (Nf t))(DL:Dp P w K mg gl 3 "places_lacking" kN (Ng t)):aF P w K mg gl aE 5 f fd hZ Zy:=by
 have GO:aF P w K _ gl _ 4 _ _ _ _:=BV T.st;refine F.ok qO λaH A _ s H vs Q E hr h=>?_
 obtain⟨v,part,rfl,⟨a,U,rfl,ha,yl⟩,hlen,hg,k⟩:=h;have nQ:=hr.mono (show 3<=4 by decide);have c8:=r_ yl
 refine let l:TS:=_;let p:TS:=_;let C:TS:=_;let D:TS:=_;let G:TS:=_;let I:TS:=_;let J:TS:=_;let L:TS:=_;let M:TS:=_;let O:TS:=_;⟨_,aw (BK (i:=1) (N:=["told"]) (idx:=[]) qO.nd xz xz xz (cF.of<|by kernel_rfl) (eA<|ba _) (mZ<|pv 0) (λ_ _ _ _=>bo (i:=0) WX xz (aI xz)<|.inr xz) (λ_ _ _ _=>eQ)
   λ_ _ _ _=>pB GO hr xz T.st.mO T.st.AW.kp T.st.bO .nil dh<|aa (pv 0) af)
  (pR O<|aw (bC (i:=2) qO.nd xz (aI xz)<|bp Ga (eC<|aa ax af)<|bp jR (bu dS xz T.st.bl.len q_<|aa (pv 0) af) ax)<|pR M<|aw (bC (i:=3) qO.nd xz (aI xz) gD)<|pR L<|aw (Fh hV (dr<|pv 3)<|pR I<|aw (bC (i:=3) qO.nd xz (aI xz) gD)<|pR G<|ar<|i3 hV xz (ui (b:=c_) xz lS<|aa (pv 1) af) (oo xz<|gU (bo (i:=4) qO.nd xz<|aI xz)<|gU (bo (i:=5) qO.nd xz<|aI xz) og)<|pR D<|aw (bC (i:=6) qO.nd xz (aI xz)<|bN DB (hr.mono (show 2<=4 by decide)) xz<|aa (pv 5)<|aa (aN bQ (pv 2)<|pv 4) af)<|pR C<|aw (bC (i:=7) qO.nd xz (aI xz)<|bN DL nQ xz<|aa (pv 5)<|aa (pv 4)<|aa (pv 2) af)<|pR p<|ar<|i3 hV xz (kx<|pv 7) (bo (i:=8) qO.nd xz<|aI xz)<|pR l<|aw (qD (bp GL (aN bQ (pv 2)<|pv 8)<|pv 6)<|sr (pv 2) (pv 8) set_list)<|ar<|bC (i:=3) qO.nd xz (aI xz) gD)<|pR J<|ar<|aS<|fw ma xz T.st.bl.tuple iY<|aa (pv 2) af),?_⟩
 refine⟨_,xz,a,xz,⟨_,aq.of ha⟩,dU (n:=U.length) (λi ys H'=>i<=U.length/\ae H H'/\bt (jU t H') ys (part.take i)) (cg<|cy om) ⟨ba _,ae.refl _,.nil⟩ ?_ ?_ ?_ ?_ ?_⟩
 .rintro i ys H' ⟨_,_,e⟩;rw[r_ e,eZ];omega
 .rintro i ys H' hi ⟨_,s1,_⟩;exact⟨_,U[i],aq.of<|s1 _ _ ha,aL _⟩
 .rintro ys H' ⟨_,s1,_⟩;exact⟨_,aq.of<|s1 _ _ ha,az _⟩
 .rintro i ys H' hi ⟨_,s1,e⟩ x eh ⟨eH,cU⟩;subst eH;obtain⟨td,ke,b,rfl,hb⟩:=Paired.at' yl<|cU _<|aq.of<|s1 _ _ ha;have gt:=hg _<|aW ke;refine⟨_,xz,b,td.1,td.2.map λ(n:Nat)=>V.int n,xz,s1 _ _ hb,BX gt,⟨by rw[aA];have:=gt.len;omega,λy hy=>?_⟩,λz dx H2 s2 _ hz=>⟨hi,s1.fT s2,?_⟩⟩
  .obtain⟨n,_,rfl⟩:=cj.mp hy;exact⟨_,xz⟩
  rw[iq,ke];exact Paired.snoc (Paired.bq e λ_ _ q=>q.same s2) ⟨z,b,dx,xz,hz⟩
 rintro iT H1 ⟨_,s1,yw⟩;rw[c8,jf<|az _]at yw;have hsl:=r_ yw;refine⟨by rw[hsl];exact cg<|cy om,λls iG=>?_⟩;have e1:=au (o:=.lst iT) (ae.refl _) iG;refine⟨qc,λl0 Rz=>?_⟩;have X:=au (o:=.lst [.int 0]) (ae.refl _) Rz;refine⟨_,xz,a,U,xz,.inr<|aq.of<|((s1.fT e1).fT X) _ _ ha,_,_,xz,xz,l0,_,_,xz,xz,ao,om,om,?_,λlr Rt=>?_⟩
 .rw[show ([V.int 0]:List V).length=1 from xz,fR];omega
 have elr:((U.length:Int)+1).toNat=(oB part).length+1:=by rw[Ff];omega
 have e3:=au (o:=.lst (cQ ((U.length:Int)+1).toNat [V.int 0]).flatten) (ae.refl _) Rt
 have st0:sX t part H (db (db (db H1 ls<|.lst iT) l0<|.lst [.int 0]) lr<|.lst (cQ ((U.length:Int)+1).toNat [V.int 0]).flatten) ls lr iT (cQ ((oB part).length+1) 0):=by
  refine⟨((s1.fT e1).fT X).fT e3,((s1.fT e1).fT X).free Rt,e3 _ _<|X _ _ ao,Paired.bq yw λ_ _ q=>q.same<|(e1.fT X).fT e3,?_,?_⟩
  .rw[ao,WQ,elr]
  exact bf (X _ _ ao) Rt
 generalize db _ _ _=H2 at st0
 let B:Nat:=((oB part).length+1)*4096
 refine Vt (λσ H'=>∃(row:List Nat)(g:Bool)(Y Z x6 x7 x8:Option V),σ=[a_ (.ref a),a_<|.ref ls,a_<|.ref lr,a_<|.bl g,Y,Z,x6,x7,x8]/\sX t part H H' ls lr iT row/\lL part.length row/\(g=d_->L5.NY (oB part) (oB part).length row))
  (wK lr B) ⟨_,c_,b_,b_,b_,b_,b_,xz,st0,⟨by rw[tV,Ff],λx hx=>by rw[Sz hx];decide⟩,λz=>by cases z⟩ ?_ ?_
 .rintro σ H3 ⟨W,g,Y,Z,x6,x7,x8,rfl,DJ,Ic,Qx⟩;refine⟨_,xz,g,xz,?_⟩;rcases g with _|_;exact eU ⟨_,xz,lr,_,xz,.inl ⟨ag.of DJ.row,λq hq=>k (.ref q) W _ (DJ.same.fT<|au (ae.refl _) hq) ⟨q,xz,ao⟩ ⟨Ic.len,by have:=Qx rfl;rw[Ff]at this;exact this,Ic.lt⟩⟩⟩
  refine jq ?_;have hs0:=Ic.sum
  have Rp:wK lr B [a_ (V.ref a),a_<|V.ref ls,a_<|V.ref lr,a_<|V.bl c_,Y,Z,x6,x7,x8] H3=1+B-W.sum:=by
   unfold wK;rw[DJ.row];show 1+B-((W.map nV).map natOf).sum=_;rw[E2]
  refine⟨_,xz,ls,iT,xz,ag.of DJ.steps,x9 (n:=iT.length) (λj σ H'=>∃(row:List Nat)(g:Bool)(Y Z x6 x7 x8:Option V),σ=[a_ (.ref a),a_<|.ref ls,a_<|.ref lr,a_<|.bl g,Y,Z,x6,x7,x8]/\sX t part H H' ls lr iT row/\lL part.length row/\ ((g=d_/\row=W/\L5.NY (oB part) j W)\/(g=c_/\W.sum<row.sum))) ⟨W,d_,Y,Z,x6,x7,x8,xz,DJ,Ic,.inl ⟨xz,xz,λj s hj=>eu hj<|zH _⟩⟩ ?_ ?_ ?_ ?_⟩
  .rintro j σ H4 hj ⟨_,_,_,_,_,_,_,_,S,_⟩;exact⟨iT,iT[j],ag.of S.steps,aL hj⟩
  .rintro σ H4 ⟨_,_,_,_,_,_,_,_,S,_⟩;exact⟨iT,ag.of S.steps,az _⟩
  .rintro j σ H4 hj ⟨row,g,y4,y5,y6,y7,y8,rfl,S,A7,vn⟩ zt H5 ⟨r,x,bR,ez,eH,cU⟩;subst ez;subst eH;have hx:=cU iT<|ag.of S.steps;obtain⟨td,ke,hob⟩:=Paired.at' S.objs hx;have gt:=hg td<|aW ke;have IS:j<part.length:=om;have rm:=S.grow<|au (o:=.tup [.int j,x]) (ae.refl _) bR;have ij:=A7.len;have tK:j<row.length:=om;have QO:=hob.same<|au (o:=.tup [.int j,x]) (ae.refl _) bR;have p9:(oB part)[j]?=a_ (Dn j td):=by rw[Wx,ke];rfl
   refine⟨r,[.int j,x],xz,aq.of ao,xz,.int j,[x],xz,x,[],xz,xz,?_⟩;generalize db H4 r (.tup [.int j,x])=H6 at rm QO ⊢;refine⟨_,xz,_,xz,_,xz,lr,_,_,_,xz,xz,ag.of rm.row,qH tK,x,td,_,_,xz,QO,gt,⟨_,xz,_,xz,_,xz,x,td,_,j,lr,row,xz,QO,gt,.inl rm.row,tK,λa ha=>by have:=GN gt IS a ha;omega,λlk H7 zs s7 nk hk wG=>?_⟩⟩;have st4:=rm.grow s7;have vo:lk≠lr:=λz=>by rw[z,rm.row]at nk;cases nk
   generalize hb:iN td (row.getD j 0)=b at wG ⊢;have IZ:=hb ▸ Yu gt (A7.at' j);refine⟨_,xz,lk,xz,⟨_,ag.of hk⟩,Cc (xs:=zs.map nV) (λm σ H'=>∃(R:List Nat)(g':Bool)(y:Option V),σ=[a_ (.ref a),a_<|.ref ls,a_<|.ref lr,a_<|.bl g',a_<|.int j,a_ x,a_<|nV b,a_<|.ref lk,y]/\sX t part H H' ls lr iT R/\H' lk=a_ (.lst<|zs.map nV)/\lL part.length R/\ (m=0->R=row/\g'=g)/\(0<m->g'=c_/\row.sum<R.sum)) ⟨row,g,y8,xz,st4,hk,A7,λ_=>⟨xz,xz⟩,λz=>eu z<|mU _⟩ (λm σ H' _⟨_,_,_,_,_,h,_⟩=>ag.of h) ?_ ?_⟩
   .rintro m v σ H8 hv ⟨R,g',y,rfl,mE,hk5,vd,h0,h1⟩;rw[cc]at hv;cases ez:zs[m]? with
    | none=>rw[ez]at hv;cases hv
    | some c=>
     rw[ez]at hv;cases hv;obtain⟨RO,o7⟩:=(wG c).mp<|aW ez;have arK:=vd.len;have vp:c<R.length:=by have:=GN gt IS c RO;omega
     refine⟨_,xz,_,xz,lr,_,_,_,xz,xz,ag.of mE.row,qH vp,_,xz,_,_,xz,xz,⟨_,xz,_,xz,lr,_,_,c,xz,xz,mE.row,FP (by rw[aA];exact vp),?_⟩⟩
     have Dm:(R.map nV).set c (V.int<|EN ((R.getD c 0:Nat):Int) (b:Int))=(R.set c<|L5.g6 R c ||| b).map nV:=by
      rw[FT,qk]
     refine⟨R.set c<|L5.g6 R c ||| b,c_,a_<|nV c,xz,?_,?_,vd.set IZ,λz=>eu z<|Nat.succ_ne_zero _,λ_=>⟨xz,?_⟩⟩
     .have:=mE.set<|R.set c<|L5.g6 R c ||| b;rw[<-Dm]at this;exact this
     .rw[aj vo];exact hk5
     have aoP:=L5.sum_set (v:=L5.g6 R c ||| b) vp;have oZ:L5.g6 R c<=L5.g6 R c ||| b:=To
     by_cases IM:m=0
     .obtain⟨er,_⟩:=h0 IM;subst er;have:L5.g6 R c<L5.g6 R c ||| b:=L5.ale λz=>o7 (L5.without.mpr z)
      omega
     .have:=(h1 om).2;omega
   rintro σ H8 ⟨R,g',y,rfl,mE,hk5,vd,h0,h1⟩;rw[aA]at h0 h1;refine⟨R,g',_,_,_,_,_,xz,mE,vd,?_⟩
   by_cases IM:zs.length=0
   .obtain⟨er,eg⟩:=h0 IM;subst er;subst eg;obtain⟨tM,dR,RP⟩|⟨tL,Bh⟩:=vn
    .refine .inl ⟨tM,dR,?_⟩;subst dR;intro i' s' lR tG c hc
     by_cases e:i'<j
     .exact RP i' s' e tG c hc
     have e':i'=j:=om;subst e';rw[p9]at tG;cases tG;rw[<-L5.without];have ao2:=aaE IM;rw[ao2]at wG;have lU:=mt (wG c).mpr (by simp);rw[aio,show iN td (L5.g6 R i')=b from hb];exact tS λz=>lU ⟨hc,z⟩
    exact .inr ⟨tL,Bh⟩
   obtain⟨eg,qa⟩:=h1 om;refine .inr ⟨eg,?_⟩;obtain⟨_,dR,_⟩|⟨_,Bh⟩:=vn
   .rw[<-dR];exact qa
   omega
  rintro σ H4 ⟨row,g,y4,y5,y6,y7,y8,rfl,S,A7,vn⟩;refine⟨⟨row,g,y4,y5,y6,y7,y8,xz,S,A7,λtM=>?_⟩,?_⟩
  .obtain⟨_,dR,RP⟩|⟨tL,_⟩:=vn
   .rw[dR];have e:iT.length=(oB part).length:=by rw[Ff];exact hsl
    rw[<-e];exact RP
   rw[tL]at tM;cases tM
  rw[Rp];obtain⟨tM,_,_⟩|⟨tL,Bh⟩:=vn
  .rw[tM];show 0<_;omega
  rw[tL];unfold wK;rw[S.row];show 1+B-((row.map nV).map natOf).sum<_;rw[E2];have:=A7.sum;omega
 rintro σ H' Q1 Q2 hQ ⟨v,e,d,ed,q⟩;exact⟨v,e,d,ed,hQ _ _ q⟩
def yj(H:Hp)(v:V)(row:List Nat):Prop:=∃a,v=.ref a/\H a=a_ (.tup<|row.map nV)
def PZ(H:Hp)(v:V)(b:List (List Nat)):Prop:=∃a us,v=.ref a/\H a=a_ (.tup us)/\bt (yj H) us b
def yj.same(s:ae H H')(h:yj H v row):yj H' v row:=aB h λa e h=>⟨a,e,s _ _ h⟩
def Di(a:List (List Nat))(ps:List Pt):Prop:=bt Hj a ps
def Zx:Sp:=λvs H Q _=>∃(v:V)(ps:List Pt),vs=[v]/\iB H v ps/\cV ps/\∀(a:V)(b:List (List Nat))(H':Hp),ae H H'->PZ H' a b->Di b ps->Q a H'
def anI:aV hJ hJ (aP Nr):=aZ
def ahV{v0:Option V}{n:Nat}{h:List V->Hp->Prop}(j:bt (IsPart H) bc ps)(k:cV ps)(ha:H a=a_ (.tup bc))(f:ae H H1)(m:∀(x:V)(part:Pt)(b:Hp)(Q:VK),ae H b->IsPart b x part->part.length<=120->(∀t∈part,bY part.length t)->(∀(g:V)(row:List Nat)(H':Hp),ae b H'->yj H' g row->Hj row part->Q g H')->te (σ0.set n<|a_ x) b Q)(o:∀(us:List V)(c:List (List Nat))(b:Hp),ae H1 b->bt (yj b) us c->Di c ps->us.length<=4->h us b):C0 (QB K a) (hX n) jo te σ0 H1 h:=by
 have r:=r_ j;have s:=k.le;refine dU (n:=bc.length) (λi ys H'=>i<=bc.length/\ae H1 H'/\∃c,bt (yj H') ys c/\Di c (ps.take i)) (cg<|cy om) ⟨ba _,ae.refl _,[],.nil,.nil⟩ ?_ ?_ ?_ ?_ ?_
 .rintro i ys H' ⟨_,_,c,e,d⟩;rw[r_ e,r_ d,eZ];omega
 .rintro i ys H' hi ⟨_,s1,_⟩;exact⟨_,bc[i],aq.of<|(f.fT s1) _ _ ha,aL _⟩
 .rintro ys H' ⟨_,s1,_⟩;exact⟨_,aq.of<|(f.fT s1) _ _ ha,az _⟩
 .rintro i ys H' hi ⟨_,s1,c,e,d⟩ x B ⟨u,v⟩;subst u;obtain⟨p,l,y⟩:=Paired.at' j<|v _<|aq.of<|(f.fT s1) _ _ ha;obtain⟨z,g2⟩:=k.part p<|aW l;refine m x p _ _ (f.fT s1) (y.same<|f.fT s1) z g2 λg row b s2 A hm=>⟨hi,s1.fT s2,c++[row],Paired.snoc (Paired.bq e λ_ _ q=>q.same s2) A,?_⟩;rw[iq,l];exact Paired.snoc d hm
 rintro ys H' ⟨_,s1,c,e,d⟩;rw[r,jf<|az _]at d;refine o _ _ _ s1 e d ?_;rw[r_ e,r_ d];exact s
def ali(F:aQ K "marks" "marks" Nr f fd)(B:Bl mg)(d:Dp P w K mg gl 5 "marks_of_part" hZ Zy):aF P w K mg gl aE 6 f fd hJ Zx:=by
 refine F.ok anI λaH A _ s H vs Q E b h=>?_
 obtain⟨v,ps,rfl,⟨a,p,rfl,ha,e⟩,g,k⟩:=h
 refine⟨_,ar (aS (fw ma xz B.tuple iY (aa (eB (N:=[as0]) (idx:=[]) xz (cF.of<|by kernel_rfl) (eA<|ba _) (mZ<|pv 0)
  (λ_ _ _ _=>bo (i:=0) WY xz (aI xz)<|.inr xz) (λ_ _ _ _=>eQ) λ_ _ _ _=>bN d b xz<|aa (pv 0) af) af))),?_⟩
 refine⟨_,xz,a,xz,⟨_,aq.of ha⟩,ahV (v0:=b_) e g ha (ae.refl H) (λx part j t s2 l h1 h2 q=>⟨_,xz,x,part,xz,l,h1,h2,q⟩) λus u j s2 b hm y=>?_⟩;refine⟨cg<|cy om,λr m=>⟨r,us,xz,.inl ⟨ag.of ao,λq n=>?_⟩⟩⟩;have c:=au (o:=.tup us) (au (o:=.lst us) (ae.refl _) m) n;exact k _ _ _ (s2.fT c) ⟨q,us,xz,ao,Paired.bq b λ_ _ z=>z.same c⟩ hm
def agq(a k:Nat):(a/2^k) &&& 1=(a.testBit k).toNat:=by
 rw[Nat.and_one_is_mod,Nat.testBit_eq_decide_div_mod_eq];have:=Nat.mod_two_eq_zero_or_one<|a/2^k;rcases this with e | e <;> simp[e]
def se(e:x=y)(h:hX k y σ H Q):hX k x σ H Q:=by rw[e];exact h
def aim(a m:Nat):EL ((a:Int)/(2:Int)^(m:Int).toNat) 1=((a.testBit m).toNat:Int):=by
 have e:(a:Int)/(2:Int)^(m:Int).toNat=((a/2^m:Nat):Int):=by
  rw[eP];simp
 rw[e,show 1=((1:Nat):Int) from xz,Wq,agq]
def ain(b:Bool):decide (V.int (b.toNat:Int)=V.int 1)=b:=by cases b <;> decide
def Nh:Sp:=λvs H Q _=>∃a m:Nat,vs=[nV a,nV m]/\Q (.bl<|a.testBit m) H
def aiV:aV hD hD (aP Oo):=aZ
def ahG(F:aQ K "has_name" "has_name" Oo f fd):aF P w K mg gl aE 1 f fd hD Nh:=by
 refine F.ok aiV λaH A _ s H vs Q E b h=>?_;obtain⟨a,m,rfl,k⟩:=h;refine⟨_,ar<|aS<|jB c7 (bp Gd (bp ai9 (pv 0)<|pv 1) ax) ax<|br _,?_⟩;refine⟨_,xz,_,xz,_,_,xz,xz,(by omega),_,_,xz,xz,xz,?_⟩;show Q (.bl<|decide<|V.int (EL ((a:Int)/(2:Int)^(m:Int).toNat) 1)=V.int 1) H;rw[aim,ain];exact k
def Gx:Sp:=λvs H Q _=>∃a m:Nat,vs=[nV a,nV m]/\m<12/\Q (nV<|a-(a &&& (1 <<< m))) H
def ak7:aV hD hD (aP Pp):=aZ
def aje(F:aQ K "without_name" "without_name" Pp f fd)(b:Dp P w K mg gl 1 "without_all" iv Kz):aF P w K mg gl aE 2 f fd hD Gx:=by
 refine F.ok ak7 λaH A _ s H vs Q E c h=>?_;obtain⟨a,m,rfl,hm,k⟩:=h;refine⟨_,ar<|aS<|bN b c xz<|aa (pv 0)<|aa (bp As ax<|pv 1) af,⟨_,xz,_,xz,_,_,xz,xz,⟨om,om,qc⟩,a,1 <<< m,?_,k⟩⟩;show [V.int a,V.int<|1*2^(m:Int).toNat]=_;rw[Mz]
def aeI:rW "min"=a_ (.builtin "min"):=dk
def WC:Sp:=λvs H Q _=>∃a:Nat,vs=[nV a]/\a≠0/\a<4096/\∀(M:Nat)(H':Hp),ae H H'->M<12->a.testBit M=c_->(∀b,b<12->a.testBit b=c_->M<=b)->Q (nV M) H'
def ag5:aV [as8] [as8] (aP Nv):=aZ
def alA:(hD:List cr).Nodup:=dk
def ail(c:a≠0)(h:a<4096):∃k,k<12/\a.testBit k=true:=by
 apply tS;intro z;apply c;apply aa3;intro k;rw[Nat.zero_testBit]
 by_cases b:k<12
 .rcases e:a.testBit k with _|_;rfl;exact eu ⟨k,b,e⟩ z
 exact Nat.testBit_lt_two_pow (ip h<|by simpa using Nat.pow_le_pow_right (by decide:0<2) (Nat.le_of_not_lt b))
def afy(F:aQ K "least_name" "least_name" Nv f fd)(C:Cn mg)(l:mg "range"=b_)(o:mg "min"=b_)(p:Dp P w K mg gl 1 "has_name" hD Nh):aF P w K mg gl aE 2 f fd [as8] WC:=by
 refine F.ok ag5 λaH A _ s H vs Q E q h=>?_
 obtain⟨a,rfl,t,h4,k⟩:=h;obtain⟨O,u,rN⟩:=C.names
 refine⟨_,ar (aS (bu (aeD xz) xz o aeI (aa (eB (N:=[as8,l_]) (idx:=[0]) xz (cF.of<|by kernel_rfl) (eA<|az _) (kT xz l<|aa (fh (v:=.int 12) xz u rN) af)
  (λ_ _ _ _=>bo (i:=1) alA xz (aI xz)<|.inr xz) (λ_ _ _ _=>xS<|dr<|bN p q xz<|aa (pv 0)<|aa (pv 1) af) λ_ _ _ _=>pv 1) af))),?_⟩
 refine⟨12,xz,qc,qc,dU (n:=12) (λj ys H'=>H'=H/\ys=((List.range j).filter a.testBit).map nV) ?_ ?_ ?_ ?_ ?_ ?_ ?_⟩
 .exact cg (cy om)
 .exact⟨xz,xz⟩
 .rintro j ys H' ⟨_,e⟩;rw[e,aA];have:=qe a.testBit<|List.range j;rw[qh]at this;exact this
 .rintro j ys H' g _;exact g
 .rintro ys H' _;exact az _
 .rintro j ys H' g ⟨rfl,e⟩ x R ⟨y,ex⟩;subst y;subst ex;refine se (by rw[pj]) ?_;refine⟨_,xz,_,xz,a,j,xz,_,xz,jW (λh=>?_) λh=>?_⟩
  .refine⟨_,xz,xz,?_⟩;rw[qi,xv,dB,<-e,Jo h];rfl
  refine⟨xz,?_⟩;rw[qi,xv,dB,<-e,Jp<|h▸dO];simp
 rintro ys H' ⟨rfl,e⟩
 have S:ys.length<=12:=by
  rw[e,aA];have:=qe a.testBit<|List.range 12;rw[qh]at this;exact this
 refine⟨cg<|cy om,λr B=>?_⟩;have D:ys=(((List.range 12).filter a.testBit).map λ(n:Nat)=>(n:Int)).map V.int:=by rw[e,jh];rfl
 refine⟨r,((List.range 12).filter _).map λ(n:Nat)=>n,xz,ag.of (by rw[ao,D]),λz=>?_,λM G I=>?_⟩
 .obtain⟨b,c,d⟩:=ail t h4;have:b∈(List.range 12).filter a.testBit:=gz.mpr ⟨nU.mpr c,d⟩;rw[Jv]at z;rw[z]at this;cases this
 obtain⟨m,hm,rfl⟩:=cj.mp G;obtain⟨J,L⟩:=gz.mp hm;refine k m _ (au (ae.refl _) B) (nU.mp J) L λb c d=>?_;have:=I b<|cj.mpr ⟨b,gz.mpr ⟨nU.mpr c,d⟩,xz⟩;omega
def vX(part:Pt)(n:Nat):Bool:=part.any λs=>decide<|oC s=a_ n
def nD(ps:List Pt)(n i:Nat):List Nat:=(List.range i).filter λc=>vX (ps.getD c []) n
def uQ(ps:List Pt)(c n:Nat):Bool:=(nD ps n ps.length).any λo=>!decide (o=c)
def UK(ps:List Pt)(n i:Nat):nD ps n (i+1)=nD ps n i++(if vX (ps.getD i []) n=c_ then [i] else []):=by
 unfold nD;rw[qi,xv]
 congr 1
 by_cases h:vX (ps.getD i []) n=c_
 .rw[ei h,Jo (p:=λc=>vX (ps.getD c []) n) h];rfl
 rw[ee h,Jp (p:=λc=>vX (ps.getD c []) n) h];rfl
def Mn(ps:List Pt)(n i:Nat):(nD ps n i).length<=i:=by
 have h:=qe (λc=>vX (ps.getD c []) n)<|List.range i;rw[qh]at h;exact h
def ahr(o:Option Nat)(n:Nat):decide (C8 o=nV n)=decide (o=a_ n):=by
 rcases o with _|m;rfl
 by_cases h:m=n
 .subst h;simp[C8]
 .have:¬C8 (a_ m)=nV n:=λz=>h (by injection z with z;omega);rw[eT this,eT λz=>h (by injection z)]
def afk(o:Option Nat)(n:Nat):He (C8 o) (nV n)=true:=by cases o <;> rfl
def Zw:Sp:=λvs H Q _=>∃(v:V)(n:Nat)(part:Pt),vs=[v,nV n]/\IsPart H v part/\part.length<=120/\(∀t∈part,bY part.length t)/\∀H',ae H H'->Q (.bl<|vX part n) H'
def anH:aV [as0,l_] [as0,l_] (aP KH):=aZ
def alz:([l_,"told"]:List cr).Nodup:=dk
def alh(T:lI K mg t u)(F:aQ K "part_sets" "part_sets" KH f fd)(j:mg "any"=b_):aF P w K mg gl aE 5 f fd [as0,l_] Zw:=by
 have l:aF P w K _ gl _ 4 _ _ _ _:=BV T.st;refine F.ok anH λaH A _ s H vs Q E c h=>?_
 obtain⟨v,n,part,rfl,⟨a,vs,rfl,ha,d⟩,R,m,k⟩:=h
 refine⟨_,ar (aS (bu (Wo xz) xz j boot_any (aa (eB (N:=[l_,"told"]) (idx:=[1]) xz (cF.of<|by kernel_rfl) (eA<|az _)
  (mZ<|pv 0) (λ_ _ _ _=>bo (i:=1) alz xz (aI xz)<|.inr xz) (λ_ _ _ _=>eQ)
  λ_ _ _ _=>jB c7 (LR (P:=P) (w:=w) (K:=K) (mg:=mg) (gl:=gl) (k:=1) (CX:=aE) (E:=E0) (pB l c xz T.st.mO T.st.AW.kp T.st.bO .nil dh<|aa (pv 1) af) (c.mono qc) dh) (pv 0)<|br _) af))),?_⟩
 have S:=r_ d;refine⟨_,xz,a,xz,⟨vs,aq.of ha⟩,dU (n:=vs.length) (λi ys H'=>i<=vs.length/\ae H H'/\ys=(part.take i).map λs=>V.bl<|decide<|oC s=a_ n) ?_ ?_ ?_ ?_ ?_ ?_ ?_⟩
 .exact cg (cy om)
 .exact⟨ba _,ae.refl _,xz⟩
 .rintro i ys H' ⟨hi,_,e⟩;rw[e,aA,eZ];omega
 .rintro i ys H' hi ⟨_,s1,_⟩;exact⟨vs,vs[i],aq.of<|s1 _ _ ha,aL _⟩
 .rintro ys H' ⟨_,s1,_⟩;exact⟨vs,aq.of<|s1 _ _ ha,az _⟩
 .rintro i ys H' hi ⟨_,s1,e⟩ z U ⟨p,x⟩;subst p;obtain⟨td,g,b,rfl,B⟩:=Paired.at' d<|x vs<|aq.of<|s1 _ _ ha;have gt:=m _<|aW g;refine⟨_,xz,b,td.1,td.2.map λ(n:Nat)=>V.int n,xz,s1 _ _ B,BX gt,⟨by rw[aA];have:=gt.len;omega,λy D=>?_⟩,λo dx W s2 _ I=>?_⟩
  .obtain⟨n,_,rfl⟩:=cj.mp D;exact⟨_,xz⟩
  obtain⟨C,f,fd,pn,sp,J,cl,L,G,bi,q⟩:=agQ (P:=P) (w:=w) (gl:=gl) (mg:=mg) T gt I;refine⟨o,C,dx,_,f,fd,pn,sp,xz,J,vP _ dk _ _ _,cl,L,G,bi,q _ _ ⟨_,xz,afk _ _,hi,s1.fT s2,?_⟩⟩;rw[ahr,iq,g,dB,<-e];rfl
 rintro ys H' ⟨_,s1,e⟩;refine⟨?_,λr M=>?_⟩
 .rw[e,aA,eZ];have:=cy (n:=part.length) om;omega
 have O:ys=(part.map λs=>decide<|oC s=a_ n).map V.bl:=by
  rw[e,jf om,jh];rfl
 refine⟨r,part.map λs=>decide<|oC s=a_ n,xz,ag.of (by rw[ao,O]),?_⟩;rw[TZ];exact k _<|au s1 M
def Zu:Sp:=λvs H Q _=>∃(v:V)(n:Nat)(ps:List Pt),vs=[v,nV n]/\iB H v ps/\cV ps/\∀l H',ae H H'->H l=b_->H' l=a_ (.lst<|(nD ps n ps.length).map nV)->Q (.ref l) H'
def anF:aV [O_,l_] [O_,l_] (aP LD):=aZ
def X5:([l_,ac1,as0]:List cr).Nodup:=dk
def alf(F:aQ K "setters" "setters" LD f fd)(o:mg "enumerate"=b_)(q:Dp P w K mg gl 5 "part_sets" [as0,l_] Zw):aF P w K mg gl aE 6 f fd [O_,l_] Zu:=by
 refine F.ok anF λaH A _ s H vs Q E t h=>?_
 .obtain⟨v,n,ps,rfl,⟨a,vs,rfl,ha,c⟩,d,k⟩:=h
  refine⟨_,ar (aS (eB (N:=[l_,ac1,as0]) (idx:=[1]) xz (cF.of<|by kernel_rfl) (BN (az _)<|kr _)
   (ui (b:=d_) xz o<|aa (pv 0) af)
   (λ_ _ _ _=>oo xz<|gU (bo (i:=1) X5 xz (aI xz)<|.inr xz)<|gU (bo (i:=2) X5 xz (aI xz)<|.inr xz) og)
   (λ_ _ _ _=>xS<|dr<|bN q t xz<|aa (pv 2)<|aa (pv 0) af)
   λ_ _ _ _=>pv 1)),?_⟩
  have u:vs.length=ps.length:=r_ c;have L:=d.le;refine⟨_,xz,a,vs,xz,aq.of ha,?_⟩;refine dU (n:=vs.length) (λi ys H'=>i<=vs.length/\ae H H'/\ys=(nD ps n i).map nV) ?_ ?_ ?_ ?_ ?_ ?_ ?_
  .exact cg (cy om)
  .exact⟨ba _,ae.refl _,xz⟩
  .rintro i ys H' ⟨hi,_,e⟩;rw[e,aA];exact Mn ps n i
  .rintro i ys H' hi ⟨_,s1,_⟩;exact⟨vs,vs[i],aq.of<|s1 _ _ ha,aL hi⟩
  .rintro ys H' ⟨_,s1,_⟩;exact⟨vs,aq.of<|s1 _ _ ha,az _⟩
  .rintro i ys H' hi ⟨_,s1,e⟩ z M ⟨p,x,y,B,C,D⟩;subst B;subst C;obtain⟨part,g,G⟩:=Paired.at' c<|D vs<|aq.of<|s1 _ _ ha;have s2:ae H (db H' p<|.tup [.int i,x]):=au s1 y;obtain⟨I,J⟩:=d.part part<|aW g;have j:ps.getD i []=part:=by rw[eG,g];rfl
   refine⟨p,[.int i,x],xz,aq.of ao,xz,.int i,[x],xz,x,[],xz,xz,?_⟩;refine⟨_,xz,_,xz,x,n,part,xz,G.same s2,I,J,λO l=>⟨_,xz,jW (λh1=>?_) λh1=>?_⟩⟩
   .refine⟨_,xz,hi,s2.fT l,?_⟩;rw[UK,j,ei h1,dB,<-e];rfl
   .refine⟨hi,s2.fT l,?_⟩;rw[UK,j,h1,ee dO,qj];exact e
  .rintro ys H' ⟨_,s1,e⟩;refine⟨?_,λr m=>k r _ (au s1 m) (s1.free m) ?_⟩
   .rw[e,aA];have h1:=Mn ps n vs.length;have:=cy (n:=ps.length) om;omega
   .rw[ao,e,u]
def aiu(ps:List Pt)(fs:List Nat):Prop:=fs.length=ps.length/\∀c,c<ps.length->∀k,(fs.getD c 0).testBit k=(decide (k<12)&&uQ ps c k)
def Zl(ps:List Pt)(m j:Nat)(fs:List Nat):Prop:=fs.length=ps.length/\∀c,c<ps.length->∀k,(fs.getD c 0).testBit k=(decide (k<m\/(k=m/\c<j))&&uQ ps c k)
def YG:Sp:=λvs H Q _=>∃(v:V)(ps:List Pt),vs=[v]/\iB H v ps/\cV ps/\∀l H' fs,ae H H'->H l=b_->H' l=a_ (.lst<|fs.map nV)->aiu ps fs->Q (.ref l) H'
def CO:aV [O_,"found",l_,"clerks",ac1] hJ (aP MH):=aZ
def anY:(hZ:List cr).Nodup:=dk
def alD:([ac1,"setter"]:List cr).Nodup:=dk
def ajf(F:aQ K "names_of_others" "names_of_others" MH f fd)(B:Bl mg)(C:Cn mg)(eM:mg "range"=b_)(Qi:mg "any"=b_)(DS:Dp P w K mg gl 6 "setters" [O_,l_] Zu)(DW:Dp P w K mg gl 1 "with_name" hD Nc):aF P w K mg gl aE 7 f fd hJ YG:=by
 refine F.ok CO λaH A _ s H vs Q E hr h=>?_
 .obtain⟨v,ps,rfl,⟨a,D,rfl,ha,hv⟩,hg,k⟩:=h;obtain⟨uN,mN,rN⟩:=C.names;have dR:=hr.mono (show 1<=6 by decide);have hlen:D.length=ps.length:=r_ hv;have hle:=hg.le
  refine let b:TS:=_;let d:TS:=_;let g:TS:=_;let l:TS:=_;let p:TS:=_;⟨_,aw (BK (i:=1) (N:=[as0]) (idx:=[]) CO.nd xz xz xz (cF.of<|by kernel_rfl) (eA<|ba _) (mZ<|pv 0) (λ_ _ _ _=>bo (i:=0) anY xz (aI xz)<|.inr xz) (λ_ _ _ _=>eQ) λ_ _ _ _=>ax)
   (pR p (aw (i3 hV xz (kT xz eM<|aa (fh (v:=.int 12) xz mN rN) af) (bo (i:=2) CO.nd xz<|aI xz) (pR l (aw (bC (i:=3) CO.nd xz (aI xz)<|bN DS hr xz<|aa (pv 0)<|aa (pv 2) af) (pR g (ar (i3 hV xz (kT xz eM<|aa (bu dS xz B.len q_<|aa (pv 0) af) af) (bo (i:=4) CO.nd xz<|uo xz) (pR d (ar (bJ (dr (bu (Wo xz) xz Qi boot_any (aa (eB (N:=[ac1,"setter"]) (idx:=[4]) xz (cF.of<|by kernel_rfl) (eA<|az _) (kx<|pv 3) (λ_ _ _ _=>bo (i:=1) alD xz (aI xz)<|.inr xz) (λ_ _ _ _=>eQ)
       λ_ _ _ _=>jB pH (pv 1) (pv 0)<|br _) af)))
      (pR b<|ar<|qD (bN DW dR xz<|aa (aN bQ (pv 1)<|pv 4)<|aa (pv 2) af)<|sr (pv 1) (pv 4) set_list) b8)))))))))
   (ar<|aS<|pv 1))),?_⟩
  refine⟨_,xz,a,xz,⟨D,aq.of ha⟩,?_⟩;refine dU (n:=D.length) (λi ys H'=>H'=H/\ys=(cQ i 0).map nV) ?_ ?_ ?_ ?_ ?_ ?_ ?_
  .exact cg (cy om)
  .exact⟨xz,xz⟩
  .rintro i ys H' ⟨_,e⟩;rw[e,aA,tV];exact az _
  .rintro i ys H' hi ⟨rfl,_⟩;exact⟨D,D[i],aq.of ha,aL hi⟩
  .rintro ys H' ⟨rfl,_⟩;exact⟨D,aq.of ha,az _⟩
  .rintro i ys H' hi ⟨rfl,e⟩ z eh ⟨X,hz⟩;subst X;refine⟨xz,?_⟩;rw[aa4,dB,<-e];rfl
  rintro ys H' ⟨rfl,e⟩;refine⟨by rw[e,aA,tV];exact cg<|cy om,λx Y=>?_⟩;have s1:=au (o:=.lst ys) (ae.refl H') Y;have Bo:db H' x (.lst ys) x=a_ (.lst<|(cQ ps.length 0).map nV):=by rw[ao,e,hlen]
  generalize db H' x (.lst ys)=H1 at s1 Bo
  refine⟨12,xz,qc,qc,r6 (n:=12) (λm σ O=>∃(fs:List Nat)(Z x3 I:Option V),σ=[a_ (.ref a),a_<|.ref x,Z,x3,I]/\ae H' O/\O x=a_ (.lst<|fs.map nV)/\Zl ps m 0 fs)
   ⟨_,b_,b_,b_,xz,s1,Bo,by simp,λc t k=>?_⟩ ?_ ?_⟩
  .rw[eG,SD,ei t];simp
  .rintro m σ O hm ⟨fs,Z,x3,I,rfl,s2,S,⟨fl,fb⟩⟩;refine se (y:=nV m) (by show V.int (0+(m:Int))=V.int (m:Int);rw[pj]) ?_;refine⟨_,xz,_,xz,.ref a,m,ps,xz,⟨a,D,xz,s2 _ _ ha,Paired.bq hv λ_ _ q=>q.same s2⟩,hg,λlw H3 s3 nw hw=>?_⟩;have nlw:lw≠x:=λz=>by rw[z,S]at nw;cases nw
   refine⟨_,xz,a,D,xz,.inr<|aq.of<|s3 _ _<|s2 _ _ ha,_,xz,om,om,r6 (n:=_) (λj σ J=>∃(fs:List Nat)(I:Option V),σ=[a_ (.ref a),a_<|.ref x,a_<|nV m,a_<|.ref lw,I]/\ae H' J/\J x=a_ (.lst<|fs.map nV)/\J lw=a_ (.lst<|(nD ps m ps.length).map nV)/\Zl ps m j fs)
    ⟨fs,I,xz,s2.fT s3,s3 _ _ S,hw,fl,fb⟩ ?_ ?_⟩
   .rintro j σ J hj ⟨u,y4,rfl,s4,tN,L,⟨T,R⟩⟩;have oY:j<ps.length:=om;refine se (y:=nV j) (by show V.int (0+(j:Int))=V.int (j:Int);rw[pj]) ?_;refine⟨_,xz,lw,xz,⟨_,ag.of L⟩,?_⟩;have tu:=Mn ps m ps.length;refine dU (n:=(nD ps m ps.length).length) (λi ys G=>G=J/\ys=(((nD ps m ps.length).take i).map λo=>!decide (o=j)).map V.bl) ?_ ?_ ?_ ?_ ?_ ?_ ?_
    .exact cg (cy om)
    .exact⟨xz,xz⟩
    .rintro i ys G ⟨_,e⟩;rw[e,aA,aA,eZ];omega
    .rintro i ys G hi ⟨rfl,_⟩;exact⟨_,_,ag.of L,aL<|by rw[aA];exact hi⟩
    .rintro ys G ⟨rfl,_⟩;exact⟨_,ag.of L,by rw[aA];exact az _⟩
    .rintro i ys G hi ⟨rfl,e⟩ z eh ⟨X,hz⟩;subst X;have cX:=hz _<|ag.of L;rw[cc,aL hi]at cX;cases cX;refine⟨_,xz,_,xz,xz,xz,?_⟩;rw[iq,aL hi,abg,dB,dB,<-e];show ys++[V.bl (!decide (nV _=nV j))]=ys++[V.bl (!decide (_=j))]
     congr 3
     by_cases q:(nD ps m ps.length)[i]=j
     .rw[q];simp
     .rw[eT q,eT λz=>q (by injection z with z;omega)]
    .rintro ys G ⟨rfl,e⟩;rw[jf<|az _]at e;refine⟨by rw[e,aA,aA];exact cg<|cy om,λr bR=>?_⟩;have s5:=au (o:=.lst ys) (ae.refl G) bR;refine⟨r,_,xz,ag.of (by rw[ao,e]),_,xz,?_⟩;have U:=s5 _ _ tN;have yV:=s5 _ _ L;have wW:=s4.fT s5;generalize db G r (.lst ys)=H6 at U yV wW;rw[TZ];have eo:((nD ps m ps.length).any<|id ∘ λo=>!decide (o=j))=uQ ps j m:=rfl;rw[eo]
     have nb:∀c,c<ps.length->¬c=j->∀k,(u.getD c 0).testBit k=(decide (k<m\/(k=m/\c<j+1))&&uQ ps c k):=λc t hG k=>by
      rw[R c t k]
      congr 2
      simp only[eq_iff_iff];omega
     refine jW (λho=>?_) λho=>?_
     .have tK:j<u.length:=om;refine⟨_,xz,_,xz,x,_,_,_,xz,xz,ag.of U,qH tK,_,xz,_,m,xz,hm,?_⟩;refine⟨_,xz,_,xz,x,_,_,j,xz,xz,U,FP (by rw[aA];exact tK),?_⟩;have Dm:(u.map nV).set j (nV<|u.getD j 0 ||| (1 <<< m))=(u.set j<|u.getD j 0 ||| (1 <<< m)).map nV:=by rw[qk]
      rw[Dm];refine⟨u.set j<|u.getD j 0 ||| (1 <<< m),_,xz,Lw wW Y,ao,?_,by rw[fe];exact T,λc t k=>?_⟩
      .rw[aj nlw];exact yV
      .by_cases M:c=j
       .subst M;rw[eG,fQ tK];show (u.getD c 0 ||| 1 <<< m).testBit k=_;rw[Tn,L5.MY,R c t k]
        by_cases W:m=k
        .subst W;rw[ho];simp
        .have:decide (k<m\/(k=m/\c<c+1))=decide (k<m\/(k=m/\c<c)):=by
          congr 1
          simp only[eq_iff_iff];omega
         rw[this,eT W,Bool.or_false]
       .rw[eG,lC λz=>M z.g8,<-eG];exact nb c t M k
     .refine⟨u,_,xz,wW,U,yV,T,λc t k=>?_⟩
      by_cases M:c=j
      .subst M;rw[R c t k]
       by_cases W:k=m
       .subst W;rw[ho];simp
       .congr 2
        simp only[eq_iff_iff];omega
      .exact nb c t M k
   .rintro σ J ⟨u,y4,rfl,s4,tN,L,⟨T,R⟩⟩;refine⟨u,_,_,_,xz,s4,tN,T,λc t k=>?_⟩;rw[R c t k]
    congr 2
    simp only[eq_iff_iff];omega
  .rintro σ O ⟨fs,Z,x3,I,rfl,s2,S,⟨fl,fb⟩⟩;refine⟨_,xz,k x O fs s2 Y S ⟨fl,λc t k=>?_⟩⟩;rw[fb c t k]
   congr 2
   simp only[eq_iff_iff];omega
def QC(a:List (List Nat))(ps:List Pt):Prop:=bt (λ(row:List Nat)(p:Pt)=>row.length=p.length+1/\∀x∈row,x<4096) a ps
def ags{K:u_}:W.kitAny K (.type S_) [.type "list",.type S_]=a_ true:=by
 unfold W.kitAny;rw[NQ,show (if (iI S_==iI "list")=c_ then a_ c_ else if W.kitMeta "list"=c_ then (Tj S_).map (·.contains (.type "list")) else b_)=a_ d_ by decide +kernel];unfold W.kitAny;rw[NQ,ei dk]
def ZD:Sp:=λvs H Q _=>∃a xs,vs=[.ref a,.int (xs.length:Nat)]/\H a=a_ (.tup xs)/\∀H',ae H H'->Q (.bl c_) H'
def anL:aV ["thing","length"] ["thing","length"] (aP MN):=aZ
def alo(F:aQ K "has_length" "has_length" MN f fd)(B:Bl mg)(b:mg "list"=b_):aF P w K mg gl aE 1 f fd ["thing","length"] ZD:=by
 refine F.ok anL λaH A _ s H vs Q E e h=>?_
 .refine fk h λa xs c ha k=>?_;subst c;refine⟨_,ar<|aS<|m7 (bu aeF xz B.iP jg<|aa (pv 0)<|aa (fj<|aa (oh (v:=.ty "list") xz b r9 xz)<|aa (oh (v:=.ty S_) xz B.tuple iY xz) af) af)<|oq<|jB c7 (bu dS xz B.len q_<|aa (pv 0) af) (pv 1)<|br _,?_⟩;refine⟨_,xz,by show 2<=bZ;decide,λq d=>?_⟩;have s1:=au (o:=.tup [.ty "list",.ty S_]) (ae.refl H) d;refine⟨.ref a,q,_,_,_,_,xz,ao,.tup<|s1 _ _ ha,ags,_,xz,jq ⟨_,xz,a,xs,xz,.inr<|aq.of<|s1 _ _ ha,_,xz,xz,?_⟩⟩;show Q (.bl<|decide<|V.int (xs.length:Int)=V.int (xs.length:Int)) _;rw[eN rfl];exact k _ s1
def ZA:Sp:=λvs H Q _=>∃n:Nat,vs=[nV n]/\n<4096/\Q (.bl c_) H
def anK:aV hH hH (aP Ny):=aZ
def alm(F:aQ K "is_set_of_names" "is_set_of_names" Ny f fd)(C:Cn mg)(a:Dp P w K mg gl 1 Z_ hH Fy):aF P w K mg gl aE 2 f fd hH ZA:=by
 refine F.ok anK λaH A _ s H vs Q E b h=>?_
 .refine aY h λn c hn k=>?_;subst c;obtain⟨g,d,rN⟩:=C.names;refine⟨_,ar<|aS<|m7 (bN a b xz<|aa (pv 0) af)<|oq<|VX CP yc ax (pv 0)<|bp As ax<|fh (v:=.int 12) xz d rN,?_⟩;refine⟨_,xz,nV n,"int",xz,xz,_,xz,jq ?_⟩;refine⟨_,xz,_,_,xz,xz,_,xz,bK (λh=>⟨_,_,xz,xz,⟨qc,qc,qc⟩,_,_,xz,xz,?_⟩) λh=>eu (xw n) h⟩;have e:decide ((n:Int)<1*2^(12:Int).toNat)=true:=eN (by show (n:Int)<4096;lia);show Q (.bl<|decide<|(n:Int)<1*2^(12:Int).toNat) H;rw[e];exact k
def ZC:Sp:=λvs H Q _=>∃(v x:V)(ps:List Pt)(a:List (List Nat)),vs=[v,x]/\iB H v ps/\cV ps/\PZ H x a/\QC a ps/\∀H',ae H H'->Q (.bl c_) H'
def Pn:aV [O_,"paper",as0,N_] [O_,"paper"] (aP LL):=aZ
def afN:(hH:List cr).Nodup:=dk
def aln(F:aQ K "has_size" "has_size" LL f fd)(B:Bl mg)(O:Dp P w K mg gl 1 "has_length" ["thing","length"] ZD)(DI:Dp P w K mg gl 2 "is_set_of_names" hH ZA):aF P w K mg gl aE 3 f fd [O_,"paper"] ZC:=by
 refine F.ok Pn λaH A _ s H vs Q E R h=>?_
 .obtain⟨v,x,ps,S,ab,I,T,hx,U,k⟩:=h;subst ab;obtain⟨a,l,rfl,ha,I⟩:=I;obtain⟨b,us,rfl,r,W⟩:=hx;have X:=R.mono (show 1<=2 by decide);have hlen:l.length=ps.length:=r_ I;have D8:us.length=S.length:=r_ W;have RH:S.length=ps.length:=r_ U;have hle:=T.le
  refine let d:TS:=_;let g:TS:=_;⟨_,aw (bJ (jP<|dr<|bN O X xz<|aa (pv 1)<|aa (bu dS xz B.len q_<|aa (pv 0) af) af) (ar<|aS gD) b8) (pR g (aw (i3 hV xz (XX (b1:=d_) (b2:=d_) xz B.zip<|aa (pv 0)<|aa (pv 1) af) (oo xz<|gU (bo (i:=2) Pn.nd xz<|aI xz)<|gU (bo (i:=3) Pn.nd xz<|aI xz) og) (pR d (ar (bJ (PW.pt (pw_or (jP<|dr<|bN O X xz<|aa (pv 3)<|aa (bp jR (bu dS xz B.len q_<|aa (pv 2) af) ax) af) (pw_or1 (jP (dr (bu (Ag xz) xz B.all Cg (aa (eB (N:=["thing"]) (idx:=[]) xz (cF.of<|by kernel_rfl) (eA<|ba _) (mZ<|pv 3) (λ_ _ _ _=>bo (i:=0) afN xz (aI xz)<|.inr xz) (λ_ _ _ _=>eQ)
      λ_ _ _ _=>bN DI R xz<|aa (pv 0) af) af)))))))
     (ar<|aS gD) b8))))
   (ar<|aS gD))),?_⟩
  refine⟨_,xz,_,xz,a,l,xz,.inr<|aq.of ha,b,us,by show [V.ref b,V.int (l.length:Int)]=_;rw[show l.length=us.length by lia],r,λH1 s1=>⟨_,xz,eU ?_⟩⟩;refine⟨_,xz,_,xz,a,b,l,us,xz,aq.of<|s1 _ _ ha,aq.of<|s1 _ _ r,x9 (n:=l.length) (λj σ H'=>∃t u,σ=[a_ (.ref a),a_<|.ref b,t,u]/\ae H H') ⟨b_,b_,xz,s1⟩ ?_ ?_ ?_ ?_⟩
  .rintro j σ y Y ⟨t,u,rfl,s2⟩;exact⟨l,us,l[j],us[j]' li,aq.of<|s2 _ _ ha,aq.of<|s2 _ _ r,aL Y,aL li⟩
  .rintro σ y ⟨t,u,rfl,s2⟩;exact⟨l,us,aq.of<|s2 _ _ ha,aq.of<|s2 _ _ r,.inl<|az _⟩
  .rintro j σ y Y ⟨t,u,rfl,s2⟩ z H3 ⟨p,x1,y1,IK,ez,L,Q6⟩;subst ez;subst L;obtain⟨cU,oU⟩:=Q6 l us (aq.of<|s2 _ _ ha)<|aq.of<|s2 _ _ r;obtain⟨part,Z,C,M,rfl,w9,tH⟩:=Paired.at' I cU;obtain⟨row,bR,c,rfl,D⟩:=Paired.at' W oU;obtain⟨part2,kh,ij,kg⟩:=Paired.at' U bR;rw[Z]at kh;cases kh;have hql:M.length=part.length:=r_ tH;have c8:=(T.part part<|aW Z).1;have J:=au (o:=.tup [.ref C,.ref c]) s2 IK;refine⟨p,[.ref C,.ref c],xz,aq.of ao,xz,.ref C,[.ref c],xz,.ref c,[],xz,xz,?_⟩;generalize db y p (.tup [.ref C,.ref c])=H4 at J;refine⟨_,xz,_,xz,C,M,xz,.inr<|aq.of<|J _ _ w9,_,_,xz,xz,c,row.map nV,?_,J _ _ D,λH5 s5=>⟨_,xz,eU ?_⟩⟩
   .show [V.ref c,V.int<|(M.length:Int)+1]=_;rw[aA,ij,hql];rfl
   have G:=J.fT s5;refine⟨_,xz,c,xz,⟨_,aq.of<|G _ _ D⟩,dU (n:=row.length) (λi m H'=>H'=H5/\m=(row.take i).map λ_=>V.bl c_) ?_ ⟨xz,xz⟩ ?_ ?_ ?_ ?_ ?_⟩
   .exact cg (cy li)
   .rintro i m H' ⟨_,e⟩;rw[e,aA,eZ];lia
   .rintro i m H' hi ⟨rfl,_⟩;exact⟨_,nV row[i],aq.of<|G _ _ D,by rw[cc,aL hi];rfl⟩
   .rintro m H' ⟨rfl,_⟩;exact⟨_,aq.of<|G _ _ D,by rw[aA];exact az _⟩
   .rintro i m H' hi ⟨rfl,e⟩ z eh ⟨L,hz⟩;subst L;have cX:=hz _<|aq.of<|G _ _ D;rw[cc,aL hi]at cX;cases cX;refine⟨_,xz,row[i],xz,kg _<|tY hi,xz,?_⟩;rw[iq,aL hi,abg,dB,<-e];rfl
   .rintro m H' ⟨rfl,e⟩;rw[jf<|az _]at e;refine⟨by rw[e,aA];exact cg<|cy li,λq hq=>⟨q,row.map λ_=>c_,xz,ag.of (by rw[ao,e,jh];rfl),_,xz,?_⟩⟩;have e2:(row.map λ_=>c_).all id=true:=by simp
    rw[e2];exact eU ⟨_,_,xz,au G hq⟩
  .rintro σ y ⟨t,u,rfl,s2⟩;exact k y s2
def yd(s:Tl)(n:Nat)(g:Nat->Bool):Bool:=match mw s with
 | none=>d_
 | some m=>g m&&decide (n-(n &&& (1 <<< m))≠0)
def yn(s:Tl)(n:Nat)(a:Bool):Bool:=match setB s with
 | none=>d_
 | some m=>a&&decide (n-(n &&& (1 <<< m))≠0)
def HI(g:Nat->Bool)(b:Bool)(s:Tl)(i:Nat)(row:List Nat):Prop:=yd s (row.getD i 0) g=d_/\yn s (row.getD i 0) b=d_/\∀a∈kD s i,iN s (row.getD i 0)-(iN s (row.getD i 0) &&& row.getD a 0)=0
def Z1(H:Hp)(v:V)(p:Prop):Prop:=v=.aR/\p\/∃(x:cr)(n:Nat),jm H v (x,[n])
def X2(n:Nat):(!decide (V.int (n:Int)=V.int 0))=decide (n≠0):=by
 by_cases h:n=0
 .subst h;rfl
 .rw[eN h,eT λz=>h (by injection z with z;omega)];rfl
def ZZ(h:(a&&b)=c_):a=c_/\b=true:=by rw[jy]at h;exact h
def sub_lt(h:n<4096):n-(n &&& (1 <<< m))<4096:=om
def Zz(t:bh):Sp:=λvs H Q _=>∃(v:V)(s:Tl)(sz n a:Nat)(g:Nat->Bool),vs=[v,nV n,nV a]/\jU t H v s/\bY sz s/\(∀m,m<12->a.testBit m=g m)/\Q (.bl<|yd s n g) H
def anJ:aV jI jI (aP Nu):=aZ
def alk(T:lI K mg t u)(F:aQ K "is_look_at_fault" "is_look_at_fault" Nu f fd)(o:Dp P w K mg gl 1 "has_name" hD Nh)(p:Dp P w K mg gl 2 "without_name" hD Gx):aF P w K mg gl aE 3 f fd jI (Zz t):=by
 refine F.ok anJ λaH A _ s H vs Q E i h=>?_
 .obtain⟨v,st,sz,n,q,g,rfl,⟨z,a,dx,rfl,j⟩,l,x,k⟩:=h;have y:=i.mono (show 1<=2 by decide);refine⟨_,ar<|aS<|m7 (bu ji xz T.st.bl.iP jg<|aa (pv 0)<|aa (fh (v:=.ref t.jF) xz T.st.NL xz) af)<|m7 (bN o y xz<|aa (pv 2)<|aa (a7 (pv 0) xz) af)<|oq<|jB pH (bN p i xz<|aa (pv 1)<|aa (a7 (pv 0) xz) af) ax<|br _,?_⟩;obtain⟨B,ty,one⟩:=af3 T l j;refine⟨_,xz,_,_,_,_,_,xz,ty,xz,one,_,xz,jW (λb=>?_) λb=>?_⟩
  .cases l with
   | look r m h1 h2=>
    have c:H z=a_ (.ins (cB t K_) dx<|c9 (.ref a) K_ [V.int (r:Int),V.int (m:Int)]):=j;rw[xN]at c
    have k:Q (.bl<|g m&&decide (n-(n &&& (1 <<< m))≠0)) H:=by
     unfold yd at k;rw[E4]at k;exact k
    refine⟨_,xz,_,xz,z,_,dx,_,.int (m:Int),xz,c,T.st.m8,T.st.xZ,LY (t:=t),q,m,xz,_,xz,?_⟩;rw[x m h2];refine jW (λd=>?_) λd=>?_
    .rw[d,t8]at k;refine⟨_,xz,_,xz,z,_,dx,_,.int (m:Int),xz,c,T.st.m8,T.st.xZ,LY (t:=t),n,m,xz,h2,xz,?_⟩;show Q (.bl<|!decide (V.int ((n-(n &&& (1 <<< m)):Nat):Int)=V.int 0)) H;rw[X2];exact k
    .rw[d,xA]at k;exact k
   | put=>rw[LX]at b;cases b
   | add=>rw[LZ]at b;cases b
   | set=>rw[LW]at b;cases b
   | swap=>rw[KR]at b;cases b
   | clear=>rw[Kq]at b;cases b
   | skip=>rw[KS]at b;cases b
  .have e:yd st n g=false:=by
    unfold yd;cases h:mw st with
    | none=>rfl
    | some m=>rw[h]at b;cases b
   rw[e]at k;exact k
def Zv(t:bh):Sp:=λvs H Q _=>∃(v:V)(s:Tl)(sz n:Nat)(kd:cr),vs=[v,nV n,.str kd]/\jU t H v s/\bY sz s/\Q (.bl<|yn s n<|decide<|kd = l_) H
def anG:aV lb lb (aP Oh):=aZ
def ug(x y:cr):decide (V.str x=V.str y)=decide (x=y):=by
 by_cases h:x=y
 .rw[eN h,eN (by rw[h])]
 .rw[eT h,eT λz=>h<|str_inj z]
def alg(T:lI K mg t u)(F:aQ K "is_set_at_fault" "is_set_at_fault" Oh f fd)(j:Dp P w K mg gl 2 "without_name" hD Gx):aF P w K mg gl aE 3 f fd lb (Zv t):=by
 refine F.ok anG λaH A _ s H vs Q E l h=>?_
 .obtain⟨v,st,sz,n,kd,rfl,⟨z,a,dx,rfl,d⟩,g,k⟩:=h;refine⟨_,ar<|aS<|m7 (bu ji xz T.st.bl.iP jg<|aa (pv 0)<|aa (fh (v:=.ref t.i9) xz T.st.GQ xz) af)<|m7 (jB c7 (pv 2) cp<|br _)<|oq<|jB pH (bN j l xz<|aa (pv 1)<|aa (a7 (pv 0) xz) af) ax<|br _,?_⟩;obtain⟨o,ty,one⟩:=W7 T g d;refine⟨_,xz,_,_,_,_,_,xz,ty,xz,one,_,xz,jW (λb=>?_) λb=>?_⟩
  .cases g with
   | set m r h1 h2=>
    have i:H z=a_ (.ins (cB t J_) dx<|c9 (.ref a) J_ [V.int (m:Int),V.int (r:Int)]):=d;rw[vQ]at i
    have k:Q (.bl<|decide (kd = l_)&&decide (n-(n &&& (1 <<< m))≠0)) H:=by
     unfold yn at k;rw[set_set]at k;exact k
    refine⟨_,xz,xz,_,xz,?_⟩;rw[ug];refine jW (λc=>?_) λc=>?_
    .rw[c,t8]at k;refine⟨_,xz,_,xz,z,_,dx,_,.int (m:Int),xz,i,T.st.mz,T.st.v5,WH (t:=t),n,m,xz,h1,xz,?_⟩;show Q (.bl<|!decide (V.int ((n-(n &&& (1 <<< m)):Nat):Int)=V.int 0)) H;rw[X2];exact k
    .rw[c,xA]at k;exact k
   | put=>rw[Co]at b;cases b
   | add=>rw[Cq]at b;cases b
   | look=>rw[B']at b;cases b
   | swap=>rw[B8]at b;cases b
   | clear=>rw[BU]at b;cases b
   | skip=>rw[B9]at b;cases b
  .have e:yn st n (decide<|kd = l_)=false:=by
    unfold yn;cases h:setB st with
    | none=>rfl
    | some m=>rw[h]at b;cases b
   rw[e]at k;exact k
def ah2{sz:Nat}(g:bY sz s)(h:mw s=a_ m):m<12:=by
 cases g with
 | look r n h1 h2=>rw[E4]at h;cases h;exact h2
 | put=>rw[LX]at h;cases h
 | add=>rw[LZ]at h;cases h
 | set=>rw[LW]at h;cases h
 | swap=>rw[KR]at h;cases h
 | clear=>rw[Kq]at h;cases h
 | skip=>rw[KS]at h;cases h
def aiJ{sz:Nat}(g:bY sz s)(h:setB s=a_ m):m<12:=by
 cases g with
 | set n r h1 h2=>rw[set_set]at h;cases h;exact h1
 | put=>rw[Co]at h;cases h
 | add=>rw[Cq]at h;cases h
 | look=>rw[B']at h;cases h
 | swap=>rw[B8]at h;cases h
 | clear=>rw[BU]at h;cases h
 | skip=>rw[B9]at h;cases h
def V7{t:bh}{u:Dz}(T:lI K mg t u){z a dx:e_}{H:Hp}{s:Tl}{sz m:Nat}(g:bY sz s)(b:H z=a_ (.ins (cB t s.1) dx<|c9 (.ref a) s.1<|s.2.map λ(n:Nat)=>V.int (n:Int)))(h:mw s=a_ m\/setB s=a_ m):∃C fs,H z=a_ (.ins C dx fs)/\da K C/\bM K C l_/\fs.lookup (l_ : cr)=a_ (V.int (m:Int)):=by
 cases g with
 | look r n h1 h2=>
  rw[E4,B']at h;obtain h|h:=h
  .cases h;have b:H z=a_ (.ins (cB t K_) dx<|c9 (.ref a) K_ [V.int (r:Int),V.int (m:Int)]):=b;rw[xN]at b;exact⟨_,_,b,T.st.m8,T.st.xZ,LY (t:=t)⟩
  .cases h
 | set n r h1 h2=>
  rw[LW,set_set]at h;obtain h|h:=h
  .cases h
  .cases h;have b:H z=a_ (.ins (cB t J_) dx<|c9 (.ref a) J_ [V.int (m:Int),V.int (r:Int)]):=b;rw[vQ]at b;exact⟨_,_,b,T.st.mz,T.st.v5,WH (t:=t)⟩
 | put=>rw[LX,Co]at h;rcases h with h | h <;> cases h
 | add=>rw[LZ,Cq]at h;rcases h with h | h <;> cases h
 | swap=>rw[KR,B8]at h;rcases h with h | h <;> cases h
 | clear=>rw[Kq,BU]at h;rcases h with h | h <;> cases h
 | skip=>rw[KS,B9]at h;rcases h with h | h <;> cases h
def ZE(t:bh):Sp:=λvs H Q _=>∃(v:V)(s:Tl)(sz i:Nat)(l:e_)(row:List Nat)(b:Nat)(g:Nat->Bool)(kd:cr),vs=[v,nV i,.ref l,nV b,.str kd]/\jU t H v s/\bY sz s/\iU H l (row.map nV)/\i<row.length/\(∀a∈kD s i,a<row.length)/\(∀x∈row,x<4096)/\(∀m,m<12->b.testBit m=g m)/\
 ∀c H',ae H H'->Z1 H' c (HI g (decide<|kd = l_) s i row)->Q c H'
def Po:aV ["step",Y_,N_,"foreign",U_,as8,"lacking"] lp (aP LM):=aZ
def alp{t:bh}{u:Dz}(T:lI K mg t u){f:e_}{fd:jO}(F:aQ K "fault_at" "fault_at" LM f fd)(Y:Dp P w K mg gl 3 "is_look_at_fault" jI (Zz t))(Z:Dp P w K mg gl 3 "is_set_at_fault" lb (Zv t))(R:Dp P w K mg gl 2 "without_name" hD Gx)(S:Dp P w K mg gl 2 "least_name" [as8] WC)(DK:Dp P w K mg gl 3 "places_lacking" kN (Ng t)):aF P w K mg gl aE 4 f fd lp (ZE t):=by
 refine F.ok Po λaH A _ s H vs Q E D h=>?_
 .obtain⟨v,st,sz,i,l,row,fo,g,kd,rfl,y,p,U,hi,Rm,h4,RF,k⟩:=h;have G:=D.mono (show 2<=3 by decide);refine let c:TS:=_;let d:TS:=_;let o:TS:=_;⟨_,aw (bC (i:=5) Po.nd xz (aI xz)<|aN (NS K) (pv 2)<|pv 1)<|pR o<|aw (bJ (dr<|bN Y D xz<|aa (pv 0)<|aa (pv 5)<|aa (pv 3) af) (ar<|aS<|fj<|aa cp<|aa (bN S G xz<|aa (bN R G xz<|aa (pv 5)<|aa (a7 (pv 0) xz) af) af) af) b8)<|pR d<|aw (bJ (dr<|bN Z D xz<|aa (pv 0)<|aa (pv 5)<|aa (pv 4) af) (ar<|aS<|fj<|aa cp<|aa (bN S G xz<|aa (bN R G xz<|aa (pv 5)<|aa (a7 (pv 0) xz) af) af) af) b8)<|pR c<|aw (bC (i:=6) Po.nd xz (aI xz)<|bN DK D xz<|aa (pv 0)<|aa (pv 1)<|aa (pv 2) af)<|ar<|aS<|Fl (b0 c7 (bu dS xz T.st.bl.len q_<|aa (pv 6) af) ax<|br _) pD<|fj<|aa cp<|aa (aN bQ (pv 6) ax) af,?_⟩
  have I:row.getD i 0<4096:=by
   rw[eG,aL hi];exact h4 _<|tY hi
  refine⟨_,xz,_,xz,Nk U (qH hi) ?_⟩;have k:∀V H',ae H H'->Z1 H' V (HI g (decide<|kd = l_) st i row)->Q V H':=k;generalize W:row.getD i 0=n at I;refine⟨_,xz,_,xz,_,xz,v,st,sz,n,fo,g,xz,y,p,RF,_,xz,jW (λq=>?_) λq=>?_⟩
  .obtain⟨m,hm,hw⟩:∃m,mw st=a_ m/\n-(n &&& (1 <<< m))≠0:=by
    unfold yd at q;cases e:mw st with
    | none=>rw[e]at q;cases q
    | some m=>
     rw[e]at q;exact⟨m,xz,eF (ZZ q).2⟩
   obtain⟨z,a,dx,rfl,J⟩:=y;obtain⟨C,fs,L,cl,na,N⟩:=V7 T p J<|.inl hm;refine⟨_,xz,_,xz,z,C,dx,fs,_,xz,L,cl,na,N,n,m,xz,ah2 p hm,_,xz,hw,sub_lt I,λM O s1 hM hb hle=>⟨by show 2<=bZ;decide,λr B=>?_⟩⟩;exact k (.ref r) _ (au s1 B)<|.inr ⟨_,M,r,xz,ao⟩
  .refine⟨_,xz,_,xz,_,xz,v,st,sz,n,kd,xz,y,p,_,xz,jW (λx=>?_) λx=>?_⟩
   .obtain⟨m,hm,hw⟩:∃m,setB st=a_ m/\n-(n &&& (1 <<< m))≠0:=by
     unfold yn at x;cases e:setB st with
     | none=>rw[e]at x;cases x
     | some m=>
      rw[e]at x;exact⟨m,xz,eF (ZZ x).2⟩
    obtain⟨z,a,dx,rfl,J⟩:=y;obtain⟨C,fs,L,cl,na,N⟩:=V7 T p J<|.inr hm;refine⟨_,xz,_,xz,z,C,dx,fs,_,xz,L,cl,na,N,n,m,xz,aiJ p hm,_,xz,hw,sub_lt I,λM O s1 hM hb hle=>⟨by show 2<=bZ;decide,λr B=>?_⟩⟩;exact k (.ref r) _ (au s1 B)<|.inr ⟨_,M,r,xz,ao⟩
   .refine⟨_,xz,_,xz,_,xz,v,st,sz,i,l,row,xz,y,p,U,hi,Rm,λlk O ks s1 _ X RA=>?_⟩;refine⟨_,xz,lk,_,xz,.inl<|ag.of X,xz,_,xz,bK (λe=>?_) λe=>?_⟩
    .have e0:ks=[]:=by
      have:(ks.map nV).length=0:=by injection e with e;omega
      rw[aA]at this;exact aaE this
     refine k .aR O s1<|.inl ⟨xz,by rw[W];exact q,by rw[W];exact x,λa ha=>?_⟩;refine tS λz=>?_;have:=(RA a).mpr ⟨ha,z⟩;rw[e0]at this;cases this
    .cases ks with
     | nil=>exact eu xz e
     | cons b bs=>
      refine⟨_,xz,lk,_,_,nV b,xz,xz,ag.of X,bA (j:=0) xz,by show 2<=bZ;decide,λr B=>?_⟩;exact k (.ref r) _ (au s1 B)<|.inr ⟨_,b,r,xz,ao⟩
def age(F:wC K "fault" "fault" F7 f fd N_):dn K fd [O_,"paper",U_] []:=by
 refine zT F.ex λoc od T kV doc pm an aH ct jc d=>jk d λc1 d1 n1 p7 tk d=>C9 d λd lk i g=>?_;subst d;intro s us h e;obtain⟨a,b,c,z,_⟩:=(mC<|by rw[qj]at e;exact e);subst z;exact W.binds_K h xz g xz xz xz
def CM(ps:List Pt)(c i:Nat):Tl:=(ps.getD c []).getD i (M_,[])
def HH(ps:List Pt)(a:Bool)(b:List (List Nat))(c i:Nat):Prop:=HI (uQ ps c) a (CM ps c i) i<|b.getD c []
def Qr(ps:List Pt)(a:Bool)(b:List (List Nat))(c:Nat):Prop:=∀i,i<(ps.getD c []).length->HH ps a b c i
def amc(v:V)(p:Prop):Prop:=v=.aR/\p\/∃a,v=.ref a
def lW:Sp:=λvs H Q _=>∃(v x:V)(ps:List Pt)(a:List (List Nat))(kd:cr),vs=[v,x,.str kd]/\iB H v ps/\cV ps/\PZ H x a/\QC a ps/\∀b H',ae H H'->amc b (∀c,c<ps.length->Qr ps (decide<|kd = l_) a c)->Q b H'
def yA:aV [O_,"paper",U_,"foreign",ac1,as0,Y_,"told","found"] [O_,"paper",U_] (aP F7):=aZ
def anS(T:lI K mg t u)(F:wC K "fault" "fault" F7 f fd N_)(lS:mg "enumerate"=b_)(DZ:Dp P w K mg gl 3 "has_size" [O_,"paper"] ZC)(DO:Dp P w K mg gl 7 "names_of_others" hJ YG)(DA:Dp P w K mg gl 4 "fault_at" lp (ZE t)):aF P w K mg gl aE 8 f fd [O_,"paper",U_] lW:=by
 have GS:aF P w K mg gl aE 4 t.fO t.uY im (Ad t):=BV T.st;refine F.ok yA λaH A _ s H vs Q E Y h=>?_
 .obtain⟨v,x,ps,I,kd,rfl,Z,U,vg,Ec,k⟩:=h;obtain⟨a,D,rfl,ha,hv⟩:=id Z;obtain⟨b,xs,rfl,hb,D5⟩:=id vg;have nQ:=Y.mono (show 3<=7 by decide);have kg:=Y.mono (show 4<=7 by decide);have hlen:D.length=ps.length:=r_ hv;have hle:=U.le;refine let d:TS:=_;let e:TS:=_;let g:TS:=_;⟨_,aw (bJ (jP<|dr<|bN DZ nQ xz<|aa (pv 0)<|aa (pv 1) af) (ar<|aS<|fj<|aa cp af) b8)<|pR g<|aw (bC (i:=3) yA.nd xz (aI xz)<|bN DO Y xz<|aa (pv 0) af)<|pR e<|aw (i3 hV xz (ui (b:=d_) xz lS<|aa (pv 0) af) (oo xz<|gU (bo (i:=4) yA.nd xz<|aI xz)<|gU (bo (i:=5) yA.nd xz<|aI xz) og)<|ar<|i3 hV xz (ui (b:=d_) xz lS<|aa (pv 5) af) (oo xz<|gU (bo (i:=6) yA.nd xz<|aI xz)<|gU (bo (i:=7) yA.nd xz<|aI xz) og)<|pR d<|aw (bC (i:=8) yA.nd xz (aI xz)<|bN DA kg xz<|aa (pB GS kg xz T.st.mO T.st.AW.kp T.st.bO .nil dh<|aa (pv 7) af)<|aa (pv 6)<|aa (aN bX (pv 1)<|pv 4)<|aa (aN bQ (pv 3)<|pv 4)<|aa (pv 2) af)<|ar<|bJ (b0 ahs (pv 8) pD<|br _) (ar<|aS<|fj<|aa (aN bX (pv 8) ax)<|aa (pv 4)<|aa (pv 6)<|aa (aN bX (pv 8) ax) af) b8)<|ar<|aS pD,?_⟩;refine⟨_,xz,_,xz,_,_,ps,I,xz,Z,U,vg,Ec,λH1 s1=>⟨_,xz,eU ?_⟩⟩;refine⟨_,xz,_,ps,xz,Z.same s1,U,λR H2 fs s2 _ hf⟨fl,fb⟩=>?_⟩;have s12:=s1.fT s2;refine⟨_,xz,a,D,xz,aq.of<|s12 _ _ ha,x9 (n:=D.length) (λj σ H'=>∃x4 x5 J L M,σ=[a_ (.ref a),a_<|.ref b,a_<|.str kd,a_<|.ref R,x4,x5,J,L,M]/\ae H H'/\H' R=a_ (.lst<|fs.map nV)/\∀c,c<j->Qr ps (decide<|kd = l_) I c) ⟨b_,b_,b_,b_,b_,xz,s12,hf,λc N=>eu N<|zH _⟩ ?_ ?_ ?_ ?_⟩
  .rintro j σ O hj ⟨_,_,_,_,_,_,l,_⟩;exact⟨D,D[j],aq.of<|l _ _ ha,aL hj⟩
  .rintro σ O ⟨_,_,_,_,_,_,l,_⟩;exact⟨D,aq.of<|l _ _ ha,az _⟩
  .rintro j σ O hj ⟨x4,x5,J,L,M,rfl,l,Bn,iF⟩ z H4 ⟨r,y,W,ez,eH,oU⟩;subst ez;subst eH;have hy:=oU D<|aq.of<|l _ _ ha;obtain⟨part,dw,p,G,rfl,X,tH⟩:=Paired.at' hv hy;obtain⟨c8,jd⟩:=U.part part<|aW dw;have hql:G.length=part.length:=r_ tH;have ep:ps.getD j []=part:=by rw[eG,dw];rfl
   have hjp:j<ps.length:=om;have hxl:xs.length=I.length:=r_ D5;have arL:I.length=ps.length:=r_ Ec;have hxj:xs[j]?=a_ (xs[j]' li):=aL li;obtain⟨row,dR,rb,hxe,Bc⟩:=Paired.at' D5 hxj;obtain⟨part2,kh,hyn,hya⟩:=Paired.at' Ec dR;rw[dw]at kh;cases kh;have apN:I.getD j []=row:=by rw[eG,dR];rfl
   have aoI:iQ xs (j:Int)=a_ (.ref rb):=by rw[<-hxe];exact bA hxj
   have s4:=au (o:=.tup [.int j,.ref p]) l W;have tN:=(au (o:=.tup [.int j,.ref p]) (ae.refl O) W) _ _ Bn;refine⟨r,[.int j,.ref p],xz,aq.of ao,xz,.int j,[.ref p],xz,.ref p,[],xz,xz,?_⟩;generalize db O r (.tup [.int j,.ref p])=H5 at s4 tN;refine⟨_,xz,p,G,xz,aq.of<|s4 _ _ X,x9 (n:=G.length) (λi σ H'=>∃J L M,σ=[a_ (.ref a),a_<|.ref b,a_<|.str kd,a_<|.ref R,a_<|nV j,a_<|.ref p,J,L,M]/\ae H H'/\H' R=a_ (.lst<|fs.map nV)/\∀c,c<i->HH ps (decide<|kd = l_) I j c) ⟨J,L,M,xz,s4,tN,λc N=>eu N<|zH _⟩ ?_ ?_ ?_ ?_⟩
   .rintro i σ S hi ⟨_,_,_,_,B,_⟩;exact⟨G,G[i],aq.of<|B _ _ X,aL hi⟩
   .rintro σ S ⟨_,_,_,_,B,_⟩;exact⟨G,aq.of<|B _ _ X,az _⟩
   .rintro i σ S hi ⟨y6,y7,y8,rfl,B,zd,Qb⟩ z H7 ⟨r7,y7',IJ,ez,eH,cX⟩;subst ez;subst eH;obtain⟨td,ke,C,rfl,Rg⟩:=Paired.at' tH<|cX G<|aq.of<|B _ _ X;have gt:=jd td<|aW ke;have hip:i<part.length:=om;have est:CM ps j i=td:=by unfold CM;rw[ep,eG,ke];rfl
    have s7:=au (o:=.tup [.int i,.ref C]) B IJ;have zc:=(au (o:=.tup [.int i,.ref C]) (ae.refl S) IJ) _ _ zd;refine⟨r7,[.int i,.ref C],xz,aq.of ao,xz,.int i,[.ref C],xz,.ref C,[],xz,xz,?_⟩;generalize db S r7 (.tup [.int i,.ref C])=H8 at s7 zc;refine⟨_,xz,C,td.1,td.2.map λ(n:Nat)=>V.int (n:Int),xz,s7 _ _ Rg,BX gt,⟨by rw[aA];have:=gt.len;omega,λy hy=>?_⟩,λz dx H9 s9 _ hz=>?_⟩
    .obtain⟨n,_,rfl⟩:=cj.mp hy;exact⟨_,xz⟩
    have QE:=s7.fT s9;have hjf:j<fs.length:=om;refine⟨_,xz,_,xz,_,xz,b,_,_,_,xz,xz,aq.of<|QE _ _ hb,aoI,_,xz,_,xz,R,_,_,_,xz,xz,ag.of<|s9 _ _ zc,qH hjf,_,xz,?_⟩;refine⟨.ref z,td,part.length,i,rb,row,fs.getD j 0,uQ ps j,kd,xz,⟨z,C,dx,xz,hz⟩,gt,.inr<|QE _ _ Bc,li,λa ha=>by have:=GN gt hip a ha;lia,hya,λm hm=>?_,λv' H10 Il hat=>?_⟩
    .rw[fb j hjp m,eN hm,t8]
    have Z9:=QE.fT Il;obtain⟨rfl,hat⟩|⟨wd,n,q,rfl,hq⟩:=hat
    .refine⟨_,xz,xz,_,xz,eU ⟨_,_,_,xz,Z9,Il _ _<|s9 _ _ zc,λc N=>?_⟩⟩
     by_cases ec:c<i
     .exact Qb c ec
     .have:c=i:=om;subst this;unfold HH;rw[est,apN];exact hat
    .refine⟨_,xz,xz,_,xz,jq ?_⟩;refine⟨_,xz,q,_,_,.str wd,xz,xz,aq.of hq,bA (j:=0) xz,_,xz,_,xz,_,xz,q,_,_,nV n,xz,xz,aq.of hq,bA (j:=1) xz,by show 4<=bZ;decide,λr0 W=>?_⟩;exact k (.ref r0) _ (au Z9 W)<|.inr ⟨r0,xz⟩
   .rintro σ S ⟨y6,y7,y8,rfl,B,zd,Qb⟩;refine⟨_,_,_,_,_,xz,B,zd,λc N=>?_⟩
    by_cases ec:c<j
    .exact iF c ec
    .have:c=j:=om;subst this;exact λi hi=>Qb i (by rw[ep]at hi;omega)
  .rintro σ O ⟨x4,x5,J,L,M,rfl,l,Bn,iF⟩;exact k .aR O l<|.inl ⟨xz,λc N=>iF c om⟩
def aeJ(s:Tl)(rg:List Int)(i:Nat):eL s rg i∈kD s i:=by
 unfold eL kD
 by_cases h:s.1 = T_
 .rw[ei h]
  split
  .simp
  .simp
 .rw[ee h,ee λz=>h z.1];simp
def VO{sz n:Nat}(g:bY sz s)(z:s.1 = J_)(e:s.2.getD 0 0=n):setB s=a_ n:=by
 cases g with
 | set a r h1 h2=>rw[set_set];exact fF a_ e
 | put=>exact eu (show ("put":cr)="set" from z) dk
 | add=>exact eu (show ("add":cr)="set" from z) dk
 | look=>exact eu (show ("look":cr)="set" from z) dk
 | swap=>exact eu (show ("swap":cr)="set" from z) dk
 | clear=>exact eu (show ("clear":cr)="set" from z) dk
 | skip=>exact eu (show ("skip":cr)="set" from z) dk
def aef{sz:Nat}(g:bY sz s)(z:s.1 = K_):mw s=a_ (s.2.getD 1 0):=by
 cases g with
 | look r n h1 h2=>rw[E4];rfl
 | put=>exact eu (show ("put":cr)="look" from z) dk
 | add=>exact eu (show ("add":cr)="look" from z) dk
 | set=>exact eu (show ("set":cr)="look" from z) dk
 | swap=>exact eu (show ("swap":cr)="look" from z) dk
 | clear=>exact eu (show ("clear":cr)="look" from z) dk
 | skip=>exact eu (show ("skip":cr)="look" from z) dk
def adN{sz n:Nat}(g:bY sz s)(h:s.1 = J_/\s.2.getD 0 0=n\/s.1 = H_/\s.2.getD 1 0=n):oC s=a_ n:=by
 cases g with
 | set a r h1 h2=>
  rw[VN];obtain⟨_,e⟩|⟨z,_⟩:=h
  .exact fF a_ e
  .exact eu (show (J_ : cr) = H_ from z) dk
 | swap a r h1 h2=>
  rw[UU];obtain⟨z,_⟩|⟨_,e⟩:=h
  .exact eu (show (H_ : cr) = J_ from z) dk
  .exact fF a_ e
 | put=>rcases h with ⟨z,_⟩ | ⟨z,_⟩ <;> exact eu z (by show ¬("put":cr)=_;decide +kernel)
 | add=>rcases h with ⟨z,_⟩ | ⟨z,_⟩ <;> exact eu z (by show ¬("add":cr)=_;decide +kernel)
 | look=>rcases h with ⟨z,_⟩ | ⟨z,_⟩ <;> exact eu z (by show ¬("look":cr)=_;decide +kernel)
 | clear=>rcases h with ⟨z,_⟩ | ⟨z,_⟩ <;> exact eu z (by show ¬("clear":cr)=_;decide +kernel)
 | skip=>rcases h with ⟨z,_⟩ | ⟨z,_⟩ <;> exact eu z (by show ¬("skip":cr)=_;decide +kernel)
def aiI(g:cV ps)(h:Sh ps c n):uQ ps c n=true:=by
 obtain⟨d,p,s,hd,a,b,e⟩:=h;unfold uQ;rw[Te];refine⟨d,?_,by rw[eT hd];rfl⟩;unfold nD;rw[gz,nU];refine⟨(cb.mp a).1,?_⟩;unfold vX;rw[Te];refine⟨s,?_,eN<|adN ((g.part p<|aW a).2 s b) e⟩;rw[eG,a];exact b
def VZ(h:n-(n &&& (1 <<< k))=0)(b:n.testBit m=c_):m=k:=by
 have:=L5.without.mp h m b;rw[L5.MY]at this;exact(eF this).g8
def WW(h:(b&&c)=d_)(a:b=c_):c=false:=by rw[a,t8]at h;exact h
def Rb(a:List (List Nat))(c i m:Nat):Prop:=((a.getD c []).getD i 0).testBit m=c_
def ahb{ps:List Pt}{f:List (List Nat)}{kd:cr}(g:cV ps)(M:Di f ps)(F:∀c,c<ps.length->Qr ps (decide<|kd = l_) f c):AL kd ps (Rb f):=by
 have at':∀{c i:Nat}{p:Pt}{s:Tl},ps[c]?=a_ p->p[i]?=a_ s->∃row,f.getD c []=row/\Hj row p/\bY p.length s/\i<p.length/\HI (uQ ps c) (decide<|kd = l_) s i row:=λ{c i p s}a d=>by
  have u:=(cb.mp a).1;have hi:=(cb.mp d).1;have A:f.length=ps.length:=r_ M;obtain⟨B,r,hm⟩:=Paired.at' M<|aL (show c<f.length by lia);rw[a]at r;cases r;have e:f.getD c []=f[c]' li:=by rw[eG,aL (show c<f.length by lia)];rfl
  refine⟨_,e,hm,(g.part p<|aW a).2 s<|aW d,hi,?_⟩;have t:ps.getD c []=p:=by rw[eG,a];rfl
  have h:=F c u i (by rw[t];exact hi);have es:CM ps c i=s:=by unfold CM;rw[t,eG,d];rfl
  unfold HH at h;rw[es,e]at h;exact h
 refine⟨λc p i s rg m a d h=>?_,λc p i s m a d z v j=>?_,λx c p i s m a d z j=>?_⟩
 .obtain⟨row,n,⟨_,cl,_⟩,l,hi,_⟩:=at' a d;unfold Rb at h ⊢;rw[n]at h ⊢;refine cl i (Dn i s) hi (by rw[Wx,d];rfl) _ (aeJ s rg i) m ?_;rw[L5.adv];obtain⟨z,e⟩|⟨k,b⟩:=h
  .exact⟨(VP l z).2,.inr<|VO l z e⟩
  .exact⟨k,.inl b⟩
 .obtain⟨row,n,_,l,_,o,_,_⟩:=at' a d;unfold Rb at j;rw[n]at j;unfold yd at o;rw[aef l z]at o;have:=WW o<|aiI g v;refine VZ (tS λy=>?_) j;rw[eN y]at this;cases this
 .obtain⟨row,n,_,l,_,_,q,_⟩:=at' a d;unfold Rb at j;rw[n]at j;unfold yn at q;rw[VO l z rfl]at q;have:=WW q<|eN x;refine VZ (tS λy=>?_) j;rw[eN y]at this;cases this
noncomputable def fH(V:Vw)(c:Nat):Nat:=((V.1[c]?).map λx=>x.2.1.length).getD 0
noncomputable def sR(V:Vw)(c:Nat):Nat:=((V.1[c]?).map λx=>x.1).getD 0
def vO{V:Vw}(h:V.1[c]?=a_ x):fH V c=x.2.1.length:=by unfold fH;rw[h];rfl
def F9{V:Vw}(h:V.1[c]?=a_ x):sR V c=x.1:=by unfold sR;rw[h];rfl
section
variable{kd:cr}{ps:List Pt}{V V' W E E':Vw}{c:Nat}
theorem Xx(h:lK kd ps V V'):fH V' c<=fH V c\/fH V' c=fH V c+1/\sR V' c≠sR V c:=by
 cases h with
 | @act c0 x p s h1 hp hs hk=>
  by_cases e:c0=c
  .subst e;have h2:=fQ (a:=cR kd s x V.2) (cb.mp h1).1;rw[vO (V:=(_,_)) h2,vO h1,F9 (V:=(_,_)) h2,F9 h1];show (eY kd s x.2.1 x.2.2).length<=_\/(eY kd s x.2.1 x.2.2).length=_/\eL s _ x.1≠_;unfold eY
   by_cases z:s.1 = J_
   .rw[ei z]
    by_cases y:kd = I_
    .rw[ei y];exact .inl<|az _
    .rw[ee y];refine .inr ⟨by rw[dG];rfl,?_⟩;unfold eL;rw[ee λq=>eu (z.g8.fT q.1) dk];lia
   .rw[ee z];exact .inl<|az _
  .exact .inl (by unfold fH;rw[lC e];exact az _)
 | @lh c0 n x num h1 h2 _ _=>
  refine .inl ?_
  by_cases e:c0=c
  .subst e;rw[vO (V:=(_,_))<|fQ (cb.mp h1).1,vO h1];exact aa2 ..
  .unfold fH;rw[lC e];exact az _
theorem aib(O:qX kd V)(h:0<fH V c):∃V',lK kd ps V V'/\fH V' c+1=fH V c/\sR V' c=sR V c:=by
 cases b:V.1[c]? with
 | none=>unfold fH at h;rw[b]at h;cases h
 | some x=>
  rw[vO b]at h;cases d:x.2.1 with
  | nil=>rw[d]at h;cases h
  | cons e es=>
   obtain⟨m,hm,f⟩:=O.nm x (aW b) e (by rw[d];exact b9);have hn:gI m e=true:=eN f;have g:e=((m:Int),e.2):=Prod.ext f rfl;refine⟨_,.lh (num:=e.2) b (by rw[d,List.find?_cons_of_pos hn];exact fF a_ g) hm λ_=>by rw[d];exact fF a_ g,?_⟩;have h2:=fQ (a:=((x.1,x.2.1.eraseP<|gI m,x.2.2):Cv)) (cb.mp b).1;rw[vO (V:=(_,_)) h2,vO b,F9 (V:=(_,_)) h2,F9 b];refine⟨?_,xz⟩;show (x.2.1.eraseP<|gI m).length+1=_;rw[d,List.eraseP_cons_of_pos hn];rfl
theorem ahR(b:W.1.length=ps.length)(a:yL ps W)(h:lK kd ps W V):False:=by
 cases h with
 | @act c x p s h1 hp hs _=>
  have:=(cb.mp hs).1;have:=(a c x p h1 hp).1;lia
 | @lh c n x num h1 h2 _ _=>
  have d:=(cb.mp h1).1;rw[(a c x _ h1<|aL<|by rw[<-b];exact d).2]at h2;cases h2
theorem ahp(o:W.1.length=ps.length)(h:lK kd ps W E)(h':lK kd ps W E')(a:yL ps E)(z:yL ps E'):E=E':=by
 have r:∀{c n d:Nat}{x x':Cv}{num:Int}{p:Pt}{s:Tl},W.1[c]?=a_ x->ps[c]?=a_ p->W.1[d]?=a_ x'->x'.2.1.find? (gI n)=a_ ((n:Int),num)->yL ps (W.1.set c<|cR kd s x W.2,eE kd s x.2.2 W.2)->False:=λ{c n d x x' num p s}h1 i h2 m a=>by
  by_cases e:c=d
  .subst e;rw[h1]at h2;cases h2;have:=(a c _ p (fQ (cb.mp h1).1) i).2;have g:eY kd s x.2.1 x.2.2=[]:=this
   have:x.2.1=[]:=by
    unfold eY at g
    split at g
    .split at g
     .exact g
     .exact eu g (by simp)
    .exact g
   rw[this]at m;cases m
  .have j:=(cb.mp h2).1;rw[(a d x' _ (by rw[<-h2];exact lC e)<|aL<|by rw[<-o];exact j).2]at m;cases m
 cases h with
 | @act c x p s h1 i hs _=>
  cases h' with
  | @act d x' p' s' b k q _=>
   by_cases e:c=d
   .subst e;rw[h1]at b;cases b;rw[i]at k;cases k;rw[hs]at q;cases q;rfl
   .have:=(a d x' p' (by rw[<-b];exact lC e) k).1;have:=(cb.mp q).1;lia
  | lh b l=>exact(r h1 i b l a).elim
 | @lh c n x num h1 h2 _ _=>
  cases h' with
  | act b k=>exact(r b k h1 h2 z).elim
  | @lh d n' x' arC b l _ _=>
   have j:=(cb.mp b).1
   by_cases e:c=d
   .subst e;rw[h1]at b;cases b;have:=(a c _ _ (fQ j)<|aL<|by rw[<-o];exact j).2;have g:x.2.1.eraseP (gI n)=[]:=this;have t:=List.length_eraseP_of_mem (p:=gI n) (Ew h2)<|List.find?_some h2;rw[g]at t;have i:=List.length_pos_of_mem<|Ew h2;obtain⟨y,A⟩:=Jr.mp (show x.2.1.length=1 by simp at t;lia);have u:=Ew h2;have v:=Ew l;rw[A,cO]at u v;have f:=u.fT v.g8;injection f with fa fb
    have fa:n=n':=li;subst fa;rw[fb]
   .rw[(a d x' _ (by rw[<-b];exact lC e)<|aL<|by rw[<-o];exact j).2]at l;cases l
end
theorem mo{f g:Type}{r:g->f->Prop}:∀{A:List f}{B:List g},A.Nodup->(∀a∈A,∃b∈B,r b a)->(∀b∈B,∀a∈A,∀i∈A,r b a->r b i->a=i)->A.length<=B.length
 | [],_,_,_,_=>ba _
 | a::A,B,nd,h,k=>by
  obtain⟨b,j,l⟩:=h a b9;obtain⟨m,n,rfl⟩:=List.append_of_mem j;obtain⟨n1,o⟩:=zJ.mp nd;have ih:=mo (r:=r) (A:=A) (B:=m++n) o (λx c=>?_) λy d x c x' p=>k y (by rcases ir.mp d with z | z <;> simp[z]) x (cx _ c) x'<|cx _ p
  .simp only[dG,eJ]at ih ⊢;lia
  .obtain⟨y,d,q⟩:=h x<|cx _ c;obtain z|z:=ir.mp d
   .exact⟨y,pf _ z,q⟩
   .obtain rfl|z:=bH.mp z
    .exact eu (k y j a b9 x (cx _ c) l q) λe=>n1<|e ▸ c
    .exact⟨y,gh _ z,q⟩
theorem Vy{e:Type}{L:List e}{f:e->Nat}:∀m,(∀l,l<m->∃a b,a∈L/\b∈L/\a≠b/\f a=l/\f b=l)->2*m<=(L.filter λa=>decide<|f a<m).length
 | 0,_=>ba _
 | m+1,h=>by
  have ih:=Vy (L:=L) (f:=f) m λl o=>h l li;obtain⟨a,b,ha,g,n,i,j⟩:=h m<|rP m
  have h2:2<=(L.filter λa=>decide<|f a=m).length:=by
   have c:=(gz (p:=λa=>decide<|f a=m)).mpr ⟨ha,eN i⟩;have d:=(gz (p:=λa=>decide<|f a=m)).mpr ⟨g,eN j⟩;generalize (L.filter λa=>decide<|f a=m)=M at c d
   match M,c,d with
   | [x],c,d=>exact eu ((cO.mp c).fT (cO.mp d).g8) n
   | _::_::_,_,_=>exact zE<|zE<|ba _
  have k:∀L:List e,(L.filter λa=>decide<|f a<m).length+(L.filter λa=>decide<|f a=m).length=(L.filter λa=>decide<|f a<m+1).length:=by
   intro L
   induction L with
   | nil=>rfl
   | cons x L ih=>
    rw[kL,kL,kL];obtain z|z|z:=zC (f x) m
    .rw[ei<|eN z,ee (by simp;lia),ei (by simp;lia),eJ,eJ];lia
    .rw[ee (by simp;lia),ei<|eN z,ei (by simp;lia),eJ,eJ];lia
    .rw[ee (by simp;lia),ee (by simp;lia),ee (by simp;lia)];exact ih
  have:=k L;lia
section
variable{kd:cr}{ps:List Pt}{V V' W E E':Vw}{c:Nat}
def Xp(S0:Mc)(k:Nat)(U:Vw):Prop:=∃j T,j<k/\(aM S0 k)[j]?=a_ T/\a9 T=U
def Am(S0:Mc)(c k:Nat)(V:Vw):Prop:=∀l,l<fH V c->∃U a,U∈(aM S0 k).map a9/\(a=V\/Xp S0 k a)/\fH U c=l/\fH a c=l+1/\sR a c≠sR U c
def Pa(kd:cr)(ps:List Pt)(S0:Mc)(k:Nat)(V:Vw):Prop:=V=sG ps\/∃T∈aM S0 k,lK kd ps (a9 T) V
theorem XW{a:Type}{L M:List a}{i:Nat}{x:a}(h:L <+: M)(e:L[i]?=a_ x):M[i]?=a_ x:=by
 obtain⟨t,rfl⟩:=h;rw[Bv (cb.mp e).1];exact e
theorem Am.up{k:Nat}(h:Am S0 c k V):Am S0 c (k+1) V:=λl d=>by
 obtain⟨U,f,h1,h2,h3⟩:=h l d;refine⟨U,f,(SX a9<|vJ S0 k).subset h1,h2.imp id ?_,h3⟩;rintro⟨j,T,a,b,e⟩;exact⟨j,T,li,XW (vJ S0 k) b,e⟩
theorem Mo(g:cV ps):∀k,k<=14000->∀S∈aM (bj kd ps) k,(∀c,Am (bj kd ps) c k<|a9 S)/\Pa kd ps (bj kd ps) k (a9 S)
 | 0,_,S,hS=>by
  rw[cO.mp hS,Fc];refine⟨λc l n=>eu n ?_,.inl xz⟩
  have:fH (sG ps) c=0:=by
   unfold fH sG;rw[cc];cases ps[c]? <;> rfl
  lia
 | k+1,hk,S,hS=>by
  have ih:=Mo g k<|SW hk
  have m:∀T∈aM (bj kd ps) k,(∀c,Am (bj kd ps) c (k+1)<|a9 T)/\Pa kd ps (bj kd ps) (k+1) (a9 T):=λT d=>by
   obtain⟨a,b⟩:=ih T d;exact⟨λc=>(a c).up,b.imp id λ⟨Z,p,s⟩=>⟨Z,(vJ _ k).subset p,s⟩⟩
  cases e:(aM (bj kd ps) k)[k]? with
  | none=>
   have j:=hS;rw[BS<|xp.mp e]at j;exact m S j
  | some T=>
   have d:=aW e;have t:=XW (vJ (bj kd ps) k) e;have j:=hS;rw[Ab e]at j;refine MX (Pv:=λS=>(∀c,Am (bj kd ps) c (k+1)<|a9 S)/\Pa kd ps (bj kd ps) (k+1) (a9 S)) m (λmv hm=>?_) S j;obtain⟨f,r⟩:=xQ g k (SW hk) T d;have s:=E3 f.W (by rw[f.kd];exact r.ok g) hm;rw[f.kd,f.ps]at s;refine⟨λc l n=>?_,.inr ⟨T,(vJ _ k).subset d,s⟩⟩
   have o:l<fH (a9 T) c->∃U i,U∈(aM (bj kd ps)<|k+1).map a9/\(i=a9 (cJ T mv)\/Xp (bj kd ps) (k+1) i)/\fH U c=l/\fH i c=l+1/\sR i c≠sR U c:=λh=>by
    obtain⟨U,i,h1,h2,h3⟩:=((m T d).1 c) l h;refine⟨U,i,h1,.inr ?_,h3⟩;obtain rfl|h2:=h2
    .exact⟨k,T,rP k,t,xz⟩
    .exact h2
   obtain z|⟨z,y⟩:=Xx (c:=c) s
   .exact o li
   .by_cases q:l<fH (a9 T) c
    .exact o q
    .exact⟨a9 T,a9<|cJ T mv,cj.mpr ⟨T,(vJ _ k).subset d,xz⟩,.inl xz,li,li,y⟩
theorem Wg(g:cV ps)(d:k<=14000)(i:S∈aM (bj kd ps) k)(c:Nat):2*fH (a9 S) c<=(aM (bj kd ps) k).length+2:=by
 have h:=Vy (L:=(aM (bj kd ps) k).map a9) (f:=λV=>fH V c) (fH (a9 S) c-1) λl n=>by
  obtain⟨U,o,h1,h2,h3,h4,h5⟩:=(Mo g k d S i).1 c l li;obtain rfl|⟨j,T,m,e,rfl⟩:=h2
  .lia
  obtain⟨f,r⟩:=xQ g k d T<|aW e;obtain⟨V',s,a,b⟩:=aib (ps:=ps) (c:=c) (r.ok g) li;exact⟨U,V',h1,Vv g d m e s,λz=>h5 (by rw[z,b]),h3,by show fH V' c=l;lia⟩
 have:=qe (λV=>decide<|fH V c<fH (a9 S) c-1)<|(aM (bj kd ps) k).map a9;rw[aA]at this;lia
theorem Yb(h:x∈S.ck):∃c,fH (a9 S) c=x.es.length:=by
 obtain⟨c,a,e⟩:=nR h;refine⟨c,?_⟩
 have:(a9 S).1[c]?=a_ (fA x):=by
  show (S.ck.map fA)[c]?=_;rw[cc,aL a,e];rfl
 rw[vO this];exact aA ..
theorem aih(g:cV ps)(hn:n<=99)(d:k<=n)(h:(aM (bj kd ps) k).length<=n)(a:S∈aM (bj kd ps) k):uw S/\∀mv∈gC S,uw (cJ S mv):=by
 refine⟨λx b=>?_,λmv hm x b=>?_⟩
 .obtain⟨c,e⟩:=Yb b;have:=Wg g li a c;lia
 .obtain⟨c,e⟩:=Yb b;have:=Wg g li a c;obtain⟨f,r⟩:=xQ g k li S a;have s:=E3 f.W (by rw[f.kd];exact r.ok g) hm;rcases Xx (c:=c) s with z | ⟨z,_⟩ <;> lia
theorem Wh(g:cV ps)(hn:n<=99)(v:k<=n)(y:(aM (bj kd ps) k).length<=n):(gf<|aM (bj kd ps) k).length<64:=by
 have l:=xQ (kd:=kd) g k li
 have m:∀S∈aM (bj kd ps) k,(a9 S).1.length=ps.length:=λS e=>by
  obtain⟨f,_⟩:=l S e;show (S.ck.map fA).length=_;rw[aA,f.W.wf.len,f.ps]
 have at':∀S∈aM (bj kd ps) k,(jS S=c_↔yL ps (a9 S)):=λS e=>by
  obtain⟨f,_⟩:=l S e;rw[<-f.ps];exact EW f.W.wf
 have nd:=Fu (bj kd ps) k
 have h:=mo (A:=((aM (bj kd ps) k).filter jS).map a9) (B:=b_::((aM (bj kd ps) k).filter λS=>!jS S).map a_)
  (r:=λb a=>match b with | none=>a=sG ps | some T=>lK kd ps (a9 T) a)
  (List.Nodup.sublist (List.Sublist.map a9 List.filter_sublist) nd) (λa ha=>by
   obtain⟨S,h1,rfl⟩:=cj.mp ha;obtain⟨h1,h2⟩:=gz.mp h1;rcases(Mo g k li S h1).2 with z | ⟨T,d,s⟩
   .exact⟨b_,b9,z⟩
   .refine⟨a_ T,cx _<|cj.mpr ⟨T,gz.mpr ⟨d,?_⟩,xz⟩,s⟩;cases q:jS T with
    | false=>rfl
    | true=>exact(ahR (m T d) ((at' T d).mp q) s).elim) λb i a ha C p q o=>by
   obtain⟨S,h1,rfl⟩:=cj.mp ha;obtain⟨h1,h2⟩:=gz.mp h1;obtain⟨S',j,rfl⟩:=cj.mp p;obtain⟨j,t⟩:=gz.mp j;obtain rfl|i:=bH.mp i
   .exact q.fT o.g8
   .obtain⟨T,d,rfl⟩:=cj.mp i;exact ahp (m T (gz.mp d).1) q o ((at' S h1).mp h2)<|(at' S' j).mp t
 have u:∀L:List Mc,(L.filter jS).length+(L.filter λS=>!jS S).length=L.length:=λL=>by
  induction L with
  | nil=>rfl
  | cons x L ih=>
   rw[kL,kL,eJ];cases jS x <;> simp <;> lia
 have:=u<|aM (bj kd ps) k;simp only[aA,eJ]at h;unfold gf;rw[aA];lia
end
noncomputable def qM(ns:List Int)(k:Int):Int:=ns.getD k.toNat 0
noncomputable def AF(c k:Int):Int:=(c%2147483647+7919*k+1)*48271%2147483647
def Gg(c k:Int):Int:=AF c k*(AF c k/1009+69621)%2147483647
def ajF(c k:Int):0<=AF c k/\AF c k<2147483647:=⟨zK _ qc,Bz _ qc⟩
def afR(c k:Int):0<=Gg c k/\Gg c k<2147483647:=⟨zK _ qc,Bz _ qc⟩
def XH(K:u_):Sp:=λvs H Q _=>∃a ns k,vs=[.ref a,.int k]/\ag K H a (ns.map V.int)/\0<=k/\Q (.int<|qM ns k) H
def aiX:aV jp jp (aP MR):=aZ
def ahv(F:aQ K "_law_cell_at" "_law_cell_at" MR f fd)(c:mg "len"=b_):aF P w K mg gl aE 1 f fd jp (XH K):=by
 refine F.ok aiX λaH A _ s H vs Q E d h=>?_
 .obtain⟨a,ns,j,rfl,ha,g,k⟩:=h;refine⟨_,aw (bJ (b0 yc (pv 1) (bu dS xz c q_<|aa (pv 0) af)<|br _) (ar<|aS<|aN bQ (pv 0)<|pv 1) b8)<|ar<|aS ax,?_⟩;refine⟨_,xz,_,xz,a,_,xz,.inl ha,_,_,xz,xz,_,xz,bK (λh1=>?_) λh1=>?_⟩
  .rw[aA]at h1;have b:j.toNat<ns.length:=li;refine⟨_,xz,_,xz,a,_,j,.int<|qM ns j,xz,xz,ha,?_,k⟩;have e:j=(j.toNat:Int):=li;rw[e];refine bA ?_;rw[cc,aL b];unfold qM;rw[eP,eG,aL b];rfl
  .rw[aA]at h1
   have e:qM ns j=0:=by
    unfold qM;rw[eG,xt li];rfl
   rw[e]at k;exact k
def Oe:Sp:=λvs H Q _=>∃c j,vs=[.int c,.int j]/\Q (.int<|Gg c j) H
def YR:aV [an3,"_law_k","_law_number"] kw (aP Np):=aZ
def ajc(F:aQ K "_law_mixed" "_law_mixed" Np f fd):aF P w K mg gl aE 1 f fd kw Oe:=by
 refine F.ok YR λaH A _ s H vs Q E a h=>?_
 .obtain⟨c,j,rfl,k⟩:=h;refine⟨_,aw (bC (i:=2) YR.nd xz (aI xz)<|bp jQ (bp Gb (bp jR (bp jR (bp jQ (pv 0) ax)<|bp Gb ax<|pv 1) ax) ax) ax)<|ar<|aS<|bp jQ (bp Gb (pv 2)<|bp jR (bp pC (pv 2) ax) ax) ax,?_⟩;have b:=ajF c j;refine⟨_,xz,_,_,xz,xz,(by show (0:Int)<2147483647;decide),_,xz,_,_,xz,xz,.inl ⟨qc,qc⟩,_,_,xz,xz,_,_,xz,xz,_,_,xz,xz,.inr ⟨qc,qc⟩,_,_,xz,xz,(by show (0:Int)<2147483647;decide),⟨_,xz,_,xz,_,_,xz,xz,⟨qc,qc⟩,_,_,xz,xz,_,_,xz,xz,.inl ⟨?_,?_⟩,_,_,xz,xz,(by show (0:Int)<2147483647;decide),k⟩⟩
  .show -(2^64)<AF c j;lia
  .show AF c j<2^64;lia
def Aw(d:Int)(h:0<=d)(m:Int)(hm:0<m):∃r:Nat,d%m=(r:Int)/\(r:Int)<m:=by
 have h1:=zK d (show m≠0 by lia);have h2:=Bz d hm;exact⟨(d%m).toNat,li,li⟩
def OQ{d m:Int}(h:0<=d)(hm:0<=m):0<=d/m:=Int.ediv_nonneg h hm
def EZ(s:ae H0 H)(h:H0 r=b_):ae H0 (db H r o):=λb u e=>by
 rw[aj<|bf e h];exact s b u e
def Vz(r:Nat)(h:(r:Int)<3):r<10^60:=by
 have:=agD;lia
def VD:Sp:=λvs H Q _=>∃(c:Int)(n:Nat),vs=[.int c,.int (n:Nat)]/\n<=100/\∀(H':Hp)(l:e_)(ds:List Int),ae H H'->H l=b_->H' l=a_ (.lst<|ds.map V.int)->ds.length=n->(∀d∈ds,(0:Int)<=d)->Q (.ref l) H'
def Ca:aV [an3,"_law_amount","_law_draws","_law_rest","_law_k"] [an3,"_law_amount"] (aP ME):=aZ
def ad6(F:aQ K "_law_stream" "_law_stream" ME f fd)(y:mg "range"=b_)(B:Dp P w K mg gl 1 "_law_mixed" kw Oe):aF P w K mg gl aE 2 f fd [an3,"_law_amount"] VD:=by
 refine F.ok Ca λaH A _ s H vs Q E C h=>?_
 .obtain⟨c,n,rfl,hn,q⟩:=h;refine let a:TS:=_;let b:TS:=_;let g:TS:=_;⟨_,aw (bC (i:=2) Ca.nd xz (aI xz)<|eC af)<|pR g<|aw (bC (i:=3) Ca.nd xz (aI xz)<|bp pC (pv 0) ax)<|pR b<|aw (i3 hV xz (kT xz y<|aa (pv 1) af) (bo (i:=4) Ca.nd xz<|aI xz)<|ar<|bJ (b0 c7 (bp jQ (pv 0) ax) ax<|br _) (ar<|fg<|nu m_ n_ o_ qp (pv 2)<|aa (bN B C xz<|aa (pv 3)<|aa (pv 4) af) af)<|pR a<|aw (fg<|nu m_ n_ o_ qp (pv 2)<|aa (bp jQ (pv 3) ax) af)<|ar<|bC (i:=3) Ca.nd xz (aI xz)<|bp pC (pv 3) ax)<|ar<|aS<|pv 2,?_⟩;have u:=fR;refine⟨qc,λL l=>?_⟩;obtain⟨H0,e,D,G⟩:=nw (o:=.lst []) l;rw[e];clear e;refine⟨_,xz,_,_,xz,xz,⟨qc,qc⟩,⟨_,xz,_,xz,li,li,?_⟩⟩;rw[show ((n:Int)).toNat=n by lia]
  let I:IV:=λi σ H'=>∃(ds:List Int)(r:Int)(w4:Option V),σ=[a_ (.int c),a_<|.int (n:Nat),a_<|.ref L,a_<|.int r,w4]/\ae H H'/\H' L=a_ (.lst<|ds.map V.int)/\ds.length=i/\∀d∈ds,(0:Int)<=d
  refine r6 (n:=n) I ⟨[],_,b_,xz,D,G,xz,λd z=>by cases z⟩ ?_ ?_
  .rintro i σ k hi ⟨ds,r,w4,rfl,s1,j,m,hd⟩
   have v:∀(x:Int)(p:Int)(w5:Option V),0<=x->∃(t:List Int)(J:Int)(M:Option V),([a_ (.int c),a_<|.int (n:Nat),a_<|.ref L,a_<|.int p,w5]:L2.St)=[a_ (.int c),a_<|.int (n:Nat),a_<|.ref L,a_<|.int J,M]/\ae H (db k L<|.lst<|ds.map V.int++[.int x])/\db k L (.lst<|ds.map V.int++[.int x]) L=a_ (.lst<|t.map V.int)/\t.length=i+1/\∀d∈t,(0:Int)<=d:=λx p w5 N=>by
    refine⟨ds++[x],p,w5,xz,EZ (s1) l,by rw[ao,dB];rfl,by rw[dG,m];rfl,λd O=>?_⟩;obtain z|z:=ir.mp O
    .exact hd d z
    .rw[cO.mp z];exact N
   exact⟨_,xz,_,_,xz,xz,(by show (0:Int)<2;decide),xz,_,xz,bK (λ_=>⟨_,xz,.inl ⟨xz,_,ag.of j⟩,_,xz,_,xz,_,_,xz,L,_,_,xz,xz,j,by rw[aA,u];lia,v _ _ _ (afR _ _).1⟩) λ_=>⟨_,xz,.inl ⟨xz,_,ag.of j⟩,_,xz,_,_,xz,xz,(by show (0:Int)<3456;decide),L,_,_,xz,xz,j,by rw[aA,u];omega,⟨_,xz,_,_,xz,xz,⟨qc,qc⟩,v _ _ _<|zK _ qc⟩⟩⟩
  .rintro σ k ⟨ds,r,w4,rfl,s1,j,m,hd⟩;exact⟨_,xz,q k L ds s1 l j m hd⟩
def XA:Sp:=λvs H Q _=>∃(c k:Int)(n:Nat),vs=[.int c,.int k,.int (n:Nat)]/\0<n/\∀i:Nat,i<n->Q (.int (i:Nat)) H
def aiR:aV kn kn (aP Oi):=aZ
def Zi(d:Int){n:Nat}(h:0<n):∃r:Nat,d%(n:Int)=(r:Int)/\r<n:=by
 have h1:=zK d (show (n:Int)≠0 by lia);have h2:=Bz d (show (0:Int)<(n:Int) by lia);exact⟨(d%(n:Int)).toNat,li,li⟩
def ahA(F:aQ K "_law_pick" "_law_pick" Oi f fd)(d:Dp P w K mg gl 1 "_law_mixed" kw Oe):aF P w K mg gl aE 2 f fd kn XA:=by
 refine F.ok aiR λaH A _ s H vs Q E e h=>?_
 .obtain⟨c,k,n,rfl,hn,q⟩:=h;refine⟨_,aw (bJ (b0 c7 (bp jQ (pv 0) ax) ax<|br _) (ar<|aS<|bp jQ (bp pC (bN d e xz<|aa (bp pC (pv 0) ax)<|aa (pv 1) af) ax)<|pv 2) b8)<|ar<|aS<|bp jQ (bp pC (pv 0) ax)<|pv 2,?_⟩;refine⟨_,xz,_,_,xz,xz,(by show (0:Int)<2;decide),xz,_,xz,bK (λ_=>?_) λ_=>?_⟩
  .obtain⟨r,a,b⟩:=Zi (Gg (c/2) k/8) hn;refine⟨_,xz,_,_,xz,xz,⟨qc,qc⟩,_,xz,_,_,xz,_,_,xz,xz,⟨qc,qc⟩,_,xz,_,_,xz,xz,(by show (0:Int)<(n:Int);lia),?_⟩;have:=q r b;rw[<-a]at this;exact this
  .obtain⟨r,a,b⟩:=Zi (c/2) hn;refine⟨_,xz,_,_,xz,xz,⟨qc,qc⟩,_,xz,_,_,xz,xz,(by show (0:Int)<(n:Int);lia),?_⟩;have:=q r b;rw[<-a]at this;exact this
def YH:Sp:=λvs H Q _=>∃d,∃len:Nat,vs=[.int d,.int (len:Nat)]/\0<=d/\len<=120/\∀v H' s,ae H H'->jm H' v s->bY len s->Q v H'
def Gy:aV ["_law_draw","_law_length","_law_kind","_law_box","_law_name"] ["_law_draw","_law_length"] (aP Pq):=aZ
def ajg(F:aQ K "_law_one" "_law_one" Pq f fd):aF P w K mg gl aE 1 f fd ["_law_draw","_law_length"] YH:=by
 refine F.ok Gy λaH A _ s H vs Q E T h=>?_
 .obtain⟨d,len,rfl,hd,U,q⟩:=h;refine let a:TS:=_;let b:TS:=_;let c:TS:=_;let g:TS:=_;let k:TS:=_;let m:TS:=_;⟨_,aw (bC (i:=2) Gy.nd xz (aI xz)<|bp jQ (pv 0) ax)<|pR m<|aw (bC (i:=3) Gy.nd xz (aI xz)<|bp jQ (bp pC (pv 0) ax) ax)<|pR k<|aw (bC (i:=4) Gy.nd xz (aI xz)<|bp jQ (bp pC (pv 0) ax) ax)<|pR g<|aw (bJ (b0 c7 (pv 2) ax<|br _) (ar<|aS<|fj<|aa cp<|aa (pv 3)<|aa (bp jQ (bp pC (pv 0) ax) ax) af) b8)<|pR c<|aw (bJ (b0 yc (pv 2) ax<|br _) (ar<|aS<|fj<|aa cp<|aa (pv 4)<|aa (pv 3) af) b8)<|pR b<|aw (bJ (b0 yc (pv 2) ax<|br _) (ar<|aS<|fj<|aa cp<|aa (pv 3)<|aa (pv 4) af) b8)<|pR a<|aw (bJ (b0 c7 (pv 2) ax<|br _) (ar<|aS<|aN bQ (eC<|aa (fj<|aa cp af)<|aa (fj<|aa cp<|aa (pv 3)<|aa (pv 4) af) af)<|bp jQ (bp pC (pv 0) ax) ax) b8)<|ar<|aS<|fj<|aa cp<|aa (pv 3)<|aa (bp jQ (bp pC (pv 0) ax)<|bp jR (pv 1) ax) af,?_⟩;have W:(0:Int)<12:=qc;obtain⟨p,y,X⟩:=Aw (d/12) (OQ hd qc) 2 qc;obtain⟨na,z,Y⟩:=Aw (d/48) (OQ hd qc) 2 qc;have B:0<=d/576:=OQ hd qc;refine⟨_,xz,_,_,xz,xz,(by show (0:Int)<12;decide),⟨_,xz,_,_,xz,xz,⟨qc,qc⟩,_,_,xz,xz,(by show (0:Int)<2;decide),⟨_,xz,_,_,xz,xz,⟨qc,qc⟩,_,_,xz,xz,(by show (0:Int)<2;decide),⟨_,xz,xz,_,xz,bK (λN=>?_) λN=>?_⟩⟩⟩⟩
  .obtain⟨r,C,O⟩:=Aw (d/576) B 3 qc;refine⟨_,xz,_,xz,_,_,xz,xz,⟨qc,qc⟩,_,_,xz,xz,(by show (0:Int)<3;decide),(sl (n:=3)),λv x=>q _ _ (V_,[p,r]) (au (ae.refl _) x) ⟨v,xz,?_⟩<|.put p r li<|Vz r O⟩;rw[ao];show a_ (HO.tup [.str V_,V.int<|d/12%2,V.int<|d/576%3])=_;rw[y,C];rfl
  refine⟨_,xz,_,_,xz,xz,_,xz,bK (λh2=>?_) λh2=>?_⟩
  .refine⟨_,xz,_,xz,(sl (n:=3)),λv x=>q _ _ (J_,[na,p]) (au (ae.refl _) x) ⟨v,xz,?_⟩<|.set na p li li⟩;rw[ao];show a_ (HO.tup [.str J_,V.int<|d/48%2,V.int<|d/12%2])=_;rw[y,z];rfl
  refine⟨_,xz,_,_,xz,xz,_,xz,bK (λh3=>?_) λh3=>?_⟩
  .refine⟨_,xz,_,xz,(sl (n:=3)),λv x=>q _ _ (K_,[p,na]) (au (ae.refl _) x) ⟨v,xz,?_⟩<|.look p na om om⟩;rw[ao];show a_ (HO.tup [.str K_,V.int<|d/12%2,V.int<|d/48%2])=_;rw[y,z];rfl
  refine⟨_,xz,xz,_,xz,bK (λh4=>?_) λh4=>?_⟩
  .refine⟨(sl (n:=1)),λu n1=>⟨_,xz,_,xz,(sl (n:=3)),λt I=>⟨(sl (n:=2)),λl D=>?_⟩⟩⟩;have J:db H u (.tup [.str M_]) u=a_ (.tup [.str M_]):=ao;have s1:ae H (db H u<|.tup [.str M_]):=au (ae.refl _) n1;generalize db H u (.tup [.str M_])=H1 at J s1 I D ⊢;have s2:=au (o:=.tup [.str H_,V.int<|d/12%2,V.int<|d/48%2]) (ae.refl H1) I;have g2:db H1 t (.tup [.str H_,V.int<|d/12%2,V.int<|d/48%2]) t=a_ (.tup [.str H_,V.int<|d/12%2,V.int<|d/48%2]):=ao;have G:=au (o:=.lst [.ref u,.ref t]) s2 D;obtain⟨L,M,Z⟩:=Aw (d/576) B 2 qc;have R:L=0\/L=1:=li;obtain e|e:=R
   .subst e;exact⟨_,xz,_,_,xz,xz,⟨qc,qc⟩,_,_,xz,xz,(by show (0:Int)<2;decide),l,_,(0:Nat),.ref u,xz,by show V.int (d/576%2)=_;rw[M],ag.of ao,bA (j:=0) xz,q _ _ (M_,[]) (s1.fT G) ⟨u,xz,G _ _ J⟩ .clear⟩
   .subst e;refine⟨_,xz,_,_,xz,xz,⟨qc,qc⟩,_,_,xz,xz,(by show (0:Int)<2;decide),l,_,(1:Nat),.ref t,xz,by show V.int (d/576%2)=_;rw[M],ag.of ao,bA (j:=1) xz,q _ _ (H_,[p,na]) (s1.fT G) ⟨t,xz,?_⟩<|.swap p na om om⟩;have S:db H1 t (.tup [.str H_,V.int<|d/12%2,V.int<|d/48%2]) l=none:=D;show db (db H1 t<|.tup [.str H_,V.int<|d/12%2,V.int<|d/48%2]) l (.lst [.ref u,.ref t]) t=a_ (HO.tup [.str H_,V.int ((p:Nat):Int),V.int ((na:Nat):Int)]);rw[aj<|bf g2 S,g2,y,z]
  .obtain⟨r,C,kg⟩:=Aw (d/576) B ((len:Int)+1) li;refine⟨_,xz,_,xz,_,_,xz,xz,⟨qc,qc⟩,_,xz,_,_,xz,xz,_,_,xz,xz,(by show (0:Int)<(len:Int)+1;lia),(sl (n:=3)),λv x=>q _ _ (T_,[p,r]) (au (ae.refl _) x) ⟨v,xz,?_⟩<|.skip p r om li li⟩;rw[ao];show a_ (HO.tup [.str T_,V.int<|d/12%2,V.int<|d/576%((len:Int)+1)])=_;rw[y,C];rfl
def an8(us:List V)(i:Nat):pU us b_ (a_ (i:Int))=us.take i:=by
 unfold pU;rw[HT.ahc,HT.ae8,Tp,Nat.sub_zero]
 by_cases h:i<=us.length
 .rw[Nat.min_eq_left h]
 .rw[Nat.min_eq_right li,jf<|az _,jf om]
def Xi{ds:List Int}{i:Nat}(h:i<ds.length):∃d,d∈ds/\iQ (ds.map V.int) (i:Int)=a_ (.int d):=⟨ds[i],tY h,bA<|by rw[cc,aL h];rfl⟩
def WD:Sp:=λvs H Q _=>∃c,vs=[.int c]/\∀H' v ps,ae H H'->iB H' v ps->cV ps->ps.length=2->(∀p∈ps,p.length<=4)->Q v H'
def xR:aV [an3,"_law_parts","_law_draws","_law_clerk","_law_length","_law_steps","_law_k"] [an3] (aP Nw):=aZ
def afz{f:e_}{fd:jO}(F:aQ K "_law_program" "_law_program" Nw f fd)(gK:mg "len"=b_)(eM:mg "range"=b_)(iE:mg S_ = b_)(DT:Dp P w K mg gl 2 "_law_stream" [an3,"_law_amount"] VD)(DO:Dp P w K mg gl 1 "_law_one" ["_law_draw","_law_length"] YH):aF P w K mg gl aE 3 f fd [an3] WD:=by
 refine F.ok xR λaH A _ s H vs Q E hr h=>?_
 .obtain⟨c,rfl,q⟩:=h;have dR:=hr.mono (show 1<=2 by decide);refine let a:TS:=_;let d:TS:=_;let g:TS:=_;let k:TS:=_;let m:TS:=_;⟨_,aw (bC (i:=1) xR.nd xz (aI xz)<|eC af)<|pR m<|aw (bC (i:=2) xR.nd xz (aI xz)<|bN DT hr xz<|aa (pv 0)<|aa ax af)<|pR k<|aw (i3 hV xz (kT xz eM<|aa ax af) (bo (i:=3) xR.nd xz<|aI xz)<|pR g<|aw (bC (i:=4) xR.nd xz (aI xz)<|bp jQ (aN bQ (pv 2)<|pv 3) ax)<|pR d<|aw (bC (i:=5) xR.nd xz (aI xz)<|Fi agO (eC<|aa (fj<|aa cp<|aa ax<|aa (bp jR ax<|pv 3) af) af) FJ<|FH<|pv 4)<|pR a<|aw (i3 hV xz (U3 xz eM<|aa (bu dS xz gK q_<|aa (pv 5) af)<|aa (pv 4) af) (bo (i:=6) xR.nd xz<|aI xz)<|ar<|fg<|nu m_ n_ o_ qp (pv 5)<|aa (bN DO dR xz<|aa (aN bQ (pv 2)<|bp jR (bp jR ax<|bp Gb ax<|pv 3)<|pv 6)<|aa (pv 4) af) af)<|ar<|fg<|nu m_ n_ o_ qp (pv 1)<|aa (fw ma xz iE iY<|aa (pv 5) af) af)<|ar<|aS<|fw ma xz iE iY<|aa (pv 1) af,?_⟩;have hsz:=fR;refine⟨qc,λL nL=>?_⟩;obtain⟨H0,e,s0,hL⟩:=nw (o:=.lst []) nL;rw[e];clear e;refine vr xz (dN c 10 xz qc λH1 J ds s1 nd hd RL hd0=>?_);have jK:=s1 _ _ hL;have nLd:L≠J:=λz=>by rw[<-z,hL]at nd;cases nd
  let W1:IV:=λi σ H'=>∃ys ps w3 w4 w5 w6,σ=[a_ (.int c),a_<|.ref L,a_<|.ref J,w3,w4,w5,w6]/\ae H H'/\H' J=a_ (.lst<|ds.map V.int)/\H' L=a_ (.lst ys)/\bt (IsPart H') ys ps/\ps.length=i/\∀p∈ps,p.length<=4/\∀t∈p,bY p.length t
  refine⟨2,xz,qc,qc,r6 (n:=2) W1 ⟨[],[],b_,b_,b_,b_,xz,s0.fT s1,hd,jK,.nil,xz,λp z=>by cases z⟩ ?_ ?_⟩
  .rintro i σ I hi ⟨ys,ps,w3,w4,w5,w6,rfl,s2,U,mJ,W,c8,O⟩;have hyl:=r_ W;refine aB (Xi (ds:=ds) (i:=i) li) λX m2 e2=>aB (Aw X (hd0 X m2) 5 qc) λlen el hl9=>?_;refine vr xz<|vr xz ⟨J,_,((i:Nat):Int),.int X,xz,by show V.int (0+(i:Int))=_;rw[pj],ag.of U,e2,_,_,xz,xz,(by show (0:Int)<5;decide),se (y:=.int (len:Nat)) (by show V.int (X%5)=_;rw[el]) ?_⟩;refine⟨_,xz,_,_,xz,xz,sl (n:=3),λr B=>⟨sl (n:=1),λl nl=>⟨_,xz,(len:Int),xz,l,_,xz,ag.of ao,λp np=>?_⟩⟩⟩;rw[an8];have R:=au (o:=.tup [.str V_,.int 0,.int<|1+(0+(i:Int))]) (ae.refl I) B;have g3:db I r (.tup [.str V_,.int 0,.int<|1+(0+(i:Int))]) r=a_ (.tup [.str V_,.int 0,.int<|1+(0+(i:Int))]):=ao;have sZ:=au (o:=.lst<|ud len [V.ref r]) (au (o:=.lst [.ref r]) R nl) np;have np2:=(au (o:=.lst [.ref r]) R nl).free np;have g4:=au (o:=.lst<|ud len [V.ref r]) (au (o:=.lst [.ref r]) (ae.refl _) nl) np _ _ g3;have D:db (db (db I r<|.tup [.str V_,.int 0,.int<|1+(0+(i:Int))]) l<|.lst [.ref r]) p (.lst<|ud len [V.ref r]) p=a_ (.lst<|ud len [V.ref r]):=ao
   obtain⟨Y,Z,tM⟩:∃Y,bt (jm<|db (db (db I r<|.tup [.str V_,.int 0,.int<|1+(0+(i:Int))]) l<|.lst [.ref r]) p<|.lst<|ud len [V.ref r]) (ud len [V.ref r]) Y/\∀t∈Y,bY 0 t:=by
    cases len with
    | zero=>exact⟨[],.nil,λt z=>by cases z⟩
    | succ n=>
     refine⟨[(V_,[0,1+i])],?_,λt z=>?_⟩
     .rw[abc,List.take_nil];refine .cons ⟨r,xz,?_⟩ .nil;rw[abc,List.take_nil]at g4;rw[g4];show a_ (HO.tup [.str V_,.int 0,.int<|1+(0+(i:Int))])=a_ (HO.tup [.str V_,.int 0,.int ((1+i:Nat):Int)]);rw[show (1+(0+(i:Int)))=((1+i:Nat):Int) by lia]
     .rw[cO.mp z];exact .put 0 (1+i) qc<|Vz _ li
   generalize db (db (db I r<|.tup [.str V_,.int 0,.int<|1+(0+(i:Int))]) l<|.lst [.ref r]) p (.lst<|ud len [V.ref r])=H4 at sZ D Z ⊢;have Rz:(ud len [V.ref r]).length<=len:=by rw[eZ];exact zI _ _
   have mH:=r_ Z;generalize ud len [V.ref r]=us at D Z Rz mH ⊢;refine vr xz ⟨p,⟨_,xz,.inl<|ag.of D,_,xz,_,_,xz,⟨li,li,li,li⟩,?_⟩⟩;rw[show ((len:Int)-(us.length:Int)).toNat=len-us.length by lia]
   let W2:IV:=λj σ H'=>∃C ts w6,σ=[a_ (.int c),a_<|.ref L,a_<|.ref J,a_<|.int<|0+(i:Int),a_<|.int (len:Nat),a_<|.ref p,w6]/\ae I H'/\H' p=a_ (.lst C)/\bt (jm H') C ts/\ts.length=us.length+j/\∀t∈ts,bY len t
   refine r6 (n:=len-us.length) W2 ⟨us,Y,_,xz,sZ,D,Z,li,λt B=>(tM t B).mono<|ba _⟩ ?_ ?_
   .rintro j σ H5 hj ⟨C,ts,w6,rfl,M,S,T,Rc,hg⟩;have hzl:=r_ T;refine aB (Xi (ds:=ds) (i:=2+4*i+(us.length+j)) li) λdk mk ek=>?_;have eI:(2+4*(0+(i:Int))+((us.length:Int)+(j:Int)))=((2+4*i+(us.length+j):Nat):Int):=li;refine vr xz ⟨.inl ⟨xz,_,ag.of S⟩,⟨_,xz,_,xz,_,_,xz,xz,.inl ⟨qc,qc⟩,_,_,xz,xz,_,xz,_,_,xz,xz,J,_,_,.int dk,xz,xz,ag.of<|M _ _ U,(by rw[eI];exact ek),_,xz,dk,len,xz,hd0 dk mk,li,λv H6 t G ht6 hg6=>⟨p,C,v,xz,xz,G _ _ S,by rw[hsz];lia,?_⟩⟩⟩;have Q5:=G _ _ S;have N:=vL (o:=.lst<|C++[v]) Q5;refine uV (C++[v]) (ts++[t]) (iK _ xz (EZ (M.fT G) np2) ao (mV (Paired.bq T λ_ _ q=>q.keep λb xs e=>N _ _<|G _ _ e)<|ht6.keep N) (by rw[dG,Rc];rfl) λx u=>?_);obtain u|u:=ir.mp u
    .exact hg x u
    .rw[cO.mp u];exact hg6
   .rintro σ H5 ⟨C,ts,w6,rfl,M,S,T,Rc,hg⟩;have hzl:=r_ T;have tQ:=M _ _ mJ;have hd5:=M _ _ U;refine dQ _ xz (.inl ⟨xz,_,ag.of tQ⟩)<|vr xz<|gm p C xz<|.inl ⟨ag.of S,λr B=>⟨L,ys,.ref r,xz,xz,?_,by rw[hsz];lia,?_⟩⟩
    .rw[aj<|bf tQ B];exact tQ
    .have G:=au (o:=.tup C) (ae.refl H5) B;have aoO:ts.length=len:=li;have hL6:=G _ _ tQ;have N:=vL (o:=.lst<|ys++[.ref r]) hL6;have s56:=M.fT G;refine⟨(ys++[.ref r]),(ps++[ts]),_,_,_,(⟨_,xz,(EZ (s2.fT s56) nL),?_,ao,(mV (Paired.bq W λ_ _ q=>q.keep λb xs e=>N _ _<|s56 _ _ e) ⟨r,C,xz,N _ _ ao,Paired.bq T λ_ _ q=>q.keep λb xs e=>N _ _<|G _ _ e⟩),(by rw[dG,c8];rfl),(λx u=>?_)⟩)⟩
     .rw[aj nLd.g8];exact G _ _ hd5
     .obtain u|u:=ir.mp u
      .exact O x u
      .rw[cO.mp u];refine⟨li,λt B=>?_⟩;rw[aoO];exact hg t B
  .rintro σ I ⟨ys,ps,w3,w4,w5,w6,rfl,s2,U,mJ,W,c8,O⟩;refine vr xz<|gm L ys xz<|.inl ⟨ag.of mJ,λr B=>?_⟩;have R:=au (o:=.tup ys) (ae.refl I) B;exact q _ _ ps (s2.fT R) ⟨r,ys,xz,ao,Paired.bq W λ_ _ q=>q.keep λb xs e=>R _ _ e⟩ ⟨li,li,λp D=>⟨by have:=(O p D).1;lia,(O p D).2⟩⟩ c8 λp D=>(O p D).1
def uf(s:Tl):iQ (tv s) 0=a_ (.str s.1):=bA (j:=0) xz
def YK:Sp:=λvs H Q _=>∃(v:V)(s:Tl)(sz i:Nat),vs=[v,nV i]/\jm H v s/\bY sz s/\∀l H',ae H H'->H l=b_->H' l=a_ (.lst<|(kD s i).map nV)->Q (.ref l) H'
def ak9:aV jv jv (aP ML):=aZ
def ajj(F:aQ K "_law_nexts" "_law_nexts" ML f fd):aF P w K mg gl aE 1 f fd jv YK:=by
 refine F.ok ak9 λaH A _ s H vs Q E c h=>?_
 .obtain⟨v,st,sz,i,rfl,⟨e,rfl,b⟩,g,k⟩:=h;refine⟨_,aw (bJ (b0 c7 (aN bX (pv 0) ax) cp<|br _) (ar<|aS<|eC<|aa (bp jR (pv 1) ax)<|aa (aN bX (pv 0) ax) af) b8)<|ar<|aS<|eC<|aa (bp jR (pv 1) ax) af,?_⟩;refine⟨_,xz,e,_,_,_,xz,xz,aq.of b,uf _,xz,_,xz,?_⟩;rw[ug];refine bK (λhw=>?_) λhw=>?_
  .cases g with
   | skip r m h1 h2 h3=>exact⟨_,xz,_,_,xz,xz,_,xz,e,_,_,_,xz,xz,aq.of b,bA (j:=2) xz,sl (n:=2),λl a=>k l _ (au (ae.refl _) a) a<|by rw[ao,show kD ("skip",[r,m]) i=[i+1,m] by kernel_rfl];rfl⟩
   | put=>exact eu hw (show ¬(("put":cr)="skip") from dk)
   | add=>exact eu hw (show ¬(("add":cr)="skip") from dk)
   | set=>exact eu hw (show ¬(("set":cr)="skip") from dk)
   | look=>exact eu hw (show ¬(("look":cr)="skip") from dk)
   | swap=>exact eu hw (show ¬(("swap":cr)="skip") from dk)
   | clear=>exact eu hw (show ¬(("clear":cr)="skip") from dk)
  .exact⟨_,xz,_,_,xz,xz,sl (n:=1),λl a=>k l _ (au (ae.refl _) a) a<|by rw[ao];unfold kD;rw[ee hw];rfl⟩
def YL:Sp:=λvs H Q _=>∃(v:V)(s:Tl)(sz n:Nat),vs=[v,nV n]/\jm H v s/\bY sz s/\Q (nV<|iN s n) H
def ak':aV js js (aP LK):=aZ
def ajk(F:aQ K "_law_behind" "_law_behind" LK f fd):aF P w K mg gl aE 1 f fd js YL:=by
 refine F.ok ak' λaH A _ s H vs Q E i h=>?_
 .obtain⟨v,st,sz,n,rfl,⟨e,rfl,b⟩,g,k⟩:=h;refine let a:TS:=_;⟨_,aw (bJ (b0 c7 (aN bX (pv 0) ax) cp<|br _) (ar<|aS<|bp GL (pv 1)<|bp As ax<|aN bX (pv 0) ax) b8)<|pR a<|aw (bJ (PW.pt<|pw_or (b0 c7 (aN bX (pv 0) ax) cp<|br _)<|pw_or1<|b0 c7 (aN bX (pv 0) ax) cp<|br _) (ar<|aS ax) b8)<|ar<|aS<|pv 1,?_⟩;refine⟨_,xz,e,_,_,_,xz,xz,aq.of b,uf _,xz,_,xz,?_⟩;rw[ug];refine bK (λhw=>?_) λhw=>?_
  .cases g with
   | set m r h1 h2=>
    refine⟨_,xz,_,xz,e,_,_,_,xz,xz,aq.of b,bA (j:=1) xz,_,_,xz,xz,⟨om,om,qc⟩,_,_,xz,xz,?_⟩;show Q (V.int<|EN (n:Int)<|(1:Int)*(2:Int)^(m:Int).toNat) H;rw[Mz,FT];exact k
   | put=>exact eu hw (show ¬(("put":cr)="set") from dk)
   | add=>exact eu hw (show ¬(("add":cr)="set") from dk)
   | look=>exact eu hw (show ¬(("look":cr)="set") from dk)
   | swap=>exact eu hw (show ¬(("swap":cr)="set") from dk)
   | clear=>exact eu hw (show ¬(("clear":cr)="set") from dk)
   | skip=>exact eu hw (show ¬(("skip":cr)="set") from dk)
  .have c:setB st=none:=by unfold setB;rw[ee hw]
   have kill:fE st=c_->iN st n=0:=λz=>by unfold iN L5.behind;rw[ei z]
   refine⟨_,xz,e,_,_,_,xz,xz,aq.of b,uf _,xz,_,xz,?_⟩;rw[ug];refine bK (λh1=>?_) λh1=>?_
   .rw[kill (by unfold fE;rw[eN h1,Bool.or_true])]at k;exact k
   .refine⟨_,xz,e,_,_,_,xz,xz,aq.of b,uf _,xz,_,xz,?_⟩;rw[ug];refine bK (λh2=>?_) λh2=>?_
    .rw[kill (by unfold fE;rw[eN h2,Bool.true_or])]at k;exact k
    .have d:iN st n=n:=by
      unfold iN L5.behind fE;rw[eT h1,eT h2,c];rfl
     rw[d]at k;exact⟨_,xz,k⟩
def YO:Sp:=λvs H Q _=>∃(a:e_)(b:List V)(part:Pt),vs=[.ref a,nV 0]/\H a=a_ (.lst b)/\bt (jm H) b part/\part.length<=120/\(∀t∈part,bY part.length t)/\
 ∀(l:e_)(H':Hp)(row:List Nat),ae H H'->H l=b_->H' l=a_ (.lst<|row.map nV)->lL part.length row->Q (.ref l) H'
def vZ:aV [at3,"_law_first","_law_sets","_law_grown","_law_place","_law_other","_law_more"] [at3,"_law_first"] (aP LJ):=aZ
def ajm(F:aQ K "_law_closed" "_law_closed" LJ f fd)(gK:mg "len"=b_)(eM:mg "range"=b_)(DN:Dp P w K mg gl 1 "_law_nexts" jv YK)(DB:Dp P w K mg gl 1 "_law_behind" js YL):aF P w K mg gl aE 2 f fd [at3,"_law_first"] YO:=by
 refine F.ok vZ λaH A _ s H vs Q E hr h=>?_
 .obtain⟨a,M,part,rfl,ha,hp,hlen,hg,k⟩:=h;have c8:=r_ hp;refine let l:TS:=_;let p:TS:=_;let r:TS:=_;let t:TS:=_;let u:TS:=_;⟨_,aw (bC (i:=2) vZ.nd xz (aI xz)<|bp X0 (eC<|aa (pv 1) af)<|bp Ga (eC<|aa ax af)<|bu dS xz gK q_<|aa (pv 0) af)<|pR u<|aw (bC (i:=3) vZ.nd xz (aI xz) gD)<|pR t<|aw (Fh hV (dr<|pv 3)<|pR r<|aw (bC (i:=3) vZ.nd xz (aI xz) gD)<|ar<|i3 hV xz (kT xz eM<|aa (bu dS xz gK q_<|aa (pv 0) af) af) (bo (i:=4) vZ.nd xz<|aI xz)<|ar<|i3 hV xz (kx<|bN DN hr xz<|aa (aN bQ (pv 0)<|pv 4)<|aa (pv 4) af) (bo (i:=5) vZ.nd xz<|aI xz)<|pR p<|aw (bC (i:=6) vZ.nd xz (aI xz)<|bp GL (aN bQ (pv 2)<|pv 5)<|bN DB hr xz<|aa (aN bQ (pv 0)<|pv 4)<|aa (aN bQ (pv 2)<|pv 4) af)<|ar<|bJ (b0 pH (pv 6) (aN bQ (pv 2)<|pv 5)<|br _) (pR l<|aw (qD (pv 6)<|sr (pv 2) (pv 5) set_list)<|ar<|bC (i:=3) vZ.nd xz (aI xz) gD) b8)<|ar<|aS<|pv 2,?_⟩;have hsz:=fR;refine⟨_,xz,qc,λl0 n0=>⟨qc,λl1 n1=>?_⟩⟩;have W:=au (o:=.lst [V.int 0]) (au (o:=.lst [nV 0]) (ae.refl H) n0) n1;have g0:=au (o:=.lst [V.int 0]) (ae.refl<|db H l0<|.lst [nV 0]) n1 _ _ ao;have g1:db (db H l0<|.lst [nV 0]) l1 (.lst [V.int 0]) l1=a_ (.lst [.int 0]):=ao;have nn:=W;generalize db (db H l0<|.lst [nV 0]) l1 (.lst [V.int 0])=H1 at W g0 g1 ⊢;refine⟨_,xz,a,M,xz,.inl<|ag.of<|W _ _ ha,l1,_,_,xz,xz,g1,li,li,by rw[hsz];show 1*_<=_;lia,λl2 n2=>?_⟩;have ez:(cQ ((M.length:Nat):Int).toNat [V.int 0]).flatten=(cQ part.length 0).map nV:=by rw[eP,c8];exact WQ _
  rw[ez];have s1:=au (o:=.lst<|(cQ part.length 0).map nV) W n2;have h0:=au (o:=.lst<|(cQ part.length 0).map nV) (ae.refl H1) n2 _ _ g0;have h2:db H1 l2 (.lst<|(cQ part.length 0).map nV) l2=a_ (.lst<|(cQ part.length 0).map nV):=ao;generalize db H1 l2 (.lst<|(cQ part.length 0).map nV)=H2 at s1 h0 h2 ⊢;refine⟨l0,l2,_,_,xz,xz,h0,h2,by rw[hsz,aA,tV];show 1+_<=_;lia,λL nL=>?_⟩;have s3:=au (o:=.lst<|[nV 0]++(cQ part.length 0).map nV) s1 nL;have hL:db H2 L (.lst<|[nV 0]++(cQ part.length 0).map nV) L=a_ (.lst<|(cQ (part.length+1) 0).map nV):=by rw[ao];rfl
  have nL0:=s1.free nL;generalize db H2 L (.lst<|[nV 0]++(cQ part.length 0).map nV)=H3 at s3 hL ⊢
  let B:Nat:=(part.length+1)*4096
  refine Vt (λσ H'=>∃(row:List Nat)(g:Bool)(N D G:Option V),σ=[a_ (.ref a),a_<|nV 0,a_<|.ref L,a_<|.bl g,N,D,G]/\ae H H'/\H' L=a_ (.lst<|row.map nV)/\lL part.length row)
   (wK L B) ⟨_,c_,b_,b_,b_,xz,s3,hL,⟨tV,λx S=>by rw[Sz S];decide⟩⟩ ?_ ?_
  .rintro σ H4 ⟨I,g,N,D,G,rfl,s4,Sa,QD⟩;refine⟨_,xz,g,xz,?_⟩;cases g with
   | false=>exact eU ⟨_,xz,k L H4 I s4 nL0 Sa QD⟩
   | true=>
    refine jq ?_;have hs0:=QD.sum
    have Rp:wK L B [a_ (.ref a),a_<|nV 0,a_<|.ref L,a_<|V.bl c_,N,D,G] H4=1+B-I.sum:=by
     unfold wK;rw[Sa];show 1+B-((I.map nV).map natOf).sum=_;rw[E2]
    refine⟨_,xz,a,M,xz,.inl<|ag.of<|s4 _ _ ha,_,xz,li,li,r6 (n:=((M.length:Nat):Int).toNat) (λj σ H'=>∃(row:List Nat)(g:Bool)(N D G:Option V),σ=[a_ (.ref a),a_<|nV 0,a_<|.ref L,a_<|.bl g,N,D,G]/\ae H H'/\H' L=a_ (.lst<|row.map nV)/\lL part.length row/\ (g=d_/\row=I\/g=c_/\I.sum<row.sum))
     ⟨I,d_,N,D,G,xz,s4,Sa,QD,.inl ⟨xz,xz⟩⟩ ?_ ?_⟩
    .rintro j σ H5 hj ⟨row,g,y4,y5,y6,rfl,T,U,X,vn⟩;refine se (y:=nV j) (by show V.int (0+(j:Int))=V.int (j:Int);rw[pj]) ?_;rw[eP]at hj;have S:M[j]?=a_ M[j]:=aL hj;obtain⟨td,ke,Bf⟩:=Paired.at' hp S;have gt:=hg td<|aW ke;have IS:j<part.length:=li;refine⟨_,xz,_,xz,a,_,_,_,xz,xz,ag.of<|T _ _ ha,bA S,_,xz,_,td,_,j,xz,Bf.same T,gt,λlz H6 s6 nz hz=>⟨lz,xz,⟨_,ag.of hz⟩,?_⟩⟩;have nzL:lz≠L:=λz=>by rw[z,U]at nz;cases nz
     refine Cc (xs:=(kD td j).map nV) (λm σ H'=>∃(row:List Nat)(g:Bool)(D G:Option V),σ=[a_ (.ref a),a_<|nV 0,a_<|.ref L,a_<|.bl g,a_<|nV j,D,G]/\ae H H'/\H' L=a_ (.lst<|row.map nV)/\H' lz=a_ (.lst<|(kD td j).map nV)/\lL part.length row/\ (g=d_/\row=I\/g=c_/\I.sum<row.sum))
      ⟨row,g,y5,y6,xz,T.fT s6,s6 _ _ U,hz,X,vn⟩ (λm σ H' _⟨_,_,_,_,_,_,_,h,_⟩=>ag.of h) ?_ ?_
     .rintro m v σ H7 hv ⟨C,g',z5,z6,rfl,O,J,Bb,R,Y⟩;rw[cc]at hv;obtain⟨c,hc,rfl⟩:=vt.mp hv;have RO:=aW hc;have ij:=R.len;have Z:c<C.length:=by have:=GN gt IS c RO;lia
      have tK:j<C.length:=li;refine⟨_,xz,_,xz,L,_,_,_,xz,xz,ag.of J,qH Z,_,xz,_,xz,a,_,_,_,xz,xz,ag.of<|O _ _ ha,bA S,_,xz,_,xz,L,_,_,_,xz,xz,ag.of J,qH tK,_,td,_,_,xz,Bf.same O,gt,?_⟩;have IZ:=Yu gt<|R.at' j;generalize iN td (C.getD j 0)=b at IZ ⊢;refine⟨_,_,xz,xz,?_⟩;refine se (y:=nV<|L5.g6 C c ||| b) (fF V.int<|FT _ _) ?_;refine⟨_,xz,_,xz,_,xz,L,_,_,_,xz,xz,ag.of J,qH Z,xz,_,xz,nv (λhG=>?_) λ_=>⟨C,g',_,_,xz,O,J,Bb,R,Y⟩⟩;refine⟨_,xz,_,xz,_,xz,L,_,_,c,xz,xz,J,FP (by rw[aA];exact Z),?_⟩;have Dm:(C.map nV).set c (nV<|L5.g6 C c ||| b)=(C.set c<|L5.g6 C c ||| b).map nV:=by rw[qk]
      rw[Dm];refine⟨_,c_,_,_,xz,Lw O nL0,ao,by rw[aj nzL];exact Bb,R.set IZ,.inr ⟨xz,?_⟩⟩;have aoP:=L5.sum_set (v:=L5.g6 C c ||| b) Z;have oZ:L5.g6 C c<=L5.g6 C c ||| b:=To
      have hn:L5.g6 C c≠L5.g6 C c ||| b:=λz=>hG<|fF nV z.g8
      rcases Y with ⟨_,rfl⟩ | ⟨_,q⟩ <;> lia
     .rintro σ H7 ⟨C,g',z5,z6,rfl,O,J,_,R,Y⟩;exact⟨C,g',_,_,_,xz,O,J,R,Y⟩
    .rintro σ H5 ⟨row,g,y4,y5,y6,rfl,T,U,X,vn⟩;refine⟨⟨row,g,y4,y5,y6,xz,T,U,X⟩,?_⟩;rw[Rp];obtain⟨tM,_⟩|⟨tL,Bh⟩:=vn
     .rw[tM];show 0<_;lia
     .rw[tL];unfold wK;rw[U];show 1+B-((row.map nV).map natOf).sum<_;rw[E2];have:=X.sum;lia
  .rintro σ H' Q1 Q2 hQ ⟨v,e,d,ed,q⟩;exact⟨v,e,d,ed,hQ _ _ q⟩
def aob(H:Hp)(v:V)(p:Pt):Prop:=∃b us,v=.ref b/\H b=a_ (.lst us)/\bt (jm H) us p
def P0(H:Hp)(a:e_)(ps:List Pt):Prop:=∃b,H a=a_ (.lst b)/\bt (aob H) b ps
def ajv(x y:Nat):decide (nV x=nV y)=decide (x=y):=by
 by_cases h:x=y
 .rw[eN h,eN (by rw[h])]
 .rw[eT h,eT λz=>h (by injection z with z;omega)]
def YJ:Sp:=λvs H Q _=>∃(a:e_)(c n:Nat)(ps:List Pt),vs=[.ref a,nV c,nV n]/\P0 H a ps/\cV ps/\∀b:Bool,Q (.bl b) H
def Gz:aV [as1,"_law_clerk","_law_name","_law_other","_law_step","_law_sets"] lu (aP LI):=aZ
def aji(F:aQ K "_law_shared" "_law_shared" LI f fd)(J:mg "len"=b_)(L:mg "range"=b_):aF P w K mg gl aE 1 f fd lu YJ:=by
 refine F.ok Gz λaH A _ s H vs Q E Y h=>?_
 .obtain⟨a,c,n,ps,rfl,⟨t,ha,C⟩,D,k⟩:=h;have Z:=r_ C;have hle:=D.le;refine let d:TS:=_;⟨_,aw (i3 hV xz (kT xz L<|aa (bu dS xz J q_<|aa (pv 0) af) af) (bo (i:=3) Gz.nd xz<|aI xz)<|ar<|i3 hV xz (kx<|aN bQ (pv 0)<|pv 3) (bo (i:=4) Gz.nd xz<|aI xz)<|pR d<|aw (bC (i:=5) Gz.nd xz (aI xz)<|m7 (jB c7 (aN bX (pv 4) ax) cp<|br _)<|oq<|jB c7 (aN bX (pv 4) ax) (pv 2)<|br _)<|ar<|bJ (PW.pt<|pw_and (b0 pH (pv 3) (pv 1)<|br _)<|pw_and1<|PW.pt<|pw_or (dr<|pv 5)<|pw_or1<|PW.pt<|pw_and (b0 c7 (aN bX (pv 4) ax) cp<|br _)<|pw_and1<|b0 c7 (aN bX (pv 4) ax) (pv 2)<|br _) (ar<|aS gD) b8)<|ar<|aS gD,?_⟩;refine⟨_,xz,a,t,xz,.inl<|ag.of ha,_,xz,om,om,?_⟩;refine r6 (n:=((t.length:Nat):Int).toNat) (λi σ H'=>H'=H/\∃(z l g:Option V),σ=[a_ (.ref a),a_<|nV c,a_<|nV n,z,l,g]) ⟨xz,b_,b_,b_,xz⟩ ?_ ?_
  .rintro i σ G hi ⟨rfl,z,l,g,rfl⟩;refine se (y:=nV i) (by show V.int (0+(i:Int))=V.int (i:Int);rw[pj]) ?_;rw[eP]at hi;have u:t[i]?=a_ t[i]:=aL hi;obtain⟨p,M,b,us,N,I,O⟩:=Paired.at' C u;obtain⟨c8,S⟩:=D.part p<|aW M;refine⟨_,xz,_,xz,a,_,_,_,xz,xz,ag.of ha,bA u,b,N,⟨us,ag.of I⟩,Cc (xs:=us) (λj σ H'=>H'=G/\∃(l g:Option V),σ=[a_ (.ref a),a_<|nV c,a_<|nV n,a_<|nV i,l,g]) ⟨xz,l,g,xz⟩ ?_ ?_ ?_⟩
   .rintro j σ v _ ⟨rfl,_⟩;exact ag.of I
   .rintro j x σ v u ⟨rfl,l,g,rfl⟩;obtain⟨td,T,e,rfl,o⟩:=Paired.at' O u;have gt:=S td (aW T)
    have U:∃b:Bool,∀(R:VK),R (.bl b) v->(YF (sQ Qp (sQ (wm K) (nE 4)<|tC<|V.int 0)<|tC<|V.str J_)<|sQ Qp (sQ (wm K) (nE 4)<|tC<|V.int 1)<|nE 2) [a_ (.ref a),a_<|nV c,a_<|nV n,a_<|nV i,a_<|.ref e,g] v R:=by
     by_cases hw:td.1 = J_
     .cases gt with
      | set r m h1 h2=>
       refine⟨decide<|nV r=nV n,λR B=>?_⟩;exact⟨_,xz,e,_,_,_,xz,xz,aq.of o,uf _,xz,_,xz,jq ⟨_,xz,e,_,_,_,xz,xz,aq.of o,bA (j:=1) xz,_,xz,xz,B⟩⟩
      | put=>exact eu hw (show ¬(("put":cr)="set") from dk)
      | add=>exact eu hw (show ¬(("add":cr)="set") from dk)
      | look=>exact eu hw (show ¬(("look":cr)="set") from dk)
      | swap=>exact eu hw (show ¬(("swap":cr)="set") from dk)
      | clear=>exact eu hw (show ¬(("clear":cr)="set") from dk)
      | skip=>exact eu hw (show ¬(("skip":cr)="set") from dk)
     .refine⟨d_,λR B=>⟨_,xz,e,_,_,_,xz,xz,aq.of o,uf _,xz,_,xz,?_⟩⟩;rw[ug,eT hw];exact eU B
    obtain⟨sb,W⟩:=U;refine W _ ⟨_,xz,_,xz,xz,_,xz,?_⟩;rw[ajv];refine nv (λX=>?_) λX=>⟨xz,_,_,xz⟩;refine⟨_,xz,_,xz,jW (λh=>jq<|k c_) λh=>?_⟩;refine⟨_,xz,e,_,_,_,xz,xz,aq.of o,uf _,xz,_,xz,?_⟩;rw[ug];refine bK (λhw=>?_) λhw=>⟨xz,_,_,xz⟩;cases gt with
    | swap r m h1 h2=>exact⟨_,xz,e,_,_,_,xz,xz,aq.of o,bA (j:=2) xz,_,xz,xz,_,xz,bK (c:=nV m=nV n) (λq=>k c_) λq=>⟨xz,_,_,xz⟩⟩
    | put=>exact eu hw (show ¬(("put":cr)="swap") from dk)
    | add=>exact eu hw (show ¬(("add":cr)="swap") from dk)
    | look=>exact eu hw (show ¬(("look":cr)="swap") from dk)
    | set=>exact eu hw (show ¬(("set":cr)="swap") from dk)
    | clear=>exact eu hw (show ¬(("clear":cr)="swap") from dk)
    | skip=>exact eu hw (show ¬(("skip":cr)="swap") from dk)
   .rintro σ v ⟨rfl,l,g,rfl⟩;exact⟨xz,_,_,_,xz⟩
  .rintro σ G ⟨rfl,z,l,g,rfl⟩;exact k d_
def XD:Sp:=λvs H Q _=>∃(a:e_)(c n sz:Nat)(v:V)(s:Tl)(kd:cr)(ps:List Pt),vs=[.ref a,nV c,v,nV n,.str kd]/\P0 H a ps/\cV ps/\jm H v s/\bY sz s/\∀b:Bool,(b=c_->s.1 = K_\/s.1 = J_)->Q (.bl b) H
def aiT:aV ku ku (aP Om):=aZ
def ahF(F:aQ K "_law_bad" "_law_bad" Om f fd)(i:Dp P w K mg gl 1 "_law_shared" lu YJ):aF P w K mg gl aE 2 f fd ku XD:=by
 refine F.ok aiT λaH A _ s H vs Q E l h=>?_
 .obtain⟨a,c,n,sz,v,st,kd,ps,rfl,o,p,⟨e,rfl,d⟩,g,k⟩:=h;refine⟨_,aw (bJ (b0 c7 (aN bX (pv 2) ax) cp<|br _) (ar<|aS<|m7 (jB pH (bp Gd (pv 3)<|GK Xr<|bp As ax<|aN bX (pv 2) ax) ax<|br _)<|oq<|bN i l xz<|aa (pv 0)<|aa (pv 1)<|aa (aN bX (pv 2) ax) af) b8)<|ar<|aS<|m7 (jB c7 (pv 4) cp<|br _)<|m7 (jB c7 (aN bX (pv 2) ax) cp<|br _)<|oq<|jB pH (bp Gd (pv 3)<|GK Xr<|bp As ax<|aN bX (pv 2) ax) ax<|br _,?_⟩;refine⟨_,xz,e,_,_,_,xz,xz,aq.of d,uf _,xz,_,xz,?_⟩;rw[ug];refine bK (λhw=>?_) λhw=>?_
  .cases g with
   | look r m h1 h2=>
    refine⟨_,xz,_,xz,e,_,_,_,xz,xz,aq.of d,bA (j:=2) xz,_,_,xz,xz,⟨om,om,qc⟩,_,xz,_,_,xz,xz,xz,_,xz,jW (λh=>?_) λh=>k _ λ_=>.inl xz⟩;exact⟨_,xz,_,xz,_,xz,e,_,_,_,xz,xz,aq.of d,bA (j:=2) xz,a,c,m,ps,xz,o,p,λb=>k b λ_=>.inl xz⟩
   | put=>exact eu hw (show ¬(("put":cr)="look") from dk)
   | add=>exact eu hw (show ¬(("add":cr)="look") from dk)
   | set=>exact eu hw (show ¬(("set":cr)="look") from dk)
   | swap=>exact eu hw (show ¬(("swap":cr)="look") from dk)
   | clear=>exact eu hw (show ¬(("clear":cr)="look") from dk)
   | skip=>exact eu hw (show ¬(("skip":cr)="look") from dk)
  .refine⟨_,xz,xz,_,xz,jW (λh=>?_) λh=>k _ λz=>by cases z⟩;refine⟨_,xz,e,_,_,_,xz,xz,aq.of d,uf _,xz,_,xz,?_⟩;rw[ug];refine bK (λhw=>?_) (λhw=>k _ λz=>by cases z);cases g with
   | set m r h1 h2=>exact⟨_,xz,_,xz,e,_,_,_,xz,xz,aq.of d,bA (j:=1) xz,_,_,xz,xz,⟨om,om,qc⟩,_,xz,_,_,xz,xz,xz,k _ λ_=>.inr xz⟩
   | put=>exact eu hw (show ¬(("put":cr)="set") from dk)
   | add=>exact eu hw (show ¬(("add":cr)="set") from dk)
   | look=>exact eu hw (show ¬(("look":cr)="set") from dk)
   | swap=>exact eu hw (show ¬(("swap":cr)="set") from dk)
   | clear=>exact eu hw (show ¬(("clear":cr)="set") from dk)
   | skip=>exact eu hw (show ¬(("skip":cr)="set") from dk)
section
variable{t:bh}{C CT:e_}
def Wz(K:u_)(t:bh)(C CT:e_)(f:Mc->bD):Sp:=λvs H Q _=>∃m A S,vs=[.ref m]/\bg t C CT H m A S/\ie S/\S.ck.length=2/\∀H' p,ae H H'->eX K H' (.ref p) (f S)->Q (.ref p) H'
def ajt:([as2,"_law_clerk"]:List cr).Nodup:=dk
def XJ:aV [as2,"_law_registers"] [as2] (aP Ol):=aZ
def ahE(F:aQ K "_law_end" "_law_end" Ol f fd)(B:Bw mg)(z:gF K C)(O:Mt P w K mg gl C 1 "registers" hA (Nd t C CT))(R:Mt P w K mg gl C 1 "board" gw (Mx t C CT)):aF P w K mg gl aE 2 f fd [as2] (Wz K t C CT i8):=by
 refine F.ok XJ λaH A _ s H vs Q E D h=>?_
 .obtain⟨m,A,S,rfl,M,W,h2,q⟩:=h
  refine let a:TS:=_;⟨_,aw (bC (i:=1) XJ.nd xz (aI xz) (fw ma xz B.tuple iY (aa (eB (N:=[as2,"_law_clerk"]) (idx:=[0]) xz (cF.of<|by kernel_rfl) (eA<|az _) (kT xz B.range<|aa ax af)
   (λ_ _ _ _=>bo (i:=1) ajt xz (aI xz)<|.inr xz) (λ_ _ _ _=>eQ) λ_ _ _ _=>fw (Gw K) xz B.tuple iY<|aa (jT (pv 0) z.cl O D<|aa (pv 1) af) af) af)))
   (pR a<|ar<|aS<|fj<|aa (pv 1)<|aa (fw ma xz B.tuple iY<|aa (pG (pv 0) z.cl R D) af) af),?_⟩
  obtain⟨dx,fs,hm,G⟩:=id M.obj;have h4:=W.four;have hn:((2:Int)).toNat=(S.ck.map jb).length:=by rw[aA,h2];rfl
  have u:∀{l:List Ck}{d:bD},d∈l.map jb->cu 5 d=true:=λh=>by obtain⟨k,_,rfl⟩:=cj.mp h;exact AA 4 k.rg
  refine⟨_,xz,li,li,Fo (K:=K) hn li (λd hd=>u hd) (λi d e Q hd s1 c=>?_) λys e s1 r=>?_⟩
  .obtain⟨k,T,rfl⟩:=Gh hd;exact vM xz (s1 _ _ hm) (G.ms _ dk)<|vr xz ⟨m,A,S,i,k,xz,M.same s1,T,λl v=>⟨l,_,xz,.inl ⟨ag.of ao,λp x=>c _ _ (au (au (ae.refl _) v) x)<|.tup (aq.of ao)<|Dg k.rg⟩⟩⟩
  .have v:=vK r;rw[aA]at v;refine⟨by rw[fR];lia,λl U=>?_⟩;refine⟨l,ys,xz,.inl ⟨ag.of ao,λp x=>?_⟩⟩;have s2:=au (o:=.tup ys) (au (o:=.lst ys) (ae.refl e) U) x;have g2:db (db e l<|.lst ys) p (.tup ys) p=a_ (.tup ys):=ao;have r2:=nZ (TK.of s2) (λd hd=>u hd) r;generalize db (db e l<|.lst ys) p (.tup ys)=H2 at s2 g2 r2 ⊢;have y:=s1.fT s2;refine ay _ xz ?_;refine vM xz (y _ _ hm) (G.ms _ dk) ⟨m,A,S,xz,M.same y,λl2 X=>⟨l2,_,xz,.inl ⟨ag.of ao,λb Y=>⟨sl (n:=2),λI J=>?_⟩⟩⟩⟩;have g:ae H2 (db (db H2 l2<|.lst<|S.bd.map V.int) b<|.tup<|S.bd.map V.int):=au (au (ae.refl _) X) Y;have L:db (db H2 l2<|.lst<|S.bd.map V.int) b (.tup<|S.bd.map V.int) b=a_ (.tup<|S.bd.map V.int):=ao;generalize db (db H2 l2<|.lst<|S.bd.map V.int) b (.tup<|S.bd.map V.int)=H3 at g L J ⊢;have j:ae H3 (db H3 I<|.tup [.ref p,.ref b]):=au (ae.refl _) J;exact q _ I (y.fT<|g.fT j)<|.tup (aq.of ao)<|.cons (.tup (aq.of<|(g.fT j) _ _ g2)<|nZ (TK.of<|g.fT j) (λd hd=>u hd) r2)<|.cons (.tup (aq.of<|j _ _ L)<|Dg S.bd) .nil
end
section
variable{kd:cr}{ps:List Pt}{R:Nat->Nat->Nat->Prop}{k k':Nat}{d:bD}
def aew(h:yb S0 n j)(f:¬n<(aM S0 j).length):(aM S0 j).length<=j:=tS λz=>h.2 ⟨li,li⟩
def XQ{V:Vw}(h:g9 kd ps V):V.1.length=ps.length:=by
 induction h with
 | new=>exact aA ..
 | st _ s ih=>
  cases s with
  | act=>exact(fe ..).fT ih
  | lh=>exact(fe ..).fT ih
def agh(g:cV ps)(h1:k<=14000)(h2:k'<=14000)(b:(aM (bj I_ ps) k).length<=k)(c:(aM (bj N_ ps) k').length<=k')(h:d∈gf (aM (bj I_ ps) k)):d∈gf (aM (bj N_ ps) k'):=by
 obtain⟨V,r,a,e⟩:=(xV g h1 b).mp h;exact(xV g h2 c).mpr ⟨V,ahQ g r,a,e⟩
def aey(g:cV ps)(h1:k<=14000)(h2:k'<=14000)(b:(aM (bj N_ ps) k).length<=k)(c:(aM (bj l_ ps) k').length<=k')(h:d∈gf (aM (bj N_ ps) k)):d∈gf (aM (bj l_ ps) k'):=by
 obtain⟨V,r,a,e⟩:=(xV g h1 b).mp h;exact(xV g h2 c).mpr ⟨V,ae' r,a,e⟩
def aex(g:cV ps)(b:kd = N_\/kd = l_)(F:AL kd ps R)(h1:k<=14000)(h2:k'<=14000)(f:(aM (bj kd ps) k).length<=k)(i:(aM (bj I_ ps) k').length<=k')(h:d∈gf (aM (bj kd ps) k)):d∈gf (aM (bj I_ ps) k'):=by
 obtain⟨V,r,a,e⟩:=(xV g h1 f).mp h;refine(xV g h2 i).mpr ⟨V,adV g b F r λx j=>?_,a,e⟩;obtain⟨c,l,ex⟩:=nR j;have m:=XQ r;exact(a c x _ (by rw[aL l,ex])<|aL (show c<ps.length by lia)).2
end
def sH(p:Pt):Nat:=(p.filter λt=>decide<|t.1≠(M_ : cr)).length
def sS(ps:List Pt):Nat:=(ps.map sH).sum
def sN:Tl:=(M_,[])
theorem V6:∀{p:Pt}{j:Nat}{t:Tl},p[j]?=a_ t->t.1≠(M_ : cr)->sH (p.set j sN)+1=sH p
 | x::p,0,t,h,n=>by
  cases h;unfold sH;rw[List.set_cons_zero,kL,kL,ee (show ¬decide (sN.1≠(M_ : cr))=c_ from dk),ei<|eN n];rfl
 | x::p,j+1,t,h,n=>by
  have ih:=@V6 p j t h n;unfold sH at *;rw[abi,kL,kL]
  by_cases a:decide (x.1≠(M_ : cr))=c_
  .rw[ei a,ei a,eJ,eJ,ih]
  .rw[ee a,ee a,ih]
def WZ(a:ps[c]?=a_ p)(b:p[j]?=a_ t)(n:t.1≠(M_ : cr)):sS (ps.set c<|p.set j sN)<sS ps:=by
 have d:c<(ps.map sH).length:=by rw[aA];exact(cb.mp a).1
 have h:=L5.sum_set (v:=sH<|p.set j sN) d
 have e:L5.g6 (ps.map sH) c=sH p:=by
  show (ps.map sH).getD c 0=_;exact uj (by rw[cc,a];rfl)
 rw[e,<-V6 b n]at h;unfold sS;rw[qk];lia
def af6(g:cV ps)(b:ps[c]?=a_ p):cV (ps.set c<|p.set j sN):=by
 refine⟨by rw[fe];exact g.1,by rw[fe];exact g.2,λq d=>?_⟩;obtain h|rfl:=zw d
 .exact g.part q h
 .have a:=g.part p<|aW b;refine⟨by rw[fe];exact a.1,λt e=>?_⟩;rw[fe];obtain h|rfl:=zw e
  .exact a.2 t h
  .exact .clear
def afW{ps:List Pt}{c j:Nat}{p:Pt}(a:ps[c]?=a_ p):(ps.set c<|p.set j sN).map kM=ps.map kM:=by
 rw[qk,fe];refine JC λi=>?_;rw[abx]
 split
 .rename_i e
  subst e;rw[cc,a]
  split
  .rfl
  .rename_i h
   exact eu (by rw[aA];exact(cb.mp a).1) h
 .rfl
structure qY(H0 H:Hp)(a:e_)(bs:List e_)(ps:List Pt):Prop where
 la:H a=a_ (.lst<|bs.map V.ref)
 ps:bt (λb p=>∃us,H b=a_ (.lst us)/\bt (jm H) us p) bs ps
 nd:bs.Nodup
 na:a∉bs
 fa:H0 a=b_
 fb:∀b∈bs,H0 b=b_
 s:ae H0 H
def Fr(bs:List e_)(H H':Hp):Prop:=∀x o,x∉bs->H x=a_ o->H' x=a_ o
theorem T'{b c:Type}{F:b->c->Prop}{x:b}{y:c}(h:F x y):∀{l:List b}{r:List c}{j:Nat},bt F l r->bt F (l.set j x) (r.set j y)
 | _,_,_,.nil=>.nil
 | _,_,0,.cons _ t=>.cons h t
 | _,_,j+1,.cons a t=>.cons a<|T' h t
theorem Ua{c d e:Type}{F:e->d->Prop}{f:c->e}:∀{l:List c}{r:List d},bt (λa b=>F (f a) b) l r->bt F (l.map f) r
 | _,_,.nil=>.nil
 | _,_,.cons a b=>.cons a<|Ua b
section
variable{H0 H H':Hp}{a:e_}{bs:List e_}{ps:List Pt}
def qY.ls(h:qY H0 H a bs ps):P0 H a ps:=⟨_,h.la,Ua<|Paired.bq h.ps λb p⟨us,e,q⟩=>⟨b,us,xz,e,q⟩⟩
def qY.same(h:qY H0 H a bs ps)(s:ae H H'):qY H0 H' a bs ps:=⟨s _ _ h.la,Paired.bq h.ps λb p⟨us,e,q⟩=>⟨us,s _ _ e,Paired.bq q λ_ _ q=>q.same s⟩,h.nd,h.na,h.fa,h.fb,h.s.fT s⟩
def qY.up{c j:Nat}(h:qY H0 H a bs ps)(f:bs[c]?=a_ b)(m:ps[c]?=a_ p)(l:H b=a_ (.lst us))(n:H tp=a_ (.tup<|tv sN)):qY H0 (db H b<|.lst<|us.set j<|.ref tp) a bs (ps.set c<|p.set j sN):=by
 have hm:=aW f
 have g:∀x xs,H x=a_ (.tup xs)->db H b (.lst<|us.set j<|.ref tp) x=a_ (.tup xs):=λx xs e=>by
  rw[aj (λz=>by rw[z,l]at e;cases e)];exact e
 refine⟨by rw[aj λz=>h.na (by rw[z];exact hm)];exact h.la,?_,h.nd,h.na,h.fa,h.fb,EZ h.s<|h.fb b hm⟩;refine BI (F:=λb p=>∃us,H b=a_ (.lst us)/\bt (jm H) us p) h.ps (λi x y o d k⟨vs,e,q⟩=>⟨vs,?_,Paired.bq q λ_ _ q=>q.keep g⟩) λx y d k⟨vs,e,q⟩=>?_
 .rw[aj λz=>?_]
  .exact e
  .subst z;exact o<|(List.getElem?_inj (cb.mp d).1 h.nd).mp<|d.fT f.g8
 .rw[f]at d;cases d;rw[m]at k;cases k;rw[l]at e;cases e;exact⟨_,ao,T' ⟨tp,xz,g _ _ n⟩<|Paired.bq q λ_ _ q=>q.keep g⟩
end
def XB:Sp:=λvs H Q _=>∃(v:V)(F:e_)(kd:cr)(ps:List Pt),vs=[v,.ref F,.str kd]/\iB H v ps/\cV ps/\ps.length=2/\H F=a_ (.lst [nV 0,nV 0])/\
 ∀H' r x y a,ae H H'->H' r=a_ (.tup [x,y])->iB H' x a->cV a->a.map kM=ps.map kM->Q (.ref r) H'
def uh:aV [as1,"_law_firsts","_law_kind","_law_parts","_law_sets","_law_turned","_law_clerk","_law_place"] lA (aP Nx):=aZ
def ajs:(["_law_parts","_law_firsts","_law_k"]:List cr).Nodup:=dk
def V5:([at3]:List cr).Nodup:=dk
def afA{f:e_}{fd:jO}(F:aQ K "_law_mended" "_law_mended" Nx f fd)(gK:mg "len"=b_)(eM:mg "range"=b_)(iE:mg S_ = b_)(iG:mg "list"=b_)(DC:Dp P w K mg gl 2 "_law_closed" [at3,"_law_first"] YO)(DB:Dp P w K mg gl 2 "_law_bad" ku XD):aF P w K mg gl aE 3 f fd lA XB:=by
 refine F.ok uh λaH A _ s H vs Q E hr h=>?_
 .obtain⟨v,F,kd,ps,rfl,⟨e,bc,rfl,he,hpv⟩,hg,h2,hF,q⟩:=h
  refine let d:TS:=_;let k:TS:=_;let t:TS:=_;let u:TS:=_;let B:TS:=_;let C:TS:=_;let D:TS:=_;let G:TS:=_;let L:TS:=_;let M:TS:=_;⟨_,aw (bC (i:=3) uh.nd xz (uo xz)<|eB (N:=[at3]) (idx:=[]) xz (cF.of<|by kernel_rfl) (eA<|ba _) (mZ<|pv 0) (λ_ _ _ _=>bo (i:=0) V5 xz (aI xz)<|.inr xz) (λ_ _ _ _=>eQ) λ_ _ _ _=>fw (GR K) xz iG r9<|aa (pv 0) af)
   (pR M (aw (bC (i:=4) uh.nd xz (aI xz)<|eC af) (pR L (aw (bC (i:=5) uh.nd xz (aI xz) gD) (pR G (aw (Fh hV (dr<|pv 5) (pR C (aw (bC (i:=5) uh.nd xz (aI xz) gD) (pR B (aw (BK (i:=4) (N:=["_law_parts","_law_firsts","_law_k"]) (idx:=[3,1]) uh.nd xz xz xz (cF.of<|by kernel_rfl) (eA<|az _) (kT xz eM<|aa (bu dS xz gK q_<|aa (pv 3) af) af) (λ_ _ _ _=>bo (i:=2) ajs xz (aI xz)<|.inr xz) (λ_ _ _ _=>eQ)
      λ_ _ _ _=>bN DC hr xz<|aa (aN (GY K) (pv 0)<|pv 2)<|aa (aN (GY K) (pv 1)<|pv 2) af)
    (pR u<|ar<|i3 hV xz (kT xz eM<|aa (bu dS xz gK q_<|aa (pv 3) af) af) (bo (i:=6) uh.nd xz<|aI xz)<|pR t<|ar<|i3 hV xz (kT xz eM<|aa (bu dS xz gK q_<|aa (aN bQ (pv 3)<|pv 6) af) af) (bo (i:=7) uh.nd xz<|aI xz)<|pR k<|ar<|bJ (dr<|bN DB hr xz<|aa (pv 3)<|aa (pv 6)<|aa (aN bQ (aN bQ (pv 3)<|pv 6)<|pv 7)<|aa (aN bQ (aN bQ (pv 4)<|pv 6)<|pv 7)<|aa (pv 2) af) (pR d<|aw (qD (fj<|aa cp af)<|sr (aN bQ (pv 3)<|pv 6) (pv 7) set_list)<|ar<|bC (i:=5) uh.nd xz (aI xz) gD) b8))))))
   (pR D<|ar<|aS<|fj<|aa (fw ma xz iE iY<|aa (eB (N:=[at3]) (idx:=[]) xz (cF.of<|by kernel_rfl) (eA<|ba _) (kx<|pv 3) (λ_ _ _ _=>bo (i:=0) V5 xz (aI xz)<|.inr xz) (λ_ _ _ _=>eQ) λ_ _ _ _=>fw (Gw K) xz iE iY<|aa (pv 0) af) af)<|aa (pv 4) af))))))),?_⟩
  have hsz:=fR;have c8:=r_ hpv;refine⟨_,xz,e,xz,⟨_,aq.of he⟩,?_⟩;refine dU (n:=bc.length) (λi ys H'=>i<=bc.length/\∃bs,ys=bs.map V.ref/\ae H H'/\bs.Nodup/\(∀b∈bs,H b=b_)/\bt (λb p=>∃us,H' b=a_ (.lst us)/\bt (jm H') us p) bs (ps.take i)) li ⟨ba _,[],xz,ae.refl _,.nil,λb z=>(by cases z),.nil⟩ ?_ ?_ ?_ ?_ ?_
  .rintro i ys H' ⟨_,bs,rfl,_,_,_,O⟩;rw[aA,r_ O,eZ];exact zI _ _
  .rintro i ys H' hi ⟨_,bs,rfl,s1,_⟩;exact⟨_,_,aq.of<|s1 _ _ he,aL hi⟩
  .rintro ys H' ⟨_,bs,rfl,s1,_⟩;exact⟨_,aq.of<|s1 _ _ he,az _⟩
  .rintro i ys H1 hi ⟨_,bs,rfl,s1,nd,fr,O⟩ x H2 ⟨eH,cU⟩;subst eH;have hx:=cU _<|aq.of<|s1 _ _ he;obtain⟨p,T,pa,us,rfl,w9,Z⟩:=Paired.at' hpv hx;refine⟨_,xz,pa,us,xz,.inr<|aq.of<|s1 _ _ w9,λl U=>⟨hi,bs++[l],by rw[dB];rfl,au s1 U,?_,?_,?_⟩⟩
   .refine EB.mpr ⟨nd,SA _ _,λb R c hc=>?_⟩;rw[cO.mp hc];rintro rfl;obtain⟨_,_,us,h,_⟩:=nW O R;rw[U]at h;cases h
   .intro b R;obtain h|h:=ir.mp R
    .exact fr b h
    .rw[cO.mp h];exact s1.free U
   .rw[iq,T];have s2:ae H2 (db H2 l<|.lst us):=au (ae.refl _) U;exact mV (Paired.bq O λb p⟨vs,e1,q1⟩=>⟨vs,s2 _ _ e1,Paired.bq q1 λ_ _ q=>q.same s2⟩) ⟨us,ao,Paired.bq Z λ_ _ q=>q.same<|s1.fT s2⟩
  rintro ys H1 ⟨_,bs,rfl,s1,nd,fr,O⟩;rw[c8,ED]at O;have hbl:=r_ O;refine⟨by rw[aA];lia,λa na=>⟨qc,λl0 n0=>?_⟩⟩
  have I0:qY H (db (db H1 a<|.lst<|bs.map V.ref) l0<|.lst []) a bs ps:=by
   have s2:ae H1 (db (db H1 a<|.lst<|bs.map V.ref) l0<|.lst []):=au (au (ae.refl _) na) n0;refine⟨au (ae.refl _) n0 _ _ ao,Paired.bq O λb p⟨vs,e1,q1⟩=>⟨vs,s2 _ _ e1,Paired.bq q1 λ_ _ q=>q.same s2⟩,nd,λz=>?_,s1.free na,fr,s1.fT s2⟩;obtain⟨_,_,us,h,_⟩:=nW O z;rw[na]at h;cases h
  generalize db (db H1 a<|.lst<|bs.map V.ref) l0 (.lst [])=H2 at I0 ⊢
  let W:Nat->L2.St->Hp->Prop:=λm σ H'=>∃S g y4 x6 x7,σ=[a_ (.ref e),a_<|.ref F,a_<|.str kd,a_<|.ref a,a_ y4,a_<|.bl g,x6,x7]/\qY H H' a bs S/\cV S/\S.map kM=ps.map kM/\(g=c_->sS S<m)
  refine⟨W,⟨sS ps+1,ps,c_,_,b_,b_,xz,I0,hg,xz,λ_=>rP _⟩,?_⟩;rintro m σ H3 ⟨S,g,y4,x6,x7,rfl,I,g',hl,hm⟩;have lP:S.length=2:=by rw[<-h2,<-aA (f:=kM),hl,aA]
  refine⟨_,xz,g,xz,?_⟩;cases g with
  | false=>
   refine eU ?_;refine⟨_,xz,a,xz,⟨_,ag.of I.la⟩,?_⟩;have Qh:=r_ I.ps;refine dU (n:=(bs.map V.ref).length) (λi ys H'=>i<=bs.length/\ae H3 H'/\bt (IsPart H') ys (S.take i)) (by rw[aA];lia) ⟨ba _,ae.refl _,.nil⟩ ?_ ?_ ?_ ?_ ?_
   .rintro i ys H' ⟨_,_,O⟩;rw[r_ O,eZ];exact zI _ _
   .rintro i ys H' hi ⟨_,s1,_⟩;exact⟨_,_,ag.of<|s1 _ _ I.la,aL hi⟩
   .rintro ys H' ⟨_,s1,_⟩;exact⟨_,ag.of<|s1 _ _ I.la,az _⟩
   .rintro i ys X hi ⟨_,s1,O⟩ x H5 ⟨eH,cU⟩;subst eH;have hx:=cU _<|ag.of<|s1 _ _ I.la;rw[aA]at hi;rw[cc,aL hi]at hx;cases hx;obtain⟨p,T,us,R,Z⟩:=Paired.at' I.ps<|aL hi;refine⟨_,xz,_,us,xz,.inl ⟨ag.of<|s1 _ _ R,λl U=>⟨hi,au s1 U,?_⟩⟩⟩;rw[iq,T];have s2:ae H5 (db H5 l<|.tup us):=au (ae.refl _) U;exact mV (Paired.bq O λ_ _ q=>q.same s2) ⟨l,us,xz,ao,Paired.bq Z λ_ _ q=>q.same<|s1.fT s2⟩
   .rintro ys X ⟨_,s1,O⟩;rw[aA,Qh,ED]at O;have hyl:=r_ O;refine⟨li,λlc nlc=>⟨lc,_,xz,.inl ⟨ag.of ao,λpt npt=>⟨_,xz,sl (n:=2),λr nr=>?_⟩⟩⟩⟩;have s2:=au (o:=.tup ys) (au (o:=.lst ys) s1 nlc) npt;have s3:=au (o:=.tup [.ref pt,y4]) s2 nr;have g1:=au (o:=.tup [.ref pt,y4]) (ae.refl<|db (db X lc<|.lst ys) pt<|.tup ys) nr _ _ ao;have s4:ae X (db (db (db X lc<|.lst ys) pt<|.tup ys) r<|.tup [.ref pt,y4]):=au (au (au (ae.refl _) nlc) npt) nr;exact q _ r (.ref pt) y4 S (I.s.fT s3) ao ⟨pt,ys,xz,g1,Paired.bq O λ_ _ q=>q.same s4⟩ g' hl
  | true=>
   refine jq ⟨W<|sS S,λσ' H' w=>⟨_,hm xz,w⟩,?_⟩;have Qh:=r_ I.ps;have gu:∀i,i<bs.length->i<S.length:=λi h=>li;refine⟨_,xz,a,_,xz,.inl<|ag.of I.la,_,xz,by rw[aA];lia,by rw[aA];lia,?_⟩;rw[show (((bs.map V.ref).length:Nat):Int).toNat=bs.length by rw[aA];rfl];refine dU (n:=bs.length) (λi ys H'=>i<=bs.length/\ae H3 H'/\∃rs,ys=rs.map V.ref/\bt (λr p=>∃row,H' r=a_ (.lst<|row.map nV)/\lL p.length row/\H3 r=b_) rs (S.take i)) li ⟨ba _,ae.refl _,[],xz,.nil⟩ ?_ ?_ ?_ ?_ ?_
   .rintro i ys H' ⟨_,_,rs,rfl,O⟩;rw[aA,r_ O,eZ];exact zI _ _
   .rintro i ys H' hi _;exact hi
   .rintro ys H' _;exact az _
   .rintro i ys X hi ⟨_,s1,rs,rfl,O⟩ x H5 ⟨eH,ex⟩;subst eH;subst ex;obtain⟨p,T,us,R,Z⟩:=Paired.at' I.ps<|aL hi;obtain⟨aoX,jd⟩:=g'.part p<|aW T;have hF5:=s1 _ _<|I.s _ _ hF;refine⟨_,xz,_,xz,a,_,((i:Nat):Int),_,xz,by show V.int (0+(i:Int))=_;rw[pj],ag.of<|s1 _ _ I.la,bA (by rw[cc,aL hi];rfl),_,xz,_,xz,F,_,((i:Nat):Int),_,xz,by show V.int (0+(i:Int))=_;rw[pj],ag.of hF5,bA (v:=nV 0) ?_,_,us,p,xz,s1 _ _ R,Paired.bq Z λ_ _ q=>q.same s1,aoX,jd,λl H6 row s6 U h6 so=>⟨hi,s1.fT s6,rs++[l],by rw[dB];rfl,?_⟩⟩
    .have:i<2:=li
     match i,this with
     | 0,_=>rfl
     | 1,_=>rfl
    .rw[iq,T];exact mV (Paired.bq O λr p⟨row,e1,q1,n1⟩=>⟨row,s6 _ _ e1,q1,n1⟩) ⟨row,h6,so,s1.free U⟩
   .rintro ys X ⟨_,s1,rs,rfl,O⟩;rw[Qh,ED]at O;refine⟨by rw[aA,r_ O];lia,λsv Im=>?_⟩;have I2:=I.same<|s1.fT<|au (o:=.lst<|rs.map V.ref) (ae.refl _) Im;have hsv:db X sv (.lst<|rs.map V.ref) sv=a_ (.lst<|rs.map V.ref):=ao
    have hb3:∀b∈bs,∃us,H3 b=a_ (.lst us):=λb R=>by
     obtain⟨_,_,us,h,_⟩:=nW I.ps R;exact⟨us,h⟩
    have aoh:sv∉bs:=λz=>by
     obtain⟨us,h⟩:=hb3 _ z;rw[s1 _ _ h]at Im;cases Im
    have pr2:bt (λr p=>r∉bs/\∃row,db X sv (.lst<|rs.map V.ref) r=a_ (.lst<|row.map nV)/\lL p.length row) rs S:=Paired.bq O λr p⟨row,e1,q1,n1⟩=>⟨λz=>oE (hb3 _ z) λus h=>(by rw[n1]at h;cases h),row,au (ae.refl _) Im _ _ e1,q1⟩;generalize db X sv (.lst<|rs.map V.ref)=H5 at I2 hsv pr2 ⊢
    let J:L2.St->Hp->Prop:=λσ H'=>∃Dj g'' x6 x7,σ=[a_ (.ref e),a_<|.ref F,a_<|.str kd,a_<|.ref a,a_<|.ref sv,a_<|.bl g'',x6,x7]/\qY H H' a bs Dj/\cV Dj/\Dj.map kM=ps.map kM/\Fr bs H5 H'/\sS Dj<=sS S/\(g''=c_->sS Dj<sS S)
    refine⟨_,xz,a,_,xz,.inl<|ag.of I2.la,_,xz,by rw[aA];lia,by rw[aA];lia,?_⟩;rw[show (((bs.map V.ref).length:Nat):Int).toNat=bs.length by rw[aA];rfl];refine r6 (n:=bs.length) (λi σ H'=>J σ H') ⟨S,d_,_,_,xz,I2,g',hl,λx o _ e=>e,az _,λz=>(by cases z)⟩ ?_ ?_
    .rintro i σ H6 hi ⟨p2,g2,y6,y7,rfl,I3,g3,IP,f3,n3,m3⟩;refine se (y:=nV i) (by show V.int (0+(i:Int))=V.int (i:Int);rw[pj]) ?_;have R:bs[i]?=a_ bs[i]:=aL hi;obtain⟨p,T,us,hbu,Z⟩:=Paired.at' I3.ps R;have D8:=r_ Z;obtain⟨aq5,_⟩:=g3.part p<|aW T;obtain⟨r,bR,rb,row,P',so⟩:=qm pr2 (aL<|gu i hi)
     have aaa:∀{Y:List Pt}{pp:Pt},Y.map kM=ps.map kM->Y[i]?=a_ pp->pp.length=us.length:=λ{Y pp}h e=>by
      have h1:(Y.map kM)[i]?=a_ pp.length:=by rw[cc,e];rfl
      have h2:(p2.map kM)[i]?=a_ p.length:=by rw[cc,T];rfl
      rw[h,<-IP,h2]at h1;have:=dj h1;lia
     refine⟨_,xz,_,xz,a,_,_,_,xz,xz,ag.of I3.la,bA (by rw[cc,R];rfl),bs[i],us,xz,.inl<|ag.of hbu,_,xz,li,li,?_⟩;rw[show ((us.length:Nat):Int).toNat=us.length by rfl];refine r6 (n:=us.length) (λj σ H'=>J σ H'/\σ[6]?=a_ (a_<|nV i)) ⟨⟨p2,g2,_,_,xz,I3,g3,IP,f3,n3,m3⟩,xz⟩ ?_ ?_
     .rintro j σ H7 hj ⟨⟨Y,g4,z6,z7,rfl,I4,g5,Ry,f4,n4,m4⟩,h6⟩;cases h6;refine se (y:=nV j) (by show V.int (0+(j:Int))=V.int (j:Int);rw[pj]) ?_;obtain⟨pp,tI,vs,RS,tw⟩:=Paired.at' I4.ps R;have arM:=aaa Ry tI;have hvl:=r_ tw;have RB:j<vs.length:=li;obtain⟨td,ke,Bf⟩:=Paired.at' tw<|aL RB;have gt:=(g5.part pp<|aW tI).2 td<|aW ke;have hpr:S[i].length=us.length:=aaa hl<|aL<|gu i hi;have tK:j<row.length:=by rw[so.len,hpr];lia
      refine⟨_,xz,_,xz,_,xz,_,xz,a,_,_,_,xz,xz,ag.of I4.la,bA (by rw[cc,R];rfl),_,xz,bs[i],_,_,_,xz,xz,ag.of RS,bA<|aL RB,_,xz,_,xz,sv,_,_,_,xz,xz,ag.of<|f4 _ _ aoh hsv,bA (by rw[cc,bR];rfl),_,xz,r,_,_,_,xz,xz,ag.of<|f4 _ _ rb P',qH tK,_,xz,a,i,_,_,_,td,kd,Y,xz,I4.ls,g5,Bf,gt,λbb RU=>⟨_,xz,jW (λh=>?_) λh=>?_⟩⟩
      .have hw:=RU h;have nc:td.1≠(M_ : cr):=by rcases hw with h | h <;> rw[h] <;> decide +kernel
       refine⟨sl (n:=1),λtp QP=>?_⟩;have s7:ae H7 (db H7 tp<|.tup [.str M_]):=au (ae.refl _) QP;have g7:db H7 tp (.tup [.str M_]) tp=a_ (.tup<|tv sN):=ao;have I5:=I4.same s7;generalize db H7 tp (.tup [.str M_])=H8 at s7 g7 I5 ⊢;refine⟨_,xz,_,xz,a,_,_,_,xz,xz,ag.of I5.la,bA (by rw[cc,R];rfl),_,xz,bs[i],vs,_,j,xz,xz,s7 _ _ RS,FP RB,?_⟩;refine⟨⟨Y.set i<|pp.set j sN,c_,_,_,xz,I5.up R tI (s7 _ _ RS) g7,af6 g5 tI,(afW tI).fT Ry,λx o nx e=>?_,?_,λ_=>?_⟩,xz⟩
       .rw[aj λz=>nx (by rw[z];exact aW R)];exact s7 _ _<|f4 x o nx e
       .have:=WZ tI ke nc;lia
       .have:=WZ tI ke nc;lia
      .exact⟨⟨Y,g4,_,_,xz,I4,g5,Ry,f4,n4,m4⟩,xz⟩
     .rintro σ H7 ⟨h,_⟩;exact h
    .rintro σ H6 ⟨p2,g2,y6,y7,rfl,I3,g3,IP,f3,n3,m3⟩;exact⟨p2,g2,_,_,_,xz,I3,g3,IP,m3⟩
def OT(K:u_)(H:Hp)(x:V):Option (List bD)->Prop
 | none=>∃p,x=.ref p/\H p=a_ (.tup [.str "more"])
 | some es=>∃p l a,x=.ref p/\H p=a_ (.tup [.str "ends",.ref l])/\H l=a_ (.lst a)/\fG K H a es/\∀d∈es,cu 8 d=c_
def OT.keep{K:u_}(k:aG dZ H H')(h:OT K H x o):OT K H' x o:=by
 have a:∀b u,(∀ps,u≠.ft ps)->H b=a_ u->H' b=a_ u:=λb u n e=>k.k b u (λz=>z) n e;cases o with
 | none=>
  obtain⟨p,e,h⟩:=h;exact⟨p,e,a _ _ (λps z=>by cases z) h⟩
 | some es=>
  obtain⟨p,l,c,e,h1,h2,h3,h4⟩:=h;exact⟨p,l,c,e,a _ _ (λps z=>by cases z) h1,a _ _ (λps z=>by cases z) h2,nZ (TK.Ds k) h4 h3,h4⟩
def Fm(h:cu 8 d=c_):shaped d=true:=by
 obtain⟨a,b⟩:=GU h;unfold shaped;rw[a,eN li];rfl
def Yv{es:List bD}(h:∀e∈es,cu 8 e=c_)(hd:cu 8 d=c_)(hm:d∈es):(es.any λe=>kQ e d)=true:=
 Te.mpr ⟨d,hm,by rw[Zf hd hd];exact eN xz⟩
def WV(K:u_)(a:X.A.units+65<cLine)(h:autoParam (X.K=K) a8):dY X (iy .NotIn) (Py K c_):=by subst h;exact U6 a
def VA(K:u_):Sp:=λvs H Q _=>∃x y o o',vs=[x,y]/\OT K H x o/\OT K H y o'/\(∀es a,o=a_ es->o'=a_ a->es.length<=1000/\∀d∈es,d∈a)/\∀H',ae H H'->Q (.bl c_) H'
def adU:aV kb kb (aP LH):=aZ
def aly:(["_law_other","_law_end_here"]:List cr).Nodup:=dk
def adb(F:aQ K "_law_within" "_law_within" LH f fd):aF P w K mg gl aE 1 f fd kb (VA K):=by
 refine F.ok adU λaH A _ s H vs Q E I h=>?_
 .obtain⟨x,y,o,o',rfl,c,v,u,q⟩:=h;have B:=Aj I;have J:=qf (Ex (show 64<=65 by decide) _) B
  refine let a:TS:=_;⟨_,aw (bJ (PW.pt<|pw_or (b0 pH (aN bX (pv 0) ax) cp<|br _)<|pw_or1<|b0 pH (aN bX (pv 1) ax) cp<|br _) (ar<|aS gD) b8) (pR a (ar (aS (jB (afl J) (eB (N:=["_law_other","_law_end_here"]) (idx:=[1]) xz (cF.of<|by kernel_rfl) (eA<|az _) (kx<|aN bX (pv 0) ax) (λ_ _ _ _=>bo (i:=1) aly xz (aI xz)<|.inr xz)
    (λ_ _ _ _=>xS<|b0 (WV K B) (pv 1) (aN (OG K) (pv 0) ax) xz) λ_ _ _ _=>pv 1) (eC af)<|br _)))),?_⟩
  cases o with
  | none=>
   obtain⟨p,rfl,g⟩:=c;exact⟨_,xz,p,_,_,_,xz,xz,aq.of g,bA (j:=0) xz,xz,_,xz,nv (λ_=>q _<|ae.refl _) λz=>eu (V.str.inj z) dk⟩
  | some es=>
   obtain⟨p,l,L,rfl,g,k,C,M⟩:=c;refine⟨_,xz,p,_,_,_,xz,xz,aq.of g,bA (j:=0) xz,xz,_,xz,nv (λz=>eu xz z) λ_=>?_⟩;cases o' with
   | none=>
    obtain⟨m,rfl,t⟩:=v;exact⟨_,xz,m,_,_,_,xz,xz,aq.of t,bA (j:=0) xz,xz,_,xz,nv (λ_=>q _<|ae.refl _) λz=>eu (V.str.inj z) dk⟩
   | some gL=>
    obtain⟨m,O,R,rfl,t,S,T,D⟩:=v;obtain⟨ju,u⟩:=u es gL xz rfl;refine⟨_,xz,m,_,_,_,xz,xz,aq.of t,bA (j:=0) xz,xz,_,xz,nv (λz=>eu xz z) λ_=>?_⟩;have hzl:=vK C;have hsz:=fR;refine⟨_,xz,p,_,_,_,xz,xz,aq.of g,bA (j:=1) xz,l,xz,⟨_,ag.of k⟩,?_⟩;refine dU (n:=L.length) (λi ys H'=>H'=H/\ys=[]) li ⟨xz,xz⟩ ?_ ?_ ?_ ?_ ?_
    .rintro i ys H' ⟨_,rfl⟩;exact ba _
    .rintro i ys H' hi ⟨rfl,_⟩;exact⟨_,_,ag.of k,aL hi⟩
    .rintro ys H' ⟨rfl,_⟩;exact⟨_,ag.of k,az _⟩
    .rintro i ys H' hi ⟨rfl,rfl⟩ x H2 ⟨U,W⟩;subst U;have c:=W _<|ag.of k;obtain⟨d,hd,X⟩:=Paired.at' (Lc C) c;have hm:=aW hd;have k1:=M d hm;refine⟨_,xz,_,xz,m,_,_,_,xz,xz,aq.of t,bA (j:=1) xz,O,R,gL,d,xz,ag.of S,T,X,Fm k1,λe Y=>Fm<|D e Y,?_⟩;rw[ei xz,Yv D k1<|u d hm];exact⟨_,xz,xz,xz⟩
    .rintro ys H' ⟨rfl,rfl⟩;refine⟨ba _,λr Z=>⟨qc,λb G=>⟨r,b,[],xz,xz,au (ae.refl _) G _ _ ao,ao,q _<|au (au (ae.refl _) Z) G⟩⟩⟩
def adt:rW "min"=a_ (.builtin "min"):=dk
def B0{K:u_}(k:aG dZ H H')(h:ag K H a xs):ag K H' a xs:=by
 obtain (h|⟨o,h⟩)|h:=h
 .exact .inl (.inl<|k.k _ _ (λz=>z) (λps z=>by cases z) h)
 .exact .inl (.inr ⟨o,k.k _ _ (λz=>z) (λps z=>by cases z) h⟩)
 .exact .inr h
structure CI(t:bh)(C CT PT:e_)(kd:cr)(ps:List Pt)(H0:Hp)(m:e_)(A:MA)(H:Hp)(S:Mc)(n:Nat):Prop where
 M:bg t C CT H m A S
 F:nM kd ps n S
 R:g9 kd ps (a9 S)
 lam:cE PT LP LQ H
 k:aG (cN m A) H0 H
section
variable{t:bh}{C CT PT:e_}{kd:cr}{ps:List Pt}{H0 H H':Hp}{m:e_}{A:MA}{S:Mc}{n:Nat}
def CI.pJ(I:CI t C CT PT kd ps H0 m A H S n)(k:aG dZ H H')(l:cE PT LP LQ H'):CI t C CT PT kd ps H0 m A H' S n:=⟨I.M.pJ k,I.F,I.R,l,I.k.fT<|k.mono λb z=>z.elim⟩
def CI.same(I:CI t C CT PT kd ps H0 m A H S n)(s:ae H H'):CI t C CT PT kd ps H0 m A H' S n:=I.pJ (aG.of s)<|iw I.lam s
def CI.mv{mv:Mv}(g:cV ps)(I:CI t C CT PT kd ps H0 m A H S n)(hn:n<15000)(hm:mv∈gC S)(N:bg t C CT H' m A (cJ S mv))(k:aG (cN m A) H H')(l:cE PT LP LQ H'):CI t C CT PT kd ps H0 m A H' (cJ S mv) (n+1):=by
 have O:=I.R.ok g;have F:=I.F;have st:=E3 F.W (by rw[F.kd];exact O) hm;rw[F.kd,F.ps]at st;exact⟨N,F.mv hn hm,.st I.R st,l,I.k.fT k⟩
end
section
variable{t:bh}{C CT PT:e_}
def Z4(kd:cr)(ps:List Pt)(o:Option (List bD)):Prop:=∀es,o=a_ es->∃k,k<=14000/\(aM (bj kd ps) k).length<=k/\∀d,d∈es↔d∈gf (aM (bj kd ps) k)
def WG(K:u_)(PT:e_):Sp:=λvs H Q _=>∃(a:e_)(ns:List Int)(v x:V)(ps:List Pt)(kd:cr)(o:Option (List bD)),vs=[.ref a,v,.str kd,x]/\ag K H a (ns.map V.int)/\ns.length<=63/\iB H v ps/\cV ps/\ps.length=2/\(kd = N_\/kd = l_)/\cE PT LP LQ H/\
 OT K H x o/\Z4 kd ps o/\∀H',Q (.bl c_) H'
def FC:aV [as7,as1,"_law_kind","_law_told",as2,"_law_k","_law_moves"] lJ (aP MM):=aZ
def ad9(F:aQ K "_law_comes" "_law_comes" MM f fd)(N:gF K C)(gK:mg "len"=b_)(eM:mg "range"=b_)(ao6:mg "min"=b_)
  (mk:Mk K C fI) (GI:aF P w K mg gl aE 7 fI gJ ii (FA t C CT)) (C3:mg "Machine"=a_ (.ref C)) (b3:dn K gJ ii [])
  (DV:Mt P w K mg gl C 4 "moves" gw (Fz t C CT PT))
  (DP:Dp P w K mg gl 2 "_law_pick" kn XA)
  (DDo:Mt P w K mg gl C 7 "do" [X_,as9] (Pl t C CT PT))
  (DN:Mt P w K mg gl C 2 "ended" gw (Ms t C CT))
  (DE:Dp P w K mg gl 2 "_law_end" [as2] (Wz K t C CT i8)) :
  aF P w K mg gl aE 9 f fd lJ (WG K PT):=by
 refine F.ok FC λaH Ar outer s H vs Q E y h=>?_
 .obtain⟨a,ns,v,x,ps,kd,o,rfl,hS,jJ,hP,G,h2,iW,lam,hx,yy,q⟩:=h;have wY:=Aj y;have hu:=qf (Ex (show 64<=65 by decide) _) wY;have O:=y.mono (show 2<=8 by decide);have kg:=y.mono (show 4<=8 by decide);have IJ:=y.mono (show 7<=8 by decide);refine let c:TS:=_;let d:TS:=_;⟨_,aw (bC (i:=4) FC.nd xz (aI xz)<|pA mk GI y xz C3 b3 .nil dh<|aa (pv 1)<|aa (pv 2) af)<|pR d<|aw (i3 hV xz (U3 xz eM<|aa ax<|aa (bu (aeE xz) xz ao6 adt<|aa (bu dS xz gK q_<|aa (pv 0) af)<|aa ax af) af) (bo (i:=5) FC.nd xz<|aI xz)<|pR c<|aw (bC (i:=6) FC.nd xz (aI xz)<|pG (pv 4) N.cl DV kg)<|ar<|bJ (b0 (VY hu) (pv 6) (eC af)<|br _) (ar<|fg<|jT (pv 4) N.cl DDo IJ<|aa (aN bQ (pv 6)<|bN DP O xz<|aa (aN bQ (pv 0)<|pv 5)<|aa (pv 5)<|aa (bu dS xz gK q_<|aa (pv 6) af) af) af) b8)<|ar<|aS<|Ow (jB pH (aN bX (pv 3) ax) cp<|br _)<|Ow (F'<|pG (pv 4) N.cl DN O)<|oq<|jB (aja wY) (bN DE O xz<|aa (pv 4) af) (aN bX (pv 3) ax) xz,?_⟩;have hsz:=fR;refine⟨_,xz,_,xz,λm dx nm fK ne=>?_⟩;have nm2:db H dx (.own m) m=none:=by rw[aj ne.g8];exact nm
  have sa:=au (o:=.ins C dx []) (au (o:=.own m) (ae.refl H) fK) nm2;have hm:db (db H dx<|.own m) m (.ins C dx []) m=a_ (.ins C dx []):=ao;generalize db (db H dx<|.own m) m (.ins C dx [])=Hb at sa hm ⊢;refine⟨m,dx,v,ps,kd,xz,hm,hP.keep λb xs e=>sa _ _ e,G,iW.imp id .inl,λI A gv M L ev k1 fr=>⟨xz,?_⟩⟩;subst ev
  have fr0:∀b,cN m A b->H b=none:=λb hb=>by
   obtain e|e:=fr b hb
   .rw[e];exact nm
   .exact sa.free e
  have T:∀U,aG (cN m A) I U->aG dZ H U:=λU k=>⟨λb o h1 h2 e=>k.k b o (λz=>by rw[fr0 b z]at e;cases e) h2<|k1.k b o (λz=>by rw[z,nm]at e;cases e)<|sa _ _ e,λb e=>sa.free<|k1.t b<|k.t b e⟩;have I0:CI t C CT PT kd ps I m A I (bj kd ps) 0:=⟨M,⟨NI G,xz,xz⟩,by rw[Fc];exact .new,Yd k1 hm<|iw lam sa,aG.refl _⟩
  have Zo:(if (50:Int)<((ns.map V.int).length:Int) then (50:Int) else ((ns.map V.int).length:Int))<=50/\0<=(if (50:Int)<((ns.map V.int).length:Int) then (50:Int) else ((ns.map V.int).length:Int))/\(if (50:Int)<((ns.map V.int).length:Int) then (50:Int) else ((ns.map V.int).length:Int))<=ns.length:=by
   rw[aA]
   split <;> lia
  refine⟨_,xz,a,_,xz,.inl<|B0 (T _<|aG.refl _) hS,_,_,xz,3,_,xz,⟨qc,qc,li,om⟩,?_⟩;generalize (if (50:Int)<((ns.map V.int).length:Int) then (50:Int) else ((ns.map V.int).length:Int))=mx at Zo ⊢;obtain⟨x1,x2,x3⟩:=Zo
  let W1:IV:=λi σ H'=>i<=(mx-3).toNat/\∃S n X Y,σ=[a_ (.ref a),a_<|.ref A.pg,a_<|.str kd,a_ x,a_<|.ref m,X,Y]/\CI t C CT PT kd ps I m A H' S n/\n<=i
  refine r6 (n:=(mx-3).toNat) W1 ⟨ba _,_,0,_,_,xz,I0,az _⟩ ?_ ?_
  .rintro i σ H5 hi ⟨_,S,n,X,Y,rfl,g,xa⟩;have hc:i+3<ns.length:=om
   have hat:iQ (ns.map V.int) (3+(i:Int))=a_ (.int ns[i+3]):=by
    rw[show (3+(i:Int))=((i+3:Nat):Int) by lia];exact jl (f:=V.int)<|aL hc
   refine cG (id g.M.obj) λdx5 fs5 Z G5=>vM xz Z (G5.ms _ dk) ⟨m,A,S,xz,g.M,g.F.W.wf,g.lam,λH6 l ws k6 aok nl hl vh=>?_⟩;have I6:=g.pJ k6 aok;refine⟨_,xz,qc,λle QS=>aY (nw (o:=.lst []) QS) λH8 e8 s8 hle=>?_⟩;rw[e8];clear e8;have r:=I6.same s8;have Rx:=s8 _ _ hl;refine⟨l,le,ws,xz,xz,Rx,hle,_,xz,nv (λB=>?_) λ_=>⟨hi,S,n,_,_,xz,r,li⟩⟩;have Hq:=abd.mpr B;refine cG (id r.M.obj) λdx8 fs8 y' G8=>vM xz y' (G8.ms _ dk) ⟨_,xz,_,xz,_,xz,a,_,_,_,xz,xz,B0 (T _ r.k) hS,hat,_,xz,_,xz,l,ws,xz,.inl<|ag.of Rx,_,_,ws.length,xz,Hq,λj hj=>?_⟩;have hwj:ws[j]?=a_ ws[j]:=aL hj;refine aB (xF vh hwj) λmv Bk ab=>aB ab λp ep u=>?_;have D:=aW Bk;exact⟨l,_,_,.ref p,xz,xz,ag.of Rx,(by rw[<-ep];exact bA hwj),m,A,S,p,mv,gv,xz,r.M,L,r.F.W.wf,r.F.W.ovf li,r.lam,s8 _ _ u,D,λH9 M9 k9 aoj=>⟨hi,_,n+1,_,_,xz,r.mv G li D M9 k9 aoj,li⟩⟩
  .rintro σ H5 ⟨_,S,n,X,Y,rfl,g,xa⟩;have Bd:=hx.keep<|T _ g.k;cases o with
   | none=>
    obtain⟨p,rfl,u⟩:=Bd;exact⟨_,xz,p,_,_,_,xz,xz,aq.of u,bA (j:=0) xz,xz,_,xz,nv (λ_=>q _) λz=>eu (V.str.inj z) dk⟩
   | some es=>
    obtain⟨p,l,zs,rfl,u,hl,hz,J⟩:=Bd;refine⟨_,xz,p,_,_,_,xz,xz,aq.of u,bA (j:=0) xz,xz,_,xz,nv (λz=>eu xz z) λ_=>?_⟩;refine cG (id g.M.obj) λdx5 fs5 Z G5=>vM xz Z (G5.ms _ dk) ⟨m,A,S,xz,g.M,g.F.W.wf,λH6 s6=>⟨_,xz,_,xz,?_⟩⟩;cases B:jS S with
    | false=>exact jq<|q _
    | true=>
     refine eU ?_
     have Bq:S.ck.length=2:=by
      have:=XQ g.R;unfold a9 at this;rw[aA]at this;lia
     refine⟨_,xz,m,A,S,xz,g.M.same s6,g.F.W.wf,Bq,λH7 pe s7 de=>?_⟩;have wV:=s6.fT s7;refine⟨_,xz,p,_,_,_,xz,xz,aq.of<|wV _ _ u,bA (j:=1) xz,l,zs,es,i8 S,xz,ag.of<|wV _ _ hl,nZ (TK.of wV) J hz,de,?_⟩;obtain⟨k,hk1,IQ,wG⟩:=yy es rfl;have D:i8 S∈es:=(wG _).mpr<|(xV G hk1 IQ).mpr ⟨a9 S,g.R,by have:=(EW g.F.W.wf).mp B;rw[g.F.ps]at this;exact this,Lb S⟩;have kk:=J _ D;refine⟨Fm kk,λe B=>Fm<|J e B,?_⟩;rw[ee dO,Yv J kk D];exact q _
end
def adu:rW "int"=a_ (.type "int"):=dk
def KJ(k:aG dZ H H')(h:iB H v ps):iB H' v ps:=h.keep λb xs e=>k.k _ _ (λz=>z) (λps z=>by cases z) e
def yq(kd:cr)(ps:List Pt)(o:Option (List bD)):Prop:=∀es,o=a_ es->es.length<=1000/\∃k,k<=14000/\(aM (bj kd ps) k).length<=k/\∀d,d∈es↔d∈gf (aM (bj kd ps) k)
def yq.all(h:yq kd ps o):Z4 kd ps o:=λes e=>(h es e).2
def agC{K:u_}(g:cV ps)(hn:n<=99)(a:yb (bj kd ps) n j)(h:CW K (bj kd ps) n j H H' p):∃o,OT K H' (.ref p) o/\yq kd ps o:=by
 unfold CW at h
 by_cases z:n<(aM (bj kd ps) j).length
 .rw[ei z]at h;exact⟨b_,⟨p,xz,h⟩,λes e=>by cases e⟩
 .rw[ee z]at h;obtain⟨l,b,es,h1,_,h2,h3,h4,_⟩:=h;have c:=a.le;have f:=aew a z;have i:=Wh (kd:=kd) g hn c.1 li;refine⟨a_ es,⟨p,l,b,xz,h1,h2,h3,λe a=>?_⟩,λk e=>?_⟩
  .obtain⟨S,_,rfl⟩:=cj.mp<|h4.mem_iff.mp a;exact Az 5 S
  .cases e;exact⟨by rw[h4.length_eq];lia,j,li,f,λd=>h4.mem_iff⟩
def M8(h:yq kd ps o)(h':yq kd' ps o')(k:∀{n m:Nat}{d:bD},n<=14000->m<=14000->(aM (bj kd ps) n).length<=n->(aM (bj kd' ps) m).length<=m->d∈gf (aM (bj kd ps) n)->d∈gf (aM (bj kd' ps) m)):∀es b,o=a_ es->o'=a_ b->es.length<=1000/\∀d∈es,d∈b:=λes b e e'=>by
 obtain⟨a,n,n1,c,f⟩:=h es e;obtain⟨_,m,g,i,j⟩:=h' b e';exact⟨a,λd hd=>(j d).mpr<|k n1 g c i<|(f d).mp hd⟩
def ajB{b:List (List Nat)}(h:Di b ps):QC b ps:=Paired.bq h λr p⟨a,_,c⟩=>⟨a,λx d=>Jy (c x d) qc⟩
def aiy(c:Int):∃kd:cr,iQ [V.str N_,V.str l_] (c%2)=a_ (.str kd)/\(kd = N_\/kd = l_):=by
 have h1:=zK c (show (2:Int)≠0 by decide);have h2:=Bz c (show (0:Int)<2 by decide);rcases(show c%2=0\/c%2=1 by lia)with e | e <;> rw[e]
 .exact⟨N_,xz,.inl xz⟩
 .exact⟨l_,xz,.inr xz⟩
def acR{e d f:Type}{F:e->d->Prop}{G:f->d->Prop}{a b c:e}{os:List d}{ys:List f}(h:bt F [a,b,c] os)(h':bt G ys os):∃g i j k l m,ys=[g,i,j]/\F a k/\F b l/\F c m/\G g k/\G i l/\G j m:=by
 cases h with
 | cons f0 h=>cases h with
  | cons f1 h=>cases h with
   | cons f2 h=>cases h with
    | nil=>cases h' with
     | cons g0 h'=>cases h' with
      | cons g1 h'=>cases h' with
       | cons g2 h'=>cases h' with
        | nil=>exact⟨_,_,_,_,_,_,xz,f0,f1,f2,g0,g1,g2⟩
section
variable{t:bh}{C CT PT:e_}
def YI(K:u_)(PT:e_):Sp:=λvs H Q _=>∃(a:e_)(ns:List Int),vs=[.ref a]/\ag K H a (ns.map V.int)/\ns.length<=63/\cE PT LP LQ H/\∀H',Q (.bl c_) H'
abbrev mu:List cr:=[as7,as1,"_law_kind","_law_sets","_law_most","_law_told","_law_one_here"]
def vY:aV mu [as7] (aP uA):=aZ
def ajr:([as1,"_law_most","_law_one_here"]:List cr).Nodup:=dk
def anZ:(["_law_one_here"]:List cr).Nodup:=dk
def ajd(F:aQ K "law" "law" uA f fd)(hint:mg "int"=b_)(DC:Dp P w K mg gl 1 "_law_cell_at" jp (XH K))(DPg:Dp P w K mg gl 3 "_law_program" [an3] WD)(DMe:Dp P w K mg gl 3 "_law_mended" lA XB)(DN:Dp P w K mg gl 11 "ends" [O_,U_,"most"] (XG K PT))(DW:Dp P w K mg gl 1 "_law_within" kb (VA K))(DF:Dp P w K mg gl 8 "fault" [O_,"paper",U_] lW)(DMk:Dp P w K mg gl 6 "marks" hJ Zx)(DCo:Dp P w K mg gl 9 "_law_comes" lJ (WG K PT)):aF P w K mg gl aE 12 f fd [as7] (YI K PT):=by
 refine F.ok vY λaH A outer s H vs Q E u h=>?_
 .obtain⟨a,ns,rfl,Y,jJ,lam,q⟩:=h;have wY:=Aj u;have hu:=qf (Ex (show 64<=65 by decide) _) wY;have L:=u.mono (show 1<=11 by decide);have nQ:=u.mono (show 3<=11 by decide);have hr6:=u.mono (show 6<=11 by decide);have Ri:=u.mono (show 8<=11 by decide);have hr9:=u.mono (show 9<=11 by decide)
  obtain⟨tE,pE,uE⟩:∃tE,fu (oG aE P w K mg gl mu "law" (aP uA) f aH A outer s H E).oK ((iZ uA).drop 3) tE/\∀(D:Ends)(σ:L2.St)(g:Hp)(v:V)(ps:List Pt)(kd:cr)(z3 z4 z5 z6:Option V),σ=[a_ (.ref a),a_ v,a_<|.str kd,z3,z4,z5,z6]->aG dZ H g->cE PT LP LQ g->iB g v ps->cV ps->ps.length=2->(kd = N_\/kd = l_)->(∀M,D.rt (.bl c_) M)->tE D σ g:=by
   refine let R1:TS:=_;let R2:TS:=_;let R3:TS:=_;let R4:TS:=_;let R5:TS:=_;let R6:TS:=_;⟨_,aw (bC (i:=4) vY.nd xz (uo xz)<|bp jR ax<|bp jQ (bN DC L xz<|aa (pv 0)<|aa ax af) ax) (pR R1 (aw (BK (i:=5) (N:=[as1,"_law_most","_law_one_here"]) (idx:=[1,4]) vY.nd xz xz xz (cF.of<|by kernel_rfl) (eA<|az _) (kx<|eC<|aa cp<|aa cp<|aa cp af) (λ_ _ _ _=>bo (i:=2) ajr xz (aI xz)<|.inr xz) (λ_ _ _ _=>eQ)
      λ_ _ _ _=>bN DN u xz<|aa (pv 0)<|aa (pv 2)<|aa (pv 1) af)
    (pR R2 (aw (bJ (b0 (VY hu) (eB (N:=["_law_one_here"]) (idx:=[]) xz (cF.of<|by kernel_rfl) (eA<|ba _) (kx<|pv 5) (λ_ _ _ _=>bo (i:=0) anZ xz (aI xz)<|.inr xz)
      (λ_ _ _ _=>xS<|b0 (WV K wY) (aN (OG K) (pv 0) ax) (eC<|aa cp<|aa cp af) xz) λ_ _ _ _=>pv 0) (eC af)<|br _) (ar<|aS gD) b8)
    (pR R3<|aw (bJ (PW.pt<|pw_or (jP<|dr<|bN DW L xz<|aa (aN bQ (pv 5) ax)<|aa (aN bQ (pv 5) ax) af)<|pw_or1<|jP<|dr<|bN DW L xz<|aa (aN bQ (pv 5) ax)<|aa (aN bQ (pv 5) ax) af) (ar<|aS gD) b8)<|pR R4<|aw (bC (i:=6) vY.nd xz (aI xz)<|aN bQ (pv 5)<|bp jR ax<|fw aeG xz hint adu<|aa (jB c7 (pv 2) cp<|br _) af)<|pR R5<|aw (bJ (PW.pt<|pw_and (XU<|ai7<|bN DF Ri xz<|aa (pv 1)<|aa (bN DMk hr6 xz<|aa (pv 1) af)<|aa (pv 2) af)<|pw_and1<|jP<|dr<|bN DW L xz<|aa (pv 6)<|aa (aN bQ (pv 5) ax) af) (ar<|aS gD) b8)<|pR R6<|ar<|aS<|bN DCo hr9 xz<|aa (pv 0)<|aa (pv 1)<|aa (pv 2)<|aa (pv 6) af))))),?_⟩
   rintro D σ g v ps kd z3 z4 z5 z6 rfl k1 wF hP c h2 Z fin;have d0:=zK (qM ns 2) (show (80:Int)≠0 by decide);have d1:=Bz (qM ns 2) (show (0:Int)<80 by decide);obtain⟨n,en,hn⟩:∃n:Nat,20+qM ns 2%80=(n:Int)/\n<=99:=⟨(20+qM ns 2%80).toNat,li,li⟩;refine⟨_,xz,a,ns,2,xz,B0 k1 Y,qc,_,_,xz,xz,(by show (0:Int)<80;decide),_,_,xz,xz,?_⟩;refine se (y:=.int (n:Nat)) (by show V.int (20+qM ns 2%80)=_;rw[en]) ?_
   let Q3:List cr:=[I_,N_,l_]
   refine⟨sl (n:=3),λlk Ir=>?_⟩;have s2:ae g (db g lk<|.lst [.str I_,.str N_,.str l_]):=au (ae.refl _) Ir;have G:db g lk (.lst [.str I_,.str N_,.str l_]) lk=a_ (.lst<|Q3.map V.str):=ao;generalize db g lk (.lst [.str I_,.str N_,.str l_])=M at s2 G ⊢;refine⟨lk,xz,⟨_,ag.of G⟩,?_⟩;have kl:∀{H' b xs},aG dZ M H'->M b=a_ (.lst xs)->H' b=a_ (.lst xs):=λk e=>k.k _ _ (λz=>z) (λps z=>by cases z) e;refine dU (n:=3) (λi ys H'=>i<=3/\aG dZ M H'/\cE PT LP LQ H'/\∃os,bt (OT K H') ys os/\bt (λkd o=>yq kd ps o) (Q3.take i) os) sl ⟨ba _,aG.refl _,iw wF s2,[],.nil,.nil⟩ ?_ ?_ ?_ ?_ ?_
   .rintro i ys H' ⟨_,_,_,os,h1,h2⟩;rw[r_ h1,<-r_ h2,eZ];exact zI _ _
   .rintro i ys H' hi ⟨_,O,_⟩;exact⟨_,_,ag.of<|kl O G,aL hi⟩
   .rintro ys H' ⟨_,O,_⟩;exact⟨_,ag.of<|kl O G,az _⟩
   .rintro i ys H3 hi ⟨_,O,ll,os,h1,h3⟩ x I ⟨eH,cU⟩;subst eH;have hx:=cU _<|ag.of<|kl O G;rw[cc]at hx;obtain⟨kdi,hki,rfl⟩:=vt.mp hx;have IB:=(aG.of s2).fT O
    have RA:kindS kdi:=by
     have:=aW hki;simp only[Q3,bH,EF,or_false]at this;obtain rfl|rfl|rfl:=this
     .exact .inr (.inr xz)
     .exact .inl xz
     .exact .inr (.inl xz)
    refine⟨_,xz,_,xz,_,xz,v,ps,kdi,n,xz,KJ IB hP,c,RA,li,ll,λk hk hl S Y=>aih c hn hk hl Y,λk hk hl=>Wh c hn hk hl,λj H5 p he k5 l5 ht=>?_⟩;obtain⟨o,ho,Bf⟩:=agC c hn he ht;refine⟨hi,O.fT k5,l5,os++[o],mV (Paired.bq h1 λ_ _ q=>q.keep k5) ho,?_⟩;rw[iq,hki];exact mV h3 Bf
   rintro ys H3 ⟨_,k3,l3,os,h1,h3⟩;obtain⟨R,J,U,o0,o1,o2,rfl,t0,t1,t2,g0,g1,g2⟩:=acR h3 h1;refine⟨sl (n:=3),λT nT=>?_⟩;have W:ae H3 (db H3 T<|.lst [R,J,U]):=au (ae.refl _) nT;have m:db H3 T (.lst [R,J,U]) T=a_ (.lst [R,J,U]):=ao;have l4:=iw l3 W;have IB:=((aG.of s2).fT k3).fT<|aG.of W;have hP4:=KJ IB hP;have g0:=g0.keep<|aG.of W;have g1:=g1.keep<|aG.of W;have g2:=g2.keep<|aG.of W;generalize db H3 T (.lst [R,J,U])=I at *
   have sa:∀{w:cr},w="ends"\/w="more"->([PyData.str "ends",PyData.str "more"].any λd=>kQ d<|.str w)=true:=λh=>by
    rcases h with rfl | rfl <;> decide +kernel
   refine⟨_,xz,T,xz,⟨_,ag.of m⟩,?_⟩;refine dU (n:=3) (λi X H'=>ae I H'/\X=[]) sl ⟨ae.refl _,xz⟩ ?_ ?_ ?_ ?_ ?_
   .rintro i X H' ⟨_,rfl⟩;exact ba _
   .rintro i X H' hi ⟨B,_⟩;exact⟨_,_,ag.of<|B _ _ m,aL hi⟩
   .rintro X H' ⟨B,_⟩;exact⟨_,ag.of<|B _ _ m,az _⟩
   .rintro i X H5 hi ⟨B,rfl⟩ x H6 ⟨eH,cU⟩;subst eH;have hx:=cU _ (ag.of<|B _ _ m)
    obtain⟨o,ho⟩:∃o,OT K I x o:=by
     have:=aW hx;simp only[bH,EF,or_false]at this;obtain rfl|rfl|rfl:=this
     .exact⟨_,g0⟩
     .exact⟨_,g1⟩
     .exact⟨_,g2⟩
    obtain⟨p,us,w,rfl,hp,hw,hww⟩:∃(p:e_)(us:List V)(w:cr),x=.ref p/\I p=a_ (.tup us)/\us[0]?=a_ (.str w)/\(w="ends"\/w="more"):=by
     cases o with
     | none=>
      obtain⟨p,e,h⟩:=ho;exact⟨p,_,_,e,h,xz,.inr xz⟩
     | some es=>
      obtain⟨p,l,X,e,h,_⟩:=ho;exact⟨p,_,_,e,h,xz,.inl xz⟩
    refine⟨_,xz,p,_,_,_,xz,xz,aq.of<|B _ _ hp,bA (j:=0) hw,sl (n:=2),λle QS=>⟨le,_,[.str "ends",.str "more"],.str w,xz,ag.of ao,.cons (.str _)<|.cons (.str _) .nil,.str _,?_,?_,?_⟩⟩
    .rcases hww with rfl | rfl <;> decide +kernel
    .intro d hd;simp only[bH,EF,or_false]at hd;rcases hd with rfl | rfl <;> decide +kernel
    .rw[ei xz,sa hww];exact⟨_,xz,au B QS,xz⟩
   rintro X H5 ⟨B,rfl⟩;refine⟨ba _,λr nr=>⟨qc,λb nb=>?_⟩⟩;have s6:=au (o:=.lst []) (au (o:=.lst []) B nr) nb;have er:db (db H5 r<|.lst []) b (.lst []) r=a_ (.lst []):=au (ae.refl _) nb _ _ ao;have eb:db (db H5 r<|.lst []) b (.lst []) b=a_ (.lst []):=ao;generalize db (db H5 r<|.lst []) b (.lst [])=H6 at s6 er eb ⊢;refine⟨r,b,[],xz,xz,er,eb,_,xz,nv (λz=>eu xz z) λ_=>?_⟩;have K6:=aG.of (F:=dZ) s6;refine⟨_,xz,T,_,_,_,xz,xz,ag.of<|s6 _ _ m,bA (j:=0) xz,_,xz,T,_,_,_,xz,xz,ag.of<|s6 _ _ m,bA (j:=1) xz,R,J,o0,o1,xz,g0.keep K6,g1.keep K6,M8 t0 t1 λh1 h2 f1 f2 h=>agh c h1 h2 f1 f2 h,λH7 s7=>⟨_,xz,eU ?_⟩⟩;have wV:=s6.fT s7;have K7:=aG.of (F:=dZ) wV;refine⟨_,xz,T,_,_,_,xz,xz,ag.of<|wV _ _ m,bA (j:=1) xz,_,xz,T,_,_,_,xz,xz,ag.of<|wV _ _ m,bA (j:=2) xz,J,U,o1,o2,xz,g1.keep K7,g2.keep K7,M8 t1 t2 λh1 h2 f1 f2 h=>aey c h1 h2 f1 f2 h,λH8 s8=>⟨_,xz,eU ?_⟩⟩;have ve:=wV.fT s8
   obtain⟨y,o,hy,go,to⟩:∃y o,iQ [R,J,U] (1+if decide (V.str kd=V.str l_)=c_ then 1 else 0)=a_ y/\OT K I y o/\yq kd ps o:=by
    obtain rfl|rfl:=Z
    .exact⟨J,o1,xz,g1,t1⟩
    .exact⟨U,o2,xz,g2,t2⟩
   have K8:=aG.of (F:=dZ) ve;have sq:He (V.str kd) (V.str l_)=true:=rfl;refine⟨_,xz,_,xz,sq,.inr ⟨_,xz,_,_,xz,xz,T,_,_,_,xz,xz,ag.of<|ve _ _ m,hy,?_⟩⟩
   have uC:∀H9,ae I H9->R6 D [a_ (.ref a),a_ v,a_<|.str kd,z3,a_<|.int (n:Nat),a_<|.ref T,a_ y] H9:=λH9 s9=>by
    have K9:=aG.of (F:=dZ) s9;have k19:=k1.fT<|IB.fT K9;exact⟨_,xz,_,xz,_,xz,_,xz,a,ns,v,y,ps,kd,o,xz,B0 k19 Y,jJ,KJ K9 hP4,c,h2,Z,iw l4 s9,go.keep K9,to.all,fin⟩
   have hP8:=hP4.same ve;refine⟨_,xz,_,xz,v,ps,xz,hP8,c,λvm rows H9 s9 hmk hof=>⟨_,xz,v,vm,ps,rows,kd,xz,hP8.same s9,c,hmk,ajB hof,λv' H10 Il aoV=>⟨_,xz,?_⟩⟩⟩;have Ii:=(ve.fT s9).fT Il;have Ka:=aG.of (F:=dZ) Ii;obtain⟨rfl,iF⟩|⟨b',rfl⟩:=aoV
   .refine bK (λ_=>?_) λz=>eu xz z;have hsf:=ahb c hof iF;refine⟨_,xz,_,xz,T,_,_,_,xz,xz,ag.of<|Ii _ _ m,bA (j:=0) xz,y,R,o,o0,xz,go.keep Ka,g0.keep Ka,M8 to t0 λh1 h2 f1 f2 h=>aex c Z hsf h1 h2 f1 f2 h,λH11 s11=>⟨_,xz,eU<|uC H11<|Ii.fT s11⟩⟩
   .exact bK (λz=>by cases z) λ_=>uC H10 Ii
  refine⟨_,aw (bC (i:=1) vY.nd xz (uo xz)<|bN DPg nQ xz<|aa (bN DC L xz<|aa (pv 0)<|aa ax af) af)<|aw (bC (i:=2) vY.nd xz (aI xz)<|aN bQ (eC<|aa cp<|aa cp af)<|bp jQ (bN DC L xz<|aa (pv 0)<|aa ax af) ax)<|aw (bJ (b0 CQ (bp jQ (bp pC (bN DC L xz<|aa (pv 0)<|aa ax af) ax) ax) ax<|br _) (ar<|qD (bN DMe nQ xz<|aa (pv 1)<|aa (eC<|aa ax<|aa ax af)<|aa (pv 2) af)<|oo xz<|gU (bo (i:=1) vY.nd xz<|uo xz)<|gU (bo (i:=3) vY.nd xz<|aI xz) og) b8) pE,?_⟩;refine⟨_,xz,a,ns,0,xz,Y,qc,_,xz,λg v ps s1 hP c h2 _=>?_⟩;obtain⟨kd,hat,Z⟩:=aiy<|qM ns 1;refine⟨sl (n:=2),λlk Ir=>?_⟩;have s2:=au (o:=.lst [V.str N_,V.str l_]) s1 Ir;have RZ:=hP.same<|au (o:=.lst [V.str N_,V.str l_]) (ae.refl _) Ir;have G:db g lk (.lst [V.str N_,V.str l_]) lk=a_ (.lst [V.str N_,V.str l_]):=ao;generalize db g lk (.lst [V.str N_,V.str l_])=M at s2 RZ G ⊢;have Jc:=B0 (aG.of s2) Y;refine⟨_,xz,a,ns,1,xz,Jc,qc,_,_,xz,xz,(by show (0:Int)<2;decide),lk,_,_,.str kd,xz,xz,ag.of G,hat,?_⟩;refine⟨_,xz,a,ns,1,xz,Jc,qc,_,_,xz,xz,⟨qc,qc⟩,_,_,xz,xz,(by show (0:Int)<3;decide),_,_,xz,xz,_,xz,bK (λ_=>?_) λ_=>uE _ _ M v ps kd _ _ _ _ xz (aG.of s2) (iw lam s2) RZ c h2 Z q⟩;refine⟨_,xz,sl (n:=2),λFa nF=>⟨_,xz,v,Fa,kd,ps,xz,RZ.same<|au (ae.refl _) nF,c,h2,ao,λI r x y ig W u Ee hg' hl=>⟨r,_,xz,aq.of u,xz,_,_,xz,_,_,xz,xz,?_⟩⟩⟩;have DU:=(au (o:=.lst [V.int 0,V.int 0]) s2 nF).fT W;exact uE _ _ I x ig kd _ _ _ _ xz (aG.of DU) (iw lam DU) Ee hg' (by rw[<-aA (f:=kM),hl,aA,h2]) Z q
end
end TL
namespace TL
open PySem.SeqAt L2 L3
def Y'{us:List f_}(h:us.length=1):∃a,us=[a]:=Jr.mp h
def Hh{us:List f_}{n:Nat}(h:us.length=n+1):∃a l,us=a::l/\l.length=n:=by
 cases us with
 | nil=>cases h
 | cons a l=>exact⟨a,l,xz,BH h⟩
def Y9{us:List f_}(h:us.length=2):∃a b,us=[a,b]:=cG (Hh h) λa _ e h=>oE (Y' h) λb z=>⟨a,b,by rw[e,z]⟩
def Y8{us:List f_}(h:us.length=3):∃a b c,us=[a,b,c]:=cG (Hh h) λa _ e h=>yC (Y9 h) λb c z=>⟨a,b,c,by rw[e,z]⟩
def Y7{us:List f_}(h:us.length=4):∃a b c d,us=[a,b,c,d]:=cG (Hh h) λa _ e h=>anU (Y8 h) λb c d z=>⟨a,b,c,d,by rw[e,z]⟩
def alK{us:List f_}(h:us.length=5):∃a b c d e,us=[a,b,c,d,e]:=cG (Hh h) λa _ e h=>alr (Y7 h) λb c d f z=>⟨a,b,c,d,f,by rw[e,z]⟩
abbrev wQ(x q:cr)(st:bv)(ps:List cr):Prop:=∀(kV doc pm:f_)(an:Option e_)(aH ct:f_)(us:List f_),us.length=ps.length->ue (B_ x q (lF st) (iZ st) (aP st) .none kV doc pm an aH ct) ⟨us,[]⟩=pure (ps.zip us)
section
variable{K:u_}{h:i_}{mg:cr->Option f_}{x q m:cr}{st:bv}{f c e:e_}
def cH(X:K.In h)(G:h.Ns ff mg)(p:fN K x)(l:HT.aX K (gN K x)=fp x x st)(ps:List cr)(a:wQ x x st ps):∃fd,aQ K x x st (gN K x) fd/\x_ K (.ref<|gN K x)=c_/\dn K fd ps []/\mg x=a_ (.ref<|gN K x):=by
 obtain⟨oc,od,kV,b,pm,an,cd,ct,sl,l1,c1⟩:=HT.yh l p.2.1;have F:=Yk (st:=st) l1 c1 p.2.2;exact⟨_,F,p.2.2,F.binds a,C_ X G<|HT.nj p.1⟩
def du(p:fM K c m q)(l:HT.aX K (gM K c m)=fp m q st)(ps:List cr)(a:wQ m q st ps):∃fd,aQ K m q st (gM K c m) fd/\dn K fd ps []/\Meth K c m (gM K c m):=by
 obtain⟨oc,od,kV,b,pm,an,cd,ct,sl,l1,c1⟩:=HT.yh l p.2.1;have F:=Yk (st:=st) l1 c1 p.2.2.1;exact⟨_,F,F.binds a,HT.nj p.1,p.2.2.2,p.2.2.1⟩
def an1(p:fM K c m q)(l:HT.aX K (gM K c m)=fp m q st)(a:HT.Hi K (gM K c m)=c_)(ps:List cr)(b:wQ m q st ps):∃fd,wD K m q st (gM K c m) fd (HT.AK K<|gM K c m)/\dn K fd ps []/\Meth K c m (gM K c m):=by
 obtain⟨oc,od,kV,d,pm,an,ct,sl,l1,c1⟩:=HT.ajX l p.2.1 a;have F:=aic (st:=st) l1 c1 p.2.2.1;exact⟨_,F,F.fun.binds b,HT.nj p.1,p.2.2.2,p.2.2.1⟩
def mkD{d:cr}(p:fM K c m q)(l:HT.AI K (gM K c m)=fp m q st)(a:HT.AJ K (gM K c m) d=c_):∃fd,wC K m q st (gM K c m) fd d:=by
 obtain⟨oc,od,T,kV,b,pm,an,cd,ct,sl,c1,d1,n1,p7,tk,g,i,j⟩:=HT.Ym l p.2.1 a;exact⟨_,⟨⟨oc,od,T,kV,b,pm,an,cd,ct,sl,c1,d1,n1,p7,tk,xz,g,i,j⟩,p.2.2.1⟩⟩
def an0{d:cr}(X:K.In h)(G:h.Ns ff mg)(p:fN K x)(l:HT.AI K (gN K x)=fp x x st)(a:HT.AJ K (gN K x) d=c_):∃fd,wC K x x st (gN K x) fd d/\x_ K (.ref<|gN K x)=c_/\mg x=a_ (.ref<|gN K x):=by
 obtain⟨oc,od,T,kV,b,pm,an,cd,ct,sl,c1,d1,n1,p7,tk,g,i,j⟩:=HT.Ym l p.2.1 a;exact⟨_,⟨⟨oc,od,T,kV,b,pm,an,cd,ct,sl,c1,d1,n1,p7,tk,xz,g,i,j⟩,p.2.2⟩,p.2.2,C_ X G<|HT.nj p.1⟩
def sU(X:K.In h)(G:h.Ns ff mg)(p:cK K x):da K (gN K x)/\mg x=a_ (.ref<|gN K x):=⟨⟨p.2.1,p.2.2.1,p.2.2.2.1,p.2.2.2.2⟩,C_ X G<|HT.nj p.1⟩
end
def Yw(l:W.OpenLaw)(w:j_)(K:u_)(mg:cr->Option f_)(fa:e_):Prop:=
  ∃fd:jO,(∀(s:g_)(v:f_),BindsTo s fd ⟨[v],[]⟩ [(as7,v)])/\(∃c,W.codeHdIn K c 416=c_)/\∀gl:i_,K.In gl->gl.Ns ff mg->uK mg gl->aF l.prog w K mg gl aE 12 fa fd [as7] (YI K 416)
def sL9{K:u_}(E:seen K=c_)(i:Nat){b:Bool}(h:(AV K ())[i]?=a_ b):b=true:=lY.mp E b<|aW h
section
variable{K:u_}(E:seen K=c_)
def ai{K:u_}(E:seen K=c_)(i:Nat){p:Prop}{d:Decidable p}(h:(AV K ())[i]?=a_ (@decide p d)):p:=@eF p d<|sL9 E i h
def Vj:=ai E 2 xz
def Vk:=ai E 7 xz
def Vi:=ai E 12 xz
def Uz:=ai E 17 xz
def Ux:=ai E 22 xz
def Uy:=ai E 27 xz
def Uc:=ai E 32 xz
def Uw:=ai E 35 xz
def Ts:=ai E 40 xz
def NW:=ai E 55 xz
def Mb:=ai E 56 xz
def Me:=ai E 57 xz
def Ma:=ai E 58 xz
def La:=ai E 59 xz
def KZ:=ai E 60 xz
def K':=ai E 61 xz
def qz:=ai E 62 xz
def MV:=ai E 68 xz
def W9:=ai E 73 xz
def Md:=ai E 79 xz
def oi:=ai E 122 xz
def qy:=ai E 124 xz
end
def a0{K:u_}(E:qJ K=pK)(i:Nat){a b:Option HT.rh}(h:(qJ K)[i]?=a_ a)(g:pK[i]?=a_ b):a=b:=by rw[E,g]at h;exact(dj h).g8
def eD{x q:cr}{st:bv}{ps:List cr}(l:autoParam (ps.length=1) a8)(h:∀(kV doc pm:f_)(an:Option e_)(aH ct:f_)(a:f_),ue (B_ x q (lF st) (iZ st) (aP st) .none kV doc pm an aH ct) ⟨[a],[]⟩=pure (ps.zip [a]):=by intros;rfl):wQ x q st ps:=by
 intro k1 b c d f g us i;obtain⟨a,e⟩:=Y'<|i.fT l;subst e;exact h k1 b c d f g a
def dF{x q:cr}{st:bv}{ps:List cr}(l:autoParam (ps.length=2) a8)(h:∀(kV doc pm:f_)(an:Option e_)(aH ct:f_)(a b:f_),ue (B_ x q (lF st) (iZ st) (aP st) .none kV doc pm an aH ct) ⟨[a,b],[]⟩=pure (ps.zip [a,b]):=by intros;rfl):wQ x q st ps:=by
 intro k1 c d f g i us j;obtain⟨a,b,e⟩:=Y9<|j.fT l;subst e;exact h k1 c d f g i a b
def oQ{x q:cr}{st:bv}{ps:List cr}(l:autoParam (ps.length=3) a8)(h:∀(kV doc pm:f_)(an:Option e_)(aH ct:f_)(a b c:f_),ue (B_ x q (lF st) (iZ st) (aP st) .none kV doc pm an aH ct) ⟨[a,b,c],[]⟩=pure (ps.zip [a,b,c]):=by intros;rfl):wQ x q st ps:=by
 intro k1 d f g i j us k;obtain⟨a,b,c,e⟩:=Y8<|k.fT l;subst e;exact h k1 d f g i j a b c
def mL{x q:cr}{st:bv}{ps:List cr}(l:autoParam (ps.length=4) a8)(h:∀(kV doc pm:f_)(an:Option e_)(aH ct:f_)(a b c d:f_),ue (B_ x q (lF st) (iZ st) (aP st) .none kV doc pm an aH ct) ⟨[a,b,c,d],[]⟩=pure (ps.zip [a,b,c,d]):=by intros;rfl):wQ x q st ps:=by
 intro k1 f g i j k us m;obtain⟨a,b,c,d,e⟩:=Y7<|m.fT l;subst e;exact h k1 f g i j k a b c d
def mD{x q:cr}{st:bv}{ps:List cr}(l:autoParam (ps.length=5) a8)(h:∀(kV doc pm:f_)(an:Option e_)(aH ct:f_)(a b c d f:f_),ue (B_ x q (lF st) (iZ st) (aP st) .none kV doc pm an aH ct) ⟨[a,b,c,d,f],[]⟩=pure (ps.zip [a,b,c,d,f]):=by intros;rfl):wQ x q st ps:=by
 intro k1 g i j k m us n;obtain⟨a,b,c,d,f,e⟩:=alK<|n.fT l;subst e;exact h k1 g i j k m a b c d f
def facts{l:W.OpenLaw}{w:j_}{K:u_}{h:i_}{mg:cr->Option f_}{fa:e_}(E:(seen K,qJ K)=(c_,pK))(X:K.In h)(G:h.Ns ff mg)(hfa:mg "law"=a_ (.ref fa)):Yw l w K mg fa:=by
 have f:=(xH E).1;have hl:=(xH E).2;have a:=@ai K f;have b:=@a0 K hl;refine cw (cH X G (a 51 xz) (b 0 xz xz) hH eD) λsV r kW bW x=>?_;refine cw (cH X G (a 52 xz) (b 1 xz xz) ["word"] eD) λAX FB kB bB gB=>?_;refine cw (cH X G (a 53 xz) (b 2 xz xz) im eD) λHK FS kS bS gS=>?_;refine cw (cH X G (a 54 xz) (b 3 xz xz) im eD) λuY FO kO bO gO=>?_;refine aY (du (NW f) (b 4 xz xz) gW dF) λgJ FI bI MI=>?_;refine aY (du (Mb f) (b 5 xz xz) gW dF) λG2 aql Ql N=>?_;refine aY (du (Me f) (b 6 xz xz) gW dF) λG6 aqG Qm Q=>?_;refine aY (du (Ma f) (b 7 xz xz) gW dF) λGZ aqh Qk R=>?_;refine aY (du (La f) (b 8 xz xz) gW dF) λGq anp Pf S=>?_;refine aY (du (KZ f) (b 9 xz xz) gW dF) λGn ank Pd U=>?_;refine aY (du (K' f) (b 10 xz xz) gW dF) λGp anm Pe V=>?_;refine aY (du (qz f) (b 11 xz xz) gw eD) λPL FEm yK MEm=>?_;refine aY (du (a 63 xz) (b 12 xz xz) gw eD) λNT anl OU ane=>?_;refine aY (du (a 64 xz) (b 13 xz xz) gw eD) λNV anq OW ang=>?_;refine cw (cH X G (a 65 xz) (b 14 xz xz) hJ eD) λasy FHC kHC bHC gHC=>?_;refine cw (cH X G (a 66 xz) (b 15 xz xz) ["told",Y_,"length"] oQ) λasA FFI kFI bFI gFI=>?_;refine cw (cH X G (a 67 xz) (b 16 xz xz) hJ eD) λasp FLO kLO bLO gLO=>?_;refine aY (du (MV f) (b 17 xz xz) ix dF) λar4 Y Z MTI=>?_;refine aY (du (a 69 xz) (b 18 xz xz) ki mL) λar8 FTA bTA MTA=>?_;refine aY (du (a 70 xz) (b 19 xz xz) hU dF) λar3 FTL bTL MTL=>?_;refine aY (an1 (a 71 xz) (b 20 xz xz) (a 72 xz) gw eD) λar5 FTF bTF MTF=>?_;refine aY (du (a 74 xz) (b 21 xz xz) hU dF) λar1 FTT bTT MTT=>?_;refine aY (du (a 75 xz) (b 22 xz xz) gw eD) λar6 FTE bTE MTE=>?_;refine aY (du (a 76 xz) (b 23 xz xz) gw eD) λar7 FTD bTD MTD=>?_;refine aY (du (a 77 xz) (b 24 xz xz) gw eD) λar0 FTW bTW MTW=>?_;refine cw (cH X G (a 78 xz) (b 25 xz xz) [U_] eD) λar2 FTO kTO bTO gTO=>?_;refine oE (mkD (Md f) (b 26 xz xz)<|a 80 xz) λarc aax=>?_;refine aY (du (a 81 xz) (b 27 xz xz) hA dF) λasL FAE bAE MAE=>?_;refine aY (du (a 82 xz) (b 28 xz xz) hA dF) λasj FMY bMY MMY=>?_;refine aY (du (a 83 xz) (b 29 xz xz) gw eD) λasI FCR bCR MCR=>?_;refine aY (du (a 84 xz) (b 30 xz xz) gw eD) λasm FMV bMV MMV=>?_;refine aY (du (a 85 xz) (b 31 xz xz) [X_,as9] dF) λasF FDO bDO MDO=>?_;refine aY (du (a 86 xz) (b 32 xz xz) hA dF) λasE FDS bDS MDS=>?_;refine aY (du (a 87 xz) (b 33 xz xz) i0 oQ) λasD FDT bDT MDT=>?_;refine aY (du (a 88 xz) (b 34 xz xz) i0 oQ) λasG FDL bDL MDL=>?_;refine aY (du (a 89 xz) (b 35 xz xz) i0 oQ) λasC FDW bDW MDW=>?_;refine aY (du (a 90 xz) (b 36 xz xz) io oQ) λasH FCY bCY MCY=>?_;refine aY (du (a 91 xz) (b 37 xz xz) [X_,at1] dF) λasJ FCM bCM MCM=>?_;refine aY (du (a 92 xz) (b 38 xz xz) hU dF) λasi FOB bOB MOB=>?_;refine aY (du (a 93 xz) (b 39 xz xz) gw eD) λasB FEN bEN MEN=>?_;refine aY (du (a 94 xz) (b 40 xz xz) gw eD) λasl FMW bMW MMW=>?_;refine aY (du (a 95 xz) (b 41 xz xz) hA dF) λarV FWT bWT MWT=>?_;refine aY (du (a 96 xz) (b 42 xz xz) hA dF) λarY FWH bWH MWH=>?_;refine aY (du (a 97 xz) (b 43 xz xz) hA dF) λasb FRG bRG MRG=>?_;refine aY (du (a 98 xz) (b 44 xz xz) gw eD) λasK FBD bBD MBD=>?_;refine cw (cH X G (a 99 xz) (b 45 xz xz) iX oQ) λasf FPB kPB bPB gPB=>?_;refine cw (cH X G (a 100 xz) (b 46 xz xz) [as9] eD) λasx FHF kHF bHF gHF=>?_;refine cw (cH X G (a 101 xz) (b 47 xz xz) hZ eD) λar' FSO kSO bSO gSO=>?_;refine cw (cH X G (a 102 xz) (b 48 xz xz) [as0,l_] dF) λasd FPS kPS bPS gPS=>?_;refine cw (cH X G (a 103 xz) (b 49 xz xz) [O_,l_] dF) λar9 FSe kSe bSe gSe=>?_;refine cw (cH X G (a 104 xz) (b 50 xz xz) hD dF) λasv FHN kHN bHN gHN=>?_;refine cw (cH X G (a 105 xz) (b 51 xz xz) hD dF) λarX FWN kWN bWN gWN=>?_;refine cw (cH X G (a 106 xz) (b 52 xz xz) iv dF) λarZ FWA kWA bWA gWA=>?_;refine cw (cH X G (a 107 xz) (b 53 xz xz) hD dF) λarW FWO kWO bWO gWO=>?_;refine cw (cH X G (a 108 xz) (b 54 xz xz) [as8] eD) λasr FLE kLE bLE gLE=>?_;refine cw (cH X G (a 109 xz) (b 55 xz xz) hJ eD) λash FOT kOT bOT gOT=>?_;refine cw (cH X G (a 110 xz) (b 56 xz xz) ["thing","length"] dF) λasw FHL kHL bHL gHL=>?_;refine cw (cH X G (a 111 xz) (b 57 xz xz) hH eD) λass FIS kIS bIS gIS=>?_;refine cw (cH X G (a 112 xz) (b 58 xz xz) [O_,"paper"] dF) λasu FHS kHS bHS gHS=>?_;refine cw (cH X G (a 113 xz) (b 59 xz xz) jI oQ) λasq FLF kLF bLF gLF=>?_;refine cw (cH X G (a 114 xz) (b 60 xz xz) lb oQ) λasa FSF kSF bSF gSF=>?_;refine cw (cH X G (a 115 xz) (b 61 xz xz) ["step",as8] dF) λarb aqm aoo apS apr=>?_;refine cw (cH X G (a 116 xz) (b 62 xz xz) kN oQ) λase FPL kPL bPL gPL=>?_;refine cw (cH X G (a 117 xz) (b 63 xz xz) lp mD) λarw aqC aoE ap8 apI=>?_;refine aY (an0 X G (a 118 xz) (b 64 xz xz)<|a 119 xz) λasz FFT kFT gFT=>?_;refine cw (cH X G (a 120 xz) (b 65 xz xz) hZ eD) λasn FMP kMP bMP gMP=>?_;refine cw (cH X G (a 121 xz) (b 66 xz xz) hJ eD) λaso FMA kMA bMA gMA=>?_;refine aY (du (oi f) (b 67 xz xz) ia dF) λPK FNx Qy MNx=>?_;refine aY (du (a 123 xz) (b 68 xz xz) ia dF) λNU ano OV anf=>?_;refine aY (du (qy f) (b 69 xz xz) gw eD) λPJ FSt yJ MSt=>?_;refine aY (du (a 125 xz) (b 70 xz xz) gw eD) λOM aqi PX aqc=>?_;refine aY (du (a 126 xz) (b 71 xz xz) gw eD) λOL aqg PV aqb=>?_;refine cw (cH X G (a 127 xz) (b 72 xz xz) hO eD) λara aqk aon apR apq=>?_;refine cw (cH X G (a 128 xz) (b 73 xz xz) hO eD) λary aqE aoG ap' apK=>?_;refine cw (cH X G (a 129 xz) (b 74 xz xz) hO eD) λaq' aqj aom apQ apo=>?_;refine cw (cH X G (a 130 xz) (b 75 xz xz) [as6,as9] dF) λarz aqF aoH aqa apL=>?_;refine cw (cH X G (a 131 xz) (b 76 xz xz) [O_,U_,"most"] oQ) λarx aqD aoF ap9 apJ=>?_;refine cw (cH X G (a 132 xz) (b 77 xz xz) jp dF) λart aqz aoB ap5 apF=>?_;refine cw (cH X G (a 133 xz) (b 78 xz xz) kw dF) λarn aqu aow ap0 apA=>?_;refine cw (cH X G (a 134 xz) (b 79 xz xz) ["_law_draw","_law_length"] dF) λark aqs aou apY apy=>?_;refine cw (cH X G (a 135 xz) (b 80 xz xz) [an3,"_law_amount"] dF) λarf aqo aoq apU apu=>?_;refine cw (cH X G (a 136 xz) (b 81 xz xz) kn oQ) λarj aqr aot apX apx=>?_;refine cw (cH X G (a 137 xz) (b 82 xz xz) [an3] eD) λari aqq aos apW apw=>?_;refine cw (cH X G (a 138 xz) (b 83 xz xz) jv dF) λarl aqt aov apZ apz=>?_;refine cw (cH X G (a 139 xz) (b 84 xz xz) js dF) λaru aqA aoC ap6 apG=>?_;refine cw (cH X G (a 140 xz) (b 85 xz xz) [at3,"_law_first"] dF) λars aqy aoA ap4 apE=>?_;refine cw (cH X G (a 141 xz) (b 86 xz xz) lu oQ) λarh aqp aor apV apv=>?_;refine cw (cH X G (a 142 xz) (b 87 xz xz) ku mD) λarv aqB aoD ap7 apH=>?_;refine cw (cH X G (a 143 xz) (b 88 xz xz) lA oQ) λaro aqv aox ap1 apB=>?_;refine cw (cH X G (a 144 xz) (b 89 xz xz) [as2] eD) λarp aqw aoy ap2 apC=>?_;refine cw (cH X G (a 145 xz) (b 90 xz xz) kb dF) λard aqn aop apT apt=>?_;refine cw (cH X G (a 146 xz) (b 91 xz xz) lJ mL) λarq aqx aoz ap3 apD=>?_;refine cw (cH X G (a 147 xz) (b 92 xz xz) [as7] eD) λanb aay arG asM aps=>?_;have e:=hfa.g8.fT aps;cases e;refine oA (sU X G<|a 0 xz) λaq2 akJ=>?_;refine oA (sU X G<|a 1 xz) λuv am'=>?_;refine oA (sU X G<|a 6 xz) λsD ana=>?_;refine oA (sU X G<|a 11 xz) λmz am9=>?_;refine oA (sU X G<|a 16 xz) λm8 akL=>?_;refine oA (sU X G<|a 21 xz) λow akI=>?_;refine oA (sU X G<|a 26 xz) λqF akK=>?_;refine oA (sU X G<|a 31 xz) λxW aiv=>?_;refine oA (sU X G<|a 34 xz) λakM YB=>?_;refine oA (sU X G<|a 39 xz) λaeN y=>?_;have N:Mk K (fZ K) (N0 K):=⟨(Vj f).1,HT.nj (Mb f).1,(Mb f).2.2.2,(Vj f).2⟩;have Q:Mk K (gc K) (N5 K):=⟨(Vk f).1,HT.nj (Me f).1,(Me f).2.2.2,(Vk f).2⟩;have R:Mk K (fY K) (NZ K):=⟨(Vi f).1,HT.nj (Ma f).1,(Ma f).2.2.2,(Vi f).2⟩;have S:Mk K (fX K) (M7 K):=⟨(Uz f).1,HT.nj (La f).1,(La f).2.2.2,(Uz f).2⟩;have U:Mk K (fU K) (M5 K):=⟨(Ux f).1,HT.nj (KZ f).1,(KZ f).2.2.2,(Ux f).2⟩;have V:Mk K (fV K) (M6 K):=⟨(Uy f).1,HT.nj (K' f).1,(K' f).2.2.2,(Uy f).2⟩;have akN:Mk K (jN K) (AM K):=⟨(Uc f).1,(a 164 xz),(NW f).2.2.2,(Uc f).2⟩;have Zq:Mk K (gj K) (Zm K):=⟨(Uw f).1,HT.nj (MV f).1,(MV f).2.2.2,(Uw f).2⟩;have z:Mk K (cD K) (N2 K):=⟨(Ts f).1,HT.nj (Md f).1,(Md f).2.2.2,(Ts f).2⟩;have adz:=MTA;have ab7:=MTL;have Tu:=MTF;have acF:=MTT;have abL:=MTE;have ab6:=MTD;have acE:=MTW;have abC:=MAE;have abA:=MMY;have abr:=MCR;have abN:=MMV;have acq:=MDO;have abp:=MDS;have abB:=MDT;have abq:=MDL;have abo:=MDW;have abP:=MCY;have abZ:=MCM;have abf:=MOB;have abO:=MEN;have abY:=MMW;have abn:=MWT;have abM:=MWH;have aa':=MRG;have abQ:=MBD;have ab9:Meth K (fZ K) R_ (pM K):=⟨(a 148 xz),(qz f).2.2.2,(qz f).2.2.1⟩;have aca:Meth K (gc K) R_ (pM K):=⟨(a 149 xz),(qz f).2.2.2,(qz f).2.2.1⟩;have ab8:Meth K (fY K) R_ (pM K):=⟨(a 150 xz),(qz f).2.2.2,(qz f).2.2.1⟩;have ab0:Meth K (fX K) R_ (pM K):=⟨(a 151 xz),(qz f).2.2.2,(qz f).2.2.1⟩;have abW:=ane;have abR:=ang;have abX:Meth K (fV K) R_ (pM K):=⟨(a 152 xz),(qz f).2.2.2,(qz f).2.2.1⟩;have acJ:Meth K (fZ K) ac2 (nC K):=⟨(a 153 xz),(oi f).2.2.2,(oi f).2.2.1⟩;have acL:Meth K (gc K) ac2 (nC K):=⟨(a 154 xz),(oi f).2.2.2,(oi f).2.2.1⟩;have acI:Meth K (fY K) ac2 (nC K):=⟨(a 155 xz),(oi f).2.2.2,(oi f).2.2.1⟩;have acr:Meth K (fX K) ac2 (nC K):=⟨(a 156 xz),(oi f).2.2.2,(oi f).2.2.1⟩;have aco:Meth K (fU K) ac2 (nC K):=⟨(a 157 xz),(oi f).2.2.2,(oi f).2.2.1⟩;have ab':Meth K (jN K) ac2 (nC K):=⟨(a 158 xz),(oi f).2.2.2,(oi f).2.2.1⟩;have acp:=anf;have adB:Meth K (fZ K) as4 (pL K):=⟨(a 159 xz),(qy f).2.2.2,(qy f).2.2.1⟩;have adC:Meth K (gc K) as4 (pL K):=⟨(a 160 xz),(qy f).2.2.2,(qy f).2.2.1⟩;have adA:=aqc;have acK:Meth K (fX K) as4 (pL K):=⟨(a 161 xz),(qy f).2.2.2,(qy f).2.2.1⟩;have acG:=aqb;have acu:Meth K (jN K) as4 (pL K):=⟨(a 162 xz),(qy f).2.2.2,(qy f).2.2.1⟩;have acH:Meth K (fV K) as4 (pL K):=⟨(a 163 xz),(qy f).2.2.2,(qy f).2.2.1⟩;have abS:OY K (oj K) P_ (AM K):=⟨(a 165 xz),(a 166 xz),HT.ajN<|a 167 xz,(NW f).2.2.1⟩;have Tt:=z_ X G<|a 168 xz;have A:=z_ X G<|a 169 xz;have Xo:=z_ X G<|a 170 xz;have Yz:=z_ X G<|a 171 xz;have m:=z_ X G<|a 172 xz;have j:=z_ X G<|a 173 xz;have B:=z_ X G<|a 174 xz;have akD:=z_ X G<|a 175 xz;have n:=z_ X G<|a 176 xz;have k:=z_ X G<|a 177 xz;have p:=z_ X G<|a 178 xz;have C:=z_ X G<|a 179 xz;have D:=z_ X G<|a 180 xz;have YA:=z_ X G<|a 181 xz;have akE:=z_ X G<|a 182 xz;have akF:∃u,mg "TOP"=a_ u/\df (.int kZ) u:=by obtain⟨t,e⟩:=HT.CJ<|a 183 xz;exact⟨_,C_ X G e,_,xz⟩
 have F:∃u,mg "NAMES"=a_ u/\df (.int 12) u:=by obtain⟨t,e⟩:=HT.CJ<|a 184 xz;exact⟨_,C_ X G e,_,xz⟩
 have acn:∃u,mg "REGISTERS"=a_ u/\df (.int 4) u:=by obtain⟨t,e⟩:=HT.CJ<|a 185 xz;exact⟨_,C_ X G e,_,xz⟩
 have ady:∃u,mg "LONGEST"=a_ u/\df (.int 120) u:=by obtain⟨t,e⟩:=HT.CJ<|a 186 xz;exact⟨_,C_ X G e,_,xz⟩
 have aeM:∃u,mg "CLERKS"=a_ u/\df (.int 4) u:=by obtain⟨t,e⟩:=HT.CJ<|a 187 xz;exact⟨_,C_ X G e,_,xz⟩
 have agv:=C_ X G<|HT.nj<|a 188 xz;have agw:∀H:Hp,aq K H (Ws K) [.str N_,.str l_,.str I_]:=λH=>HT.agB (a 189 xz) (by show 3<=bZ;decide) H;have bl:Bl mg:=⟨Tt,A,Xo,Yz,m,j,B,akD⟩;have o:BT mg:=⟨Tt,A,Xo,Yz,j,B,k,n,C,D⟩;have cn:Cn mg:=⟨akF,F,acn,ady⟩
 have T1:su K mg ⟨(Z5 K),(Z8 K),(Z6 K),(Z7 K),(AM K),(N0 K),(N5 K),(NZ K),(M7 K),(M5 K),(M6 K),(oj K),(fZ K),(gc K),(fY K),(fX K),(fU K),(jN K),(fV K),_,_,_,_,_,_,_,_,_,_,_⟩:=
  ⟨bl,cn,r,bW,x,FB,bB,gB,FS,bS,gS,FO,bO,gO,⟨FI,bI,abS,akJ,m⟩,xW,(a 33 xz),akN,aiv,uv,(a 3 xz),(a 4 xz),(a 5 xz),N,am',aql,Ql,sD,(a 8 xz),(a 9 xz),(a 10 xz),Q,ana,aqG,Qm,mz,(a 13 xz),(a 14 xz),(a 15 xz),R,am9,aqh,Qk,m8,(a 18 xz),(a 19 xz),(a 20 xz),S,akL,anp,Pf,ow,(a 23 xz),(a 24 xz),(a 25 xz),U,akI,ank,Pd,qF,(a 28 xz),(a 29 xz),(a 30 xz),V,akK,anm,Pe⟩
 obtain⟨t,u5,PA⟩:∃t u5,lI K mg t u5:=⟨_,⟨⟨(pM K),(Xl K),(Xn K),_,_,_⟩,(nC K),(Xm K),(pL K),(Yy K),(Yx K),_,_,_,_,_⟩,⟨⟨T1,FEm,yK,anl,OU,anq,OW,(a 190 xz),(a 191 xz),ab9,aca,ab8,ab0,abW,abR,abX,⟨(a 192 xz),(a 193 xz),(a 194 xz),(a 195 xz),(a 196 xz),(a 197 xz),(a 198 xz),(a 199 xz)⟩,⟨(a 200 xz),(a 201 xz),(a 202 xz),(a 203 xz),(a 204 xz),(a 205 xz),(a 206 xz),(a 207 xz)⟩,⟨(a 208 xz),(a 209 xz),(a 210 xz),(a 211 xz),(a 212 xz),(a 213 xz),(a 214 xz),(a 215 xz)⟩,⟨(a 216 xz),(a 217 xz),(a 218 xz),(a 219 xz),(a 220 xz),(a 221 xz),(a 222 xz),(a 223 xz)⟩,⟨(a 224 xz),(a 225 xz),(a 226 xz),(a 227 xz),(a 228 xz),(a 229 xz),(a 230 xz),(a 231 xz)⟩,⟨(a 232 xz),(a 233 xz),(a 234 xz),(a 235 xz),(a 236 xz),(a 237 xz),(a 238 xz),(a 239 xz)⟩,⟨(a 240 xz),(a 241 xz),(a 242 xz),(a 243 xz),(a 244 xz),(a 245 xz),(a 246 xz),(a 247 xz)⟩⟩,D,akE,FNx,Qy,ano,OV,acJ,acL,acI,acr,aco,ab',acp,FSt,yJ,aqi,PX,aqg,PV,adB,adC,adA,acK,acG,acu,acH⟩⟩;have O:=PA.ob;have T:=O.st;have g:gF K (cD K):=⟨aeN,(a 41 xz),(a 42 xz),(a 43 xz),(a 44 xz),(a 45 xz),(a 46 xz),(a 47 xz),(a 48 xz),(a 49 xz),(a 50 xz)⟩;have i:kz K (gj K):=⟨akM,(a 36 xz),(a 37 xz),(a 38 xz)⟩;have I:=ah0 aax;have bFT:=age FFT;have q:Bw mg:=⟨m,k,j,D⟩;unfold Yw;refine⟨anb,λs v=>?_,⟨_,W9 f⟩,λgl h1 h2 h3=>?_⟩
 .obtain⟨_,_,_,_,_,_,_,_,_,e,_⟩:=aay.ex;rw[e];exact .of_eq xz
 .exact(by
  have c:=@Mt.mk l.prog w K mg gl;have d:=@Dp.mk l.prog w K mg gl;have hC:=W.codeHd_of_K h1<|W9 f;have DTD:=c (ac7 FTD o i) bTD ab6;have DTE:=c (ad5 FTE o i) bTE abL;have DTF:=c (Ur FTF o i hC h3) bTF Tu;have DTT:=c (afq FTT o i hC h3 r bW x FTF bTF Tu) bTT acF;have DTA:=c (ahx FTA i) bTA adz;have DTL:=c (ac8 FTL o i) bTL ab7;have DTO:=d (ad4 FTO o i Zq Y Z YB F agv agw) kTO bTO gTO;have DTW:=c (afp FTW o p i Zq Y Z YB F) bTW acE;have DAE:=c (afG (t:=t) (CT:=(gj K)) FAE j g) bAE abC;have DWH:=c (afo (t:=t) (CT:=(gj K)) FWH g) bWH abM;have DRG:=c (acf (t:=t) (CT:=(gj K)) FRG p g) bRG aa';have DBD:=c (afF (t:=t) (CT:=(gj K)) FBD p g) bBD abQ;have DEN:=Mt.mk (afB (t:=t) FEN g i B n DAE DTE) bEN abO;have DWT:=Mt.mk (ac6 (t:=t) FWT g i DTD) bWT abn;have DMY:=Mt.mk (afu FMY g i O DAE DTE) bMY abA;have DCR:=Mt.mk (ade (t:=t) FCR g i n DTF) bCR abr;have J:=Mt.mk (ad8 FMV g j k DMY DCR) bMV abN;have DCM:=c (ahK (t:=t) (CT:=(gj K)) FCM g) bCM abZ;have DOB:=c (ada (t:=t) (CT:=(gj K)) FOB g j) bOB abf;have DCY:=Mt.mk (afE FCY g i DTT DCM) bCY abP;have DDT:=Mt.mk (afD FDT g i j T DTA DCY) bDT abB;have DDL:=Mt.mk (aeb FDL g i T DTL DOB) bDL abq;have DDW:=Mt.mk (ad' FDW g T j DOB DCM) bDW abo;have DPB:=d (abU FPB O) kPB bPB gPB;have DDS:=Mt.mk (aea FDS g O DPB DDT DDL DDW) bDS abp;have DHF:=d (ahH FHF T) kHF bHF gHF;have DDO:=Mt.mk (ajh FDO g DHF J DDS DCY) bDO acq;have DSO:=d (ac9 FSO T m) kSO bSO gSO;have DLO:=d ((ahC FLO bl n ⟨ajl FHC bl aeM,kHC,bHC,gHC⟩ ⟨ahI FFI O,kFI,bFI,gFI⟩)) kLO bLO gLO;have L:=afw aax g T m k DLO DTO DSO;have DMW:=Mt.mk (afv FMW g i p z L y I DTW) bMW abY;have DHN:=d (ahG FHN) kHN bHN gHN;have DWN:=d (ahw FWN) kWN bWN gWN;have DWA:=d (ac5 FWA) kWA bWA gWA;have M:=Dp.mk (aje FWO DWA) kWO bWO gWO;have DLE:=Dp.mk (afy FLE cn k C DHN) kLE bLE gLE;have aaz:=Dp.mk (ahB PA aqm DWN) aoo apS apr;have DPL:=Dp.mk (ahD PA FPL aaz DWA) kPL bPL gPL;have DPS:=d (alh PA FPS YA) kPS bPS gPS;have DSe:=Dp.mk (alf FSe n DPS) kSe bSe gSe;have DOT:=Dp.mk (ajf FOT bl cn k YA DSe DWN) kOT bOT gOT;have DHL:=d (alo FHL bl p) kHL bHL gHL;have DIS:=Dp.mk (alm FIS cn ⟨LS (P:=l.prog) (w:=w) (mg:=mg) (gl:=gl) r bl,kW,bW,x⟩) kIS bIS gIS;have DHS:=Dp.mk (aln FHS bl DHL DIS) kHS bHS gHS;have DLF:=Dp.mk (alk PA FLF DHN M) kLF bLF gLF;have DSF:=Dp.mk (alg PA FSF M) kSF bSF gSF;have aqX:=Dp.mk (alp PA aqC DLF DSF M DLE DPL) aoE ap8 apI;have DFT:=Dp.mk (anS PA FFT n DHS DOT aqX) kFT bFT gFT;have DMP:=Dp.mk (alj PA FMP n aaz DPL) kMP bMP gMP;have DMA:=Dp.mk (ali FMA bl DMP) kMA bMA gMA;have aqI:=Dp.mk (ad7 aqk q g DRG) aon apR apq;have aaB:=Dp.mk (afC aqE q g aqI DBD) aoG ap' apK;have aqH:=Dp.mk (ac' aqj q g aaB DWH DWT) aom apQ apo;have aqZ:=Dp.mk (aec aqF g DMW DDO) aoH aqa apL;have aqY:=Dp.mk (ahJ aqD q g z L y I aqH aaB DEN J aqZ) aoF ap9 apJ;have aqU:=d (ahv aqz j) aoB ap5 apF;have aaA:=d (ajc aqu) aow ap0 apA;have aqK:=Dp.mk (ad6 aqo k aaA) aoq apU apu;have aqN:=Dp.mk (ahA aqr aaA) aot apX apx;have aqO:=d (ajg aqs) aou apY apy;have aqM:=Dp.mk (afz aqq j k m aqK aqO) aos apW apw;have aqP:=d (ajj aqt) aov apZ apz;have aqV:=d (ajk aqA) aoC ap6 apG;have aqT:=Dp.mk (ajm aqy j k aqP aqV) aoA ap4 apE;have aqL:=d (aji aqp j k) aor apV apv;have aqW:=Dp.mk (ahF aqB aqL) aoD ap7 apH;have aqQ:=Dp.mk (afA aqv j k m p aqT aqW) aox ap1 apB;have aqR:=Dp.mk (ahE aqw q g DRG DBD) aoy ap2 apC;have aqJ:=d (adb aqn) aop apT apt;have aqS:=Dp.mk (ad9 aqx g j k C z L y I J aqN DDO DEN aqR) aoz ap3 apD;exact ajd aay A aqU aqM aqQ aqY aqJ DFT DMA aqS)
def walk{l:W.OpenLaw}{q:k_}{loose:List cr}{XP:(cr->Option f_)->i_->Prop}{d:DefRec}(hn:l.most=a_ 63)(s:d.params.defaults=[])(t:d.name="law"):W.WalkO q loose XP (HT.uk TL.oS 416 (λK=>(seen K,qJ K)) (c_,pK)).says l.row.toRowW d [] (λf vs=>PySem.call f vs):=by
 refine Att.acD hn s λw s₀ u mg mb fa o pm cd doc a vs ns G Y M hd N n v x p y=>?_;obtain⟨K,i,A,r,E⟩:=Y;rw[t]at n;obtain⟨fd,h,⟨c,B⟩,C⟩:=facts (l:=l) (w:=w) E i G.T.g n
 have j:uK mg u.heap:=by
  obtain⟨j,ob,b1,b2,k,D,F,m⟩:=G.T.bmain;refine⟨j,ob,b1,b2,λz=>?_,k,D,F,m⟩;obtain⟨o',es,O,e,I,_⟩:=G.T.g;rw[z,e]at k;cases k;rw[I]at m;cases m
 exact aei (ts:=[416]) i G.T.g G.T.b G.T.builtins G.T.nolimit y j (λb h=>by rw[cO.mp h];exact r) (λb h=>by rw[cO.mp h];exact((W.codeHd_of_K i B).tab r).isCodeTable) (λb h=>by rw[cO.mp h];exact A) v x (dC p qc) ⟨xz,qc,qc⟩ C h (λH J L=>⟨a,ns,xz,L,p,⟨#[],J.2 416 (by simp),.inl xz⟩,λ_=>rfl⟩) λH e s' z=>z
end TL
open PySem.W
theorem TL.left:W.LeftO PySem.Challenge.rw_traylate_k94_whole_ends.row.prog TL.qv [PySem.Str.ofString "fault"] (λs=>W.xlAt TL.qv [] s&&W.recOk PySem.Challenge.rw_traylate_k94_whole_ends.row.records s) (HT.uk TL.oS 416 (λK=>(TL.seen K,TL.qJ K)) (c_,TL.pK)).obs (HT.uk TL.oS 416 (λK=>(TL.seen K,TL.qJ K)) (c_,TL.pK)).val 13454:=by
 refine HT.ah5 ?a ?b ?c ?d
 case a=>kernel_rfl
 case b=>kernel_rfl
 case c=>intro s;kernel_rfl
 case d=>intro w os;exact HT.both (HT.sL<|HT.oF<|TL.l2 w os)<|HT.both (TL.r2 w os)<|TL.r3 w os
theorem PySem.Challenge.cw_traylate_k94_whole_ends_holds : PySem.Challenge.rw_traylate_k94_whole_ends.Holds := by
 refine W.holds_law TL.lwS λarA=>?_;refine W.holds_open (q:=TL.qv) (loose:=[PySem.Str.ofString "fault"]) (XP:=W.XL TL.qv []) (YP:=(HT.uk TL.oS 416 (λK=>(TL.seen K,TL.qJ K)) (c_,TL.pK)).says) (d:=TL.dl) (kwd:=[]) TL.left (HT.uk TL.oS 416 (λK=>(TL.seen K,TL.qJ K)) (c_,TL.pK)).of (HT.uk TL.oS 416 (λK=>(TL.seen K,TL.qJ K)) (c_,TL.pK)).keeps (λs e=>W.xl_of s (SI.mp e).1) W.XL.keeps ?h1 ?h2 ?h3 (λs e=>W.recFacts_of (SI.mp e).2) ?h4 (by assumption) ?h5 ⟨xz,xz,xz,xz,xz,dk⟩ ?hw (TL.walk (l:=PySem.Challenge.rw_traylate_k94_whole_ends) ?w1 ?w2 ?w3)
 case h1=>kernel_rfl
 case h2=>kernel_rfl
 case h3=>kernel_rfl
 case h4=>kernel_rfl
 case h5=>kernel_rfl
 case hw=>w_witness2
 case w1=>kernel_rfl
 case w2=>kernel_rfl
 case w3=>kernel_rfl
#print axioms PySem.Challenge.cw_traylate_k94_whole_ends_holds
