import PyProof.Rows.All
import Wide.All
import OpenK.AllK
import Wide.FinOn
import KE.KNestM
import KE.KSortedM
import PySem.Challenge.RW_traylate_k26_moves_made
set_option Elab.async false
set_option linter.all false
set_option maxRecDepth 100000
set_option maxHeartbeats 0
set_option synthInstance.maxSize 100000
set_option synthInstance.maxHeartbeats 0
set_option genSizeOf false
open PySem renaming wpAny_bind→ah,wpAny_pure→aG,FuncData→aV,sizeLine→aZ,SetTable→bw,starEach→cJ,NameKind→eX,mainGlobals→gc,sizeLine_eq→iq,wpAny_mono→jg,wpAny_field→jy,compareOp→jQ,PassesOwn→jR,wpAny_holding→nW,wpAny_newObj_type→pY,wpAny_seqItems→qb,wpAny_setField→qQ,builtinsNs→qV,wpAny_truthy_bool→sD,wpAny_call_entry→sE,codeAny_builtin→sG,bootBuiltins→sH,bindArgs→sO,plainId_quiet→um,binaryOp→uD,wpAny_callSpecial?_slot→vN,codeAny_mono→vV,wpAny_rule→v3,pickOrder→v7,wpAny_letGo→ym,sliceBounds→yn,wpAny_call→yt,isInstance→yu,getMethod→yz,wpAny_setField_rec→Ad,wpAny_Call_Name_kw→Ae,wpAny_setState_of→Af,wpAny_loadPart_at→Ag,wpAny_updateSeq→Ak,keywordEach→Av,call_meets→AA,assignEach→AB,treeTable→AH,scanBound→AI,relayAll→AQ,backToKw→AR,wpAny_pyIter_list→CI,wpAny_passesOwn→CM,wpAny_execs_nil→CN,importedModules→CO,recursionLimit→CS,wpAny_standAt→CU,wpAny_attempt→CV,attributeBase→CW,wpAny_of_eq→Dc,closureFor→Di,updateSeq→Dq,seqIndex?→Dr,callWith→DE,wpAny_isInstance→Gz,letOwnedTupleGo→G2,wpAny_tryCatch→Hc,firstArgMember→Hd,wpAny_onRaise→Hg,behindInMarks→Hh,wpAny_load→HE,typeLookup→HF,intKind_is→HG,swapsWith→Ig,seqItems?→Ih,wpAny_updateSeq_pair→Ou,wpAny_setEntries_of→Ow,foldedSetIterable→OD,wpAny_askSetting→OG,wpAny_loadPart'→OL,codeAny_of_tree→ON,wpAny_newTuple→OQ,isSubtype_stop→OR,wpAny_newList→OX,wpAny_typeOf→O8,seqIndex_neg→O9,wpAny_comprehension_free→YF,richCompare_meets_room→YQ,codeAny_handlers_test→YV,builtinLookup_eq_fast→YW
open Nat renaming le_refl→aH,zero_le→bU,le_trans→cH,le_of_lt→cQ,ne_of_lt→dZ,lt_of_lt_of_le→fu,lt_irrefl→kv,le_succ→lx,le_of_eq→nY,ne_of_gt→qS,lt_of_le_of_lt→sC,le_succ_of_le→yc,lt_trichotomy→Ah,lt_succ_self→Ai,beq→A0,lt_succ_of_lt→CJ,succ_le_succ→CL,succ_ne_self→GG,le_add_right→GJ,lt_of_lt_of_eq→OA,succ_pos→Pd,lt_trans→Pe,add_mul_mod_self_left→Yz,lt_or_gt_of_ne→Zf
open List renaming length_map→aN,getElem?_eq_getElem→aT,mem_of_getElem?→bb,mem_cons→cx,size_toArray→dF,replicate→dH,length_append→eI,getElem?_eq_some_iff→eK,mem_cons_of_mem→eV,mem_cons_self→fX,getElem?_map→gC,Perm→gE,mem_append_right→gR,length_take→gU,mem_singleton→ip,map_append→iH,map_cons→jd,length_cons→jv,mem_append→jx,take_of_length_le→jK,getElem?_set_self→jL,take_add_one→ku,pairwise_iff_getElem→lP,length_set→lR,mem_map→lV,length_eq_zero_iff→nU,mem_append_left→ph,mem_filter→qa,mem_nil_iff→qO,getElem_of_mem→sA,lookup_cons→sF,map_map→sI,getD_eq_getElem?_getD→ug,getElem?_of_mem→uh,range_succ→uj,mem_range→uk,length_range→vO,filter_cons→vP,append_nil→vS,any_cons→yg,all_cons→yh,set_set→yj,map_set→yk,lookup→yo,mem_or_eq_of_mem_set→zX,lookup_cons_self→zY,length_filter_le→zZ,getElem?_set_ne→Aa,replicate_succ→Ab,flatMap_append→Ac,all_eq_true→Aj,all_map→Ap,getElem?_append_right→CF,getElem?_eq_none→CG,pairwise_map→CK,forIn_cons→CP,length_replicate→Gp,filterMap_cons→Gq,mem_filterMap→Gs,length_zipIdx→Gu,flatten_cons→Gw,flatMap_cons→Gx,getElem_mem→GQ,flatMap_nil→GU,eraseP_cons→GV,nodup_cons→G6,nil_append→G7,getElem?_eq_none_iff→Oi,getElem?_append_left→Oj,toList_toArray→Ox,filter_append→OB,append_assoc→OE,length_drop→OH,ext_getElem→OI,of_mem_zip→OO,Pairwise→OZ,map_nil→Pf,foldl→Qd,mem_zipIdx_iff_getElem?→Yr,getLast?_eq_some_iff→YA,getLast?_eq_none_iff→YB,getElem?_zip_eq_some→YC,pairwise_singleton→YI,getElem?_replicate→YJ,filter_cons_of_pos→YK,filter_cons_of_neg→YL,eraseIdx_cons_succ→YM,pairwise_lt_range→YR,length_eq_one_iff→YS,filter_eq_nil_iff→YT,length_singleton→YX,pairwise_append→Y0,length_eraseIdx→Y1,getElem?_zipIdx→Y2,map_congr_left→Y7,zip_cons_cons→Zg,pairwise_cons→Zh,take_sublist→Zv,nodup_append→Zw,findIdx_cons→Zx,take_length→ZH,perm_middle→ZI,not_mem_nil→ZJ,mem_flatMap→ZK
open Or renaming inl→aQ,inr→Bg
open PySem.Heap renaming get?_push_of_some→bj,lt_size→cg,get?_push_size→eO,SameBut→gD,size_push→lS,get?_update_self→sv,get?_update_other→x8,ExtBut→Hs,get?_update_ne→Oy,get?_none_of_le→Y3
open Bool renaming false_ne_true→dG,and_eq_true→jc,false_eq_true→pX,false_and→Al,true_and→Ao,eq_iff_iff→G',or_false→O0,not_true→O1
open PySem.Value renaming ref→ee,none→gq,int→iW,type→jz,bool→uu,str→Ds,float→Pr
open Option renaming some→eJ,map_eq_some_iff→Gn
open Ne renaming symm→fw
open PySem.SetTable renaming below→fZ,grown→yf,has→Pb,probe→aar,slot→aa3
open Option.some renaming inj→gn,injEq→yb
open Int renaming toNat_natCast→iG,zero_add→qU,emod_lt_of_pos→x9,emod_nonneg→yd,le_of_lt→Hq,ofNat_lt→Pg,ne_of_lt→Ph,natCast_nonneg→Zi
open PySem.PyData renaming strOk→iV,depth→jM,int→mU,canLay0→nV,depthAll→pZ,canLayAll0→qN,eqv→qW,eqvAll→An,tuple→Pc,list→Pw
open PyProof.Rows renaming boot_isinstance→jw,boot_tuple→ur,callWith_type1→CD,boot_all→DF,boot_list→Ij,slot_tuple_getitem→Og,get?_update_seq→OM,subscriptTail_builtinR→YO
open PySem.SeqAt renaming EqAt→jA,noMixAll→DD
open PySem.Obj renaming mapSeq→jO,mapFields→lU,putSet→AD,data_mapFields→CH,isFreed_of_fields→Ot,cls_mapFields→Zu
open False renaming elim→jP
open PySem.Heap.SameBut renaming update→lh
open Array renaming length_toList→lQ,getD→yv,getElem?_toList→z0,getD_eq_getD_getElem?→Gh,mk→IY,getElem?_eq_some_iff→Oh,getElem?_eq_none→Oq,getElem_toList→Ov,getElem?_setIfInBounds_ne→Yp,eq_empty_of_size_eq_zero→Yq,perm_iff_toList_perm→Yy,getElem?_eq_getElem→YE
open PySem.NameKind renaming free→nX
open PySem.W renaming boot_heap→pk,boot_drawn→HH,boot_toks→Ii
open PySem.PassesOwn renaming never→p0,looking→Zt
open Prod renaming mk→qg
open PySem.Str renaming ofString→qR
open PySem.Builtin.SmallTypes renaming nextOf→su,ownedTupleIsFree→Gg,ownedTupleHandOut→Yo
open PySem.Around renaming under_plainId→ui,under→Pj,frames_deeper→Y4
open True renaming intro→uw
open PySem.F renaming called_set→vW,slot_tuple_iterator_next→Gi,plain_extend_loop→Gr,slot_zip_next→G9,args_tuple_iterator_next_1→Ys,entry_tuple_iterator_next→Yt,slot_enumerate_next→YY,entry_extend_loop→Y8
open Prod.mk renaming inj→vY,injEq→Hi
open Sum renaming inr→wz,inl→wA
open PySem.W.KasT renaming kasWp_bind→CQ
open PySem.Builtin.Slice renaming slicePlaces→Gj,sliceAdjust→Ol,sliceApplied→Yx
open PySem.Builtin.Tuple renaming tupleExact→Gk
open PySem.Builtin.List renaming listTooLong→Gm,listExtendWith→Yu,listSameRef→YG
open PySem.SetTable.below renaming go→Gv
open ForInStep renaming yield→G8
open PySem.Walks renaming list→HI
open PyProof.Rows.F renaming plain_set_update_loop→Om,entry_set_update_loop→YN
open Classical renaming propDecidable→Oo,byContradiction→YD
open PySem.Code renaming quiet_builtin→OC
open PyProof.Rows.IntsAre renaming int_at→OS
open PySem.Shared renaming TypeIs→OY,heap→Pu
open PySem.pickOrder renaming go→Pa
open PySem.Builtin.Builtins renaming bindParams→Yv
open PySem.Calls renaming Name_function_global→Yw,callWith_builtin→YU
open PySem.Builtin.Frozenset renaming sizeOf→YH
open PySem.EntryCells renaming newEntry→Y9
open PySem.SeqAt.EqAt renaming str_int→Zd,int_str→Ze
open PySem.SetTable.probe renaming go→Zs
open Array.Perm renaming refl→Z2
open PySem.SetTable.Met.empty renaming injEq→aoJ
noncomputable section
theorem dk{p:Prop}(h:p:=by decide +kernel):p:=h
theorem qc{p:Prop}(h:p:=by decide):p:=h
theorem om{p:Prop}(h:p:=by omega):p:=h
abbrev zLc:List PySem.Str:=["_law_script","_law_program_here","_law_kind","_law_machine","_law_stand","_law_k","_law_draw","_law_moves_here","_law_wrong_here","_law_move"]
abbrev zLg:List PySem.Str:=["_law_stand","_law_kind","_law_clerk","_law_name","_law_number"]
abbrev zLh:List PySem.Str:=["_law_stand","_law_program_here","_law_kind","_law_clerk"]
abbrev zLi:List PySem.Str:=["_law_stand","_law_program_here","_law_kind","_law_move"]
abbrev zLj:List PySem.Str:=["_law_stand","_law_row"]
abbrev zLk:List PySem.Str:=["_law_stand","_law_kind","_law_clerk","_law_step"]
abbrev zLl:List PySem.Str:=["_law_machine","_law_stand","_law_program_here"]
abbrev zLm:List PySem.Str:=["_law_stand","_law_program_here","_law_kind"]
abbrev zLo:List PySem.Str:=["_law_draw","_law_length","_law_names"]
abbrev zLp:List PySem.Str:=["_law_stand","_law_clerk","_law_name"]
abbrev zLs:List PySem.Str:=["_law_cell","_law_k"]
abbrev zLt:List PySem.Str:=["_law_machine","_law_clerks"]
abbrev zLu:List PySem.Str:=["_law_script","_law_k"]
abbrev zLv:List PySem.Str:=["_law_machine","_law_move"]
abbrev zLw:List PySem.Str:=["_law_stand","_law_program_here","_law_kind","_law_moves_here","_law_clerk","_law_at","_law_names"]
abbrev zLx:List PySem.Str:=["_law_draw","_law_clerks"]
abbrev zLA:List PySem.Str:=["_law_rows","_law_name"]
namespace L2
end L2
namespace L3
end L3
namespace L4
end L4
namespace L5
end L5
namespace L2
open PySem PySem.Spec PyProof.Rows
def inClass(s:Stmt)(j:Nat):Stmt:=match s with
 | .ClassDef _ _ _ body _ _ _ _ _ _ _=>body.getD j (.Pass ⟨0,0,0,0⟩)
 | _=>.Pass ⟨0,0,0,0⟩
def lA(s:Stmt):Arguments:=match s with
 | .FunctionDef _ a _ _ _ _ _ _ _ _=>a
 | _=>{ posonlyargs:=[],args:=[],vararg:=none,kwonlyargs:=[],kw_defaults:=[],kwarg:=none,defaults:=[] }
def gr(s:Stmt):List Stmt:=match s with
 | .FunctionDef _ _ b _ _ _ _ _ _ _=>b
 | _=>[]
def aO(s:Stmt):Scope:=match s with
 | .FunctionDef _ _ _ _ _ _ sc _ _ _=>sc
 | _=>{ kind:=.function,names:=[],isGenerator:=false,isCoroutine:=false }
end L2
namespace TL
open PySem PySem.Spec PyProof.Rows L2 L3
abbrev fQ:Int:=1000000000000000000000000000000000000000000000000000000000000
def top(i:Nat):Stmt:=PySem.Challenge.pw_traylate_k26_moves_made.main.body.getD i (.Pass ⟨0,0,0,0⟩)
abbrev Eg:Stmt:=inClass (top 13) 0
abbrev A6:Stmt:=top 21
abbrev AU:Stmt:=top 22
abbrev DK:Stmt:=top 23
abbrev Jh:Stmt:=top 24
abbrev Ef:Stmt:=inClass (top 14) 0
abbrev Eh:Stmt:=inClass (top 15) 0
abbrev Ee:Stmt:=inClass (top 16) 0
abbrev DX:Stmt:=inClass (top 17) 0
abbrev DV:Stmt:=inClass (top 18) 0
abbrev DW:Stmt:=inClass (top 20) 0
end TL
namespace L2
open PySem
abbrev U':Addr:=87
end L2
namespace L2
open PySem PySem.Spec PyProof.Rows L3
open Sem (wp)
abbrev EA:List Value:=[.type "ValueError",.type "Exception",.type "BaseException",.type "object"]
end L2
namespace TL
open PySem PySem.Spec PyProof.Rows L2 L3
abbrev Je:Stmt:=top 21
abbrev EX:Stmt:=inClass (top 32) 0
abbrev Kx:Stmt:=inClass (top 32) 1
abbrev Iw:Stmt:=inClass (top 32) 2
abbrev Du:Stmt:=inClass (top 32) 3
abbrev JL:Stmt:=inClass (top 32) 4
abbrev Jg:Stmt:=inClass (top 32) 5
abbrev Iv:Stmt:=inClass (top 32) 6
abbrev Jf:Stmt:=top 33
end TL
namespace TL
open PySem PySem.Spec PyProof.Rows PySem.SeqAt L2 L3 L4
abbrev DY:Stmt:=inClass (top 13) 5
abbrev Dm:Stmt:=inClass (top 18) 3
abbrev De:Stmt:=inClass (top 19) 0
abbrev A7:Stmt:=inClass (top 38) 0
abbrev JV:Stmt:=inClass (top 38) 1
abbrev JO:Stmt:=inClass (top 38) 2
abbrev IB:Stmt:=inClass (top 38) 3
abbrev Ji:Stmt:=inClass (top 38) 4
abbrev LG:Stmt:=inClass (top 38) 5
abbrev Jk:Stmt:=inClass (top 38) 6
abbrev JR:Stmt:=inClass (top 38) 7
abbrev Jl:Stmt:=inClass (top 38) 8
abbrev Jj:Stmt:=inClass (top 38) 9
abbrev JT:Stmt:=inClass (top 38) 10
abbrev KJ:Stmt:=inClass (top 38) 11
abbrev IA:Stmt:=inClass (top 38) 12
abbrev JQ:Stmt:=inClass (top 38) 14
abbrev JK:Stmt:=inClass (top 38) 15
abbrev Ht:Stmt:=inClass (top 38) 16
abbrev Hu:Stmt:=inClass (top 38) 17
abbrev Iu:Stmt:=inClass (top 38) 18
abbrev JU:Stmt:=inClass (top 38) 19
abbrev JS:Stmt:=inClass (top 38) 20
abbrev Kz:Stmt:=inClass (top 38) 23
abbrev LJ:Stmt:=top 27
abbrev KG:Stmt:=top 28
abbrev HM:Stmt:=top 29
abbrev Iy:Stmt:=top 35
abbrev IC:Stmt:=top 45
abbrev JP:Stmt:=top 46
abbrev Ky:Stmt:=top 47
abbrev LC:Stmt:=top 48
abbrev Hj:Stmt:=top 37
abbrev KD:Stmt:=top 36
abbrev KI:Stmt:=top 49
abbrev KH:Stmt:=top 50
abbrev KA:Stmt:=top 52
abbrev LF:Stmt:=top 44
abbrev AS:Stmt:=top 51
abbrev KC:Stmt:=top 53
abbrev JM:Stmt:=top 56
abbrev Iz:Stmt:=top 54
abbrev Jm:Stmt:=top 40
abbrev JN:Stmt:=top 41
abbrev LD:Stmt:=top 42
abbrev A8:Stmt:=top 43
abbrev A4:Stmt:=top 55
abbrev pH:Stmt:=top 57
end TL
namespace HT
open PySem PySem.W
def DG(tb:String->Option Builtin)(p:Program)(w:World)(n₀:Nat)(ann:Option Value):Nat->SharedT->Thread->Option SharedT
 | 0,_,_=>none
 | n+1,s,t=>match through t with
  | true=>some s
  | false=>match stepOk n₀ ann t with
   | false=>none
   | true=>match stepT (denote tb) p w s t with
    | some (s',t')=>DG tb p w n₀ ann n s' t'
    | none=>none
theorem Pz{tb:String->Option Builtin}{p:Program}{w:World}{n₀:Nat}{ann:Option Value}:∀{n:Nat} {s s':SharedT} {t:Thread},DG tb p w n₀ ann n s t=some s'->topRun tb p w n₀ ann n s.abs t=some s'.abs
 | 0,_,_,_,h=>by cases h
 | n+1,s,s',t,h=>by
  unfold DG at h;unfold topRun;cases he:through t with
  | true=>rw[he]at h;cases h;rfl
  | false=>
   rw[he]at h;cases hk:stepOk n₀ ann t with
   | false=>rw[hk]at h;cases h
   | true=>
    rw[hk]at h;cases hs:stepT (denote tb) p w s t with
    | none=>rw[hs]at h;cases h
    | some r=>obtain⟨s₂,t₂⟩:=r;rw[hs]at h;rw[stepT_spec hs];exact Pz h
def RJ:List Obj->Nat->BT->BT
 | [],_,t=>t
 | o::r,i,t=>RJ r (i+1) (t.ins i o)
def Le(P:Params):BT:=RJ (pk P).objs.toList 0 .nil
def Bq(P:Params):Nat:=(pk P).objs.size
def Lf(P:Params):Life:=(pk P).life
def akV(P:Params):Option Value:=(pk P).nsMap gc "__annotations__"
theorem boot_abs(P:Params):absHeap (Le P) (Bq P) (Lf P)=pk P:=by kernel_rfl
theorem ahP(P:Params):((pk P).isNs gc,(pk P).objs.size)=(true,Bq P):=by kernel_rfl
def SS(P:Params)(os:OsState):SharedT:=⟨Le P,Bq P,Lf P,#[],HH,Ii,os⟩
def nD(p:Program)(w:World)(N:Nat)(os:OsState):Option SharedT:=DG AH p w (Bq w.params) (akV w.params) N (SS w.params os) (topStub p)
def held(p:Program)(P:Params)(s:Shared):Bool:=staticsOk (CO p.main.body) (pk P) s.heap&&namesBound p s.heap&&gensDone s&&laidKept (pk P) s.heap
theorem both{α β γ:Type}{o:Option α}{f:α->β}{g:α->γ}{b:β}{c:γ}(h1:o.map f=some b)(h2:o.map g=some c):o.map (λs=>(f s,g s))=some (b,c):=by
 cases o with
 | none=>cases h1
 | some s=>cases h1;cases h2;rfl
theorem ab2{p:Program}{w:World}{N:Nat}{s₀ s₁:Shared}(a:(s₀.heap.isNs gc&&s₀.gens.size == 0)=true)(r:topRun AH p w s₀.heap.objs.size (s₀.heap.nsMap gc "__annotations__") N s₀ (topStub p)=some s₁)
  (b:(staticsOk (CO p.main.body) s₀.heap s₁.heap&&namesBound p s₁.heap&&gensDone s₁&&laidKept s₀.heap s₁.heap)=true):topFrom AH p w N s₀=some s₁:=by
 unfold topFrom;rw[a];dsimp only;rw[r];dsimp only[Option.bind];rw[b]
theorem ag4{p q:Program}{loose:List Str}{Xt:Shared->Bool}{α:Type}{Yf:Shared->α}{Ya:World->α}{N:Nat}(e:opening p=plainProg p.main.scope.names)(hN:Nat.ble 600 N=true)(f:∀s,fenceModules? p s=some s)
  (run:∀(w:World) (os:OsState),(nD p w N os).map (λs=>(held p w.params s.abs,(openSeen q loose (CO p.main.body) Xt true s.abs,Yf s.abs)))=some (true,(openGood q loose,Ya w))):LeftO p q loose Xt Yf Ya N:=λw=>by
 obtain⟨⟨h,gs,d,k,os⟩,e1,e'⟩:=Gn.mp (boot_open e hN f w);obtain⟨rfl,rfl,rfl,rfl⟩:h=pk w.params/\gs=IY []/\d=HH/\k=Ii:=by simpa using e'
 obtain⟨s₁,r,l⟩:=Gn.mp (run w os);obtain⟨l1,l2⟩:=vY l;obtain⟨z1,z2⟩:=vY (ahP w.params);have r':=Pz r
 have ea:(SS w.params os).abs=⟨pk w.params,IY [],HH,Ii,os⟩:=by
  show (⟨absHeap (Le w.params) (Bq w.params) (Lf w.params),_,_,_,_⟩:Shared)=_;rw[boot_abs];rfl
 rw[ea]at r';have t:topFrom AH p w N ⟨pk w.params,IY [],HH,Ii,os⟩=some s₁.abs:=ab2 (by rw[z1];rfl) (by show topRun AH p w (pk w.params).objs.size _ N _ _=_;rw[z2];exact r') l1;unfold openEnds;rw[e1];show (topFrom AH p w N _).map _=_;rw[t];exact congrArg some l2
end HT
namespace HT
open PySem PySem.W PyProof.Rows
theorem Ew{α β γ:Type}{o:Option α}{f:α->β}{g:α->γ}{b:β}{c:γ}(h:o.map (λs=>(f s,g s))=some (b,c)):o.map f=some b:=by
 cases o with
 | none=>cases h
 | some s=>
  have h':(f s,g s)=(b,c):=gn h;exact congrArg some (vY h').1
theorem Bv{α β γ:Type}{o:Option α}{f:α->β}{g:α->γ}{b:β}{c:γ}(h:o.map (λs=>(f s,g s))=some (b,c)):o.map g=some c:=by
 cases o with
 | none=>cases h
 | some s=>
  have h':(f s,g s)=(b,c):=gn h;exact congrArg some (vY h').2
theorem af9{p q:Program}{w:World}{N:Nat}{os:OsState}{loose mods:List Str}{Xt:Shared->Bool}
  (h3:(nD p w N os).map (λs=>s.abs.heap.keysOk (looseW q loose) ((recsOf q).map (·.name)) ((litsOf q).map (·.1)) ((clssOf q (looseW q loose)).map (·.name))&&s.abs.heap.accountedOkI mods&&s.abs.heap.isNs gc&&s.abs.heap.isNs qV&&tablesOk q s.abs.heap&&Xt s.abs&&(s.abs.gens.size == 0))=some true)
  (h1:(nD p w N os).map (λs=>(seen ((recsOf q).map (·.name)) (ownsOf q) [] { heap:=s.abs.heap,drawn:=s.abs.drawn,toks:=s.abs.toks,os:=s.abs.os },s.abs.heap.bltView))=some (expectedOf q,bltViewBooted))
  (h4:(nD p w N os).map (λs=>(tabsOk q s.abs,(pinSeenD q (drecsOf q) s.abs,(plainSeenE q (looseW q loose) s.abs,(plainSeenD q loose s.abs,(wideSeen q s.abs,clsSeenW q loose s.abs))))))=some (true,(pinGoodD (drecsOf q),(plainGoodE q (looseW q loose),(plainGoodD q loose,(wideGood q,clsGoodW q loose)))))) :
  (nD p w N os).map (λs=>openSeen q loose mods Xt true s.abs)=some (openGood q loose):=by
 have a:=both (Ew h1) (both (Bv h1) (both h3 h4));exact a
end HT
namespace HT
open PySem PySem.W
theorem Jr{g:Addr->Option Obj}{a:Addr}{o:Obj}:∀l:List Addr,(l.filterMap λa=>(g a).map λo=>(a,o)).lookup a=some o->g a=some o
 | [],h=>by cases h
 | b::r,h=>by
  rw[Gq]at h;cases e:g b with
  | none=>rw[e]at h;exact Jr r h
  | some x=>
   rw[e]at h;dsimp only[Option.map]at h;rw[sF]at h;cases q:a == b with
   | true=>rw[q]at h;cases h;rw[beq_iff_eq.mp q];exact e
   | false=>rw[q]at h;exact Jr r h
def rf:Option (Option Value)->Addr
 | some (some (.ref a))=>a
 | _=>0
def E1:Option (Option Value)->Bool
 | some (some (.ref _))=>true
 | _=>false
theorem kJ{o:Option (Option Value)}(h:E1 o=true):o=some (some (.ref (rf o))):=by
 unfold E1 at h
 split at h
 ·rfl
 ·cases h
def xo(o:Option (Option Value))(n:Int):Bool:=match o with
 | some (some (.int m _))=>decide (m=n)
 | _=>false
theorem Bd{o:Option (Option Value)}{n:Int}(h:xo o n=true):∃t,o=some (some (.int n t)):=by
 unfold xo at h
 split at h
 ·rename_i m t;exact⟨t,by rw[of_decide_eq_true h]⟩
 ·cases h
def MQ(o:Option CFound)(f:Addr):Bool:=match o with
 | some (.val (.ref a))=>A0 a f
 | _=>false
theorem aiO{o:Option CFound}{f:Addr}(h:MQ o f=true):o=some (.val (.ref f)):=by
 unfold MQ at h
 split at h
 ·rw[Nat.eq_of_beq_eq_true h]
 ·cases h
abbrev qE:=Str×Str×Arguments×FuncBody×Scope×Addr×List (Str×Addr)×Value×Addr
def bh(K:Frag)(f:Addr):Option qE:=match K.lookup f with
 | some ⟨_,_,.func d,_⟩=>some (d.name,d.qualname,d.params,d.body,d.scope,d.globals,d.closure,d.defaults,d.builtins)
 | _=>none
def codeOk(K:Frag)(f:Addr)(q:Str):Bool:=match K.lookup f with
 | some ⟨_,_,.func d,_⟩=>codeIn K d.code q
 | _=>false
theorem uW{K:Frag}{f:Addr}{n q q':Str}{A:Arguments}{B:List Stmt}{S:Scope}(h:bh K f=some (n,q,A,.stmts B,S,gc,[],.none,qV))(hc:codeOk K f q'=true) :
  ∃(oc:Value) (od:Option Addr) (kV dc pm:Value) (an:Option Addr) (cd ct:Value) (sl:Array (Option Value)),K.lookup f=some ⟨oc,od,.func (fnOf n q A B S .none kV dc pm an cd ct),sl⟩/\codeIn K cd q'=true:=by
 unfold bh at h;unfold codeOk at hc
 split at h
 ·rename_i oc od d sl e
  rw[e]at hc;obtain⟨d1,d2,d3,d4,d5,d6,d7,d8,d9,d10,d11,d12,d13,d14,d15⟩:=d;simp only[yb,Hi]at h;obtain⟨rfl,rfl,rfl,rfl,rfl,rfl,rfl,rfl,rfl⟩:=h;exact⟨oc,od,_,_,_,_,_,_,sl,e,hc⟩
 ·cases h
def Ex(K:Frag)(f:Addr):Option qE:=match K.lookup f with
 | some ⟨_,_,.func d,_⟩=>some (d.name,d.qualname,d.params,d.body,d.scope,d.globals,d.closure,.none,d.builtins)
 | _=>none
def Ey(K:Frag)(f:Addr)(x:Str):Bool:=match K.lookup f with
 | some ⟨_,_,.func d,_⟩=>(match d.defaults with
  | .ref T=>(match K.lookup T with
   | some ⟨_,_,.seq au _,_⟩=>(match au.toList with
    | [.str y _]=>decide (y=x)
    | _=>false)
   | _=>false)
  | _=>false)
 | _=>false
theorem aiW{K:Frag}{f:Addr}{n q q' x:Str}{A:Arguments}{B:List Stmt}{S:Scope}(h:Ex K f=some (n,q,A,.stmts B,S,gc,[],.none,qV))(hc:codeOk K f q'=true)(hd:Ey K f x=true) :
  ∃(oc:Value) (od:Option Addr) (T:Addr) (kV dc pm:Value) (an:Option Addr) (cd ct:Value) (sl:Array (Option Value)) (c1:Value) (d1:Option Addr) (n1:Nat) (rZ:Array (Option Value)) (tk:Nat),K.lookup f=some ⟨oc,od,.func (fnOf n q A B S (.ref T) kV dc pm an cd ct),sl⟩/\codeIn K cd q'=true/\K.lookup T=some ⟨c1,d1,.seq #[.str x tk] n1,rZ⟩:=by
 unfold Ex at h;unfold codeOk at hc;unfold Ey at hd
 split at h
 ·rename_i oc od d sl e
  rw[e]at hc hd;obtain⟨d1,d2,d3,d4,d5,d6,d7,d8,d9,d10,d11,d12,d13,d14,d15⟩:=d;simp only[yb,Hi]at h;obtain⟨rfl,rfl,rfl,rfl,rfl,rfl,rfl,_,rfl⟩:=h;cases d8 with
  | ref T=>
   have hd:(match K.lookup T with
    | some ⟨_,_,.seq au _,_⟩=>(match au.toList with
     | [.str y _]=>decide (y=x)
     | _=>false)
    | _=>false)=true:=hd
   split at hd
   ·rename_i c1 dd1 au n1 rZ e1
    split at hd
    ·rename_i y tk ei
     rw[of_decide_eq_true hd]at ei
     have anO:au=#[.str x tk]:=by
      have:=congrArg List.toArray ei;simpa using this
     rw[anO]at e1;exact⟨oc,od,T,_,_,_,_,_,_,sl,c1,dd1,n1,rZ,tk,e,hc,e1⟩
    ·cases hd
   ·cases hd
  | _=>cases hd
 ·cases h
def uV(h:Heap)(as:List Addr)(T:Addr):Frag:=as.filterMap λa=>(if A0 a T=true then none else h.get? a).map λo=>(a,o)
theorem PY{h:Heap}{as:List Addr}{T a:Addr}{o:Obj}(e:(uV h as T).lookup a=some o):a≠T/\h.get? a=some o:=by
 have z:=Jr (g:=λa=>if A0 a T=true then none else h.get? a) _ e
 by_cases y:A0 a T=true
 ·rw[if_pos y]at z;cases z
 ·rw[if_neg y]at z;exact⟨λq=>y (by rw[q];exact Nat.beq_refl T),z⟩
theorem aeY(h:Heap)(as:List Addr)(T:Addr):(uV h as T).In h:=λ_ _ e=>(PY e).2
theorem aeX(h:Heap)(as:List Addr)(T:Addr):(uV h as T).lookup T=none:=by
 cases e:(uV h as T).lookup T with
 | none=>rfl
 | some o=>exact absurd rfl (PY e).1
def gT(s:SharedT)(a:Addr):Option Obj:=match Nat.ble (a+1) s.n with
 | true=>alive ((s.tree.get a).getD default)
 | false=>none
theorem Uz(s:SharedT)(a:Addr):s.abs.heap.get? a=gT s a:=by
 show (absHeap s.tree s.n s.life).get? a=gT s a;unfold gT;cases h:Nat.ble (a+1) s.n with
 | true=>
  have h1:a<s.n:=Nat.le_of_ble_eq_true h;unfold Heap.get?;rw[absHeap_at,if_pos h1];generalize (s.tree.get a).getD default=o;show (match some o with | some ⟨_,_,.freed,_⟩=>none | o=>o)=alive o;obtain⟨c,d,dt,sl⟩:=o;cases dt <;> rfl
 | false=>exact abs_get_none λz=>by rw[Nat.ble_eq_true_of_le (show a+1<=s.n from z)]at h;cases h
def za(s:SharedT)(as:List Addr)(T:Addr):Frag:=as.filterMap λa=>match A0 a T with
 | true=>none
 | false=>(gT s a).map λo=>(a,o)
theorem aeW(s:SharedT)(as:List Addr)(T:Addr):uV s.abs.heap as T=za s as T:=by
 unfold uV za
 congr 1
 funext a
 rw[Uz];cases A0 a T <;> rfl
def wH:Option Obj->Bool
 | some ⟨.none,none,.fields vs,sl⟩=>vs.size == 0&&sl.size == 0
 | _=>false
theorem aeS{o:Option Obj}(h:wH o=true):o=some (tabObj #[]):=by
 unfold wH at h
 split at h
 ·rename_i vs sl
  rw[jc]at h;have e1:vs=#[]:=Yq (beq_iff_eq.mp h.1);have e2:sl=#[]:=Yq (beq_iff_eq.mp h.2);subst e1;subst e2;rfl
 ·cases h
def sV(as:List Addr)(T:Addr)(obs:Frag->Bool×List (Option qE))(val:Bool×List (Option qE)):Hook:=
 ⟨Bool×(Bool×List (Option qE)),λs=>(wH (s.heap.get? T),obs (uV s.heap as T)),λ_=>(true,val),λ_ h=>∃K:Frag,K.In h/\K.lookup T=none/\h.get? T=some (tabObj #[])/\obs K=val,λ_ s e=>⟨_,aeY s.heap as T,aeX _ _ _,aeS (vY e).1,(vY e).2⟩,λ_ _ _ ⟨K,a,n,t,b⟩ k=>⟨K,a.keeps k,n,k _ _ t,b⟩⟩
theorem aiE{as:List Addr}{T:Addr}{obs:Frag->Bool×List (Option qE)}{val:Bool×List (Option qE)}{o:Option SharedT}(h1:o.map (λs=>wH (gT s T))=some true)(h2:o.map (λs=>obs (za s as T))=some val):o.map (λs=>(sV as T obs val).obs s.abs)=some (true,val):=by
 have e:(λs:SharedT=>(sV as T obs val).obs s.abs)=λs=>(wH (gT s T),obs (za s as T)):=by
  funext s
  show (wH (s.abs.heap.get? T),obs (uV s.abs.heap as T))=_;rw[Uz,aeW]
 rw[e];exact both h1 h2
def vR:Value->Addr
 | .ref q=>q
 | _=>0
def vB:Value->Bool
 | .ref _=>true
 | _=>false
theorem ajQ{v:Value}(h:vB v=true):v=.ref (vR v):=by cases v <;> first | rfl | cases h
def zl(K:Frag)(f:Addr):Addr:=match K.lookup f with
 | some ⟨_,_,.func d,_⟩=>vR d.code
 | _=>0
def Ez(K:Frag)(f:Addr):Bool:=match K.lookup f with
 | some ⟨_,_,.func d,_⟩=>vB d.code
 | _=>false
theorem aiY{K:Frag}{f:Addr}{n q q':Str}{A:Arguments}{B:List Stmt}{S:Scope}(h:bh K f=some (n,q,A,.stmts B,S,gc,[],.none,qV))(hc:codeOk K f q'=true)(hr:Ez K f=true) :
  ∃(oc:Value) (od:Option Addr) (kV dc pm:Value) (an:Option Addr) (ct:Value) (sl:Array (Option Value)),K.lookup f=some ⟨oc,od,.func (fnOf n q A B S .none kV dc pm an (.ref (zl K f)) ct),sl⟩/\codeIn K (.ref (zl K f)) q'=true:=by
 obtain⟨oc,od,kV,dc,pm,an,cd,ct,sl,e,c⟩:=uW h hc
 have e2:cd=.ref (zl K f):=by
  unfold Ez at hr;unfold zl;rw[e]at hr ⊢;exact ajQ hr
 rw[e2]at e c;exact⟨oc,od,kV,dc,pm,an,ct,sl,e,c⟩
def qZ:List Value->List Str->Bool
 | [],[]=>true
 | .str y _::us,x::xs=>decide (y=x)&&qZ us xs
 | _,_=>false
def tupS(K:Frag)(a:Addr)(xs:List Str):Bool:=match K.lookup a with
 | some ⟨.type "tuple",_,.seq au _,_⟩=>qZ au.toList xs
 | _=>false
end HT
namespace TL
open PySem PySem.Spec PyProof.Rows PySem.SeqAt L2 L3
def gN(K:W.Frag)(x:Str):Addr:=HT.rf (W.nsIn K gc x)
def gM(K:W.Frag)(c:Addr)(x:Str):Addr:=HT.rf (W.findIn K (.ref c) x)
abbrev rN(K:W.Frag)(x:Str):Prop:=HT.E1 (W.nsIn K gc x)=true
abbrev zN(K:W.Frag)(x:Str):Prop:=W.nsIn K gc x=some none
abbrev no(K:W.Frag)(c:Addr)(x:Str):Prop:=W.findIn K (.ref c) x=some none
abbrev fN(K:W.Frag)(x:Str):Prop:=rN K x/\HT.codeOk K (gN K x) x=true/\W.keepIn K (.ref (gN K x))=true
abbrev fM(K:W.Frag)(c:Addr)(m q:Str):Prop:=HT.E1 (W.findIn K (.ref c) m)=true/\HT.codeOk K (gM K c m) q=true/\W.keepIn K (.ref (gM K c m))=true/\W.isFn K (.ref (gM K c m))=true
abbrev cK(K:W.Frag)(x:Str):Prop:=rN K x/\W.plainGet K (gN K x) Str.empty=true/\W.hasDictIn K (gN K x)=true/\W.plainOver K (gN K x)=true/\W.findIn K (.ref (gN K x)) "__setattr__" = some (some (.builtin "object.__setattr__"))
abbrev mK(K:W.Frag)(c:Addr):Prop:=W.makesIn K c=true/\W.keepIn K (.ref c)=true
abbrev xF(K:W.Frag)(x e:Addr):Prop:=W.excIn K x EA "ValueError.__new__" = true/\W.keepIn K (.ref x)=true/\W.kitCls K (.ref x) (.ref x)=some true/\W.kitCls K (.ref x) (.type "BaseException")=some true/\W.kitOne K (.ref x) (.ref e)=some true/\W.kitOne K (.ref x) (.type "ValueError")=some true
def fp(n q:Str)(st:Stmt):Option HT.qE:=some (n,q,lA st,.stmts (gr st),aO st,gc,[],.none,qV)
abbrev Ll(K:W.Frag):Addr:=gN K "TrayError"
abbrev ak3(K:W.Frag):Addr:=gN K "NoStep"
abbrev ak4(K:W.Frag):Addr:=gN K "NoMove"
abbrev ak5(K:W.Frag):Addr:=gN K "NoKind"
abbrev sR(K:W.Frag):Addr:=gN K "Step"
abbrev hY(K:W.Frag):Addr:=gN K "Put"
abbrev hZ(K:W.Frag):Addr:=gN K "Add"
abbrev hX(K:W.Frag):Addr:=gN K "Set"
abbrev g9(K:W.Frag):Addr:=gN K "Look"
abbrev gY(K:W.Frag):Addr:=gN K "Swap"
abbrev gZ(K:W.Frag):Addr:=gN K "Skip"
abbrev lY(K:W.Frag):Addr:=gN K "Clear"
abbrev dh(K:W.Frag):Addr:=gN K "Tray"
abbrev ba(K:W.Frag):Addr:=gN K "Machine"
abbrev RG(K:W.Frag):Addr:=gN K "KINDS"
abbrev Ve(K:W.Frag):Addr:=gN K "is_whole"
abbrev Vh(K:W.Frag):Addr:=gN K "bounds_of"
abbrev Vf(K:W.Frag):Addr:=gN K "is_step"
abbrev Vg(K:W.Frag):Addr:=gN K "step_of"
abbrev zo(K:W.Frag):Addr:=gM K (sR K) "__init__"
abbrev Kn(K:W.Frag):Addr:=gM K (hY K) "__init__"
abbrev Kp(K:W.Frag):Addr:=gM K (hZ K) "__init__"
abbrev Km(K:W.Frag):Addr:=gM K (hX K) "__init__"
abbrev JD(K:W.Frag):Addr:=gM K (g9 K) "__init__"
abbrev JB(K:W.Frag):Addr:=gM K (gY K) "__init__"
abbrev JC(K:W.Frag):Addr:=gM K (gZ K) "__init__"
abbrev pF(K:W.Frag):Addr:=gM K (sR K) "empties"
abbrev SK(K:W.Frag):Addr:=gM K (gY K) "empties"
abbrev SM(K:W.Frag):Addr:=gM K (lY K) "empties"
abbrev ali(K:W.Frag):Addr:=gN K "has_clerks"
abbrev alj(K:W.Frag):Addr:=gN K "fits"
abbrev alg(K:W.Frag):Addr:=gN K "look_over"
abbrev UG(K:W.Frag):Addr:=gM K (dh K) "__init__"
abbrev ala(K:W.Frag):Addr:=gM K (dh K) "add"
abbrev ak8(K:W.Frag):Addr:=gM K (dh K) "latest"
abbrev Lm(K:W.Frag):Addr:=gM K (dh K) "fronts"
abbrev ak6(K:W.Frag):Addr:=gM K (dh K) "take"
abbrev ak9(K:W.Frag):Addr:=gM K (dh K) "is_empty"
abbrev ak'(K:W.Frag):Addr:=gM K (dh K) "listed"
abbrev ak7(K:W.Frag):Addr:=gN K "tray_of"
abbrev Ko(K:W.Frag):Addr:=gM K (ba K) "__init__"
abbrev alv(K:W.Frag):Addr:=gM K (ba K) "at_end"
abbrev ale(K:W.Frag):Addr:=gM K (ba K) "may_do"
abbrev als(K:W.Frag):Addr:=gM K (ba K) "carries"
abbrev alf(K:W.Frag):Addr:=gM K (ba K) "moves"
abbrev alp(K:W.Frag):Addr:=gM K (ba K) "do"
abbrev alo(K:W.Frag):Addr:=gM K (ba K) "do_step"
abbrev aln(K:W.Frag):Addr:=gM K (ba K) "do_set"
abbrev alq(K:W.Frag):Addr:=gM K (ba K) "do_look"
abbrev alm(K:W.Frag):Addr:=gM K (ba K) "do_swap"
abbrev alr(K:W.Frag):Addr:=gM K (ba K) "carry"
abbrev alu(K:W.Frag):Addr:=gM K (ba K) "come"
abbrev ald(K:W.Frag):Addr:=gM K (ba K) "on_board"
abbrev alk(K:W.Frag):Addr:=gM K (ba K) "ended"
abbrev UE(K:W.Frag):Addr:=gM K (ba K) "where"
abbrev UH(K:W.Frag):Addr:=gM K (ba K) "steps_done"
abbrev UI(K:W.Frag):Addr:=gM K (ba K) "registers"
abbrev UD(K:W.Frag):Addr:=gM K (ba K) "waiting"
abbrev UL(K:W.Frag):Addr:=gM K (ba K) "board"
abbrev UK(K:W.Frag):Addr:=gM K (ba K) "deeds"
abbrev UJ(K:W.Frag):Addr:=gM K (ba K) "over"
abbrev alc(K:W.Frag):Addr:=gN K "place_behind"
abbrev alh(K:W.Frag):Addr:=gN K "has_form_of_move"
abbrev alb(K:W.Frag):Addr:=gN K "steps_of"
abbrev ajB(K:W.Frag):Addr:=gN K "_law_cell_at"
abbrev ajv(K:W.Frag):Addr:=gN K "_law_mixed"
abbrev ajs(K:W.Frag):Addr:=gN K "_law_one"
abbrev ajr(K:W.Frag):Addr:=gN K "_law_program"
abbrev ajt(K:W.Frag):Addr:=gN K "_law_new"
abbrev ajC(K:W.Frag):Addr:=gN K "_law_arrives"
abbrev ajy(K:W.Frag):Addr:=gN K "_law_first"
abbrev ajp(K:W.Frag):Addr:=gN K "_law_seen"
abbrev ajn(K:W.Frag):Addr:=gN K "_law_set"
abbrev ajA(K:W.Frag):Addr:=gN K "_law_deed"
abbrev ajz(K:W.Frag):Addr:=gN K "_law_does"
abbrev aju(K:W.Frag):Addr:=gN K "_law_moves"
abbrev ajw(K:W.Frag):Addr:=gN K "_law_made"
abbrev ajx(K:W.Frag):Addr:=gN K "_law_like"
abbrev ajq(K:W.Frag):Addr:=gN K "_law_refused"
abbrev ajm(K:W.Frag):Addr:=gN K "_law_wrong"
abbrev ajo(K:W.Frag):Addr:=gN K "_law_spoil"
abbrev ajl(K:W.Frag):Addr:=gN K "law"
set_option synthInstance.maxSize 100000
set_option synthInstance.maxHeartbeats 0
def MJ(K:W.Frag)(_:Unit):List Bool:=[decide (rN K "TrayError"),decide (rN K "NoStep"),decide (xF K (ak3 K) (Ll K)),decide (rN K "NoMove"),decide (xF K (ak4 K) (Ll K)),decide (rN K "NoKind"),decide (xF K (ak5 K) (Ll K)),decide (cK K "Step"),decide (cK K "Put"),decide (mK K (hY K)),decide (no K (hY K) "parts"),decide (no K (hY K) "reg"),decide (no K (hY K) "number"),decide (cK K "Add"),decide (mK K (hZ K)),decide (no K (hZ K) "parts"),decide (no K (hZ K) "reg"),decide (no K (hZ K) "other"),decide (cK K "Set"),decide (mK K (hX K)),decide (no K (hX K) "parts"),decide (no K (hX K) "name"),decide (no K (hX K) "reg"),decide (cK K "Look"),decide (mK K (g9 K)),decide (no K (g9 K) "parts"),decide (no K (g9 K) "reg"),decide (no K (g9 K) "name"),decide (cK K "Swap"),decide (mK K (gY K)),decide (no K (gY K) "parts"),decide (no K (gY K) "reg"),decide (no K (gY K) "name"),decide (cK K "Skip"),decide (mK K (gZ K)),decide (no K (gZ K) "parts"),decide (no K (gZ K) "reg"),decide (no K (gZ K) "place"),decide (cK K "Clear"),decide (mK K (lY K)),decide (no K (lY K) "parts"),decide (cK K "Tray"),decide (mK K (dh K)),decide (no K (dh K) "kind"),decide (no K (dh K) "turn"),decide (no K (dh K) "queues"),decide (cK K "Machine"),decide (mK K (ba K)),decide (no K (ba K) "trays"),decide (no K (ba K) "program"),decide (no K (ba K) "kind"),decide (no K (ba K) "steps"),decide (no K (ba K) "places"),decide (no K (ba K) "counts"),decide (no K (ba K) "regs"),decide (no K (ba K) "cells"),decide (no K (ba K) "acts"),decide (no K (ba K) "comers"),decide (fN K "is_whole"),decide (fN K "bounds_of"),decide (fN K "is_step"),decide (fN K "step_of"),decide (fM K (sR K) "__init__" "Step.__init__"),decide (fM K (hY K) "__init__" "Put.__init__"),decide (fM K (hZ K) "__init__" "Add.__init__"),decide (fM K (hX K) "__init__" "Set.__init__"),decide (fM K (g9 K) "__init__" "Look.__init__"),decide (fM K (gY K) "__init__" "Swap.__init__"),decide (fM K (gZ K) "__init__" "Skip.__init__"),decide (fM K (sR K) "empties" "Step.empties"),decide (fM K (gY K) "empties" "Swap.empties"),decide (fM K (lY K) "empties" "Clear.empties"),decide (fN K "has_clerks"),decide (fN K "fits"),decide (fN K "look_over"),decide (fM K (dh K) "__init__" "Tray.__init__"),decide (fM K (dh K) "add" "Tray.add"),decide (fM K (dh K) "latest" "Tray.latest"),decide (fM K (dh K) "fronts" "Tray.fronts"),decide (HT.Ez K (Lm K)=true),decide (W.codeHdIn K (HT.zl K (Lm K)) 406=true),decide (fM K (dh K) "take" "Tray.take"),decide (fM K (dh K) "is_empty" "Tray.is_empty"),decide (fM K (dh K) "listed" "Tray.listed"),decide (fN K "tray_of"),decide (fM K (ba K) "__init__" "Machine.__init__"),decide (HT.Ey K (Ko K) "row" = true),decide (fM K (ba K) "at_end" "Machine.at_end"),decide (fM K (ba K) "may_do" "Machine.may_do"),decide (fM K (ba K) "carries" "Machine.carries"),decide (fM K (ba K) "moves" "Machine.moves"),decide (fM K (ba K) "do" "Machine.do"),decide (fM K (ba K) "do_step" "Machine.do_step"),decide (fM K (ba K) "do_set" "Machine.do_set"),decide (fM K (ba K) "do_look" "Machine.do_look"),decide (fM K (ba K) "do_swap" "Machine.do_swap"),decide (fM K (ba K) "carry" "Machine.carry"),decide (fM K (ba K) "come" "Machine.come"),decide (fM K (ba K) "on_board" "Machine.on_board"),decide (fM K (ba K) "ended" "Machine.ended"),decide (fM K (ba K) "where" "Machine.where"),decide (fM K (ba K) "steps_done" "Machine.steps_done"),decide (fM K (ba K) "registers" "Machine.registers"),decide (fM K (ba K) "waiting" "Machine.waiting"),decide (fM K (ba K) "board" "Machine.board"),decide (fM K (ba K) "deeds" "Machine.deeds"),decide (fM K (ba K) "over" "Machine.over"),decide (fN K "place_behind"),decide (fN K "has_form_of_move"),decide (fN K "steps_of"),decide (fN K "_law_cell_at"),decide (fN K "_law_mixed"),decide (fN K "_law_one"),decide (fN K "_law_program"),decide (fN K "_law_new"),decide (fN K "_law_arrives"),decide (fN K "_law_first"),decide (fN K "_law_seen"),decide (fN K "_law_set"),decide (fN K "_law_deed"),decide (fN K "_law_does"),decide (fN K "_law_moves"),decide (fN K "_law_made"),decide (fN K "_law_like"),decide (fN K "_law_refused"),decide (fN K "_law_wrong"),decide (fN K "_law_spoil"),decide (fN K "law"),decide (W.findIn K (.ref (hY K)) "empties" = some (some (.ref (pF K)))),decide (W.findIn K (.ref (hZ K)) "empties" = some (some (.ref (pF K)))),decide (W.findIn K (.ref (hX K)) "empties" = some (some (.ref (pF K)))),decide (W.findIn K (.ref (g9 K)) "empties" = some (some (.ref (pF K)))),decide (W.findIn K (.ref (gZ K)) "empties" = some (some (.ref (pF K)))),decide (W.findIn K (.ref (lY K)) "__init__" = some (some (.ref (zo K)))),decide (W.specialIn K (.ref (sR K)) "__getattribute__" = some (some (.builtin "type.__getattribute__"))),decide (W.readsIn K (sR K) (.type "type")=true),decide (HT.MQ (W.findCls K (.ref (sR K)) (.type "type") "__init__") (zo K)=true),decide (zN K "isinstance"),decide (zN K "int"),decide (zN K "bool"),decide (zN K "str"),decide (zN K "tuple"),decide (zN K "len"),decide (zN K "all"),decide (zN K "zip"),decide (zN K "enumerate"),decide (zN K "range"),decide (zN K "list"),decide (zN K "min"),decide (zN K "max"),decide (zN K "sorted"),decide (zN K "set"),decide (zN K "ValueError"),decide (HT.xo (W.nsIn K gc "TOP") fQ=true),decide (HT.xo (W.nsIn K gc "NAMES") 12=true),decide (HT.xo (W.nsIn K gc "REGISTERS") 4=true),decide (HT.xo (W.nsIn K gc "LONGEST") 120=true),decide (HT.xo (W.nsIn K gc "CLERKS") 4=true),decide (rN K "KINDS"),decide (HT.tupS K (RG K) ["row","name","none"]=true),decide (W.specialIn K (.builtin "object.__class__") "__get__" = some (some (.builtin "getset_descriptor.__get__"))),decide (W.takesIn K (.builtin "object.__class__")=some true),decide (W.findIn K (.ref (hY K)) "__class__" = some (some (.builtin "object.__class__"))),decide (W.mroIn K (hY K) (.type "object")=some true),decide (W.kitOne K (.ref (hY K)) (.ref (hY K))=some true),decide (W.kitOne K (.ref (hY K)) (.ref (hZ K))=some false),decide (W.kitOne K (.ref (hY K)) (.ref (hX K))=some false),decide (W.kitOne K (.ref (hY K)) (.ref (g9 K))=some false),decide (W.kitOne K (.ref (hY K)) (.ref (gY K))=some false),decide (W.kitOne K (.ref (hY K)) (.ref (gZ K))=some false),decide (W.findIn K (.ref (hZ K)) "__class__" = some (some (.builtin "object.__class__"))),decide (W.mroIn K (hZ K) (.type "object")=some true),decide (W.kitOne K (.ref (hZ K)) (.ref (hY K))=some false),decide (W.kitOne K (.ref (hZ K)) (.ref (hZ K))=some true),decide (W.kitOne K (.ref (hZ K)) (.ref (hX K))=some false),decide (W.kitOne K (.ref (hZ K)) (.ref (g9 K))=some false),decide (W.kitOne K (.ref (hZ K)) (.ref (gY K))=some false),decide (W.kitOne K (.ref (hZ K)) (.ref (gZ K))=some false),decide (W.findIn K (.ref (hX K)) "__class__" = some (some (.builtin "object.__class__"))),decide (W.mroIn K (hX K) (.type "object")=some true),decide (W.kitOne K (.ref (hX K)) (.ref (hY K))=some false),decide (W.kitOne K (.ref (hX K)) (.ref (hZ K))=some false),decide (W.kitOne K (.ref (hX K)) (.ref (hX K))=some true),decide (W.kitOne K (.ref (hX K)) (.ref (g9 K))=some false),decide (W.kitOne K (.ref (hX K)) (.ref (gY K))=some false),decide (W.kitOne K (.ref (hX K)) (.ref (gZ K))=some false),decide (W.findIn K (.ref (g9 K)) "__class__" = some (some (.builtin "object.__class__"))),decide (W.mroIn K (g9 K) (.type "object")=some true),decide (W.kitOne K (.ref (g9 K)) (.ref (hY K))=some false),decide (W.kitOne K (.ref (g9 K)) (.ref (hZ K))=some false),decide (W.kitOne K (.ref (g9 K)) (.ref (hX K))=some false),decide (W.kitOne K (.ref (g9 K)) (.ref (g9 K))=some true),decide (W.kitOne K (.ref (g9 K)) (.ref (gY K))=some false),decide (W.kitOne K (.ref (g9 K)) (.ref (gZ K))=some false),decide (W.findIn K (.ref (gY K)) "__class__" = some (some (.builtin "object.__class__"))),decide (W.mroIn K (gY K) (.type "object")=some true),decide (W.kitOne K (.ref (gY K)) (.ref (hY K))=some false),decide (W.kitOne K (.ref (gY K)) (.ref (hZ K))=some false),decide (W.kitOne K (.ref (gY K)) (.ref (hX K))=some false),decide (W.kitOne K (.ref (gY K)) (.ref (g9 K))=some false),decide (W.kitOne K (.ref (gY K)) (.ref (gY K))=some true),decide (W.kitOne K (.ref (gY K)) (.ref (gZ K))=some false),decide (W.findIn K (.ref (lY K)) "__class__" = some (some (.builtin "object.__class__"))),decide (W.mroIn K (lY K) (.type "object")=some true),decide (W.kitOne K (.ref (lY K)) (.ref (hY K))=some false),decide (W.kitOne K (.ref (lY K)) (.ref (hZ K))=some false),decide (W.kitOne K (.ref (lY K)) (.ref (hX K))=some false),decide (W.kitOne K (.ref (lY K)) (.ref (g9 K))=some false),decide (W.kitOne K (.ref (lY K)) (.ref (gY K))=some false),decide (W.kitOne K (.ref (lY K)) (.ref (gZ K))=some false),decide (W.findIn K (.ref (gZ K)) "__class__" = some (some (.builtin "object.__class__"))),decide (W.mroIn K (gZ K) (.type "object")=some true),decide (W.kitOne K (.ref (gZ K)) (.ref (hY K))=some false),decide (W.kitOne K (.ref (gZ K)) (.ref (hZ K))=some false),decide (W.kitOne K (.ref (gZ K)) (.ref (hX K))=some false),decide (W.kitOne K (.ref (gZ K)) (.ref (g9 K))=some false),decide (W.kitOne K (.ref (gZ K)) (.ref (gY K))=some false),decide (W.kitOne K (.ref (gZ K)) (.ref (gZ K))=some true)]
def seen(K:W.Frag):Bool:=(MJ K ()).all id
def tQ:List Nat:=[3,2,0,1,6,31,44,56,75,87,99,153,174,193,219,245,285,304,330,436,642,24,30,37,43,49,55,61,74,80,86,92,98,104,152,160,173,179,192,198,218,224,244,250,284,290,303,309,329,381,435,467,641,19,21,70,72,113,115,120,122,127,129,134,136,141,143,148,150,169,171,188,190,207,209,214,216,233,235,240,242,259,261,266,268,273,275,280,282,299,301,318,320,325,327,337,339,344,346,349,351,356,358,361,363,368,370,375,377,388,390,395,397,402,404,407,409,414,416,419,421,424,426,431,433,445,447,450,452,455,457,462,464,475,477,482,484,489,491,494,496,499,501,506,508,513,515,520,522,527,529,534,536,541,543,548,550,555,557,562,564,567,569,574,576,581,583,588,590,595,597,602,604,609,611,616,618,623,625,630,632,637,639,651,653,658,660,665,667,672,674,677,679,684,686,691,693,696,698,703,705,710,712,717,719,722,724,729,731,734,736,741,743,748,750,755,757,762,764,8,9,12,13,16,20,23,26,27,32,33,34,36,39,40,45,46,48,51,52,57,58,60,63,64,67,71,76,77,79,82,83,88,89,91,94,95,100,101,103,106,107,110,114,117,121,124,128,131,135,138,142,145,149,154,155,156,157,159,162,163,166,170,175,176,178,181,182,185,189,194,195,197,200,201,204,208,211,215,220,221,223,226,227,230,234,237,241,246,247,249,252,253,256,260,263,267,270,274,277,281,286,287,289,292,293,296,300,305,306,308,311,312,315,319,322,326,331,332,334,338,341,345,348,350,353,357,360,362,365,369,372,376,380,383,384,387,389,392,396,399,403,406,408,411,415,418,420,423,425,428,432,437,438,439,440,442,446,449,451,454,456,459,463,466,469,470,474,476,479,483,486,490,493,495,498,500,503,507,510,514,517,521,524,528,531,535,538,542,545,549,552,556,559,563,566,568,571,575,578,582,585,589,592,596,599,603,606,610,613,617,620,624,627,631,634,638,643,644,645,646,648,652,655,659,662,666,669,673,676,678,681,685,688,692,695,697,700,704,707,711,714,718,721,723,726,730,733,735,738,742,745,749,752,756,759,763,4,5,7,10,11,14,15,17,18,22,25,28,29,35,38,41,42,47,50,53,54,59,62,65,66,68,69,73,78,81,84,85,90,93,96,97,102,105,108,109,111,112,116,118,119,123,125,126,130,132,133,137,139,140,144,146,147,151,158,161,164,165,167,168,172,177,180,183,184,186,187,191,196,199,202,203,205,206,210,212,213,217,222,225,228,229,231,232,236,238,239,243,248,251,254,255,257,258,262,264,265,269,271,272,276,278,279,283,288,291,294,295,297,298,302,307,310,313,314,316,317,321,323,324,328,333,335,336,340,342,343,347,352,354,355,359,364,366,367,371,373,374,378,379,382,385,386,391,393,394,398,400,401,405,410,412,413,417,422,427,429,430,434,441,443,444,448,453,458,460,461,465,468,471,472,473,478,480,481,485,487,488,492,497,502,504,505,509,511,512,516,518,519,523,525,526,530,532,533,537,539,540,544,546,547,551,553,554,558,560,561,565,570,572,573,577,579,580,584,586,587,591,593,594,598,600,601,605,607,608,612,614,615,619,621,622,626,628,629,633,635,636,640,647,649,650,654,656,657,661,663,664,668,670,671,675,680,682,683,687,689,690,694,699,701,702,706,708,709,713,715,716,720,725,727,728,732,737,739,740,744,746,747,751,753,754,758,760,761]
def qm(K:W.Frag):List (Option HT.qE):=[HT.bh K (Ve K),HT.bh K (Vh K),HT.bh K (Vf K),HT.bh K (Vg K),HT.bh K (zo K),HT.bh K (Kn K),HT.bh K (Kp K),HT.bh K (Km K),HT.bh K (JD K),HT.bh K (JB K),HT.bh K (JC K),HT.bh K (pF K),HT.bh K (SK K),HT.bh K (SM K),HT.bh K (ali K),HT.bh K (alj K),HT.bh K (alg K),HT.bh K (UG K),HT.bh K (ala K),HT.bh K (ak8 K),HT.bh K (Lm K),HT.bh K (ak6 K),HT.bh K (ak9 K),HT.bh K (ak' K),HT.bh K (ak7 K),HT.Ex K (Ko K),HT.bh K (alv K),HT.bh K (ale K),HT.bh K (als K),HT.bh K (alf K),HT.bh K (alp K),HT.bh K (alo K),HT.bh K (aln K),HT.bh K (alq K),HT.bh K (alm K),HT.bh K (alr K),HT.bh K (alu K),HT.bh K (ald K),HT.bh K (alk K),HT.bh K (UE K),HT.bh K (UH K),HT.bh K (UI K),HT.bh K (UD K),HT.bh K (UL K),HT.bh K (UK K),HT.bh K (UJ K),HT.bh K (alc K),HT.bh K (alh K),HT.bh K (alb K),HT.bh K (ajB K),HT.bh K (ajv K),HT.bh K (ajs K),HT.bh K (ajr K),HT.bh K (ajt K),HT.bh K (ajC K),HT.bh K (ajy K),HT.bh K (ajp K),HT.bh K (ajn K),HT.bh K (ajA K),HT.bh K (ajz K),HT.bh K (aju K),HT.bh K (ajw K),HT.bh K (ajx K),HT.bh K (ajq K),HT.bh K (ajm K),HT.bh K (ajo K),HT.bh K (ajl K)]
def pE:List (Option HT.qE):=[fp "is_whole" "is_whole" A6,fp "bounds_of" "bounds_of" AU,fp "is_step" "is_step" DK,fp "step_of" "step_of" Jh,fp "__init__" "Step.__init__" Eg,fp "__init__" "Put.__init__" Ef,fp "__init__" "Add.__init__" Eh,fp "__init__" "Set.__init__" Ee,fp "__init__" "Look.__init__" DX,fp "__init__" "Swap.__init__" DV,fp "__init__" "Skip.__init__" DW,fp "empties" "Step.empties" DY,fp "empties" "Swap.empties" Dm,fp "empties" "Clear.empties" De,fp "has_clerks" "has_clerks" LJ,fp "fits" "fits" KG,fp "look_over" "look_over" HM,fp "__init__" "Tray.__init__" EX,fp "add" "Tray.add" Kx,fp "latest" "Tray.latest" Iw,fp "fronts" "Tray.fronts" Du,fp "take" "Tray.take" JL,fp "is_empty" "Tray.is_empty" Jg,fp "listed" "Tray.listed" Iv,fp "tray_of" "tray_of" Jf,fp "__init__" "Machine.__init__" A7,fp "at_end" "Machine.at_end" JV,fp "may_do" "Machine.may_do" JO,fp "carries" "Machine.carries" IB,fp "moves" "Machine.moves" Ji,fp "do" "Machine.do" LG,fp "do_step" "Machine.do_step" Jk,fp "do_set" "Machine.do_set" JR,fp "do_look" "Machine.do_look" Jl,fp "do_swap" "Machine.do_swap" Jj,fp "carry" "Machine.carry" JT,fp "come" "Machine.come" KJ,fp "on_board" "Machine.on_board" IA,fp "ended" "Machine.ended" JQ,fp "where" "Machine.where" JK,fp "steps_done" "Machine.steps_done" Ht,fp "registers" "Machine.registers" Hu,fp "waiting" "Machine.waiting" Iu,fp "board" "Machine.board" JU,fp "deeds" "Machine.deeds" JS,fp "over" "Machine.over" Kz,fp "place_behind" "place_behind" Hj,fp "has_form_of_move" "has_form_of_move" KD,fp "steps_of" "steps_of" Iy,fp "_law_cell_at" "_law_cell_at" Jm,fp "_law_mixed" "_law_mixed" JN,fp "_law_one" "_law_one" LD,fp "_law_program" "_law_program" A8,fp "_law_new" "_law_new" LF,fp "_law_arrives" "_law_arrives" IC,fp "_law_first" "_law_first" JP,fp "_law_seen" "_law_seen" Ky,fp "_law_set" "_law_set" LC,fp "_law_deed" "_law_deed" KI,fp "_law_does" "_law_does" KH,fp "_law_moves" "_law_moves" AS,fp "_law_made" "_law_made" KA,fp "_law_like" "_law_like" KC,fp "_law_refused" "_law_refused" Iz,fp "_law_wrong" "_law_wrong" A4,fp "_law_spoil" "_law_spoil" JM,fp "law" "law" pH]
def qv:Program:=W.view PySem.Challenge.rw_traylate_k26_moves_made.prog [0,2,3,4,5,6,7,9,10,11,12,13,14,15,16,17,18,19,20,21,22,23,24,26,27,28,29,31,32,33,35,36,37,38,40,41,42,43,44,45,46,47,48,49,50,51,52,53,54,55,56,57]
def aiG:Pos:=match pH with
 | .FunctionDef _ _ _ _ _ _ _ _ _ p=>p
 | _=>default
def dl:DefRec:=⟨"law",lA pH,gr pH,aO pH,aiG⟩
end TL
section
open PySem PySem.W PyProof.Rows
theorem TL.r1(w:World)(os:OsState):(HT.nD PySem.Challenge.rw_traylate_k26_moves_made.row.prog w 12168 os).map (λs=>(HT.held PySem.Challenge.rw_traylate_k26_moves_made.row.prog w.params s.abs,(tabsOk TL.qv s.abs,pinSeenD TL.qv (drecsOf TL.qv) s.abs)))=some (true,(true,pinGoodD (drecsOf TL.qv))):=by kernel_rfl
theorem TL.r2a(w:World)(os:OsState):(HT.nD PySem.Challenge.rw_traylate_k26_moves_made.row.prog w 12168 os).map (λs=>s.abs.heap.keysOk (looseW TL.qv []) ((recsOf TL.qv).map (·.name)) ((litsOf TL.qv).map (·.1)) ((clssOf TL.qv (looseW TL.qv [])).map (·.name))&&s.abs.heap.accountedOkI (CO PySem.Challenge.rw_traylate_k26_moves_made.row.prog.main.body)&&s.abs.heap.isNs gc&&s.abs.heap.isNs qV&&tablesOk TL.qv s.abs.heap&&(λs=>W.xlAt TL.qv [] s&&W.recOk PySem.Challenge.rw_traylate_k26_moves_made.row.records s) s.abs&&(s.abs.gens.size == 0))=some true:=by kernel_rfl
theorem TL.r2b(w:World)(os:OsState):(HT.nD PySem.Challenge.rw_traylate_k26_moves_made.row.prog w 12168 os).map (λs=>(PyProof.Rows.seen ((recsOf TL.qv).map (·.name)) (ownsOf TL.qv) [] { heap:=s.abs.heap,drawn:=s.abs.drawn,toks:=s.abs.toks,os:=s.abs.os },s.abs.heap.bltView))=some (expectedOf TL.qv,bltViewBooted):=by kernel_rfl
theorem TL.r2c(w:World)(os:OsState):(HT.nD PySem.Challenge.rw_traylate_k26_moves_made.row.prog w 12168 os).map (λs=>plainSeenE TL.qv (looseW TL.qv []) s.abs)=some (plainGoodE TL.qv (looseW TL.qv [])):=by kernel_rfl
theorem TL.r2d(w:World)(os:OsState):(HT.nD PySem.Challenge.rw_traylate_k26_moves_made.row.prog w 12168 os).map (λs=>(plainSeenD TL.qv [] s.abs,(wideSeen TL.qv s.abs,clsSeenW TL.qv [] s.abs)))=some (plainGoodD TL.qv [],(wideGood TL.qv,clsGoodW TL.qv [])):=by kernel_rfl
theorem TL.r2(w:World)(os:OsState):(HT.nD PySem.Challenge.rw_traylate_k26_moves_made.row.prog w 12168 os).map (λs=>W.openSeen TL.qv [] (CO PySem.Challenge.rw_traylate_k26_moves_made.row.prog.main.body) (λs=>W.xlAt TL.qv [] s&&W.recOk PySem.Challenge.rw_traylate_k26_moves_made.row.records s) true s.abs)=some (W.openGood TL.qv []):=HT.af9 (TL.r2a w os) (TL.r2b w os) (HT.both (HT.Ew (HT.Bv (TL.r1 w os))) (HT.both (HT.Bv (HT.Bv (TL.r1 w os))) (HT.both (TL.r2c w os) (TL.r2d w os))))
theorem TL.r3S(w:World)(os:OsState):(HT.nD PySem.Challenge.rw_traylate_k26_moves_made.row.prog w 12168 os).map (λs=>TL.seen (HT.za s TL.tQ 406))=some true:=by kernel_rfl
theorem TL.VY(w:World)(os:OsState):(HT.nD PySem.Challenge.rw_traylate_k26_moves_made.row.prog w 12168 os).map (λs=>(HT.wH (HT.gT s 406),TL.qm (HT.za s TL.tQ 406)))=some (true,TL.pE):=by kernel_rfl
theorem TL.r3(w:World)(os:OsState):(HT.nD PySem.Challenge.rw_traylate_k26_moves_made.row.prog w 12168 os).map (λs=>(HT.sV TL.tQ 406 (λK=>(TL.seen K,TL.qm K)) (true,TL.pE)).obs s.abs)=some (true,(true,TL.pE)):=HT.aiE (HT.Ew (TL.VY w os)) (HT.both (TL.r3S w os) (HT.Bv (TL.VY w os)))
end
namespace L2
universe u0 u1 u2 u3 u4 u5 u6 u7 u8 u9
section
variable{A:Sort u0}{B:Sort u1}{C:Sort u2}{D:Sort u3}{E:Sort u4}{F:Sort u5}{I:Sort u6}{J:Sort u7}{L:Sort u8}{M:Sort u9}{G:Prop}
theorem oA{p q:Prop}(H:p/\q)(K:p->q->G):G:=by
 obtain⟨k,m⟩:=H;exact K k m
theorem oE{p:A->Prop}(H:∃a,p a)(K:∀a,p a->G):G:=by
 obtain⟨a,k⟩:=H;exact K a k
theorem cV{p q r:Prop}(k:p)(m:q)(n:r):p/\q/\r:=⟨k,m,n⟩
theorem ak{p q:A->Prop}(a:A)(k:p a)(m:q a):∃a,p a/\q a:=⟨a,k,m⟩
theorem qD{p:A->B->Prop}(a:A)(b:B)(k:p a b):∃a b,p a b:=⟨a,b,k⟩
theorem iP{p q r:Prop}(H:p/\q/\r)(K:p->q->r->G):G:=by
 obtain⟨k,m,n⟩:=H;exact K k m n
theorem ag{p q:A->Prop}(H:∃a,p a/\q a)(K:∀a,p a->q a->G):G:=by
 obtain⟨a,k,m⟩:=H;exact K a k m
theorem vk{p:A->B->Prop}(H:∃a b,p a b)(K:∀a b,p a b->G):G:=by
 obtain⟨a,b,k⟩:=H;exact K a b k
theorem ke{p q r s:Prop}(k:p)(m:q)(n:r)(o:s):p/\q/\r/\s:=⟨k,m,n,o⟩
theorem cO{p q r:A->Prop}(a:A)(k:p a)(m:q a)(n:r a):∃a,p a/\q a/\r a:=⟨a,k,m,n⟩
theorem eT{p q:A->B->Prop}(a:A)(b:B)(k:p a b)(m:q a b):∃a b,p a b/\q a b:=⟨a,b,k,m⟩
theorem zk{p:A->B->C->Prop}(a:A)(b:B)(c:C)(k:p a b c):∃a b c,p a b c:=⟨a,b,c,k⟩
theorem tE{p q r s:Prop}(H:p/\q/\r/\s)(K:p->q->r->s->G):G:=by
 obtain⟨k,m,n,o⟩:=H;exact K k m n o
theorem aJ{p q r:A->Prop}(H:∃a,p a/\q a/\r a)(K:∀a,p a->q a->r a->G):G:=by
 obtain⟨a,k,m,n⟩:=H;exact K a k m n
theorem bf{p q:A->B->Prop}(H:∃a b,p a b/\q a b)(K:∀a b,p a b->q a b->G):G:=by
 obtain⟨a,b,k,m⟩:=H;exact K a b k m
theorem rq{p q r s t:Prop}(k:p)(m:q)(n:r)(o:s)(h:t):p/\q/\r/\s/\t:=⟨k,m,n,o,h⟩
theorem pD{p q r s:A->Prop}(a:A)(k:p a)(m:q a)(n:r a)(o:s a):∃a,p a/\q a/\r a/\s a:=⟨a,k,m,n,o⟩
theorem eL{p q r:A->B->Prop}(a:A)(b:B)(k:p a b)(m:q a b)(n:r a b):∃a b,p a b/\q a b/\r a b:=⟨a,b,k,m,n⟩
theorem K1{p q:A->B->C->Prop}(a:A)(b:B)(c:C)(k:p a b c)(m:q a b c):∃a b c,p a b c/\q a b c:=⟨a,b,c,k,m⟩
theorem dA{p:A->B->C->D->Prop}(a:A)(b:B)(c:C)(d:D)(k:p a b c d):∃a b c d,p a b c d:=⟨a,b,c,d,k⟩
theorem wG{p q r s t:Prop}(H:p/\q/\r/\s/\t)(K:p->q->r->s->t->G):G:=by
 obtain⟨k,m,n,o,h⟩:=H;exact K k m n o h
theorem dJ{p q r s:A->Prop}(H:∃a,p a/\q a/\r a/\s a)(K:∀a,p a->q a->r a->s a->G):G:=by
 obtain⟨a,k,m,n,o⟩:=H;exact K a k m n o
theorem cF{p q r:A->B->Prop}(H:∃a b,p a b/\q a b/\r a b)(K:∀a b,p a b->q a b->r a b->G):G:=by
 obtain⟨a,b,k,m,n⟩:=H;exact K a b k m n
theorem gJ{p q:A->B->C->Prop}(H:∃a b c,p a b c/\q a b c)(K:∀a b c,p a b c->q a b c->G):G:=by
 obtain⟨a,b,c,k,m⟩:=H;exact K a b c k m
theorem hG{p q r s t:A->Prop}(a:A)(k:p a)(m:q a)(n:r a)(o:s a)(h:t a):∃a,p a/\q a/\r a/\s a/\t a:=⟨a,k,m,n,o,h⟩
theorem qk{p q r s:A->B->Prop}(a:A)(b:B)(k:p a b)(m:q a b)(n:r a b)(o:s a b):∃a b,p a b/\q a b/\r a b/\s a b:=⟨a,b,k,m,n,o⟩
theorem wD{p q r:A->B->C->Prop}(a:A)(b:B)(c:C)(k:p a b c)(m:q a b c)(n:r a b c):∃a b c,p a b c/\q a b c/\r a b c:=⟨a,b,c,k,m,n⟩
theorem yY{p:A->B->C->D->E->Prop}(a:A)(b:B)(c:C)(d:D)(e:E)(k:p a b c d e):∃a b c d e,p a b c d e:=⟨a,b,c,d,e,k⟩
theorem nh{p q r s t u:Prop}(H:p/\q/\r/\s/\t/\u)(K:p->q->r->s->t->u->G):G:=by
 obtain⟨k,m,n,o,h,h1⟩:=H;exact K k m n o h h1
theorem wC{p q r s t:A->Prop}(H:∃a,p a/\q a/\r a/\s a/\t a)(K:∀a,p a->q a->r a->s a->t a->G):G:=by
 obtain⟨a,k,m,n,o,h⟩:=H;exact K a k m n o h
theorem jW{p q r s:A->B->Prop}(H:∃a b,p a b/\q a b/\r a b/\s a b)(K:∀a b,p a b->q a b->r a b->s a b->G):G:=by
 obtain⟨a,b,k,m,n,o⟩:=H;exact K a b k m n o
theorem ng{p q r:A->B->C->Prop}(H:∃a b c,p a b c/\q a b c/\r a b c)(K:∀a b c,p a b c->q a b c->r a b c->G):G:=by
 obtain⟨a,b,c,k,m,n⟩:=H;exact K a b c k m n
theorem q9{p q:A->B->C->D->Prop}(H:∃a b c d,p a b c d/\q a b c d)(K:∀a b c d,p a b c d->q a b c d->G):G:=by
 obtain⟨a,b,c,d,k,m⟩:=H;exact K a b c d k m
theorem kG{p q r s t u:A->Prop}(a:A)(k:p a)(m:q a)(n:r a)(o:s a)(h:t a)(h1:u a):∃a,p a/\q a/\r a/\s a/\t a/\u a:=⟨a,k,m,n,o,h,h1⟩
theorem DO{p q r s t:A->B->Prop}(a:A)(b:B)(k:p a b)(m:q a b)(n:r a b)(o:s a b)(h:t a b):∃a b,p a b/\q a b/\r a b/\s a b/\t a b:=⟨a,b,k,m,n,o,h⟩
theorem yL{p q r s:A->B->C->Prop}(a:A)(b:B)(c:C)(k:p a b c)(m:q a b c)(n:r a b c)(o:s a b c):∃a b c,p a b c/\q a b c/\r a b c/\s a b c:=⟨a,b,c,k,m,n,o⟩
theorem Jt{p:A->B->C->D->E->F->Prop}(a:A)(b:B)(c:C)(d:D)(e:E)(f:F)(k:p a b c d e f):∃a b c d e f,p a b c d e f:=⟨a,b,c,d,e,f,k⟩
theorem yJ{p q r s:A->B->C->Prop}(H:∃a b c,p a b c/\q a b c/\r a b c/\s a b c)(K:∀a b c,p a b c->q a b c->r a b c->s a b c->G):G:=by
 obtain⟨a,b,c,k,m,n,o⟩:=H;exact K a b c k m n o
theorem sQ{p q:A->B->C->D->E->Prop}(H:∃a b c d e,p a b c d e/\q a b c d e)(K:∀a b c d e,p a b c d e->q a b c d e->G):G:=by
 obtain⟨a,b,c,d,e,k,m⟩:=H;exact K a b c d e k m
theorem yD{p q r s t u v:A->Prop}(a:A)(k:p a)(m:q a)(n:r a)(o:s a)(h:t a)(h1:u a)(h2:v a):∃a,p a/\q a/\r a/\s a/\t a/\u a/\v a:=⟨a,k,m,n,o,h,h1,h2⟩
theorem II{p q r s t u:A->B->Prop}(a:A)(b:B)(k:p a b)(m:q a b)(n:r a b)(o:s a b)(h:t a b)(h1:u a b):∃a b,p a b/\q a b/\r a b/\s a b/\t a b/\u a b:=⟨a,b,k,m,n,o,h,h1⟩
theorem kE{p q r s t:A->B->C->Prop}(a:A)(b:B)(c:C)(k:p a b c)(m:q a b c)(n:r a b c)(o:s a b c)(h:t a b c):∃a b c,p a b c/\q a b c/\r a b c/\s a b c/\t a b c:=⟨a,b,c,k,m,n,o,h⟩
theorem jh{p q r s t u:A->B->Prop}(H:∃a b,p a b/\q a b/\r a b/\s a b/\t a b/\u a b)(K:∀a b,p a b->q a b->r a b->s a b->t a b->u a b->G):G:=by
 obtain⟨a,b,k,m,n,o,h,h1⟩:=H;exact K a b k m n o h h1
theorem AL{p q r s t:A->B->C->Prop}(H:∃a b c,p a b c/\q a b c/\r a b c/\s a b c/\t a b c)(K:∀a b c,p a b c->q a b c->r a b c->s a b c->t a b c->G):G:=by
 obtain⟨a,b,c,k,m,n,o,h⟩:=H;exact K a b c k m n o h
theorem uB{p q r s:A->B->C->D->Prop}(H:∃a b c d,p a b c d/\q a b c d/\r a b c d/\s a b c d)(K:∀a b c d,p a b c d->q a b c d->r a b c d->s a b c d->G):G:=by
 obtain⟨a,b,c,d,k,m,n,o⟩:=H;exact K a b c d k m n o
theorem lX{p q:A->B->C->D->E->F->Prop}(H:∃a b c d e f,p a b c d e f/\q a b c d e f)(K:∀a b c d e f,p a b c d e f->q a b c d e f->G):G:=by
 obtain⟨a,b,c,d,e,f,k,m⟩:=H;exact K a b c d e f k m
theorem HU{p q r s t u v w:A->Prop}(a:A)(k:p a)(m:q a)(n:r a)(o:s a)(h:t a)(h1:u a)(h2:v a)(h3:w a):∃a,p a/\q a/\r a/\s a/\t a/\u a/\v a/\w a:=⟨a,k,m,n,o,h,h1,h2,h3⟩
theorem kz{p q r s t:A->B->C->D->Prop}(a:A)(b:B)(c:C)(d:D)(k:p a b c d)(m:q a b c d)(n:r a b c d)(o:s a b c d)(h:t a b c d):∃a b c d,p a b c d/\q a b c d/\r a b c d/\s a b c d/\t a b c d:=⟨a,b,c,d,k,m,n,o,h⟩
theorem yy{p q r s:A->B->C->D->E->Prop}(a:A)(b:B)(c:C)(d:D)(e:E)(k:p a b c d e)(m:q a b c d e)(n:r a b c d e)(o:s a b c d e):∃a b c d e,p a b c d e/\q a b c d e/\r a b c d e/\s a b c d e:=⟨a,b,c,d,e,k,m,n,o⟩
theorem v5{p q r s:A->B->C->D->E->Prop}(H:∃a b c d e,p a b c d e/\q a b c d e/\r a b c d e/\s a b c d e)(K:∀a b c d e,p a b c d e->q a b c d e->r a b c d e->s a b c d e->G):G:=by
 obtain⟨a,b,c,d,e,k,m,n,o⟩:=H;exact K a b c d e k m n o
theorem AF{p q:A->B->C->D->E->F->I->Prop}(H:∃a b c d e f g,p a b c d e f g/\q a b c d e f g)(K:∀a b c d e f g,p a b c d e f g->q a b c d e f g->G):G:=by
 obtain⟨a,b,c,d,e,f,g,k,m⟩:=H;exact K a b c d e f g k m
theorem je{p q r s t u:A->B->C->D->Prop}(a:A)(b:B)(c:C)(d:D)(k:p a b c d)(m:q a b c d)(n:r a b c d)(o:s a b c d)(h:t a b c d)(h1:u a b c d):∃a b c d,p a b c d/\q a b c d/\r a b c d/\s a b c d/\t a b c d/\u a b c d:=⟨a,b,c,d,k,m,n,o,h,h1⟩
theorem Hy{p q r s t:A->B->C->D->E->Prop}(a:A)(b:B)(c:C)(d:D)(e:E)(k:p a b c d e)(m:q a b c d e)(n:r a b c d e)(o:s a b c d e)(h:t a b c d e):∃a b c d e,p a b c d e/\q a b c d e/\r a b c d e/\s a b c d e/\t a b c d e:=⟨a,b,c,d,e,k,m,n,o,h⟩
theorem Ax{p q:A->B->C->D->E->F->I->J->Prop}(H:∃a b c d e f g i,p a b c d e f g i/\q a b c d e f g i)(K:∀a b c d e f g i,p a b c d e f g i->q a b c d e f g i->G):G:=by
 obtain⟨a,b,c,d,e,f,g,i,k,m⟩:=H;exact K a b c d e f g i k m
theorem qd{p q r s t u:A->B->C->D->E->Prop}(a:A)(b:B)(c:C)(d:D)(e:E)(k:p a b c d e)(m:q a b c d e)(n:r a b c d e)(o:s a b c d e)(h:t a b c d e)(h1:u a b c d e):∃a b c d e,p a b c d e/\q a b c d e/\r a b c d e/\s a b c d e/\t a b c d e/\u a b c d e:=⟨a,b,c,d,e,k,m,n,o,h,h1⟩
theorem C8{p:A->B->C->D->E->F->I->J->L->M->Prop}(a:A)(b:B)(c:C)(d:D)(e:E)(f:F)(g:I)(i:J)(j:L)(l:M)(k:p a b c d e f g i j l):∃a b c d e f g i j l,p a b c d e f g i j l:=⟨a,b,c,d,e,f,g,i,j,l,k⟩
theorem uo{p q r s t u:A->B->C->D->E->Prop}(H:∃a b c d e,p a b c d e/\q a b c d e/\r a b c d e/\s a b c d e/\t a b c d e/\u a b c d e)(K:∀a b c d e,p a b c d e->q a b c d e->r a b c d e->s a b c d e->t a b c d e->u a b c d e->G):G:=by
 obtain⟨a,b,c,d,e,k,m,n,o,h,h1⟩:=H;exact K a b c d e k m n o h h1
theorem Au{p q r s t:A->B->C->D->E->F->Prop}(H:∃a b c d e f,p a b c d e f/\q a b c d e f/\r a b c d e f/\s a b c d e f/\t a b c d e f)(K:∀a b c d e f,p a b c d e f->q a b c d e f->r a b c d e f->s a b c d e f->t a b c d e f->G):G:=by
 obtain⟨a,b,c,d,e,f,k,m,n,o,h⟩:=H;exact K a b c d e f k m n o h
theorem As{p q r s:A->B->C->D->E->F->I->Prop}(H:∃a b c d e f g,p a b c d e f g/\q a b c d e f g/\r a b c d e f g/\s a b c d e f g)(K:∀a b c d e f g,p a b c d e f g->q a b c d e f g->r a b c d e f g->s a b c d e f g->G):G:=by
 obtain⟨a,b,c,d,e,f,g,k,m,n,o⟩:=H;exact K a b c d e f g k m n o
theorem vX{p q r:A->B->C->D->E->F->I->J->Prop}(H:∃a b c d e f g i,p a b c d e f g i/\q a b c d e f g i/\r a b c d e f g i)(K:∀a b c d e f g i,p a b c d e f g i->q a b c d e f g i->r a b c d e f g i->G):G:=by
 obtain⟨a,b,c,d,e,f,g,i,k,m,n⟩:=H;exact K a b c d e f g i k m n
theorem Ar{p q:A->B->C->D->E->F->I->J->L->Prop}(H:∃a b c d e f g i j,p a b c d e f g i j/\q a b c d e f g i j)(K:∀a b c d e f g i j,p a b c d e f g i j->q a b c d e f g i j->G):G:=by
 obtain⟨a,b,c,d,e,f,g,i,j,k,m⟩:=H;exact K a b c d e f g i j k m
theorem lu{p:A->B->C->D->E->F->I->J->L->M->Prop}(H:∃a b c d e f g i j l,p a b c d e f g i j l)(K:∀a b c d e f g i j l,p a b c d e f g i j l->G):G:=by
 obtain⟨a,b,c,d,e,f,g,i,j,l,k⟩:=H;exact K a b c d e f g i j l k
theorem vU{p q r s t u:A->B->C->D->E->F->Prop}(H:∃a b c d e f,p a b c d e f/\q a b c d e f/\r a b c d e f/\s a b c d e f/\t a b c d e f/\u a b c d e f)(K:∀a b c d e f,p a b c d e f->q a b c d e f->r a b c d e f->s a b c d e f->t a b c d e f->u a b c d e f->G):G:=by
 obtain⟨a,b,c,d,e,f,k,m,n,o,h,h1⟩:=H;exact K a b c d e f k m n o h h1
theorem vQ{p q r s t u v w x:A->B->C->D->E->F->Prop}(a:A)(b:B)(c:C)(d:D)(e:E)(f:F)(k:p a b c d e f)(m:q a b c d e f)(n:r a b c d e f)(o:s a b c d e f)(h:t a b c d e f)(h1:u a b c d e f)(h2:v a b c d e f)(h3:w a b c d e f)(h4:x a b c d e f):∃a b c d e f,p a b c d e f/\q a b c d e f/\r a b c d e f/\s a b c d e f/\t a b c d e f/\u a b c d e f/\v a b c d e f/\w a b c d e f/\x a b c d e f:=⟨a,b,c,d,e,f,k,m,n,o,h,h1,h2,h3,h4⟩
theorem GZ{p q r s t u v w:A->B->C->D->E->F->I->Prop}(a:A)(b:B)(c:C)(d:D)(e:E)(f:F)(g:I)(k:p a b c d e f g)(m:q a b c d e f g)(n:r a b c d e f g)(o:s a b c d e f g)(h:t a b c d e f g)(h1:u a b c d e f g)(h2:v a b c d e f g)(h3:w a b c d e f g):∃a b c d e f g,p a b c d e f g/\q a b c d e f g/\r a b c d e f g/\s a b c d e f g/\t a b c d e f g/\u a b c d e f g/\v a b c d e f g/\w a b c d e f g:=⟨a,b,c,d,e,f,g,k,m,n,o,h,h1,h2,h3⟩
theorem qP{p q r s t u v:A->B->C->D->E->F->I->J->Prop}(a:A)(b:B)(c:C)(d:D)(e:E)(f:F)(g:I)(i:J)(k:p a b c d e f g i)(m:q a b c d e f g i)(n:r a b c d e f g i)(o:s a b c d e f g i)(h:t a b c d e f g i)(h1:u a b c d e f g i)(h2:v a b c d e f g i):∃a b c d e f g i,p a b c d e f g i/\q a b c d e f g i/\r a b c d e f g i/\s a b c d e f g i/\t a b c d e f g i/\u a b c d e f g i/\v a b c d e f g i:=⟨a,b,c,d,e,f,g,i,k,m,n,o,h,h1,h2⟩
end
theorem w0{p:Prop}(h:p:=by with_reducible assumption):p:=h
theorem w1{a:Nat}  : a<=a:=aH a
theorem w2{a:Nat}  : 0<=a:=bU a
theorem w3{a b:Nat}(h:a<b:=by with_reducible assumption):a<=b:=cQ h
theorem w4{a b c:Nat}(h:a<=b:=by with_reducible assumption)(g:b<=c:=by decide):a<=c:=cH h g
theorem w5{a b c:Nat}(h:a<b:=by with_reducible assumption)(g:b<=c:=by decide):a<=c:=cH (cQ h) g
theorem w6{a b c:Nat}(h:a=b:=by with_reducible assumption)(g:b<=c:=by decide):a<=c:=cH (nY h) g
theorem w7{a b c:Nat}(h:a=b:=by with_reducible assumption)(g:b<=c:=by with_reducible assumption):a<=c:=cH (nY h) g
theorem w8{a b c d:Nat}(h:a=b:=by with_reducible assumption)(g:b<=c:=by with_reducible assumption)(k:c<=d:=by decide):a<=d:=cH (nY h) (cH g k)
theorem w9{a b c d:Nat}(h:b=a:=by with_reducible assumption)(g:b<=c:=by with_reducible assumption)(k:c<=d:=by decide):a<=d:=cH (nY h.symm) (cH g k)
theorem wa{a b c:Nat}(h:a<b:=by with_reducible assumption)(g:b<=c:=by decide):a<c:=fu h g
theorem wb{a b c:Nat}(h:a<=b:=by with_reducible assumption)(g:b<c:=by decide):a<c:=sC h g
theorem wc{a b c:Nat}(h:a=b:=by with_reducible assumption)(g:b<c:=by decide):a<c:=sC (nY h) g
theorem wd{a b c d:Nat}(h:a=b:=by with_reducible assumption)(g:b<=c:=by with_reducible assumption)(k:c<d:=by decide):a<d:=sC (nY h) (sC g k)
theorem wf{a b c:Nat}(h:a<b:=by with_reducible assumption)(g:b=c:=by with_reducible assumption):a<c:=OA h g
theorem wg{a b c:Nat}(h:a<b:=by with_reducible assumption)(g:c=b:=by with_reducible assumption):a<c:=OA h g.symm
theorem wh{a b c:Nat}(h:a<b:=by with_reducible assumption)(g:b<=c:=by with_reducible assumption):a<c:=fu h g
theorem wi{a b c:Nat}(h:a<=b:=by with_reducible assumption)(g:b<c:=by with_reducible assumption):a<c:=sC h g
theorem wj{a b c:Nat}(h:a<=b:=by with_reducible assumption)(g:b<=c:=by with_reducible assumption):a<=c:=cH h g
theorem wk{a b c m:Nat}(h:a=b+m*c:=by with_reducible assumption)(g:a<b:=by decide):False:=by omega
theorem wl{a b c m:Nat}(h:b+m*c=a:=by with_reducible assumption)(g:a<b:=by decide):False:=by omega
theorem wo{a b c:Nat}(h:a=b:=by with_reducible assumption)(g:b=c:=by with_reducible assumption):a=c:=h.trans g
theorem wp{a b c:Nat}(h:a=b:=by with_reducible assumption)(g:c=b:=by with_reducible assumption):a=c:=h.trans g.symm
theorem wr{a b c:Nat}(h:a=b:=by with_reducible assumption)(g:c<b:=by with_reducible assumption):c<a:=OA g h.symm
theorem ws{a b c:Nat}(h:a=b:=by with_reducible assumption)(g:b<=c:=by with_reducible assumption):a<=c:=cH (nY h) g
theorem wu{a b c d e:Nat}(h:a=b:=by with_reducible assumption)(g:b=c:=by with_reducible assumption)(k:c<=d:=by with_reducible assumption)(m:d<=e:=by decide):a<=e:=cH (nY (h.trans g)) (cH k m)
theorem wv{a b c d e:Nat}(h:a=b:=by with_reducible assumption)(g:c=b:=by with_reducible assumption)(k:c<=d:=by with_reducible assumption)(m:d<=e:=by decide):a<=e:=cH (nY (h.trans g.symm)) (cH k m)
theorem wx{a b c d:Nat}(h:a<=b:=by with_reducible assumption)(g:b<=c:=by with_reducible assumption)(k:c<=d:=by decide):a<=d:=cH h (cH g k)
theorem wy{a b c d:Nat}(h:a<=b:=by with_reducible assumption)(g:b<=c:=by with_reducible assumption)(k:c<d:=by decide):a<d:=sC h (sC g k)
theorem xa{a b c d e:Nat}(h:a<b:=by with_reducible assumption)(g:b=c:=by with_reducible assumption)(k:c<=d:=by with_reducible assumption)(m:d<=e:=by decide):a<e:=fu h (cH (nY g) (cH k m))
theorem xc{a b c d e:Nat}(h:a<b:=by with_reducible assumption)(g:b=c:=by with_reducible assumption)(k:c<=d:=by with_reducible assumption)(m:d<=e:=by decide):a<=e:=cH (cQ h) (cH (nY g) (cH k m))
theorem xd{a:Nat}  : a<=a+1:=lx a
theorem xe{a b:Nat}(h:a<b:=by with_reducible assumption):a<=b+1:=yc (cQ h)
theorem xf{a b:Nat}(h:a<b:=by with_reducible assumption):a+1<=b:=h
theorem xh{a b c e:Nat}(h:a<=b+1:=by with_reducible assumption)(g:b<=c:=by with_reducible assumption)(k:c+1<=e:=by decide):a<=e:=cH h (cH (CL g) k)
theorem xi{a b c e:Nat}(h:a<=b+1:=by with_reducible assumption)(g:b<=c:=by with_reducible assumption)(k:c+1<e:=by decide):a<e:=sC h (sC (CL g) k)
theorem xk{a n:Nat}(h:a<=n:=by with_reducible assumption):min a n=a:=Nat.min_eq_left h
theorem xl{a n:Nat}  : min a n<=a:=Nat.min_le_left a n
theorem xm{a:Int}(h:0<=a:=by with_reducible assumption):a=(a.toNat:Int):=(Int.toNat_of_nonneg h).symm
end L2
namespace L2
open PySem PySem.Spec PyProof.Rows
abbrev Key:=Sum Int Str
def Ux:Key->Value->Bool
 | .inl k,v=>Value.isInt k v
 | .inr x,v=>Value.isStrOf x v
def amg(w:World):Key->Int
 | .inl k=>hashInt k
 | .inr x=>hashStr w x
theorem sJ:∀{k:Key} {v:Value},Ux k v=true->(∃i t,k=wA i/\v=iW i t)\/(∃x t,k=wz x/\v=Ds x t)
 | .inl i,v,h=>by
  refine oE (Value.isInt_shape (k:=i) (v:=v) h) λt e=>?_;exact .inl ⟨i,t,rfl,e⟩
 | .inr x,v,h=>by
  refine oE (Value.isStrOf_shape (x:=x) (v:=v) h) λt e=>?_;exact .inr ⟨x,t,rfl,e⟩
theorem aiN(a b:Int):decide ((wA a:Key)=wA b)=(a == b):=by
 by_cases e:a=b
 ·subst e;simp
 ·have h:¬(wA a:Key)=wA b:=λq=>e (wA.inj q);rw[decide_eq_false h];exact(beq_eq_false_iff_ne.mpr e).symm
theorem aiK(a b:Str):decide ((wz a:Key)=wz b)=decide (a=b):=by
 by_cases e:a=b
 ·subst e;simp
 ·have h:¬(wz a:Key)=wz b:=λq=>e (wz.inj q);rw[decide_eq_false h,decide_eq_false e]
theorem aiM(a:Int)(b:Str):decide ((wA a:Key)=wz b)=false:=decide_eq_false (λq=>nomatch q)
theorem aiL(a:Str)(b:Int):decide ((wz a:Key)=wA b)=false:=decide_eq_false (λq=>nomatch q)
def So(prog:Program)(w:World):PySem.KeyKind prog w Key where
 is:=Ux
 hash:=amg w
 inj:=λv a b ha hb=>by
  rcases sJ ha with ⟨i,t,rfl,rfl⟩ | ⟨x,t,rfl,rfl⟩
  ·rcases sJ hb with ⟨j,u,rfl,e⟩ | ⟨y,u,rfl,e⟩
   ·injection e with e1 _;rw[e1]
   ·exact nomatch e
  ·rcases sJ hb with ⟨j,u,rfl,e⟩ | ⟨y,u,rfl,e⟩
   ·exact nomatch e
   ·injection e with e1 _;rw[e1]
 byValue:=λk v h=>by
  rcases sJ h with ⟨i,t,rfl,rfl⟩ | ⟨x,t,rfl,rfl⟩ <;> rfl
 pyHash:=λhv h=>by
  rcases sJ hv with ⟨i,t,rfl,rfl⟩ | ⟨x,t,rfl,rfl⟩
  ·exact wpAny_pyHash_int h
  ·exact wpAny_pyHash_str h
 eqBool:=λhu hv h=>by
  rcases sJ hu with ⟨i,t,rfl,rfl⟩ | ⟨x,t,rfl,rfl⟩
  ·rcases sJ hv with ⟨j,u,rfl,rfl⟩ | ⟨y,u,rfl,rfl⟩
   ·rw[aiN]at h;exact wpAny_eqBool_int h
   ·rw[aiM]at h;exact Ze i t y u _ _ _ _ h
  ·rcases sJ hv with ⟨j,u,rfl,rfl⟩ | ⟨y,u,rfl,rfl⟩
   ·rw[aiL]at h;exact Zd x t j u _ _ _ _ h
   ·rw[aiK]at h;exact wpAny_eqBool_str h
 «strs»:=λk x t v h=>by
  rcases sJ h with ⟨i,u,rfl,e⟩ | ⟨y,u,rfl,e⟩
  ·exact nomatch e
  ·injection e with e1 _
   subst e1;cases v <;> rfl
inductive V where
 | aD | bl (b:Bool) | int (i:Int) | str (x:Str) | pP (b:Array UInt8) | tJ (b:UInt64) | ref (a:Addr) | ty (n:String)
 deriving DecidableEq
def RelV:V->Value->Prop
 | .aD,u=>u=gq
 | .bl b,u=>u=uu b
 | .int i,u=>∃t,u=iW i t
 | .str x,u=>∃t,u=Ds x t
 | .pP b,u=>∃t,u=Value.bytes b t
 | .tJ b,u=>∃t,u=Pr b t
 | .ref a,u=>u=ee a
 | .ty n,u=>u=jz n
abbrev Vals:List V->List Value->Prop:=Paired RelV
theorem Vals.length{xs:List V}{us:List Value}(r:Vals xs us):xs.length=us.length:=Paired.length r
theorem Vals.get:∀{xs:List V} {us:List Value} {i:Nat} {x:V},Vals xs us->xs[i]?=some x->∃u,us[i]?=some u/\RelV x u
 | _,_,_,_,.nil,e=>by simp at e
 | _,_,0,_,.cons r _,e=>by simp at e;subst e;exact⟨_,rfl,r⟩
 | _,_,i+1,x,.cons _ t,e=>by
  refine ag (Vals.get (i:=i) (x:=x) t (by simpa using e)) λu h1 h2=>?_;exact⟨u,by simpa using h1,h2⟩
theorem Vals.set{x:V}{u:Value}(r:RelV x u):∀{xs:List V} {us:List Value} (i:Nat),Vals xs us->Vals (xs.set i x) (us.set i u)
 | _,_,_,.nil=>.nil
 | _,_,0,.cons _ t=>.cons r t
 | _,_,i+1,.cons q t=>.cons q (Vals.set r i t)
theorem Vals.append:∀{xs ys:List V} {us ws:List Value},Vals xs us->Vals ys ws->Vals (xs++ys) (us++ws)
 | _,_,_,_,.nil,s=>s
 | _,_,_,_,.cons r t,s=>.cons r (Vals.append t s)
theorem Vals.take:∀{xs:List V} {us:List Value} (n:Nat),Vals xs us->Vals (xs.take n) (us.take n)
 | _,_,0,_=>.nil
 | _,_,_+1,.nil=>.nil
 | _,_,n+1,.cons r t=>.cons r (Vals.take n t)
theorem Vals.drop:∀{xs:List V} {us:List Value} (n:Nat),Vals xs us->Vals (xs.drop n) (us.drop n)
 | _,_,0,r=>r
 | _,_,_+1,.nil=>.nil
 | _,_,n+1,.cons _ t=>Vals.drop n t
theorem Vals.none_of:∀{xs:List V} {us:List Value} {i:Nat},Vals xs us->xs[i]?=none->us[i]?=none:=λ{xs us i} r e=>by
 have h1:=r.length;have h2:xs.length<=i:=Oi.mp e;exact Oi.mpr om
def rH:Option V->Option Value->Prop
 | some v,some u=>RelV v u
 | none,none=>True
 | _,_=>False
def KV{κ:Type}:List (κ×V)->List (κ×Value)->Prop:=Paired λ(p:κ×V) (q:κ×Value)=>p.1=q.1/\RelV p.2 q.2
def kV:Key->V
 | .inl i=>.int i
 | .inr x=>.str x
inductive HO where
  | lst (xs:List V)
  | tup (xs:List V)
  | dK (ic:List (Key×V)) | dT (ic:List (List Key×V))
  | set (S:Int->Bool) (n:Nat)
  | ins (C dx:Addr) (fs:List (Str×V))
  | own (x:Addr)
  | xd (fs:List (Str×V))
  | met (f x:Addr)
  | MK (lo hi:Int)
  | nF (o:Obj) (u:HO)
  | fk (ps:Array Value)
  | ext (φ:Heap->Prop)
abbrev Hp:=Addr->Option HO
def upd(H:Hp)(a:Addr)(o:HO):Hp:=λb=>if b=a then some o else H b
theorem aw{H:Hp}{a:Addr}{o:HO}:upd H a o a=some o:=by unfold upd;rw[if_pos rfl]
theorem ar{H:Hp}{a b:Addr}{o:HO}(h:b≠a):upd H a o b=H b:=by unfold upd;rw[if_neg h]
theorem oh{H:Hp}{a:Addr}{o u:HO}:upd (upd H a o) a u=upd H a u:=by
 funext b;unfold upd;split <;> rfl
theorem iK{H:Hp}{a b:Addr}{o u:HO}(h:H a=some o)(h':H b=some u)(d:o≠u):a≠b:=by
 intro e;subst e;rw[h]at h';exact d (gn h')
theorem b8{H:Hp}{a b:Addr}{o:HO}(h:H a=some o)(h':H b=none):a≠b:=by
 intro e;subst e;rw[h]at h';cases h'
section
variable(P:Program)(w:World)
def h7(H:Hp)(h:Heap)(a:Addr):HO->Prop
 | .lst xs=>xs.length<=aZ/\∃(au:List Value) (n:Nat),Vals xs au/\h.get? a=some { cls:=.type "list",data:=.seq au.toArray n }
 | .tup xs=>xs.length<=aZ/\∃au:List Value,Vals xs au/\IsTup h a au.toArray
 | .dK ic=>ic.length<=aZ/\(a == sysModules)=false/\∃vs,KV ic vs/\h.DictOf (So P w) a vs
 | .dT ic=>ic.length<=aZ/\(a == sysModules)=false/\∃xs:List (List Key×Addr×Value),Paired (λ(p:List Key×V) (q:List Key×Addr×Value)=>p.1=q.1/\H q.2.1=some (.tup (p.1.map kV))/\RelV p.2 q.2.2) ic xs/\
   ∃o es ep,h.get? a=some o/\o.ExactDict/\o.data=.dict es ep/\es.toList=xs.map (entryOfKey (tupleKind (So P w)))/\(xs.map (·.1)).Nodup
 | .set S n=>h.SetOf (intKind P w) a S n
 | .ins C dx fs=>H dx=some (.own a)/\fs.length<=1000/\dx≠a/\h.get? a=some (W.instObj C dx)/\
   ∃mA,h.Ns1 dx mA/\(∀f,rH (fs.lookup f) (mA f))/\PySem.Within mA (fs.map (·.1))
 | .own _=>∃o,h.get? a=some o
 | .xd fs=>∃mA,h.Ns1 a mA/\∀f,rH (fs.lookup f) (mA f)
 | .MK lo hi=>∃t u v,h.get? a=some { cls:=.type "range",data:=.fields #[.int lo t,.int hi u,.int 1 v] }
 | .nF o u=>h.get? a=some o/\h7 H h a u
 | .fk ps=>h.get? a=some { cls:=.none,data:=.fields ps }
 | .met f x=>h.get? a=some (W.methodObj (.ref f) (.ref x))
 | .ext φ=>φ h/\(∃o,h.get? a=some o)/\∀h1 h2:Heap,φ h1->(∀o,h1.get? a=some o->h2.get? a=some o)->φ h2
def gz(H:Hp)(h:Heap):Prop:=∀a o,H a=some o->h7 P w H h a o
end
section
variable{P:Program}{w:World}{H H':Hp}{h h':Heap}{a:Addr}{o:HO}
theorem h7.lt(x:h7 P w H h a o):a<h.objs.size:=by
 cases o with
 | lst xs=>obtain⟨_,_,_,_,e⟩:=x;exact cg e
 | tup xs=>obtain⟨_,_,_,p⟩:=x;exact p.lt
 | dK ic=>obtain⟨_,_,_,_,o,_,_,e,_⟩:=x;exact cg e
 | dT ic=>obtain⟨_,_,_,_,o,_,_,e,_⟩:=x;exact cg e
 | set S n=>obtain⟨o,_,_,_,e,_⟩:=x;exact cg e
 | ins C dx fs=>obtain⟨_,_,_,e,_⟩:=x;exact cg e
 | own y=>obtain⟨_,e⟩:=x;exact cg e
 | xd fs=>obtain⟨_,⟨_,_,_,e,_⟩,_⟩:=x;exact cg e
 | MK lo hi=>obtain⟨_,_,_,e⟩:=x;exact cg e
 | nF ob u=>obtain⟨e,_⟩:=x;exact cg e
 | fk ps=>exact cg (show h.get? a=some _ from x)
 | met f y=>exact cg (show h.get? a=some _ from x)
 | ext φ=>obtain⟨_,⟨_,e⟩,_⟩:=x;exact cg e
theorem Paired.b9{α β:Type}{F G:α->β->Prop}:∀{l₁:List α} {l₂:List β},Paired F l₁ l₂->(∀a b,F a b->G a b)->Paired G l₁ l₂
 | _,_,.nil,_=>.nil
 | _,_,.cons r t,f=>.cons (f _ _ r) (Paired.b9 t f)
theorem h7.qu(x:h7 P w H h a o)(k:∀b u,(b=a\/H b=some (.own a))->h.get? b=some u->h'.get? b=some u)
  (ho:∀b,H b=some (.own a)->H' b=some (.own a)) (ht:∀b xs,H b=some (.tup xs)->H' b=some (.tup xs)):h7 P w H' h' a o:=by
 induction o with
 | lst xs=>obtain⟨z,au,n,r,e⟩:=x;exact⟨z,au,n,r,k _ _ (.inl rfl) e⟩
 | tup xs=>obtain⟨z,au,r,ob,e,c⟩:=x;exact⟨z,au,r,ob,k _ _ (.inl rfl) e,c⟩
 | dK ic=>obtain⟨z,y,vs,r,ob,es,ep,e,c⟩:=x;exact⟨z,y,vs,r,ob,es,ep,k _ _ (.inl rfl) e,c⟩
 | dT ic=>
  refine iP x λz y aa=>?_;refine ag aa λxs r aa=>?_;refine gJ aa λob es ep e c=>?_;exact⟨z,y,xs,Paired.b9 r λp q z=>⟨z.1,ht _ _ z.2.1,z.2.2⟩,ob,es,ep,k _ _ (.inl rfl) e,c⟩
 | set S n=>obtain⟨ob,es,ep,t,e,c⟩:=x;exact⟨ob,es,ep,t,k _ _ (.inl rfl) e,c⟩
 | ins C dx fs=>
  refine wG x λd z ne e aa=>?_;refine ag aa λmA aa r=>?_;refine gJ aa λod es ep e2 c=>?_;exact⟨ho _ d,z,ne,k _ _ (.inl rfl) e,mA,⟨od,es,ep,k _ _ (.inr d) e2,c⟩,r⟩
 | own y=>obtain⟨ob,e⟩:=x;exact⟨ob,k _ _ (.inl rfl) e⟩
 | xd fs=>obtain⟨mA,⟨od,es,ep,e,c⟩,r⟩:=x;exact⟨mA,⟨od,es,ep,k _ _ (.inl rfl) e,c⟩,r⟩
 | MK lo hi=>obtain⟨t,u,v,e⟩:=x;exact⟨t,u,v,k _ _ (.inl rfl) e⟩
 | nF ob u ih=>obtain⟨e,q⟩:=x;exact⟨k _ _ (.inl rfl) e,ih q⟩
 | fk ps=>
  have e:h.get? a=some { cls:=.none,data:=.fields ps }:=x;show h'.get? a=some { cls:=.none,data:=.fields ps };exact k a _ (.inl rfl) e
 | met f y=>
  have e:h.get? a=some (W.methodObj (.ref f) (.ref y)):=x;show h'.get? a=some (W.methodObj (.ref f) (.ref y));exact k a _ (.inl rfl) e
 | ext φ=>obtain⟨p,⟨o,e⟩,st⟩:=x;exact⟨st _ _ p λo q=>k _ _ (.inl rfl) q,⟨o,k _ _ (.inl rfl) e⟩,st⟩
theorem gz.lt(x:gz P w H h)(e:H a=some o):a<h.objs.size:=(x a o e).lt
theorem gz.fresh(x:gz P w H h)(e:h.objs.size<=a):H a=none:=by
 cases q:H a with
 | none=>rfl
 | some u=>exact absurd (fu (x.lt q) e) (kv _)
theorem gz.kept(x:gz P w H h)(k:∀b u,h.get? b=some u->h'.get? b=some u):gz P w H h':=λa o e=>
 (x a o e).qu (λb u _ q=>k b u q) (λ_ q=>q) λ_ _ q=>q
theorem gz.laid(x:gz P w H h)(k:∀b u,h.get? b=some u->h'.get? b=some u)(hp:h.objs.size<=a)(new:h7 P w (upd H a o) h' a o):gz P w (upd H a o) h':=λb u e=>by
 have hn:=x.fresh hp
 by_cases hb:b=a
 ·subst hb;rw[aw]at e;cases e;exact new
 ·rw[ar hb]at e;exact(x b u e).qu (λc v _ q=>k c v q) (λc q=>by rw[ar (b8 q hn)];exact q) λc xs q=>by rw[ar (b8 q hn)];exact q
end
def Rd(H:Hp)(a:Addr)(u:HO):Prop:=H a=some u\/∃o,H a=some (.nF o u)
theorem Rd.ok{P:Program}{w:World}{H:Hp}{h:Heap}{a:Addr}{u:HO}(r:Rd H a u)(x:gz P w H h):h7 P w H h a u:=by
 rcases r with r | ⟨o,r⟩
 ·exact x a u r
 ·refine oA (x a _ r) λ_ q=>?_;exact q
def Fb:Option HO->Prop
 | some (.lst _)=>True
 | some (.dK _)=>True
 | some (.dT _)=>True
 | some (.set _ _)=>True
 | some (.ins _ _ _)=>True
 | some (.ext _)=>True
 | _=>False
section
variable{P:Program}{w:World}{H:Hp}{h h':Heap}{x e:Addr}{o':HO}
theorem gz.write(ok:gz P w H h)(mu:Fb (H x))(he:e=x\/H e=some (.own x))(k:∀b u,b≠e->h.get? b=some u->h'.get? b=some u)(zO:∃u,h'.get? e=some u)
  (new:h7 P w (upd H x o') h' x o'):gz P w (upd H x o') h':=λb u q=>by
 have Vj:∀c y,H c=some (.own y)->c≠x:=λc y r z=>by subst z;rw[r]at mu;exact mu
 have amu:∀c xs,H c=some (.tup xs)->c≠x:=λc xs r z=>by subst z;rw[r]at mu;exact mu
 by_cases hb:b=x
 ·subst hb;rw[aw]at q;cases q;exact new
 ·rw[ar hb]at q
  by_cases xU:b=e
  ·have q':H b=some (.own x):=by
    rcases he with z | z
    ·exact absurd (xU.trans z) hb
    ·rw[xU];exact z
   rw[q]at q';cases q';refine oE zO λv hv=>?_;exact⟨v,by rw[xU];exact hv⟩
  ·refine(ok b u q).qu (λc v hc r=>k c v ?_ r) (λc r=>by rw[ar (Vj c b r)];exact r) λc xs r=>by rw[ar (amu c xs r)];exact r
   rcases hc with rfl | hc
   ·exact xU
   ·rintro rfl;rcases he with z | z
    ·exact Vj c b hc z
    ·rw[hc]at z;cases z;exact hb rfl
end
structure Un(fs ex:List Addr)(H H':Hp)(h h':Heap):Prop where
 keep:∀b o,h.get? b=some o->H b=none->b∉fs->b∉ex->h'.get? b=some o
 slot:∀b o,h.get? b=some o->H b=none->b∈fs->b∉ex->∃sl,h'.get? b=some { o with slots:=sl }
 free:∀b o,h.get? b=some o->H b=none->b∉ex->H' b=none
 there:∀b o,h.get? b=some o->b∉ex->∃o',h'.get? b=some o'
 qt:∀b xs,H b=some (.tup xs)->H' b=some (.tup xs)
 pL:∀b o u,H b=some (.nF o u)->H' b=some (.nF o u)
 pG:∀b ps,H b=some (.fk ps)->∃more,H' b=some (.fk (ps++more))
section
variable{fs nQ ex ex':List Addr}{H H1 H2:Hp}{h h1 h2 h':Heap}{a x e:Addr}{o:HO}
theorem Un.any(u:Un fs ex H H1 h h1){b:Addr}{ob:Obj}(q:h.get? b=some ob)(n:H b=none)(hx:b∉ex):∃sl,h1.get? b=some { ob with slots:=sl }:=by
 by_cases hb:b∈fs
 ·exact u.slot b ob q n hb hx
 ·exact⟨ob.slots,u.keep b ob q n hb hx⟩
theorem Un.kept(k:∀b u,h.get? b=some u->h'.get? b=some u):Un fs ex H H h h':=
 ⟨λb ob q _ _ _=>k b ob q,λb ob q _ _ _=>⟨ob.slots,k b ob q⟩,λ_ _ _ n _=>n,λb ob q _=>⟨ob,k b ob q⟩,λ_ _ q=>q,λ_ _ _ q=>q,λ_ ps q=>⟨#[],by rw[q];simp⟩⟩
theorem Un.refl:Un fs ex H H h h:=Un.kept λ_ _ q=>q
theorem Un.laid(k:∀b u,h.get? b=some u->h'.get? b=some u)(hp:h.objs.size<=a)(hn:H a=none):Un fs ex H (upd H a o) h h' where
 keep:=λb u q _ _ _=>k b u q
 slot:=λb u q _ _ _=>⟨u.slots,k b u q⟩
 free:=λb u q n _=>by rw[ar (dZ (fu (cg q) hp))];exact n
 there:=λb u q _=>⟨u,k b u q⟩
 qt:=λb xs q=>by rw[ar (b8 q hn)];exact q
 pL:=λb u xs q=>by rw[ar (b8 q hn)];exact q
 pG:=λb ps q=>⟨#[],by rw[ar (b8 q hn),q];simp⟩
theorem Un.write(mu:Fb (H x))(he:e=x\/H e=some (.own x))(k:∀b u,b≠e->h.get? b=some u->h'.get? b=some u)(zO:∃u,h'.get? e=some u):Un fs ex H (upd H x o) h h':=by
 have hx:∀b,H b=none->b≠x:=λb n z=>by subst z;rw[n]at mu;exact mu
 have hb:∀b,H b=none->b≠e:=λb n z=>by
  subst z;rcases he with r | r
  ·exact hx b n r
  ·rw[n]at r;cases r
 have hm:∀b u,H b=some u->¬Fb (some u)->b≠x:=λb u q nm z=>by subst z;rw[q]at mu;exact nm mu
 refine⟨λb u q n _ _=>k b u (hb b n) q,λb u q n _ _=>⟨u.slots,k b u (hb b n) q⟩,λb u q n _=>by rw[ar (hx b n)];exact n,λb u q _=>?_,λb xs q=>by rw[ar (hm b _ q λz=>z)];exact q,λb u xs q=>by rw[ar (hm b _ q λz=>z)];exact q,λb ps q=>⟨#[],by rw[ar (hm b _ q λz=>z),q];simp⟩⟩
 by_cases xU:b=e
 ·subst xU;exact zO
 ·exact⟨u,k b u xU q⟩
end
def EW(h:Heap)(H:Hp):List Addr:=(List.range h.objs.size).filter λa=>(H a).isSome
def rE(h:Heap)(H:Hp):Heap:=W.hideAll h (EW h H)
theorem adq(h:Heap)(H:Hp):(rE h H).objs.size=h.objs.size:=W.hideAll_size _ _
theorem aeT{h:Heap}{H:Hp}{b:Addr}{o:Obj}(e:h.get? b=some o)(n:H b=none):(rE h H).get? b=some o:=
 W.hideAll_get _ e λhm=>by
  have q:(H b).isSome=true:=(qa.mp hm).2;rw[n]at q;simp at q
theorem agO{h:Heap}{H:Hp}{b:Addr}{o:Obj}(e:(rE h H).get? b=some o):h.get? b=some o/\H b=none:=by
 have e':h.get? b=some o:=W.of_hideAll (EW h H) e;refine⟨e',?_⟩;cases q:H b with
 | none=>rfl
 | some x=>
  have hm:b∈EW h H:=qa.mpr ⟨uk.mpr (cg e'),by simp[q]⟩;have z:(rE h H).get? b=none:=W.hideAll_none (EW h H) hm;rw[z]at e;cases e
def DR(g h:Heap)(L:Addr):List (Addr×Obj):=(List.range h.objs.size).filterMap λa=>if a=L\/(g.get? a).isSome=true then none else (h.get? a).map λo=>(a,o)
theorem abF{g h:Heap}{L a:Addr}{o:Obj}(h1:a≠L)(h2:g.get? a=none)(h3:h.get? a=some o):(a,o)∈DR g h L:=
 Gs.mpr ⟨a,uk.mpr (cg h3),by simp[h1,h2,h3]⟩
theorem Z4{g h:Heap}{L:Addr}{p:Addr×Obj}(hp:p∈DR g h L):p.1≠L/\g.get? p.1=none/\h.get? p.1=some p.2:=by
 refine ag (Gs.mp hp) λb _ e=>?_
 split at e
 ·cases e
 ·rename_i hn
  cases q:h.get? b with
  | none=>rw[q]at e;simp at e
  | some u=>
   rw[q]at e;simp only[Option.map_some,yb]at e;subst e;refine⟨λz=>hn (.inl z),?_,q⟩;show g.get? b=none;cases r:g.get? b with
   | none=>rfl
   | some v=>exact(hn (.inr (by simp[r]))).elim
def rest(g h:Heap)(L d:Addr):List (Addr×Obj):=(DR g h L).filter λp=>decide (p.1≠d)
theorem Sg{g h:Heap}{L d:Addr}:∀p∈rest g h L d,p.1≠d:=λp hp=>of_decide_eq_true (qa.mp hp).2
theorem aeL{g h:Heap}{L d a:Addr}{o:Obj}(h1:a≠L)(h2:g.get? a=none)(h3:h.get? a=some o)(h4:a≠d):(a,o)∈rest g h L d:=
 qa.mpr ⟨abF h1 h2 h3,decide_eq_true h4⟩
theorem aeF{g h:Heap}{L:Addr}:News g L h (DR g h L):=λp hp=>let ⟨a,b,c⟩:=Z4 hp;⟨c,a,b⟩
theorem abb{g h h':Heap}{L d:Addr}{m:Str->Option Value}(k:∀b o,g.get? b=some o->h.get? b=some o)(F:Fr g L h' m)(N:News g L h' (rest g h L d)) :
  ∀b o,b≠L->b≠d->h.get? b=some o->h'.get? b=some o:=λb o h1 h2 e=>by
 cases q:g.get? b with
 | some u=>
  have:=k b u q;rw[e]at this;cases this;exact F.keep b _ q
 | none=>exact(N (b,o) (aeL h1 q e h2)).1
structure Mod(K:W.Frag)(mg:Str->Option Value)(base:Heap):Prop where
 vm:K.In base
 glob:base.Ns gc mg
 blt:∃mb,base.Ns qV mb/\∀x:Str,x ≠ "__name__"->mb x=sH x
 nolimit:base.NoLimit
structure Cx where
 prog:Program
 w:World
 K:W.Frag
 mg:Str->Option Value
 base:Heap
 A:Around
 N:List Str
 s₀:Shared
 H₀:Hp
 env:Env
 outer:List Env
 stack:List Env
 ex:List Addr
 fn:Str->Bool
 calm:Bool
 pn:List (Addr×Obj)
 xe:Value->Shared->Prop
def iQ(l:List Env):List Addr:=l.filterMap (·.frame)
abbrev Cx.fs(X:Cx):List Addr:=iQ X.outer
def E5(sc:Scope)(x:Str):Prop:=sc.names.lookup x=some .local\/sc.names.lookup x=some .cell\/sc.names.lookup x=some .free
def Loc(sc:Scope)(x:Str):Prop:=sc.names.lookup x=some .local\/sc.names.lookup x=some .cell
def Look(env:Env)(h:Heap)(m:Str->Option Value)(x:Str)(u:Value):Prop:=
 (env.kindOf x=some .local/\m x=some u)\/((env.kindOf x=some .cell\/env.kindOf x=some .free)/\∃c,env.cells.lookup x=some c/\h.IsCell c (some u))
structure Cx.Ok(X:Cx):Prop where
 mod:Mod X.K X.mg X.base
 kind:X.env.scope.kind=.function
 glob:X.env.globals=gc
 blt:X.env.builtins=qV
 above:X.s₀.heap.objs.size<=X.env.locals
 inj:∀x y c,X.env.cells.lookup x=some c->X.env.cells.lookup y=some c->x=y
 has:∀x,(X.env.kindOf x=some .cell\/X.env.kindOf x=some .free)->∃c,X.env.cells.lookup x=some c
 vp:∀x c,X.fn x=true->X.env.cells.lookup x=some c->X.s₀.heap.objs.size<=c
 hd:X.calm=true->X.A.handled=none
 frames:X.A.frames=some X.stack
 xj:X.stack=X.outer\/(X.stack=X.env::X.outer/\X.env.frame=some X.env.locals)
 tM:∀b∈X.ex,b≠X.env.locals/\∀x c,X.env.cells.lookup x=some c->c≠b
 bs:∀b o,X.base.get? b=some o->X.s₀.heap.get? b=some o/\X.H₀ b=none
 ml:X.base.objs.size<=X.s₀.heap.objs.size
 vd:∀b o,X.base.get? b=some o->b∉X.ex
 tF:∀b∈X.ex,b∉X.fs
 l8:X.s₀.heap.FunFrames X.base X.outer
 rV:∀b∈X.fs,X.H₀ b=none
structure Inv(X:Cx)(pins:List (Addr×Obj))(σ:List (Option V))(H:Hp)(s:Shared):Prop where
 ok:X.Ok
 os:s.os=X.s₀.os
 bare:AllBare s.gens
 base:Un X.fs X.ex X.H₀ H X.s₀.heap s.heap
 loc:∃m,s.heap.Ns X.env.locals m/\∀(i:Nat) (x:Str) (v:V),X.N[i]?=some x->σ[i]?=some (some v)->E5 X.env.scope x->∃u,RelV v u/\Look X.env s.heap m x u
 cell:∀x c,X.env.cells.lookup x=some c->∃v,s.heap.IsCell c v
 free:H X.env.locals=none
 jZ:∀x c,X.env.cells.lookup x=some c->H c=none
 pin:∀p∈X.pn++pins,s.heap.get? p.1=some p.2/\H p.1=none/\p.1≠X.env.locals/\p.1∉X.fs/\∀v,p.2.data≠.cell v
 aM:gz X.prog X.w H s.heap
 len:σ.length=X.N.length
section
variable{X:Cx}{pins:List (Addr×Obj)}{σ:List (Option V)}{H H':Hp}{s:Shared}{h':Heap}
theorem Cx.Ok.ame(ok:X.Ok){b:Addr}{o:Obj}(e:X.base.get? b=some o):b∉X.fs:=λhb=>by
 have:=(ok.l8.mem hb).1;rw[e]at this;cases this
theorem Inv.bs(I:Inv X pins σ H s):∀b o,X.base.get? b=some o->s.heap.get? b=some o/\H b=none:=λb o e=>
 ⟨I.base.keep b o (I.ok.bs b o e).1 (I.ok.bs b o e).2 (I.ok.ame e) (I.ok.vd b o e),I.base.free b o (I.ok.bs b o e).1 (I.ok.bs b o e).2 (I.ok.vd b o e)⟩
theorem Inv.bk(I:Inv X pins σ H s):∀b o,X.base.get? b=some o->s.heap.get? b=some o:=λb o e=>(I.bs b o e).1
theorem Inv.mod(I:Inv X pins σ H s):Mod X.K X.mg X.base:=I.ok.mod
theorem Inv.dX(I:Inv X pins σ H s):X.K.In s.heap:=I.ok.mod.vm.keeps I.bk
theorem Inv.nolimit(I:Inv X pins σ H s):s.heap.NoLimit:=I.ok.mod.nolimit.keeps I.bk
theorem Inv.fr(I:Inv X pins σ H s):∃m,Fr X.base X.env.locals s.heap m:=
 let ⟨m,hn,_⟩:=I.loc
 ⟨m,hn,I.bk,cH I.ok.ml I.ok.above⟩
theorem Inv.lt(I:Inv X pins σ H s):X.env.locals<s.heap.objs.size:=let ⟨_,hn,_⟩:=I.loc;hn.lt
theorem Inv.sz(I:Inv X pins σ H s):X.s₀.heap.objs.size<=s.heap.objs.size:=cH I.ok.above (cQ I.lt)
theorem Inv.U3(I:Inv X pins σ H s){a:Addr}(h:s.heap.objs.size<=a):a∉X.fs:=λhb=>by
 refine oA (I.ok.l8.mem hb) λ_ aa=>?_;refine ag aa λo ho _=>?_;exact absurd (fu (cg ho) (cH I.sz h)) (kv _)
theorem Inv.tP(I:Inv X pins σ H s):∀x c,X.env.cells.lookup x=some c->c≠X.env.locals:=λx c e z=>by
 refine bf (I.cell x c e) λv o ho hd=>?_;refine ag I.loc λm aa _=>?_;refine ng aa λo' es ep qJ jI _=>?_;rw[z,qJ]at ho;cases ho;rw[jI]at hd;cases hd
theorem Inv.l8(I:Inv X pins σ H s):s.heap.FunFrames X.base X.outer:=by
 have all:∀(l:List Env),(∀b∈iQ l,b∈X.fs)->X.s₀.heap.FunFrames X.base l->s.heap.FunFrames X.base l:=by
  intro l
  induction l with
  | nil=>intro _ _;trivial
  | cons env r ih=>
   intro hs hl;refine iP hl λhk aa hr=>?_;refine jW aa λL o hf hn ho hd=>?_;have hL:L∈X.fs:=hs L (by unfold iQ;rw[Gq,hf];exact fX);refine oE (I.base.slot L o ho (I.ok.rV L hL) hL λz=>I.ok.tF L z hL) λsl e=>?_;exact⟨hk,⟨L,_,hf,hn,e,hd⟩,ih (λb hb=>hs b (by unfold iQ;rw[Gq,hf];exact eV _ hb)) hr⟩
 exact all X.outer (λ_ hb=>hb) I.ok.l8
theorem Inv.stack(I:Inv X pins σ H s):s.heap.FunFrames X.base X.stack:=by
 rcases I.ok.xj with e | ⟨e,hf⟩
 ·rw[e];exact I.l8
 ·rw[e];refine ag I.loc λm hn _=>?_;refine .cons (by rw[I.ok.kind];decide) hf hn ?_ I.l8;exact Y3 (cH I.ok.ml I.ok.above)
theorem Inv.DU(I:Inv X pins σ H s):∀b∈iQ X.stack,b∈X.env.locals::X.fs:=λb hb=>by
 rcases I.ok.xj with e | ⟨e,hf⟩
 ·rw[e]at hb;exact eV _ hb
 ·rw[e]at hb;unfold iQ at hb;rw[Gq,hf]at hb;exact hb
theorem Inv.DH(I:Inv X pins σ H s):∀b∈iQ X.stack,H b=none:=λb hb=>by
 rcases cx.mp (I.DU b hb)with e | hb
 ·rw[e];exact I.free
 ·refine oA (I.ok.l8.mem hb) λ_ aa=>?_;refine ag aa λo ho _=>?_;exact I.base.free b o ho (I.ok.rV b hb) λz=>I.ok.tF b z hb
theorem Inv.step{g':Array GenState}{t':Nat}{d':Drawn}{ch:List Addr}(I:Inv X pins σ H s)
  (lM:∀b∈ch,(b∈X.ex\/X.s₀.heap.objs.size<=b)/\b≠X.env.locals/\(∀x c,X.env.cells.lookup x=some c->c≠b)/\∀p∈X.pn++pins,p.1≠b)
  (keep:∀b o,b≠X.env.locals->b∉X.fs->b∉ch->s.heap.get? b=some o->H b=none->h'.get? b=some o)
  (slot:∀b o,b≠X.env.locals->b∈X.fs->b∉ch->s.heap.get? b=some o->H b=none->∃sl,h'.get? b=some { o with slots:=sl }) (free:∀b o,b∉ch->s.heap.get? b=some o->H b=none->H' b=none)
  (there:∀b o,b∉ch->s.heap.get? b=some o->∃o',h'.get? b=some o')
  (qt:∀b xs,H b=some (.tup xs)->H' b=some (.tup xs)) (pL:∀b o u,H b=some (.nF o u)->H' b=some (.nF o u)) (pG:∀b ps,H b=some (.fk ps)->∃more,H' b=some (.fk (ps++more)))
  (ns:∀m,s.heap.Ns X.env.locals m->h'.Ns X.env.locals m) (aM:gz X.prog X.w H' h') (hg:AllBare g') :
  Inv X pins σ H' { s with heap:=h',gens:=g',drawn:=d',toks:=t' }:=by
 have WN:∀b o,X.s₀.heap.get? b=some o->b≠X.env.locals:=λb o e=>dZ (fu (cg e) I.ok.above)
 have Fs:∀b o,X.s₀.heap.get? b=some o->b∉X.ex->b∉ch:=λb o e hx hb=>by
  rcases(lM b hb).1 with z | z
  ·exact hx z
  ·exact absurd (fu (cg e) z) (kv _)
 have cellK:∀x c,X.env.cells.lookup x=some c->∀v,s.heap.IsCell c v->h'.IsCell c v:=λx c e v ⟨o,ho,hd⟩=>by
  have vw:c∉ch:=λz=>(lM c z).2.2.1 x c e rfl
  by_cases hc:c∈X.fs
  ·refine oE (slot c o (I.tP x c e) hc vw ho (I.jZ x c e)) λsl q=>?_;exact⟨_,q,hd⟩
  ·exact⟨o,keep c o (I.tP x c e) hc vw ho (I.jZ x c e),hd⟩
 refine⟨I.ok,I.os,hg,⟨λb o e n hb hx=>?_,λb o e n hb hx=>?_,λb o e n hx=>?_,λb o e hx=>?_,λb xs e=>qt b xs (I.base.qt b xs e),λb o xs e=>pL b o xs (I.base.pL b o xs e),λb ps e=>?_⟩,?_,λx c e=>?_,?_,λx c e=>?_,λp hp=>?_,aM,I.len⟩
 ·exact keep b o (WN b o e) hb (Fs b o e hx) (I.base.keep b o e n hb hx) (I.base.free b o e n hx)
 ·refine oE (I.base.slot b o e n hb hx) λsl e1=>?_;refine oE (slot b _ (WN b o e) hb (Fs b o e hx) e1 (I.base.free b o e n hx)) λFi e2=>?_;exact⟨Fi,e2⟩
 ·refine oE (I.base.there b o e hx) λo' e1=>?_;exact free b o' (Fs b o e hx) e1 (I.base.free b o e n hx)
 ·refine oE (I.base.there b o e hx) λo' e1=>?_;exact there b o' (Fs b o e hx) e1
 ·refine oE (I.base.pG b ps e) λm1 e1=>?_;refine oE (pG b _ e1) λm2 e2=>?_;exact⟨m1++m2,by rw[e2,Array.append_assoc]⟩
 ·refine ag I.loc λm hn hl=>?_;refine⟨m,ns m hn,λi x v e1 e2 e3=>?_⟩;refine ag (hl i x v e1 e2 e3) λu r l=>?_;refine⟨u,r,?_⟩;rcases l with l | ⟨k,c,e,z⟩
  ·exact .inl l
  ·exact .inr ⟨k,c,e,cellK x c e _ z⟩
 ·refine oE (I.cell x c e) λv z=>?_;exact⟨v,cellK x c e v z⟩
 ·refine ag I.loc λm aa _=>?_;refine gJ aa λo _ _ ho _=>?_;exact free _ o (λz=>(lM _ z).2.1 rfl) ho I.free
 ·refine bf (I.cell x c e) λv o ho hd=>?_;exact free c o (λz=>(lM c z).2.2.1 x c e rfl) ho (I.jZ x c e)
 ·refine wG (I.pin p hp) λe n ne nf d=>?_;have vw:p.1∉ch:=λz=>(lM p.1 z).2.2.2 p hp rfl;exact⟨keep p.1 p.2 ne nf vw e n,free p.1 p.2 vw e n,ne,nf,d⟩
theorem Inv.un{t':Nat}(I:Inv X pins σ H s)(u:Un X.fs [] H H' s.heap h')(aM:gz X.prog X.w H' h'):Inv X pins σ H' { s with heap:=h',toks:=t' }:=by
 refine ag (id I.loc) λm aa _=>?_;refine gJ aa λo es ep ho r=>?_;refine oE (u.any ho I.free (by simp)) λsl hL=>?_
 exact I.step (g':=s.gens) (d':=s.drawn) (ch:=[]) (λ_ z=>nomatch z) (λb o _ hb _ e n=>u.keep b o e n hb (by simp)) (λb o _ hb _ e n=>u.slot b o e n hb (by simp)) (λb o _ e n=>u.free b o e n (by simp)) (λb o _ e=>u.there b o e (by simp)) u.qt u.pL u.pG (λm' hm=>by
  refine gJ hm λo' lO zR qJ r'=>?_;rw[ho]at qJ;cases qJ;exact⟨_,lO,zR,hL,r'⟩) aM I.bare
theorem Inv.call{g':Array GenState}{t':Nat}{d':Drawn}{ch:List Addr}(I:Inv X pins σ H s)(u:Un (iQ X.stack) ch H H' s.heap h')(aM:gz X.prog X.w H' h')(hg:AllBare g')
  (lM:∀b∈ch,(b∈X.ex\/X.s₀.heap.objs.size<=b)/\b≠X.env.locals/\(∀x c,X.env.cells.lookup x=some c->c≠b)/\∀p∈X.pn++pins,p.1≠b) :
  Inv X pins σ H' { s with heap:=h',gens:=g',drawn:=d',toks:=t' }:=by
 refine ag (id I.loc) λm aa _=>?_;refine gJ aa λo es ep ho r=>?_;refine oE (u.any ho I.free λz=>(lM _ z).2.1 rfl) λsl hL=>?_
 exact I.step (ch:=ch) lM (λb o hL hb hc e n=>u.keep b o e n (λz=>(cx.mp (I.DU b z)).elim hL hb) hc) (λb o _ _ hc e n=>u.any e n hc) (λb o hc e n=>u.free b o e n hc) (λb o hc e=>u.there b o e hc) u.qt u.pL u.pG (λm' hm=>by
  refine gJ hm λo' lO zR qJ r'=>?_;rw[ho]at qJ;cases qJ;exact⟨_,lO,zR,hL,r'⟩) aM hg
theorem Inv.turned{t':Nat}{it:Addr}(I:Inv X pins σ H s)(k:∀b o,b≠it->s.heap.get? b=some o->h'.get? b=some o)(hn:H it=none)(hL:it≠X.env.locals)
  (h1:it∈X.ex\/X.s₀.heap.objs.size<=it) (h2:∀x c,X.env.cells.lookup x=some c->c≠it) (h3:∀p∈X.pn++pins,p.1≠it):Inv X pins σ H { s with heap:=h',toks:=t' }:=by
 have WM:∀b u,H b=some u->b≠it:=λb u e z=>by rw[z,hn]at e;cases e
 refine I.step (g':=s.gens) (d':=s.drawn) (ch:=[it]) (λb hb=>?_) (λb o _ _ hc e _=>k b o (λz=>hc (by simp[z])) e) (λb o _ _ hc e _=>⟨o.slots,k b o (λz=>hc (by simp[z])) e⟩) (λ_ _ _ _ n=>n)
  (λb o hc e=>⟨o,k b o (λz=>hc (by simp[z])) e⟩) (λ_ _ e=>e) (λ_ _ _ e=>e) (λb ps e=>⟨#[],by rw[e];simp⟩) (λm hm=>?_) (λb u e=>?_) I.bare
 ·have e:b=it:=by simpa using hb
  subst e;exact⟨h1,hL,h2,h3⟩
 ·refine gJ hm λo es ep ho r=>?_;exact⟨o,es,ep,k _ o (fw hL) ho,r⟩
 ·refine(I.aM b u e).qu (λc v hc q=>k c v ?_ q) (λ_ q=>q) λ_ _ q=>q;rcases hc with z | z
  ·rw[z];exact WM b u e
  ·exact WM c _ z
theorem Inv.tok(I:Inv X pins σ H s)(t:Nat):Inv X pins σ H { s with toks:=t }:=I.un (h':=s.heap) (t':=t) Un.refl I.aM
theorem Inv.kept{t':Nat}(I:Inv X pins σ H s)(k:∀b u,s.heap.get? b=some u->h'.get? b=some u):Inv X pins σ H { s with heap:=h',toks:=t' }:=I.un (Un.kept k) (I.aM.kept k)
theorem Inv.laid{a:Addr}{o:HO}{t':Nat}(I:Inv X pins σ H s)(k:∀b u,s.heap.get? b=some u->h'.get? b=some u)(hp:s.heap.objs.size<=a)(new:h7 X.prog X.w (upd H a o) h' a o) :
  Inv X pins σ (upd H a o) { s with heap:=h',toks:=t' }:=I.un (Un.laid k hp (I.aM.fresh hp)) (I.aM.laid k hp new)
theorem Inv.write{x e:Addr}{o:HO}{t':Nat}(I:Inv X pins σ H s)(mu:Fb (H x))(he:e=x\/H e=some (.own x))(k:∀b u,b≠e->s.heap.get? b=some u->h'.get? b=some u)(zO:∃u,h'.get? e=some u)
  (new:h7 X.prog X.w (upd H x o) h' x o):Inv X pins σ (upd H x o) { s with heap:=h',toks:=t' }:=I.un (Un.write mu he k zO) (I.aM.write mu he k zO new)
theorem Inv.weak{σ':List (Option V)}(I:Inv X pins σ H s)(hl:σ'.length=σ.length)(w:∀(i:Nat) v,σ'[i]?=some (some v)->σ[i]?=some (some v)):Inv X pins σ' H s:=
 ⟨I.ok,I.os,I.bare,I.base,let ⟨m,hn,vA⟩:=I.loc;⟨m,hn,λi x v e1 e2 e3=>vA i x v e1 (w i v e2) e3⟩,I.cell,I.free,I.jZ,I.pin,I.aM,hl.trans I.len⟩
theorem Inv.uG{UM:List (Addr×Obj)}(I:Inv X pins σ H s)(h:∀p∈UM,s.heap.get? p.1=some p.2/\H p.1=none/\p.1≠X.env.locals/\p.1∉X.fs/\∀v,p.2.data≠.cell v):Inv X UM σ H s:=
 ⟨I.ok,I.os,I.bare,I.base,I.loc,I.cell,I.free,I.jZ,λp hp=>(jx.mp hp).elim (λz=>I.pin p (ph _ z)) (h p),I.aM,I.len⟩
theorem IF{N:List Str}(hN:N.Nodup){i j:Nat}{x:Str}(a:N[i]?=some x)(b:N[j]?=some x):i=j:=by
 refine oE (eK.mp a) λh1 e1=>?_;refine oE (eK.mp b) λh2 e2=>?_;exact(List.getElem_inj hN).mp (e1.trans e2.symm)
theorem Qi{M:Model}{A:Around}{E:Value->Shared->Prop}{i:Nat}{x:Str}{v:V}{u:Value}{Q:Unit->Shared->Prop}(I:Inv X pins σ H s)(hN:X.N.Nodup)(hi:X.N[i]?=some x)(hx:Loc X.env.scope x)(r:RelV v u)
  (h:∀s',Inv X pins (σ.set i (some v)) H s'->(∃a,gD a s.heap s'.heap/\(a=X.env.locals\/X.env.cells.lookup x=some a))->Q () s') (hf:X.fn x=true\/X.env.scope.names.lookup x=some .local:=by first | exact .inl rfl | exact .inr rfl | assumption):wpAny M A (storeName X.env x u) Q E s:=by
 refine ag (id I.loc) λm hn hl=>?_;have Mu:(X.env.scope.kind == .class||(X.env.scope.kind == .module&&X.env.locals != X.env.globals))=false:=by rw[I.ok.kind];rfl
 have Xo:i < σ.length:=by rw[I.len];exact(eK.mp hi).1
 have tP:=I.tP
 have tracked:∀{a:Addr} {h':Heap},(∃o,s.heap.get? a=some o/\H a=none)->gD a s.heap h'->gz X.prog X.w H h':=λ{a h'} ha hs b ob e=>by
  refine ag ha λ_ _ UP=>?_;refine(I.aM b ob e).qu (λc w' hc q=>(hs.2 c ?_).trans q) (λ_ q=>q) λ_ _ q=>q;rintro rfl;rcases hc with rfl | hc
  ·rw[UP]at e;cases e
  ·rw[UP]at hc;cases hc
 rcases hx with hk | hk
 ·refine wpAny_storeName_local hk hn (λh' xQ hs=>?_) Mu;refine gJ (id hn) λoL _ _ hoL _=>?_;refine h _ ⟨I.ok,I.os,I.bare,⟨λb o e n hb hx=>?_,λb o e n hb hx=>?_,I.base.free,λb o e hx=>?_,I.base.qt,I.base.pL,I.base.pG⟩,⟨_,xQ,λj y v' e1 e2 e3=>?_⟩,λy c e=>?_,I.free,I.jZ,λp hp=>?_,tracked ⟨oL,hoL,I.free⟩ hs,by simpa using I.len⟩ ⟨_,hs,.inl rfl⟩
  ·exact(hs.2 b (dZ (fu (cg e) I.ok.above))).trans (I.base.keep b o e n hb hx)
  ·refine oE (I.base.slot b o e n hb hx) λsl e1=>?_;exact⟨sl,(hs.2 b (dZ (fu (cg e) I.ok.above))).trans e1⟩
  ·refine oE (I.base.there b o e hx) λo' e1=>?_;exact⟨o',(hs.2 b (dZ (fu (cg e) I.ok.above))).trans e1⟩
  ·by_cases hj:j=i
   ·subst hj;rw[hi]at e1;cases e1;rw[jL Xo]at e2;cases e2;exact⟨u,r,.inl ⟨hk,by simp⟩⟩
   ·rw[Aa (fw hj)]at e2;refine ag (hl j y v' e1 e2 e3) λu' r' q=>?_;refine⟨u',r',?_⟩;rcases q with ⟨k,e⟩ | ⟨k,c,e,z⟩
    ·refine .inl ⟨k,?_⟩;have:y≠x:=λe=>hj (IF hN e1 (e ▸ hi));simp[this,e]
    ·exact .inr ⟨k,c,e,z.sameBut hs (tP y c e)⟩
  ·refine oE (I.cell y c e) λw' z=>?_;exact⟨w',z.sameBut hs (tP y c e)⟩
  ·refine wG (I.pin p hp) λe n ne nf d=>?_;exact⟨(hs.2 p.1 ne).trans e,n,ne,nf,d⟩
 ·have NK:X.fn x=true:=by
   rcases hf with z | z
   ·exact z
   ·rw[z]at hk;cases hk
  refine oE (I.ok.has x (.inl hk)) λc hc=>?_;refine oE (I.cell x c hc) λw' z=>?_;refine wpAny_storeName_cell I.ok.kind hk hc z λh' pd hs=>?_;refine ag (id z) λoc xO anb=>?_;refine h { s with heap:=h' } ⟨I.ok,I.os,I.bare,⟨λb o e n hb hx=>?_,λb o e n hb hx=>?_,I.base.free,λb o e hx=>?_,I.base.qt,I.base.pL,I.base.pG⟩,⟨m,hn.sameBut hs (fw (tP x c hc)),λj y v' e1 e2 e3=>?_⟩,λy c' e=>?_,I.free,I.jZ,λp hp=>?_,tracked ⟨oc,xO,I.jZ x c hc⟩ hs,by simpa using I.len⟩ ⟨c,hs,.inr hc⟩
  ·exact(hs.2 b (dZ (fu (cg e) (I.ok.vp x c NK hc)))).trans (I.base.keep b o e n hb hx)
  ·refine oE (I.base.slot b o e n hb hx) λsl e1=>?_;exact⟨sl,(hs.2 b (dZ (fu (cg e) (I.ok.vp x c NK hc)))).trans e1⟩
  ·refine oE (I.base.there b o e hx) λo' e1=>?_;exact⟨o',(hs.2 b (dZ (fu (cg e) (I.ok.vp x c NK hc)))).trans e1⟩
  ·by_cases hj:j=i
   ·subst hj;rw[hi]at e1;cases e1;rw[jL Xo]at e2;cases e2;exact⟨u,r,.inr ⟨.inl hk,c,hc,pd⟩⟩
   ·rw[Aa (fw hj)]at e2;refine ag (hl j y v' e1 e2 e3) λu' r' q=>?_;refine⟨u',r',?_⟩;rcases q with q | ⟨k,c',e,z'⟩
    ·exact .inl q
    ·refine .inr ⟨k,c',e,z'.sameBut hs ?_⟩;rintro rfl;exact hj (IF hN e1 (I.ok.inj _ _ _ e hc ▸ hi))
  ·by_cases Xs:c'=c
   ·subst Xs;exact⟨_,pd⟩
   ·refine oE (I.cell y c' e) λw2 z2=>?_;exact⟨w2,z2.sameBut hs Xs⟩
  ·refine wG (I.pin p hp) λe n ne nf d=>?_;refine⟨(hs.2 p.1 ?_).trans e,n,ne,nf,d⟩;intro q;rw[q,xO]at e;have q':oc=p.2:=gn e;exact d w' (by rw[<-q'];exact anb)
theorem Ik{M:Model}{A:Around}{E:Value->Shared->Prop}{i:Nat}{x:Str}{v:V}{u:Value}{Q:Unit->Shared->Prop}(I:Inv X pins σ H s)(hN:X.N.Nodup)(hi:X.N[i]?=some x)(hx:Loc X.env.scope x)(r:RelV v u)
  (h:∀s',Inv X pins (σ.set i (some v)) H s'->Q () s') (hf:X.fn x=true\/X.env.scope.names.lookup x=some .local:=by first | exact .inl rfl | exact .inr rfl | assumption):wpAny M A (storeName X.env x u) Q E s:=
 Qi I hN hi hx r (λs' I' _=>h s' I') hf
theorem Inv.Ld{s':Shared}{ch:List Addr}(I:Inv X pins σ H s)(ho:s'.os=s.os)(u:Un (iQ X.stack) ch H H' s.heap s'.heap)(aM:gz X.prog X.w H' s'.heap)(hg:AllBare s'.gens)
  (lM:∀b∈ch,(b∈X.ex\/X.s₀.heap.objs.size<=b)/\b≠X.env.locals/\(∀x c,X.env.cells.lookup x=some c->c≠b)/\∀p∈X.pn++pins,p.1≠b):Inv X pins σ H' s':=by
 obtain⟨h',g',d',t',o'⟩:=s';have e:o'=s.os:=ho;subst e;exact I.call (g':=g') (t':=t') (d':=d') u aM hg lM
end
abbrev XK:=Value->Option Addr->Hp->Prop
abbrev St:=List (Option V)
abbrev VK:=V->Hp->Prop
abbrev TE:=St->Hp->VK->Prop
abbrev TT:=St->Hp->(Bool->Hp->Prop)->Prop
abbrev TA:=St->Hp->(List V->Hp->Prop)->Prop
structure Ends where
 nx:St->Hp->Prop
 rt:VK
 bk:St->Hp->Prop:=λ_ _=>False
 ct:St->Hp->Prop:=λ_ _=>False
abbrev TS:=Ends->St->Hp->Prop
def EP(X:Cx)(pins:List (Addr×Obj))(σ:St)(Q:VK)(u:Value)(s':Shared):Prop:=∃v H',Inv X pins σ H' s'/\RelV v u/\Q v H'
def TP(X:Cx)(pins:List (Addr×Obj))(σ:St)(Q:Bool->Hp->Prop)(b:Bool)(s':Shared):Prop:=∃H',Inv X pins σ H' s'/\Q b H'
def AP(X:Cx)(pins:List (Addr×Obj))(σ:St)(Q:List V->Hp->Prop)(us:List Value)(s':Shared):Prop:=∃vs H',Inv X pins σ H' s'/\Vals vs us/\Q vs H'
def SP(X:Cx)(pins:List (Addr×Obj))(D:Ends)(f:Flow)(s':Shared):Prop:=
 match f with
 | .next=>∃σ' H',Inv X pins σ' H' s'/\D.nx σ' H'
 | .brk=>∃σ' H',Inv X pins σ' H' s'/\D.bk σ' H'
 | .cont=>∃σ' H',Inv X pins σ' H' s'/\D.ct σ' H'
 | .ret u=>∃v σ' H',Inv X pins σ' H' s'/\RelV v u/\D.rt v H'
def PE(X:Cx)(e:Expr)(t:TE):Prop:=
 ∀(pins:List (Addr×Obj)) (s:Shared) (σ:St) (H:Hp) (Q:VK),Inv X pins σ H s->t σ H Q->wpAny (model X.prog X.w) X.A (eval e X.env) (EP X pins σ Q) X.xe s
def PT(X:Cx)(e:Expr)(t:TT):Prop:=
 ∀(pins:List (Addr×Obj)) (s:Shared) (σ:St) (H:Hp) (Q:Bool->Hp->Prop),Inv X pins σ H s->t σ H Q->wpAny (model X.prog X.w) X.A (isTrue e X.env (eval e X.env)) (TP X pins σ Q) X.xe s
def PW(X:Cx)(e:Expr)(t:TT):Prop:=
 ∀(whole:Sem Value) (pins:List (Addr×Obj)) (s:Shared) (σ:St) (H:Hp) (Q:Bool->Hp->Prop),Inv X pins σ H s->t σ H Q->wpAny (model X.prog X.w) X.A (isTrue e X.env whole) (TP X pins σ Q) X.xe s
theorem PW.pt{X:Cx}{e:Expr}{t:TT}(h:PW X e t):PT X e t:=h _
def PA(X:Cx)(es:List Expr)(t:TA):Prop:=
 ∀(pos:Pos) (pins:List (Addr×Obj)) (s:Shared) (σ:St) (H:Hp) (Q:List V->Hp->Prop),Inv X pins σ H s->t σ H Q->wpAny (model X.prog X.w) X.A (spliced (backTo pos (cJ es X.env))) (AP X pins σ Q) X.xe s
def PS(X:Cx)(st:Stmt)(t:TS):Prop:=
 ∀(pins:List (Addr×Obj)) (s:Shared) (σ:St) (H:Hp) (D:Ends),Inv X pins σ H s->t D σ H->wpAny (model X.prog X.w) X.A (exec st X.env) (SP X pins D) X.xe s
def eD(X:Cx)(st:List Stmt)(t:TS):Prop:=
 ∀(pins:List (Addr×Obj)) (s:Shared) (σ:St) (H:Hp) (D:Ends),Inv X pins σ H s->t D σ H->wpAny (model X.prog X.w) X.A (execs st X.env) (SP X pins D) X.xe s
theorem aU{α:Type}{t:Sem α}{Q Q':α->Shared->Prop}{M:Model}{A:Around}{E:Value->Shared->Prop}{s:Shared}(h:wpAny M A t Q E s)(hQ:∀a s,Q a s->Q' a s):wpAny M A t Q' E s:=jg h hQ λ_ _ x=>x
section
variable{X:Cx}
def nz(i:Nat):TE:=λσ H Q=>∃v,σ[i]?=some (some v)/\Q v H
abbrev tC(v:V):TE:=λ_ H Q=>Q v H
theorem JX{i:Nat}{x:Str}{pos:Pos}(hN:X.N[i]?=some x)(hv:E5 X.env.scope x)(hd:(x == ("__debug__" : Str))=false:=by decide)(iD:(x == ("__classdict__" : Str))=false:=by decide):PE X (.Name x pos) (nz i):=by
 intro pins s σ H Q I h;refine ag h λv e h=>?_;refine ag I.loc λm hn hl=>?_;refine ag (hl i x v hN e hv) λu r l=>?_;have fin:EP X pins σ Q u s:=⟨v,H,I,r,h⟩;rcases l with ⟨hk,hm⟩ | ⟨hk,c,hc,tw⟩
 ·exact wpAny_Name (wpAny_loadName_local I.ok.kind hk hn hm fin) hd
 ·rcases hk with hk | hk
  ·exact wpAny_Name (wpAny_loadName_cell I.ok.kind hk hc tw fin) hd
  ·exact wpAny_Name (wpAny_loadName_free I.ok.kind hk hc tw fin iD) hd
theorem aj{i j pos}:PE X (.Constant (.int i) j pos) (tC (.int i)):=λ_ _ _ H _ I h=>wpAny_Constant_int ⟨.int i,H,I.tok _,⟨_,rfl⟩,h⟩
theorem kQ{b j pos}:PE X (.Constant (.bool b) j pos) (tC (.bl b)):=λ_ _ _ H _ I h=>Constant_bool ⟨.bl b,H,I,rfl,h⟩
theorem m9{j pos}:PE X (.Constant .none j pos) (tC .aD):=λ_ _ _ H _ I h=>Constant_none ⟨.aD,H,I,rfl,h⟩
theorem cA{x j pos}:PE X (.Constant (.str x) j pos) (tC (.str x)):=λ_ _ _ H _ I h=>Calls.Constant_str ⟨.str x,H,I.tok _,⟨_,rfl⟩,h⟩
def Gl(X:Cx)(x:Str):Prop:=X.env.kindOf x=some .globalImplicit
theorem wt{E:Value->Shared->Prop}{pins:List (Addr×Obj)}{s:Shared}{σ:St}{H:Hp}{x:Str}{u:Value}{pos:Pos}{Q:Value->Shared->Prop}(I:Inv X pins σ H s)(hg:Gl X x)(hm:X.mg x=some u)(h:Q u s)
  (hd:(x == ("__debug__" : Str))=false:=by decide):wpAny (model X.prog X.w) X.A (eval (.Name x pos) X.env) Q E s:=
 Yw I.ok.kind hg (Calls.loadGlobal_global (by rw[I.ok.glob];exact I.mod.glob.keeps I.bk) hm h) hd
theorem uO{E:Value->Shared->Prop}{pins:List (Addr×Obj)}{s:Shared}{σ:St}{H:Hp}{x:Str}{u:Value}{pos:Pos}{Q:Value->Shared->Prop}(I:Inv X pins σ H s)(hg:Gl X x)(hm:X.mg x=none)(hv:sH x=some u)(h:Q u s)
  (hn:x ≠ "__name__":=by decide) (hd:(x == ("__debug__" : Str))=false:=by decide):wpAny (model X.prog X.w) X.A (eval (.Name x pos) X.env) Q E s:=by
 refine ag I.mod.blt λmb h1 h2=>?_;exact Yw I.ok.kind hg (Calls.loadGlobal_builtin (by rw[I.ok.glob];exact I.mod.glob.keeps I.bk) hm (by rw[I.ok.blt];exact h1.keeps I.bk) ((h2 x hn).trans hv) h) hd
theorem gF{x:Str}{v:V}{u:Value}{pos:Pos}(hg:Gl X x)(hm:X.mg x=some u)(r:RelV v u)(hd:(x == ("__debug__" : Str))=false:=by decide):PE X (.Name x pos) (tC v):=
 λ_ _ _ H _ I h=>wt I hg hm ⟨v,H,I,r,h⟩ hd
theorem pq{x:Str}{v:V}{u:Value}{pos:Pos}(hg:Gl X x)(hm:X.mg x=none)(hv:sH x=some u)(r:RelV v u)(hn:x ≠ "__name__":=by decide)(hd:(x == ("__debug__" : Str))=false:=by decide):PE X (.Name x pos) (tC v):=
 λ_ _ _ H _ I h=>uO I hg hm hv ⟨v,H,I,r,h⟩ hn hd
variable{a b:Expr}{ta tb:TE}{pos:Pos}
def tB(t:TE):TT:=λσ H Q=>t σ H λx H1=>∃c,x=.bl c/\Q c H1
theorem iJ{e:Expr}{t:TE}(h:PE X e t)(he:∀whole,isTrue e X.env whole=(do let v <-whole;standAt e.pos;holding [v] (truthy v)):=by intro _;rfl):PT X e (tB t):=by
 intro pins s σ H Q I hw;refine isTrue_plain (aU (h pins s σ H _ I hw) λv s1 ⟨x,H1,I1,r1,q1⟩=>?_) (he _);refine ag q1 λd aa q=>?_;clear q1;subst aa;cases r1;exact sD ⟨H1,I1,q⟩
variable{tA Fh:TT}{rest:List Expr}
def al2(t u:TT):TT:=λσ H Q=>t σ H λc H1=>if c=true then u σ H1 Q else Q false H1
def tOr(t u:TT):TT:=λσ H Q=>t σ H λc H1=>if c=true then Q true H1 else u σ H1 Q
def alX(t:TT):TT:=λσ H Q=>t σ H λc H1=>Q (!c) H1
theorem pw_and1(ha:PT X a tA):PW X (.BoolOp .And [a] pos) tA:=by
 intro wh pins s σ H Q I h;refine isTrue_and (aU (ha pins s σ H Q I h) λc s1 e=>?_);cases c with
 | true=>exact isTrue_and_nil e
 | false=>exact e
theorem pw_or1(ha:PT X a tA):PW X (.BoolOp .Or [a] pos) tA:=by
 intro wh pins s σ H Q I h;refine isTrue_or (aU (ha pins s σ H Q I h) λc s1 e=>?_);cases c with
 | false=>exact isTrue_or_nil e
 | true=>exact e
theorem pw_and(ha:PT X a tA)(hb:PW X (.BoolOp .And (b::rest) pos) Fh):PW X (.BoolOp .And (a::b::rest) pos) (al2 tA Fh):=by
 intro wh pins s σ H Q I h;refine isTrue_and (aU (ha pins s σ H _ I h) λc s1 ⟨H1,I1,q1⟩=>?_);cases c with
 | true=>exact hb wh pins s1 σ H1 Q I1 q1
 | false=>exact⟨H1,I1,q1⟩
theorem pw_or(ha:PT X a tA)(hb:PW X (.BoolOp .Or (b::rest) pos) Fh):PW X (.BoolOp .Or (a::b::rest) pos) (tOr tA Fh):=by
 intro wh pins s σ H Q I h;refine isTrue_or (aU (ha pins s σ H _ I h) λc s1 ⟨H1,I1,q1⟩=>?_);cases c with
 | true=>exact⟨H1,I1,q1⟩
 | false=>exact hb wh pins s1 σ H1 Q I1 q1
theorem m8(ha:PT X a tA):PT X (.UnaryOp .Not a pos) (alX tA):=by
 intro pins s σ H Q I h;exact isTrue_not (ha pins s σ H (λc H1=>Q (!c) H1) I h)
def aj5(ta tb:TE):TE:=λσ H Q=>ta σ H λx H1=>∃c,x=.bl c/\if c=true then tb σ H1 Q else Q (.bl false) H1
def alW(ta tb:TE):TE:=λσ H Q=>ta σ H λx H1=>∃c,x=.bl c/\if c=true then Q (.bl true) H1 else tb σ H1 Q
def ajZ(ta:TE):TE:=λσ H Q=>ta σ H λx H1=>∃c,x=.bl c/\Q (.bl (!c)) H1
theorem yS{op}{t:TE}(h:PE X a t):PE X (.BoolOp op [a] pos) t:=λpins s σ H Q I hw=>BoolOp_one (h pins s σ H Q I hw)
theorem Ba(ha:PE X a ta)(hb:PE X (.BoolOp .And (b::rest) pos) tb):PE X (.BoolOp .And (a::b::rest) pos) (aj5 ta tb):=by
 intro pins s σ H Q I h;refine BoolOp_and (aU (ha pins s σ H _ I h) λv s1 ⟨x,H1,I1,r1,q1⟩=>?_);obtain⟨c,rfl,q1⟩:=q1;cases r1;refine sD ?_;cases c with
 | true=>exact hb pins s1 σ H1 Q I1 q1
 | false=>exact⟨.bl false,H1,I1,rfl,q1⟩
theorem akb(ha:PE X a ta)(hb:PE X (.BoolOp .Or (b::rest) pos) tb):PE X (.BoolOp .Or (a::b::rest) pos) (alW ta tb):=by
 intro pins s σ H Q I h;refine BoolOp_or (aU (ha pins s σ H _ I h) λv s1 ⟨x,H1,I1,r1,q1⟩=>?_);obtain⟨c,rfl,q1⟩:=q1;cases r1;refine sD ?_;cases c with
 | false=>exact hb pins s1 σ H1 Q I1 q1
 | true=>exact⟨.bl true,H1,I1,rfl,q1⟩
theorem JY(ha:PE X a ta):PE X (.UnaryOp .Not a pos) (ajZ ta):=by
 intro pins s σ H Q I h;refine UnaryOp_ (aU (ha pins s σ H _ I h) λv s1 ⟨x,H1,I1,r1,q1⟩=>?_);obtain⟨c,rfl,q1⟩:=q1;cases r1;exact not_of (sD ⟨.bl (!c),H1,I1,rfl,q1⟩)
def tIf(t:TT)(ta tb:TE):TE:=λσ H Q=>t σ H λc H1=>if c=true then ta σ H1 Q else tb σ H1 Q
theorem Rh{c:Expr}(hc:PT X c tA)(ha:PE X a ta)(hb:PE X b tb):PE X (.IfExp c a b pos) (tIf tA ta tb):=by
 intro pins s σ H Q I h;refine wpAny_IfExp (aU (hc pins s σ H _ I h) λd s1 ⟨H1,I1,q1⟩=>?_);cases d with
 | true=>exact ha pins s1 σ H1 Q I1 q1
 | false=>exact hb pins s1 σ H1 Q I1 q1
end
def aq(K:PySem.W.Frag)(H:Hp)(a:Addr)(xs:List V):Prop:=
 Rd H a (.lst xs)\/
  ∃(o:Obj) (au:Array Value) (n:Nat),K.lookup a=some o/\o.cls=.type "list"/\o.dict=none/\o.data=.seq au n/\au.size<=aZ/\Vals xs au.toList
def aF(K:PySem.W.Frag)(H:Hp)(a:Addr)(xs:List V):Prop:=
 Rd H a (.tup xs)\/
  ∃(o:Obj) (au:Array Value) (n:Nat),K.lookup a=some o/\o.cls=.type "tuple"/\o.data=.seq au n/\au.size<=aZ/\Vals xs au.toList
def amr:Value->Option V
 | .none=>some .aD
 | .bool b=>some (.bl b)
 | .int i _=>some (.int i)
 | .str x _=>some (.str x)
 | .bytes b _=>some (.pP b)
 | .float b _=>some (.tJ b)
 | .ref a=>some (.ref a)
 | .type n=>some (.ty n)
 | _=>none
theorem RelV.abs{x:V}{u:Value}(r:RelV x u):amr u=some x:=by
 cases x with
 | aD=>cases r;rfl
 | bl _=>cases r;rfl
 | int _=>obtain⟨t,rfl⟩:=r;rfl
 | str _=>obtain⟨t,rfl⟩:=r;rfl
 | pP _=>obtain⟨t,rfl⟩:=r;rfl
 | tJ _=>obtain⟨t,rfl⟩:=r;rfl
 | ref _=>cases r;rfl
 | ty _=>cases r;rfl
theorem RelV.inj{x y:V}{u:Value}(r:RelV x u)(q:RelV y u):x=y:=gn (r.abs.symm.trans q.abs)
theorem Vals.inj:∀{xs ys:List V} {us:List Value},Vals xs us->Vals ys us->xs=ys
 | _,_,_,.nil,.nil=>rfl
 | _,_,_,.cons r t,.cons r' t'=>by rw[r.inj r',Vals.inj t t']
section
variable{X:Cx}{pins:List (Addr×Obj)}{σ:St}{H:Hp}{s:Shared}{a:Addr}{xs ys:List V}
theorem aq.of{K:PySem.W.Frag}(h:H a=some (.lst xs)):aq K H a xs:=.inl (.inl h)
theorem aF.of{K:PySem.W.Frag}(h:H a=some (.tup xs)):aF K H a xs:=.inl (.inl h)
theorem Inv.list(I:Inv X pins σ H s)(h:aq X.K H a xs):∃au:List Value,Vals xs au/\PlainL s.heap a au.toArray/\xs.length<=aZ:=by
 rcases h with h | ⟨o,au,n,hk,hc,hd,hs,hz,r⟩
 ·refine oA (h.ok I.aM) λz aa=>?_;refine bf aa λau n r e=>?_;exact⟨au,r,⟨_,n,e,rfl,rfl,rfl⟩,z⟩
 ·refine⟨au.toList,r,⟨o,n,I.dX a o hk,hc,hd,by simpa using hs⟩,?_⟩;have e:=r.length;simp only[lQ]at e;exact w7
theorem Inv.tuple(I:Inv X pins σ H s)(h:aF X.K H a xs):∃au:List Value,Vals xs au/\IsTup s.heap a au.toArray/\xs.length<=aZ:=by
 rcases h with h | ⟨o,au,n,hk,hc,hs,hz,r⟩
 ·refine oA (h.ok I.aM) λz aa=>?_;refine ag aa λau r p=>?_;exact⟨au,r,p,z⟩
 ·refine⟨au.toList,r,⟨o,I.dX a o hk,hc,n,by simpa using hs⟩,?_⟩;have e:=r.length;simp only[lQ]at e;exact w7
theorem Inv.Rp(I:Inv X pins σ H s)(h:aq X.K H a xs)(h':aq X.K H a ys):xs=ys:=by
 refine aJ (I.list h) λau r aa _=>?_;refine jW aa λo n e _ _ d=>?_;refine aJ (I.list h') λlI r' aa _=>?_;refine jW aa λo' n' e' _ _ d'=>?_;rw[e]at e';cases e';rw[d]at d';injection d' with d1 _
 have:au=lI:=by simpa using congrArg Array.toList d1
 subst this;exact r.inj r'
theorem Inv.Qh(I:Inv X pins σ H s)(h:aF X.K H a xs)(h':aF X.K H a ys):xs=ys:=by
 refine aJ (I.tuple h) λau r aa _=>?_;refine aJ aa λo e _ aa=>?_;refine oE aa λn d=>?_;refine aJ (I.tuple h') λlI r' aa _=>?_;refine aJ aa λo' e' _ aa=>?_;refine oE aa λn' d'=>?_;rw[e]at e';cases e';rw[d]at d';injection d' with d1 _
 have:au=lI:=by simpa using congrArg Array.toList d1
 subst this;exact r.inj r'
end
abbrev Cx.rB(X:Cx)(E:Value->Shared->Prop):Cx:={ X with xe:=E }
abbrev Cx.pO(X:Cx):Cx:=X.rB λ_ _=>False
theorem Cx.Ok.rB{X:Cx}(ok:X.Ok)(E:Value->Shared->Prop):(X.rB E).Ok:=
 ⟨ok.mod,ok.kind,ok.glob,ok.blt,ok.above,ok.inj,ok.has,ok.vp,ok.hd,ok.frames,ok.xj,ok.tM,ok.bs,ok.ml,ok.vd,ok.tF,ok.l8,ok.rV⟩
theorem Cx.Ok.uJ{X:Cx}{E:Value->Shared->Prop}(ok:(X.rB E).Ok):X.Ok:=
 ⟨ok.mod,ok.kind,ok.glob,ok.blt,ok.above,ok.inj,ok.has,ok.vp,ok.hd,ok.frames,ok.xj,ok.tM,ok.bs,ok.ml,ok.vd,ok.tF,ok.l8,ok.rV⟩
section
variable{X:Cx}{pins:List (Addr×Obj)}{σ:St}{H:Hp}{s:Shared}{E:Value->Shared->Prop}
theorem Inv.rB(I:Inv X pins σ H s)(E:Value->Shared->Prop):Inv (X.rB E) pins σ H s:=⟨I.ok.rB E,I.os,I.bare,I.base,I.loc,I.cell,I.free,I.jZ,I.pin,I.aM,I.len⟩
theorem Inv.uJ(I:Inv (X.rB E) pins σ H s):Inv X pins σ H s:=⟨I.ok.uJ,I.os,I.bare,I.base,I.loc,I.cell,I.free,I.jZ,I.pin,I.aM,I.len⟩
theorem SP.uJ{D:Ends}{f:Flow}{s':Shared}(h:SP (X.rB E) pins D f s'):SP X pins D f s':=by
 cases f with
 | next=>obtain⟨σ',H',I,q⟩:=h;exact⟨σ',H',I.uJ,q⟩
 | brk=>obtain⟨σ',H',I,q⟩:=h;exact⟨σ',H',I.uJ,q⟩
 | cont=>obtain⟨σ',H',I,q⟩:=h;exact⟨σ',H',I.uJ,q⟩
 | ret u=>obtain⟨v,σ',H',I,r,q⟩:=h;exact⟨v,σ',H',I.uJ,r,q⟩
theorem eD.pO{st:List Stmt}{t:TS}(h:eD X.pO st t):eD X st t:=λpins s σ H D I hw=>
 jg (h pins s σ H D (I.rB _) hw) (λ_ _ q=>q.uJ) λ_ _ z=>jP z
end
section
variable{X:Cx}{st:Stmt}{rest:List Stmt}{t u:TS}{e:Expr}{te:TE}{pos:Pos}
abbrev aj0:TS:=λD σ H=>D.nx σ H
abbrev alU(t u:TS):TS:=λD σ H=>t { D with nx:=u D } σ H
theorem cu:eD X [] aj0:=λ_ _ σ H _ I h=>CN ⟨σ,H,I,h⟩
theorem aA(h1:PS X st t)(h2:eD X rest u):eD X (st::rest) (alU t u):=by
 intro pins s σ H D I h;refine wpAny_execs_cons (aU (h1 pins s σ H { D with nx:=u D } I h) λf s1 q=>?_);cases f with
 | next=>
  refine bf q λσ' H' I' q=>?_;exact h2 pins s1 σ' H' D I' q
 | ret v=>exact q
 | brk=>exact q
 | cont=>exact q
theorem aB(h1:PS X st t):eD X [st] t:=by
 intro pins s σ H D I h;refine wpAny_execs_cons (aU (h1 pins s σ H D I h) λf s1 q=>?_);cases f with
 | next=>exact CN q
 | ret v=>exact q
 | brk=>exact q
 | cont=>exact q
theorem Inv.quiet{pins:List (Addr×Obj)}{σ:St}{H:Hp}{s:Shared}(I:Inv X pins σ H s):interactive X.env=false:=by simp[interactive,I.ok.kind]
abbrev aj2(te:TE):TS:=λD σ H=>te σ H λ_ H1=>D.nx σ H1
theorem cZ(he:PE X e te)(hs:Ig e none pos.line X.env=pure false:=by rfl):PS X (.Expr e pos) (aj2 te):=by
 intro pins s σ H D I h;exact wpAny_Expr_any (aU (he pins s σ H _ I h) λv s1 ⟨x,H1,I1,r1,q1⟩=>⟨σ,H1,I1,q1⟩) I.quiet hs
abbrev alV(te:TE):TS:=λD σ H=>te σ H D.rt
theorem a7(he:PE X e te):PS X (.Return (some e) pos) (alV te):=by
 intro pins s σ H D I h;exact wpAny_Return_some (aU (he pins s σ H _ I h) λv s1 ⟨x,H1,I1,r1,q1⟩=>⟨x,σ,H1,I1,r1,q1⟩)
abbrev alZ(c:TT)(t u:TS):TS:=λD σ H=>c σ H λb H1=>if b=true then t D σ H1 else u D σ H1
theorem bZ{c:Expr}{a b:List Stmt}{tc:TT}(hc:PT X c tc)(ha:eD X a t)(hb:eD X b u):PS X (.If c a b pos) (alZ tc t u):=by
 intro pins s σ H D I h;refine wpAny_If (aU (hc pins s σ H _ I h) λd s1 ⟨H1,I1,q1⟩=>?_);cases d with
 | true=>exact ha pins s1 σ H1 D I1 q1
 | false=>exact hb pins s1 σ H1 D I1 q1
def ahZ:TS:=λ_ _ _=>False
theorem yw{sts:List Stmt}:eD X sts ahZ:=λ_ _ _ _ _ _ h=>h.elim
end
abbrev TG:=V->St->Hp->(St->Hp->Prop)->Prop
abbrev xu:=List V->St->Hp->(St->Hp->Prop)->Prop
def PG(X:Cx)(target:Expr)(t:TG):Prop:=
 ∀(pins:List (Addr×Obj)) (s:Shared) (σ:St) (H:Hp) (v:V) (u:Value) (Q:St->Hp->Prop),Inv X pins σ H s->RelV v u->t v σ H Q->
  wpAny (model X.prog X.w) X.A (assign target X.env u) (λ_ s'=>∃σ' H',Inv X pins σ' H' s'/\Q σ' H') X.xe s
def E9(X:Cx)(ts:List Expr)(t:xu):Prop:=
 ∀(pins:List (Addr×Obj)) (s:Shared) (σ:St) (H:Hp) (vs:List V) (us:List Value) (Q:St->Hp->Prop),Inv X pins σ H s->Vals vs us->t vs σ H Q->
  wpAny (model X.prog X.w) X.A (assignInOrder ((AB ts X.env).map (·.2)) us) (λ_ s'=>∃σ' H',Inv X pins σ' H' s'/\Q σ' H') X.xe s
abbrev Bz:=V->V->V->Hp->(Hp->Prop)->Prop
def L6(X:Cx)(t:Bz):Prop:=
 ∀(pins:List (Addr×Obj)) (s:Shared) (σ:St) (H:Hp) (o i v:V) (ov iv u:Value) (Q:Hp->Prop),Inv X pins σ H s->RelV o ov->RelV i iv->RelV v u->t o i v H Q->
  wpAny (model X.prog X.w) X.A (setItem ov iv u) (λ_ s'=>∃H',Inv X pins σ H' s'/\Q H') X.xe s
abbrev E6:=V->V->Hp->VK->Prop
def V3(X:Cx)(op:Operator)(t:E6):Prop:=
 ∀(pins:List (Addr×Obj)) (s:Shared) (σ:St) (H:Hp) (x y:V) (v u:Value) (Q:VK),Inv X pins σ H s->RelV x v->RelV y u->t x y H Q->
  wpAny (model X.prog X.w) X.A (inplaceOp op v u) (EP X pins σ Q) X.xe s
section
variable{X:Cx}{pos:Pos}
abbrev iL(i:Nat):TG:=λv σ H Q=>Q (σ.set i (some v)) H
theorem cW{i:Nat}{x:Str}(hN:X.N.Nodup)(hi:X.N[i]?=some x)(hx:Loc X.env.scope x)(hf:X.fn x=true\/X.env.scope.names.lookup x=some .local:=by first | exact .inl rfl | exact .inr rfl | assumption):PG X (.Name x pos) (iL i):=by
 intro pins s σ H v u Q I r h;exact wpAny_assign_Name (Ik I hN hi hx r (λs' I'=>⟨_,H,I',h⟩) hf)
def U7:xu:=λvs σ H Q=>vs=[]/\Q σ H
def K7(t:TG)(u:xu):xu:=λvs σ H Q=>∃v r,vs=v::r/\t v σ H λσ' H'=>u r σ' H' Q
theorem sP:E9 X [] U7:=by
 intro pins s σ H vs us Q I r h;obtain⟨e,h⟩:=h;subst e;cases r;exact assignInOrder_nil ⟨σ,H,I,h⟩
theorem jS{e:Expr}{es:List Expr}{t:TG}{u:xu}(h1:PG X e t)(h2:E9 X es u)
  (hs:(AB (e::es) X.env).map (·.2)=assign e X.env::(AB es X.env).map (·.2):=by rfl):E9 X (e::es) (K7 t u):=by
 intro pins s σ H vs us Q I r h;obtain⟨v,vr,e1,h⟩:=h;subst e1;cases r with
 | cons r rr=>
  rw[hs];refine assignInOrder_cons (aU (h1 pins s σ H _ _ _ I r h) λ_ s1 ⟨σ1,H1,I1,q1⟩=>?_);exact h2 pins s1 σ1 H1 _ _ Q I1 rr q1
def U6(K:PySem.W.Frag)(n:Nat)(t:xu):TG:=λv σ H Q=>∃a xs,v=.ref a/\aF K H a xs/\xs.length=n/\t xs σ H Q
theorem sU{es:List Expr}{k:Nat}{t:xu}{n:Nat}(hc:X.calm=true)(h:E9 X es t)
  (hn:(AB es X.env).length=n:=by rfl) (cD:(AB es X.env).findIdx? (·.1)=none:=by rfl):PG X (.Tuple es k pos) (U6 X.K n t):=by
 intro pins s σ H v u Q I r hw;obtain⟨a,xs,e1,hq,hl,hw⟩:=hw;subst e1;cases r;obtain⟨au,rv,ht,hz⟩:=I.tuple hq;refine assign_Tuple_tuple (I.ok.hd hc) ht (by simp[hn,<-hl,rv.length]) cD λh' hx=>?_;have I1:Inv X pins σ H { s with heap:=h' }:=I.kept (t':=s.toks) λb o e=>hx b o (dZ (cg e)) e;exact h pins _ σ H xs _ Q I1 (by simpa using rv) hw
def amj(to ti:TE)(t:Bz):TG:=λv σ H Q=>to σ H λo H1=>ti σ H1 λi H2=>t o i v H2 λH3=>Q σ H3
theorem oj{o i:Expr}{to ti:TE}{t:Bz}(ho:PE X o to)(hi:PE X i ti)(hs:L6 X t)
  (ha:∀v,assign (.Subscript o i pos) X.env v=(do
   let ov <-holding [v] (eval o X.env)
   let iv <-holding [v,ov] (eval i X.env)
   standAt pos
   holding [v,ov,iv] (setItem ov iv v)
   release [v,ov,iv] []):=by intro _;rfl):PG X (.Subscript o i pos) (amj to ti t):=by
 intro pins s σ H v u Q I r h;rw[ha];refine ah (nW (aU (ho pins s σ H _ I h) λov s1 ⟨x,H1,I1,r1,q1⟩=>?_));refine ah (nW (aU (hi pins s1 σ H1 _ I1 q1) λiv s2 ⟨y,H2,I2,r2,q2⟩=>?_));refine ah (CU (ah (nW (aU (hs pins s2 σ H2 x y v ov iv u _ I2 r1 r2 r q2) λ_ s3 ⟨H3,I3,q3⟩=>?_))));exact wpAny_release ⟨σ,H3,I3,q3⟩
abbrev Lz(te:TE)(g:TG):TS:=λD σ H=>te σ H λx H1=>g x σ H1 D.nx
theorem lZ{tg e:Expr}{te:TE}{g:TG}(he:PE X e te)(hg:PG X tg g)(hs:swapsWithSole [tg] e pos.line X.env=pure false:=by rfl)(hw:swappedStores [tg] e X.env=pure none:=by rfl)
  (h1:(AB [tg] X.env).map (·.2)=[assign tg X.env]:=by rfl):PS X (.Assign [tg] e pos) (Lz te g):=by
 intro pins s σ H D I h;refine wpAny_Assign_stores (aU (he pins s σ H _ I h) λv s1 ⟨x,H1,I1,r1,q1⟩=>?_) hs hw;rw[h1];exact aU (hg pins s1 σ H1 x v _ I1 r1 q1) λ_ s2 q=>q
theorem cy{i:Nat}{x:Str}{e:Expr}{te:TE}{pos':Pos}(hN:X.N.Nodup)(hi:X.N[i]?=some x)(hx:Loc X.env.scope x)(he:PE X e te)(hs:Ig e (some (.Name x pos')) pos.line X.env=pure false:=by rfl)(hf:X.fn x=true\/X.env.scope.names.lookup x=some .local:=by first | exact .inl rfl | exact .inr rfl | assumption) :
  PS X (.Assign [.Name x pos'] e pos) (Lz te (iL i)):=by
 intro pins s σ H D I h;refine wpAny_Assign_Name (aU (he pins s σ H _ I h) λv s1 ⟨y,H1,I1,r1,q1⟩=>?_) hs;exact Ik I1 hN hi hx r1 (λs2 I2=>⟨_,H1,I2,q1⟩) hf
def aj4(to ti te:TE)(EF:V->V->Hp->VK->Prop)(Fg:E6)(ED:Bz):TS:=λD σ H=>to σ H λo H1=>ti σ H1 λi H2=>EF o i H2 λx H3=>te σ H3 λy H4=>Fg x y H4 λz H5=>ED o i z H5 λH6=>D.nx σ H6
def Vb(X:Cx)(t:V->V->Hp->VK->Prop):Prop:=
 ∀(pins:List (Addr×Obj)) (s:Shared) (σ:St) (H:Hp) (o i:V) (ov iv:Value) (Q:VK),Inv X pins σ H s->RelV o ov->RelV i iv->t o i H Q->
  wpAny (model X.prog X.w) X.A (getItem ov iv) (EP X pins σ Q) X.xe s
theorem agt{o i e:Expr}{to ti te:TE}{EF:V->V->Hp->VK->Prop}{Fg:E6}{ED:Bz}{op:Operator}{wZ:Pos}(ho:PE X o to)(hi:PE X i ti)(hg:Vb X EF)(he:PE X e te)(hp:V3 X op Fg)(hs:L6 X ED)
  (ha:∀ov iv new,augStore i ov iv new=(do holding [new,ov,iv] (setItem ov iv new);release [new,ov,iv] [];pure .next):=by intros;rfl):PS X (.AugAssign (.Subscript o i wZ) op e pos) (aj4 to ti te EF Fg ED):=by
 intro pins s σ H D I h;refine wpAny_AugAssign_SubscriptAny (aU (ho pins s σ H _ I h) λov s1 ⟨x1,H1,I1,r1,q1⟩=>?_) ha;refine aU (hi pins s1 σ H1 _ I1 q1) λiv s2 ⟨x2,H2,I2,r2,q2⟩=>?_;refine aU (hg pins s2 σ H2 x1 x2 ov iv _ I2 r1 r2 q2) λold s3 ⟨x3,H3,I3,r3,q3⟩=>?_;refine aU (he pins s3 σ H3 _ I3 q3) λv s4 ⟨x4,H4,I4,r4,q4⟩=>?_;refine aU (hp pins s4 σ H4 x3 x4 old v _ I4 r3 r4 q4) λnew s5 ⟨x5,H5,I5,r5,q5⟩=>?_;exact aU (hs pins s5 σ H5 x1 x2 x5 ov iv new _ I5 r1 r2 r5 q5) λ_ s6 ⟨H6,I6,q6⟩=>⟨σ,H6,I6,q6⟩
def ipI(f:Int->Int->Int):E6:=λx y H Q=>∃i j,x=.int i/\y=.int j/\Q (.int (f i j)) H
theorem aiP:V3 X .Add (ipI λi j=>i+j):=by
 intro pins s σ H x y v u Q I r1 r2 h;refine cF h λi j e1 e2 q=>?_;subst e1;subst e2;refine oE r1 λt aa=>?_;clear r1;subst aa;refine oE r2 λt' aa=>?_;clear r2;subst aa;exact iadd_int ⟨.int _,H,I.tok _,⟨_,rfl⟩,q⟩
end
section
variable{X:Cx}{pos:Pos}
end
structure It where
 go:Nat->Hp->Prop
 vi:Nat->Hp->V->Hp->Prop
 stop:Nat->Hp->Prop
def eM(X:Cx)(pins:List (Addr×Obj))(H:Hp)(b:Addr):Prop:=
 H b=none/\b≠X.env.locals/\b∉X.fs/\(b∈X.ex\/X.s₀.heap.objs.size<=b)/\(∀x c,X.env.cells.lookup x=some c->c≠b)/\∀p∈X.pn++pins,p.1≠b
theorem Inv.iu{X:Cx}{pins:List (Addr×Obj)}{σ:St}{H H':Hp}{s:Shared}{b:Addr}(I:Inv X pins σ H s)(hb:s.heap.objs.size<=b)(hn:H' b=none):eM X pins H' b:=by
 refine⟨hn,qS (fu I.lt hb),I.U3 hb,.inr (cH I.sz hb),λx c e z=>?_,λp hp z=>?_⟩
 ·refine oE (I.cell x c e) λv q=>?_;exact absurd (fu q.lt (by rw[z];exact hb)) (kv _)
 ·exact absurd (fu (cg (I.pin p hp).1) (by rw[z];exact hb)) (kv _)
structure Turn(P:Program)(w:World)(K:PySem.W.Frag)(tg:Expr)(J:It)(fp:List Addr)(it:Addr)(tn:Nat->Heap->Prop):Prop where
 mem:it∈fp
 obj:∀i h,tn i h->∀b∈fp,∃o,h.get? b=some o/\∀v,o.data≠.cell v
 keep:∀i h h',tn i h->(∀b∈fp,∀o,h.get? b=some o->h'.get? b=some o)->tn i h'
 item:∀(X:Cx),X.prog=P->X.w=w->X.K=K->X.calm=true->∀(i:Nat) (pins:List (Addr×Obj)) (s:Shared) (σ:St) (H:Hp) (E:Value->Shared->Prop),Inv X pins σ H s->(∀b∈fp,eM X pins H b)->tn i s.heap->J.go i H->
  wpAny (model P w) X.A (pyNext (.ref it)) (λr s1=>∃u,r=some u/\
   wpAny (model P w) X.A (G2 tg (.ref it) u) (λ_ s2=>∃x H',Inv X pins σ H' s2/\RelV x u/\J.vi i H x H'/\tn (i+1) s2.heap/\∀b∈fp,H' b=none) E s1) E s
 done:∀(X:Cx),X.prog=P->X.w=w->X.K=K->X.calm=true->∀(i:Nat) (pins:List (Addr×Obj)) (s:Shared) (σ:St) (H:Hp) (E:Value->Shared->Prop),Inv X pins σ H s->(∀b∈fp,eM X pins H b)->tn i s.heap->J.stop i H->
  wpAny (model P w) X.A (pyNext (.ref it)) (λr s1=>r=none/\Inv X pins σ H s1) E s
 self:∀(A:Around) (i:Nat) (s:Shared) (Q:Value->Shared->Prop) (E:Value->Shared->Prop),tn i s.heap->Q (.ref it) s->wpAny (model P w) A (pyIter (.ref it)) Q E s
abbrev TI:=St->Hp->(It->Hp->Prop)->Prop
def V4(X:Cx)(pins:List (Addr×Obj))(σ:St)(tg:Expr)(R:It->Hp->Prop)(Fw:Value)(s2:Shared):Prop:=
 ∃(it:Addr) (fp:List Addr) (tn:Nat->Heap->Prop) (J:It) (H':Hp),Fw=.ref it/\Inv X pins σ H' s2/\Turn X.prog X.w X.K tg J fp it tn/\tn 0 s2.heap/\(∀b∈fp,eM X pins H' b)/\R J H'
def PI(X:Cx)(tg iter:Expr)(wi:TI):Prop:=
 ∀(pins:List (Addr×Obj)) (s:Shared) (σ:St) (H:Hp) (R:It->Hp->Prop),Inv X pins σ H s->wi σ H R->
  wpAny (model X.prog X.w) X.A (eval iter X.env) (λv s1=>wpAny (model X.prog X.w) X.A (pyIter v) (V4 X pins σ tg R) X.xe s1) X.xe s
theorem K2{M:Model}{A:Around}{E:Value->Shared->Prop}{s:Shared}{tg:Expr}{it:Addr}{u:Value}{o:Obj}{n:String}{vs:Array Value}{Q:Unit->Shared->Prop}(ho:s.heap.get? it=some o)(hc:o.cls=.type n)(hd:o.data=.fields vs)
  (hn:["enumerate","zip","dict_itemiterator","dict_reverseitemiterator","odict_iterator","itertools.zip_longest","itertools.pairwise"].contains n=false) (hQ:Q () s):wpAny M A (G2 tg (.ref it) u) Q E s:=by
 unfold G2
 cases tg <;> first
  | exact aG hQ
  | (cases u <;> first
    | exact aG hQ
    | (refine ah (HE ho ?_);rw[hc,hd];show wpAny M A (if (["enumerate","zip","dict_itemiterator","dict_reverseitemiterator","odict_iterator","itertools.zip_longest","itertools.pairwise"].contains n&&vs[0]? == some (rawInt _))=true then _ else _) Q E s;rw[if_neg (by intro h;rw[hn,Al]at h;cases h)];exact aG hQ))
def BM(K:PySem.W.Frag)(a:Addr):It:=
 ⟨λi H=>∃xs x,aq K H a xs/\xs[i]?=some x,λi H x H'=>H'=H/\∀xs,aq K H a xs->xs[i]?=some x,λi H=>∃xs,aq K H a xs/\xs.length<=i⟩
def V7(K:PySem.W.Frag)(a:Addr):It:=
 ⟨λi H=>∃xs x,aF K H a xs/\xs[i]?=some x,λi H x H'=>H'=H/\∀xs,aF K H a xs->xs[i]?=some x,λi H=>∃xs,aF K H a xs/\xs.length<=i⟩
def xv(lo:Int)(n:Nat):It:=⟨λi _=>i<n,λi H x H'=>H'=H/\x=.int (lo+i),λi _=>n<=i⟩
theorem acR{P:Program}{w:World}{K:PySem.W.Frag}{tg:Expr}(a it:Addr):Turn P w K tg (BM K a) [it] it (λi h=>h.IsListIter it a i) where
 mem:=by simp
 obj:=λi h st b hb=>by
  have e:b=it:=by simpa using hb
  subst e;refine aJ st λo e c d=>?_;exact⟨o,e,λv z=>by rw[d]at z;cases z⟩
 keep:=λi h h' st k=>st.at λo e=>k it (by simp) o e
 item:=by
  intro X hP hw hK hc i pins s σ H E I hf st hg;subst hP hw hK;refine bf hg λxs x hq hx=>?_;refine aJ (I.list hq) λau rv p hz=>?_;refine ag (rv.get hx) λu hu ru=>?_;refine nh (hf it (by simp)) λf0 f1 f2 f3 f4 f5=>?_;refine wpAny_pyNext_list_item st p.isList (x:=u) (by simpa using hu) λh' rY sb=>?_;have I1:Inv X pins σ H { s with heap:=h' }:=I.turned (t':=s.toks) (λb o hb e=>(sb.2 b hb).trans e) f0 f1 f3 f4 f5;refine aJ (id rY) λo e c d=>?_;exact⟨u,rfl,K2 (s:={ s with heap:=h' }) e c d qc ⟨x,H,I1,ru,⟨rfl,λys hy=>by rw[I.Rp hy hq];exact hx⟩,rY,λb hb=>(hf b hb).1⟩⟩
 done:=by
  intro X hP hw hK hc i pins s σ H E I hf st hg;subst hP hw hK;refine ag hg λxs hq hx=>?_;refine aJ (I.list hq) λau rv p hz=>?_;refine nh (hf it (by simp)) λf0 f1 f2 f3 f4 f5=>?_;have hl:=rv.length;exact wpAny_pyNext_list_end (I.ok.hd hc) st p.isList (by simp;omega) λh' eb=>⟨rfl,I.turned (t':=s.toks) (λb o hb e=>eb b o hb e) f0 f1 f3 f4 f5⟩
 self:=λ_ _ _ _ _ st h=>wpAny_pyIter_listiter st h
theorem ab0{P:Program}{w:World}{K:PySem.W.Frag}{tg:Expr}(a it:Addr):Turn P w K tg (V7 K a) [it] it (λi h=>h.IsTupleIter it a i) where
 mem:=by simp
 obj:=λi h st b hb=>by
  have e:b=it:=by simpa using hb
  subst e;refine aJ st λo e c d=>?_;exact⟨o,e,λv z=>by rw[d]at z;cases z⟩
 keep:=λi h h' st k=>st.at λo e=>k it (by simp) o e
 item:=by
  intro X hP hw hK hc i pins s σ H E I hf st hg;subst hP hw hK;refine bf hg λxs x hq hx=>?_;refine aJ (I.tuple hq) λau rv p hz=>?_;refine ag (rv.get hx) λu hu ru=>?_;refine nh (hf it (by simp)) λf0 f1 f2 f3 f4 f5=>?_;refine wpAny_pyNext_tuple_item st (show s.heap.IsTuple a au.toArray from p) (x:=u) (by simpa using hu) λh' rY sb=>?_;have I1:Inv X pins σ H { s with heap:=h' }:=I.turned (t':=s.toks) (λb o hb e=>(sb.2 b hb).trans e) f0 f1 f3 f4 f5;refine aJ (id rY) λo e c d=>?_;exact⟨u,rfl,K2 (s:={ s with heap:=h' }) e c d qc ⟨x,H,I1,ru,⟨rfl,λys hy=>by rw[I.Qh hy hq];exact hx⟩,rY,λb hb=>(hf b hb).1⟩⟩
 done:=by
  intro X hP hw hK hc i pins s σ H E I hf st hg;subst hP hw hK;refine ag hg λxs hq hx=>?_;refine aJ (I.tuple hq) λau rv p hz=>?_;refine nh (hf it (by simp)) λf0 f1 f2 f3 f4 f5=>?_;have hl:=rv.length;exact wpAny_pyNext_tuple_end (I.ok.hd hc) st (show s.heap.IsTuple a au.toArray from p) (by simp;omega) λh' eb=>⟨rfl,I.turned (t':=s.toks) (λb o hb e=>eb b o hb e) f0 f1 f3 f4 f5⟩
 self:=λ_ _ _ _ _ st h=>wpAny_pyIter_tupleiter st h
theorem ab1{P:Program}{w:World}{K:PySem.W.Frag}{tg:Expr}(it:Addr)(lo:Int)(n:Nat):Turn P w K tg (xv lo n) [it] it (λi h=>IsRangeIter h it (lo+(i:Nat)*1) ((n:Int)-(i:Nat)) 1) where
 mem:=by simp
 obj:=λi h st b hb=>by
  have e:b=it:=by simpa using hb
  subst e
  exact⟨_,st,λv z=>by
   have z':Data.fields _=Data.cell v:=z;cases z'⟩
 keep:=λi h h' st k=>k it (by simp) _ st
 item:=by
  intro X hP hw hK hc i pins s σ H E I hf st hg;subst hP hw hK;refine nh (hf it (by simp)) λf0 f1 f2 f3 f4 f5=>?_;have W:=Walks.range (prog:=X.prog) (w:=X.w) (I.ok.hd hc) it lo 1 n;refine W.item i s _ _ hg st λv h' tk hv rY kk=>?_;refine oE hv λt aa=>?_;clear hv;subst aa;have I1:Inv X pins σ H { s with heap:=h',toks:=tk }:=I.turned (λb o hb e=>kk b o (by simpa using hb) e) f0 f1 f3 f4 f5;refine⟨_,rfl,K2 (s:={ s with heap:=h',toks:=tk }) (n:="range_iterator") rY rfl rfl qc ⟨.int (lo+i),H,I1,⟨t,?_⟩,⟨rfl,rfl⟩,rY,λb hb=>(hf b hb).1⟩⟩;rw[Int.mul_one]
 done:=by
  intro X hP hw hK hc i pins s σ H E I hf st hg;subst hP hw hK;refine nh (hf it (by simp)) λf0 f1 f2 f3 f4 f5=>?_;exact wpAny_pyNext_range_end (I.ok.hd hc) st (by have:n<=i:=hg;omega) λh' eb=>⟨rfl,I.turned (t':=s.toks) (λb o hb e=>eb b o hb e) f0 f1 f3 f4 f5⟩
 self:=λ_ _ _ _ _ st h=>wpAny_pyIter_rangeiter st h
section
variable{X:Cx}{tg:Expr}
def akK(K:PySem.W.Frag)(tl:TE):TI:=λσ H R=>tl σ H λx H1=>∃a,x=.ref a/\(∃xs,aq K H1 a xs)/\R (BM K a) H1
def ami(K:PySem.W.Frag)(tl:TE):TI:=λσ H R=>tl σ H λx H1=>∃a,x=.ref a/\(∃xs,aF K H1 a xs)/\R (V7 K a) H1
theorem uH{l:Expr}{tl:TE}(hl:PE X l tl):PI X tg l (akK X.K tl):=by
 intro pins s σ H R I h;refine aU (hl pins s σ H _ I h) λv s1 ⟨x,H1,I1,r1,q1⟩=>?_;refine aJ q1 λa e aa q=>?_;refine oE aa λxs hq=>?_;subst e;cases r1;refine aJ (I1.list hq) λau rv p hz=>?_;refine CI p.isList ?_;refine⟨s1.heap.objs.size,[s1.heap.objs.size],_,_,H1,rfl,I1.kept (t':=s1.toks) λb o e=>bj _ e,acR a _,⟨_,eO _ rfl,rfl,rfl⟩,λb hb=>?_,q⟩;have e:b=s1.heap.objs.size:=by simpa using hb
 subst e;exact I1.iu (aH _) (I1.aM.fresh (aH _))
theorem sT{l:Expr}{tl:TE}(hl:PE X l tl):PI X tg l (ami X.K tl):=by
 intro pins s σ H R I h;refine aU (hl pins s σ H _ I h) λv s1 ⟨x,H1,I1,r1,q1⟩=>?_;refine aJ q1 λa e aa q=>?_;refine oE aa λxs hq=>?_;subst e;cases r1;refine aJ (I1.tuple hq) λau rv p hz=>?_;refine wpAny_pyIter_tuple (show s1.heap.IsTuple a au.toArray from p) ?_;refine⟨s1.heap.objs.size,[s1.heap.objs.size],_,_,H1,rfl,I1.kept (t':=s1.toks) λb o e=>bj _ e,ab0 a _,⟨_,eO _ rfl,rfl,rfl⟩,λb hb=>?_,q⟩;have e:b=s1.heap.objs.size:=by simpa using hb
 subst e;exact I1.iu (aH _) (I1.aM.fresh (aH _))
theorem Rg{pins:List (Addr×Obj)}{σ:St}{H:Hp}{s:Shared}{R:It->Hp->Prop}{E:Value->Shared->Prop}{lo hi:Int}{t u v:Tok}{tk:Nat}(I:Inv X pins σ H s)(h1:-(2^62)<=lo)(h2:lo<2^62)(h3:-(2^62)<=hi)(h4:hi<2^62)
  (q:R (xv lo (hi-lo).toNat) H):wpAny (model X.prog X.w) X.A (pyIter (.ref s.heap.objs.size)) (V4 X pins σ tg R) E { s with heap:=s.heap.push { cls:=.type "range",data:=.fields #[.int lo t,.int hi u,.int 1 v] },toks:=tk }:=by
 refine wpAny_pyIter_range (IsRange.new ..) (small_one h1 h2 h3 h4) ?_;have I1:Inv X pins σ H { s with heap:=s.heap.push { cls:=.type "range",data:=.fields #[.int lo t,.int hi u,.int 1 v] },toks:=tk }:=I.kept λb o e=>bj _ e;refine⟨(s.heap.push { cls:=.type "range",data:=.fields #[.int lo t,.int hi u,.int 1 v] }).objs.size,[(s.heap.push { cls:=.type "range",data:=.fields #[.int lo t,.int hi u,.int 1 v] }).objs.size],_,_,H,rfl,I1.kept (t':=tk) λb o e=>bj _ e,ab1 _ lo (hi-lo).toNat,?_,λb hb=>?_,q⟩
 ·have e1:lo+((0:Nat):Int)*1=lo:=by simp
  have e2:(((hi-lo).toNat:Nat):Int)-((0:Nat):Int)=Builtin.Range.rangeSize lo hi 1:=by rw[rangeSize_one];split <;> omega
  show IsRangeIter _ _ (lo+((0:Nat):Int)*1) ((((hi-lo).toNat:Nat):Int)-((0:Nat):Int)) 1;rw[e1,e2];exact eO _ rfl
 ·have e:b=(s.heap.push { cls:=.type "range",data:=.fields #[.int lo t,.int hi u,.int 1 v] }).objs.size:=by simpa using hb
  subst e;exact I1.iu (aH _) (I1.aM.fresh (aH _))
def akJ(ta:TA):TI:=λσ H R=>ta σ H λvs H1=>∃j:Int,vs=[.int j]/\-(2^62)<=j/\j<2^62/\R (xv 0 j.toNat) H1
def akI(ta:TA):TI:=λσ H R=>ta σ H λvs H1=>∃i j:Int,vs=[.int i,.int j]/\(-(2^62)<=i/\i<2^62/\-(2^62)<=j/\j<2^62)/\R (xv i (j-i).toNat) H1
theorem qe{a:Expr}{ta:TA}{p pos:Pos}(hg:Gl X "range")(hm:X.mg "range" = none)(ha:PA X [a] ta)(hs:cJ [a] X.env=[(false,eval a X.env)]:=by rfl):PI X tg (.Call (.Name "range" p) [a] [] pos) (akJ ta):=by
 intro pins s σ H R I h;refine Call_ (uO I hg hm boot_range (CD (aU (ha pos pins s σ H _ I h) λus s1 ⟨vs,H1,I1,r1,q1⟩=>?_) hs rfl));obtain⟨j,e,q1,q2,q⟩:=q1;subst e;cases r1 with
 | cons r rr=>
  cases rr;obtain⟨t,rfl⟩:=r;exact call_range_1 (Rg I1 om om q1 q2 (by simpa using q))
theorem Qu{a b:Expr}{ta:TA}{p pos:Pos}(hg:Gl X "range")(hm:X.mg "range" = none)(ha:PA X [a,b] ta)(hs:cJ [a,b] X.env=[(false,eval a X.env),(false,eval b X.env)]:=by rfl)(vy:cJ [b] X.env=[(false,eval b X.env)]:=by rfl) :
  PI X tg (.Call (.Name "range" p) [a,b] [] pos) (akI ta):=by
 intro pins s σ H R I h;refine Call_ (uO I hg hm boot_range (CD (aU (ha pos pins s σ H _ I h) λus s1 ⟨vs,H1,I1,r1,q1⟩=>?_) (by rw[hs,vy]) (by rw[vy];rfl)));obtain⟨i,j,e,⟨q1,q2,q3,q4⟩,q⟩:=q1;subst e;cases r1 with
 | cons r rr=>
  cases rr with
  | cons r' rr=>
   cases rr;obtain⟨t,rfl⟩:=r;obtain⟨t',rfl⟩:=r';exact call_range_2 (Rg I1 q1 q2 q3 q4 q)
def al0(wi:TI)(g:TG)(tb:TS):TS:=λD σ H=>wi σ H λJ H1=>∃W:Nat->Nat->St->Hp->Prop,(∃m,W 0 m σ H1)/\∀i m σ H,W i m σ H->
 (J.stop i H/\D.nx σ H)\/(J.go i H/\∃N:St->Hp->Prop,(∀σ' H',N σ' H'->∃m',m'<m/\W (i+1) m' σ' H')/\∀x H',J.vi i H x H'->g x σ H' λσ2 H2=>tb { D with nx:=N,ct:=N,bk:=D.nx } σ2 H2)
def yR(fp:List Addr)(h:Heap):List (Addr×Obj):=fp.filterMap λb=>(h.get? b).map λo=>(b,o)
theorem yr{fp:List Addr}{h:Heap}{b:Addr}{o:Obj}(hb:b∈fp)(e:h.get? b=some o):(b,o)∈yR fp h:=Gs.mpr ⟨b,hb,by rw[e];rfl⟩
theorem Qz{fp:List Addr}{h:Heap}{p:Addr×Obj}(hp:p∈yR fp h):p.1∈fp/\h.get? p.1=some p.2:=by
 refine ag (Gs.mp hp) λb hb e=>?_;cases q:h.get? b with
 | none=>rw[q]at e;cases e
 | some o=>
  rw[q]at e;have e':(b,o)=p:=gn e;subst e';exact⟨hb,q⟩
theorem Inv.pinned{pins:List (Addr×Obj)}{σ:St}{H:Hp}{s:Shared}{fp:List Addr}(I:Inv X pins σ H s)(hf:∀b∈fp,eM X pins H b)(ho:∀b∈fp,∃o,s.heap.get? b=some o/\∀v,o.data≠.cell v):Inv X (pins++yR fp s.heap) σ H s:=
 I.uG λp hp=>(jx.mp hp).elim (λz=>I.pin p (gR _ z)) λz=>by
  refine oA (Qz z) λhb e=>?_;refine tE (hf p.1 hb) λf0 f1 f2 _=>?_;refine ag (ho p.1 hb) λo e' d=>?_;rw[e]at e';cases e';exact⟨e,f0,f1,f2,d⟩
theorem Inv.Dt{pins pl:List (Addr×Obj)}{σ:St}{H:Hp}{s:Shared}(I:Inv X (pins++pl) σ H s):Inv X pins σ H s:=I.uG λp hp=>I.pin p (gR _ (ph _ hp))
theorem pB{iter:Expr}{body:List Stmt}{wi:TI}{g:TG}{tb:TS}{pos:Pos}(hp:jR (model X.prog X.w) X.A X.env X.xe)(hc:X.calm=true)(hi:PI X tg iter wi)(hg:PG X tg g)(hb:eD X body tb)
  (hs:∀x,OD iter X.env x=pure x:=by intro _;rfl):PS X (.For tg iter body [] pos) (al0 wi g tb):=by
 intro pins s σ H D I h;refine wpAny_For (aU (hi pins s σ H _ I h) λv s1 h1=>aU h1 λFw s2 h2=>?_) hs;refine uo h2 λit fp tn J H2 e I2 T BU f2 aa=>?_;refine ag aa λW aa turn=>?_;refine oE aa λm0 w0=>?_;subst e;have Mb:∀{H':Hp},(∀b∈fp,H' b=none)->∀b∈fp,eM X pins H' b:=λhn b hb=>⟨hn b hb,(f2 b hb).2⟩;refine codeAny_forLoop_any (λn s'=>∃i σ' H',Inv X pins σ' H' s'/\tn i s'.heap/\(∀b∈fp,H' b=none)/\W i n σ' H') ?_ m0 ⟨0,σ,H2,I2,BU,λb hb=>(f2 b hb).1,w0⟩;rintro n s3 ⟨i,σ3,H3,I3,BS,Cm,w3⟩;rcases turn i n σ3 H3 w3 with ⟨stop,qn⟩ | ⟨go,N,hN,step⟩
 ·refine CM hp (aU (T.done X rfl rfl rfl hc i pins s3 σ3 H3 X.xe I3 (Mb Cm) BS stop) λr s4 ⟨hr,I4⟩=>?_);subst hr;exact CN ⟨σ3,H3,I4,qn⟩
 ·refine CM hp (aU (T.item X rfl rfl rfl hc i pins s3 σ3 H3 X.xe I3 (Mb Cm) BS go) λr s4 ⟨u,hr,h4⟩=>?_);subst hr;refine CM hp (aU h4 λ_ s5 ⟨x,H5,I5,r5,y5,tS,Cj⟩=>?_);have Od:=I5.pinned (Mb Cj) (T.obj _ _ tS);refine CM hp (aU (hg _ s5 σ3 H5 x u _ Od r5 (step x H5 y5)) λ_ s6 ⟨σ6,H6,I6,q6⟩=>?_);refine CM hp (aU (hb _ s6 σ6 H6 _ I6 q6) λf s7 q7=>?_)
  have again:∀{σ7:St} {H7:Hp},Inv X (pins++yR fp s5.heap) σ7 H7 s7->N σ7 H7->∃m,m<n/\∃i σ' H',Inv X pins σ' H' s7/\tn i s7.heap/\(∀b∈fp,H' b=none)/\W i m σ' H':=λ{σ7 H7} I7 n7=>by
   refine ag (hN σ7 H7 n7) λm' hm w7=>?_;refine⟨m',hm,i+1,σ7,H7,I7.Dt,T.keep _ _ _ tS λb hb o e=>(I7.pin (b,o) (gR _ (gR _ (yr hb e)))).1,λb hb=>?_,w7⟩;refine ag (T.obj _ _ tS b hb) λo e d=>?_;exact(I7.pin (b,o) (gR _ (gR _ (yr hb e)))).2.1
  cases f with
  | next=>obtain⟨σ7,H7,I7,n7⟩:=q7;exact again I7 n7
  | cont=>obtain⟨σ7,H7,I7,n7⟩:=q7;exact again I7 n7
  | brk=>obtain⟨σ7,H7,I7,q7⟩:=q7;exact⟨σ7,H7,I7.Dt,q7⟩
  | ret v=>obtain⟨x7,σ7,H7,I7,r7,q7⟩:=q7;exact⟨x7,σ7,H7,I7.Dt,r7,q7⟩
end
theorem aeZ{K:PySem.W.Frag}{a:Addr}{xs:List V}{g:TG}{tb:TS}{D:Ends}{σ:St}{H:Hp}(Pv:Nat->St->Hp->Prop)(h0:Pv 0 σ H)(hl:∀i σ H,i<=xs.length->Pv i σ H->aq K H a xs)
  (hs:∀i x σ H,xs[i]?=some x->Pv i σ H->g x σ H λσ2 H2=>tb { D with nx:=Pv (i+1),ct:=Pv (i+1),bk:=D.nx } σ2 H2) (hd:∀σ H,Pv xs.length σ H->D.nx σ H) :
  ∃W:Nat->Nat->St->Hp->Prop,(∃m,W 0 m σ H)/\∀i m σ H,W i m σ H->
   ((BM K a).stop i H/\D.nx σ H)\/((BM K a).go i H/\∃N:St->Hp->Prop,(∀σ' H',N σ' H'->∃m',m'<m/\W (i+1) m' σ' H')/\∀x H',(BM K a).vi i H x H'->g x σ H' λσ2 H2=>tb { D with nx:=N,ct:=N,bk:=D.nx } σ2 H2):=by
 refine⟨λi m σ H=>m=xs.length-i/\i<=xs.length/\Pv i σ H,⟨xs.length,by simp,bU _,h0⟩,?_⟩;rintro i m σ H ⟨rfl,hi,p⟩;have q:=hl i σ H hi p
 by_cases de:i<xs.length
 ·refine .inr ⟨⟨xs,xs[i],q,by simp[de]⟩,Pv (i+1),λσ' H' p'=>⟨xs.length-(i+1),om,rfl,de,p'⟩,λx H' y=>?_⟩;obtain⟨e,y⟩:=y;subst e;exact hs i x σ _ (y xs q) p
 ·have e:i=xs.length:=om;subst e;exact .inl ⟨⟨xs,q,aH _⟩,hd σ H p⟩
theorem uy{lo:Int}{n:Nat}{g:TG}{tb:TS}{D:Ends}{σ:St}{H:Hp}(Pv:Nat->St->Hp->Prop)(h0:Pv 0 σ H)
  (hs:∀i σ H,i<n->Pv i σ H->g (.int (lo+i)) σ H λσ2 H2=>tb { D with nx:=Pv (i+1),ct:=Pv (i+1),bk:=D.nx } σ2 H2) (hd:∀σ H,Pv n σ H->D.nx σ H) :
  ∃W:Nat->Nat->St->Hp->Prop,(∃m,W 0 m σ H)/\∀i m σ H,W i m σ H->
   ((xv lo n).stop i H/\D.nx σ H)\/((xv lo n).go i H/\∃N:St->Hp->Prop,(∀σ' H',N σ' H'->∃m',m'<m/\W (i+1) m' σ' H')/\∀x H',(xv lo n).vi i H x H'->g x σ H' λσ2 H2=>tb { D with nx:=N,ct:=N,bk:=D.nx } σ2 H2):=by
 refine⟨λi m σ H=>m=n-i/\i<=n/\Pv i σ H,⟨n,by simp,bU _,h0⟩,?_⟩;rintro i m σ H ⟨rfl,hi,p⟩
 by_cases de:i<n
 ·refine .inr ⟨de,Pv (i+1),λσ' H' p'=>⟨n-(i+1),om,rfl,de,p'⟩,λx H' y=>?_⟩;obtain⟨e,y⟩:=y;subst e y;exact hs i σ _ de p
 ·have e:i=n:=om;subst e;exact .inl ⟨aH _,hd σ H p⟩
abbrev R2:=V->V->Hp->VK->Prop
def ff(X:Cx)(f:Value->Value->Sem Value)(r:R2):Prop:=
 ∀(pins:List (Addr×Obj)) (s:Shared) (σ:St) (H:Hp) (x y:V) (v u:Value) (Q:VK),Inv X pins σ H s->RelV x v->RelV y u->r x y H Q->
  wpAny (model X.prog X.w) X.A (f v u) (EP X pins σ Q) X.xe s
def MV(X:Cx)(f:Value->Sem Value)(r:V->Hp->VK->Prop):Prop:=
 ∀(pins:List (Addr×Obj)) (s:Shared) (σ:St) (H:Hp) (x:V) (v:Value) (Q:VK),Inv X pins σ H s->RelV x v->r x H Q->
  wpAny (model X.prog X.w) X.A (f v) (EP X pins σ Q) X.xe s
def kc(X:Cx)(f:Value)(r:List V->Hp->VK->Prop):Prop:=
 ∀(pins:List (Addr×Obj)) (s:Shared) (σ:St) (H:Hp) (xs:List V) (us:List Value) (Q:VK),Inv X pins σ H s->Vals xs us->r xs H Q->
  wpAny (model X.prog X.w) X.A (call f us) (EP X pins σ Q) X.xe s
abbrev tI(r:R2)(ta tb:TE):TE:=λσ H Q=>ta σ H λx H1=>tb σ H1 λy H2=>r x y H2 Q
abbrev tUn(r:V->Hp->VK->Prop)(ta:TE):TE:=λσ H Q=>ta σ H λx H1=>r x H1 Q
def rI(C:Int->Int->Prop)(g:Int->Int->V):R2:=λx y H Q=>∃i j,x=.int i/\y=.int j/\C i j/\Q (g i j) H
def xn(g:Int->Int->V):R2:=λx y H Q=>∃i j,x=.int i/\y=.int j/\Q (g i j) H
def rU(g:Int->V):V->Hp->VK->Prop:=λx H Q=>∃i,x=.int i/\Q (g i) H
section
variable{X:Cx}{a b c:Expr}{ta tb tc:TE}{pos:Pos}
theorem L1(ha:PE X a ta)(hb:PE X b tb){pins:List (Addr×Obj)}{s:Shared}{σ:St}{H:Hp}{R:V->V->Hp->Prop}(I:Inv X pins σ H s)
  (h:ta σ H λx H1=>tb σ H1 λy H2=>R x y H2) {Q:Value->Shared->Prop} {f:Value->Value->Sem Value}
  (hf:∀v u s2 x y H2,Inv X pins σ H2 s2->RelV x v->RelV y u->R x y H2->wpAny (model X.prog X.w) X.A (f v u) Q X.xe s2) :
  wpAny (model X.prog X.w) X.A (eval a X.env) (λv s₁=>wpAny (model X.prog X.w) X.A (eval b X.env) (λu s₂=>wpAny (model X.prog X.w) X.A (f v u) Q X.xe s₂) X.xe s₁) X.xe s:=by
 refine aU (ha pins s σ H _ I h) λv s1 ⟨x,H1,I1,r1,q1⟩=>?_;refine aU (hb pins s1 σ H1 _ I1 q1) λu s2 ⟨y,H2,I2,r2,q2⟩=>?_;exact hf v u s2 x y H2 I2 r1 r2 q2
theorem a6{op:Operator}{r:R2}(ho:ff X (uD op) r)(ha:PE X a ta)(hb:PE X b tb):PE X (.BinOp a op b pos) (tI r ta tb):=by
 intro pins s σ H Q I h;exact wpAny_BinOp (L1 ha hb I h λv u s2 x y H2 I2 rx ry q=>ho pins s2 σ H2 x y v u Q I2 rx ry q)
theorem Bi{op:UnaryOp}{r:V->Hp->VK->Prop}(ho:MV X (unaryOp op) r)(ha:PE X a ta):PE X (.UnaryOp op a pos) (tUn r ta):=by
 intro pins s σ H Q I h;exact UnaryOp_ (aU (ha pins s σ H _ I h) λv s1 ⟨x,H1,I1,r1,q1⟩=>ho pins s1 σ H1 x v Q I1 r1 q1)
theorem EY{f:Value->Value->Sem Value}{C:Int->Int->Prop}{g:Int->Int->Int}
  (rule:∀(i j:Int) (t u:Tok) (s:Shared) (Q:Value->Shared->Prop) (E:Value->Shared->Prop),C i j->Q (.int (g i j) s.toks) { s with toks:=s.toks+1 }->wpAny (model X.prog X.w) X.A (f (.int i t) (.int j u)) Q E s) :
  ff X f (rI C λi j=>.int (g i j)):=by
 intro pins s σ H x y v u Q I rx ry h;refine jW h λi j aa aX hc q=>?_;clear h;subst aa;subst aX;obtain⟨t,rfl⟩:=rx;obtain⟨t',rfl⟩:=ry;exact rule i j t t' s _ _ hc ⟨.int (g i j),H,I.tok _,⟨_,rfl⟩,q⟩
theorem U1{f:Value->Value->Sem Value}{g:Int->Int->Int}
  (rule:∀(i j:Int) (t u:Tok) (s:Shared) (Q:Value->Shared->Prop) (E:Value->Shared->Prop),Q (.int (g i j) s.toks) { s with toks:=s.toks+1 }->wpAny (model X.prog X.w) X.A (f (.int i t) (.int j u)) Q E s) :
  ff X f (xn λi j=>.int (g i j)):=by
 intro pins s σ H x y v u Q I rx ry h;refine cF h λi j aa aX q=>?_;clear h;subst aa;subst aX;obtain⟨t,rfl⟩:=rx;obtain⟨t',rfl⟩:=ry;exact rule i j t t' s _ _ ⟨.int (g i j),H,I.tok _,⟨_,rfl⟩,q⟩
theorem LK{f:Value->Value->Sem Value}{g:Int->Int->Bool}
  (rule:∀(i j:Int) (t u:Tok) (s:Shared) (Q:Value->Shared->Prop) (E:Value->Shared->Prop),Q (.bool (g i j)) s->wpAny (model X.prog X.w) X.A (f (.int i t) (.int j u)) Q E s) :
  ff X f (xn λi j=>.bl (g i j)):=by
 intro pins s σ H x y v u Q I rx ry h;refine cF h λi j aa aX q=>?_;clear h;subst aa;subst aX;obtain⟨t,rfl⟩:=rx;obtain⟨t',rfl⟩:=ry;exact rule i j t t' s _ _ ⟨.bl (g i j),H,I,rfl,q⟩
def amt(i j:Int):Prop:=0<j/\j<1073741824
def ams(i j:Int):Prop:=0<=j/\j<=1000000/\i.natAbs<2^64
def L9(i j:Int):Prop:=(-(2^64)<i/\i<2^64)\/(-(2^64)<j/\j<2^64)
theorem L9.ok{i j:Int}(h:L9 i j):IntMulOk i j:=by
 rcases h with ⟨h1,h2⟩ | ⟨h1,h2⟩
 ·exact .of_left (intBits_le_64 h1 h2)
 ·exact .of_right (intBits_le_64 h1 h2)
theorem jV:ff X (uD .Add) (xn λi j=>.int (i+j)):=U1 λ_ _ _ _ _ _ _ q=>add_int q
theorem yT:ff X (uD .Sub) (xn λi j=>.int (i-j)):=U1 λ_ _ _ _ _ _ _ q=>sub_int q
theorem yU:ff X (uD .Mult) (rI L9 λi j=>.int (i*j)):=EY λ_ _ _ _ _ _ _ hc q=>mul_int q hc.ok
theorem pA:ff X (uD .FloorDiv) (rI amt λi j=>.int (i/j)):=EY λi j _ _ _ _ _ hc q=>by
 have h1:(0:Int)<j:=hc.1;have h2:j<1073741824:=hc.2;exact floordiv_int om (by rw[Int.fdiv_eq_ediv_of_nonneg i om];exact q) (.inl (PyProof.noPylong_small om))
theorem ij:ff X (uD .Mod) (rI (λ_ j=>0<j) λi j=>.int (i%j)):=EY λi j _ _ _ _ _ hc q=>by
 have h1:(0:Int)<j:=hc;exact mod_int' om (by rw[Int.fmod_eq_emod_of_nonneg i om];exact q)
theorem Bb:ff X (uD .Pow) (rI ams λi j=>.int (i^j.toNat)):=EY λ_ _ _ _ _ _ _ hc q=>pow_int_small hc.1 hc.2.1 hc.2.2 q
theorem unI{f:Value->Sem Value}{g:Int->Int}
  (rule:∀(i:Int) (t:Tok) (s:Shared) (Q:Value->Shared->Prop) (E:Value->Shared->Prop),Q (.int (g i) s.toks) { s with toks:=s.toks+1 }->wpAny (model X.prog X.w) X.A (f (.int i t)) Q E s) :
  MV X f (rU λi=>.int (g i)):=by
 intro pins s σ H x v Q I rx h;refine ag h λi aa q=>?_;clear h;subst aa;obtain⟨t,rfl⟩:=rx;exact rule i t s _ _ ⟨.int (g i),H,I.tok _,⟨_,rfl⟩,q⟩
theorem A1:MV X (unaryOp .USub) (rU λi=>.int (-i)):=unI λ_ _ _ _ _ q=>neg_int q
end
def UW:V->V->Bool
 | .aD,.aD=>true | .aD,.int _=>true | .int _,.aD=>true | .aD,.bl _=>true | .bl _,.aD=>true | .aD,.str _=>true | .str _,.aD=>true
 | .int _,.int _=>true | .bl _,.bl _=>true | .str _,.str _=>true | .pP _,.pP _=>true
 | .int _,.str _=>true | .str _,.int _=>true | .bl _,.str _=>true | .str _,.bl _=>true
 | _,_=>false
def VX:R2:=λx y H Q=>UW x y=true/\Q (.bl (decide (x=y))) H
def rNe:R2:=λx y H Q=>UW x y=true/\Q (.bl (!decide (x=y))) H
theorem DQ{i j:Int}:decide (V.int i=V.int j)=(i == j):=by
 rw[G'];simp
theorem TJ{i j:Bool}:decide (V.bl i=V.bl j)=(i == j):=by
 rw[G'];simp
theorem Sy{i j:Str}:decide (V.str i=V.str j)=(i == j):=by
 rw[G'];simp
theorem Sz{i j:Array UInt8}:decide (V.pP i=V.pP j)=(i.toList == j.toList):=by
 rw[G'];cases i;cases j;simp
section
variable{X:Cx}{a b c:Expr}{ta tb tc:TE}{pos:Pos}
theorem eP{pins:List (Addr×Obj)}{σ:St}{H:Hp}{s:Shared}{Q:VK}{k k':Bool}(I:Inv X pins σ H s)(q:Q (.bl k) H)(e:k=k'):EP X pins σ Q (.bool k') s:=by
 subst e;exact⟨.bl k,H,I,rfl,q⟩
theorem dm:ff X (jQ .Eq) VX:=by
 intro pins s σ H x y v u Q I rx ry h;refine oA h λhs q=>?_;cases x with
 | aD=>
  cases rx;cases y with
  | aD=>cases ry;exact PySem.EqNone.eq_none_none (eP I q (by simp))
  | bl j=>cases ry;exact PySem.EqNone.eq_none_bool (eP I q (by simp))
  | int j=>obtain⟨t',rfl⟩:=ry;exact PySem.EqNone.eq_none_int (eP I q (by simp))
  | str j=>obtain⟨t',rfl⟩:=ry;exact PySem.EqNone.eq_none_str (eP I q (by simp))
  | _=>exact absurd (show false=true from hs) dG
 | bl i=>
  cases rx;cases y with
  | aD=>cases ry;exact PySem.EqNone.eq_bool_none (eP I q (by simp))
  | bl j=>cases ry;exact eq_bool (eP I q TJ)
  | str j=>obtain⟨t',rfl⟩:=ry;exact PySem.EqMixed.eq_bool_str (eP I q (by simp))
  | _=>exact absurd (show false=true from hs) dG
 | int i=>
  obtain⟨t,rfl⟩:=rx;cases y with
  | aD=>cases ry;exact PySem.EqNone.eq_int_none (eP I q (by simp))
  | int j=>obtain⟨t',rfl⟩:=ry;exact eq_int (eP I q DQ)
  | str j=>obtain⟨t',rfl⟩:=ry;exact PySem.EqMixed.eq_int_str (eP I q (by simp))
  | _=>exact absurd (show false=true from hs) dG
 | str i=>
  obtain⟨t,rfl⟩:=rx;cases y with
  | aD=>cases ry;exact PySem.EqNone.eq_str_none (eP I q (by simp))
  | bl j=>cases ry;exact PySem.EqMixed.eq_str_bool (eP I q (by simp))
  | int j=>obtain⟨t',rfl⟩:=ry;exact PySem.EqMixed.eq_str_int (eP I q (by simp))
  | str j=>obtain⟨t',rfl⟩:=ry;exact eq_str (eP I q Sy)
  | _=>exact absurd (show false=true from hs) dG
 | pP i=>
  obtain⟨t,rfl⟩:=rx;cases y with
  | pP j=>obtain⟨t',rfl⟩:=ry;exact W.eq_bytes (eP I q Sz)
  | _=>exact absurd (show false=true from hs) dG
 | _=>cases y <;> exact absurd (show false=true from hs) dG
theorem Bj:ff X (jQ .NotEq) rNe:=by
 intro pins s σ H x y v u Q I rx ry h;refine oA h λhs q=>?_;cases x with
 | aD=>
  cases rx;cases y with
  | aD=>cases ry;exact PySem.EqNone.ne_none_none (eP I q (by simp))
  | bl j=>cases ry;exact PySem.EqNone.ne_none_bool (eP I q (by simp))
  | int j=>obtain⟨t',rfl⟩:=ry;exact PySem.EqNone.ne_none_int (eP I q (by simp))
  | str j=>obtain⟨t',rfl⟩:=ry;exact PySem.EqNone.ne_none_str (eP I q (by simp))
  | _=>exact absurd (show false=true from hs) dG
 | bl i=>
  cases rx;cases y with
  | aD=>cases ry;exact PySem.EqNone.ne_bool_none (eP I q (by simp))
  | bl j=>cases ry;exact ne_bool (eP I q (congrArg not TJ))
  | str j=>obtain⟨t',rfl⟩:=ry;exact PySem.EqMixed.ne_bool_str (eP I q (by simp))
  | _=>exact absurd (show false=true from hs) dG
 | int i=>
  obtain⟨t,rfl⟩:=rx;cases y with
  | aD=>cases ry;exact PySem.EqNone.ne_int_none (eP I q (by simp))
  | int j=>obtain⟨t',rfl⟩:=ry;exact ne_int (eP I q (congrArg not DQ))
  | str j=>obtain⟨t',rfl⟩:=ry;exact PySem.EqMixed.ne_int_str (eP I q (by simp))
  | _=>exact absurd (show false=true from hs) dG
 | str i=>
  obtain⟨t,rfl⟩:=rx;cases y with
  | aD=>cases ry;exact PySem.EqNone.ne_str_none (eP I q (by simp))
  | bl j=>cases ry;exact PySem.EqMixed.ne_str_bool (eP I q (by simp))
  | int j=>obtain⟨t',rfl⟩:=ry;exact PySem.EqMixed.ne_str_int (eP I q (by simp))
  | str j=>obtain⟨t',rfl⟩:=ry;exact ne_str (eP I q (congrArg not Sy))
  | _=>exact absurd (show false=true from hs) dG
 | pP i=>
  obtain⟨t,rfl⟩:=rx;cases y with
  | pP j=>obtain⟨t',rfl⟩:=ry;exact W.ne_bytes (eP I q (congrArg not Sz))
  | _=>exact absurd (show false=true from hs) dG
 | _=>cases y <;> exact absurd (show false=true from hs) dG
theorem y':ff X (jQ .Lt) (xn λi j=>.bl (decide (i<j))):=LK λ_ _ _ _ _ _ _ q=>lt_int q
theorem KQ:ff X (jQ .LtE) (xn λi j=>.bl (decide (i<=j))):=LK λ_ _ _ _ _ _ _ q=>le_int q
theorem KR:ff X (jQ .Gt) (xn λi j=>.bl (decide (j<i))):=LK λ_ _ _ _ _ _ _ q=>gt_int q
theorem Ti:ff X (jQ .Is) (λx y H Q=>y=.aD/\Q (.bl (decide (x=.aD))) H):=by
 intro pins s σ H x y v u Q I rx ry h;refine oA h λaa q=>?_;clear h;subst aa;cases ry;refine is_none_gen (eP I q ?_)
 cases x <;> first
  | (cases rx;rfl)
  | (obtain⟨t,rfl⟩:=rx;rfl)
theorem agw:ff X (jQ .IsNot) (λx y H Q=>y=.aD/\Q (.bl (!decide (x=.aD))) H):=by
 intro pins s σ H x y v u Q I rx ry h;refine oA h λaa q=>?_;clear h;subst aa;cases ry;refine isnot_none_gen (eP I q ?_)
 cases x <;> first
  | (cases rx;rfl)
  | (obtain⟨t,rfl⟩:=rx;rfl)
theorem br(b:Expr){op:CmpOp}(h:op≠.In:=by decide)(h2:op≠.NotIn:=by decide):Hh op b=false:=by
 have e1:(op == CmpOp.In)=false:=by cases op <;> first | rfl | exact absurd rfl h
 have e2:(op == CmpOp.NotIn)=false:=by cases op <;> first | rfl | exact absurd rfl h2
 cases b <;> simp[Hh,e1,e2]
theorem AW{op:CmpOp}{r:R2}(ho:ff X (jQ op) r)(ha:PE X a ta)(hb:PE X b tb)(hm:Hh op b=false):PE X (.Compare a [op] [b] pos) (tI r ta tb):=by
 intro pins s σ H Q I h;exact wpAny_Compare1 (L1 ha hb I h λv u s2 x y H2 I2 rx ry q=>ho pins s2 σ H2 x y v u Q I2 rx ry q) hm
abbrev TY(t:TE):TT:=λσ H Q=>t σ H λx H'=>∃k,x=.bl k/\Q k H'
theorem bq{op:CmpOp}{r:R2}(ho:ff X (jQ op) r)(ha:PE X a ta)(hb:PE X b tb)(hm:Hh op b=false):PT X (.Compare a [op] [b] pos) (TY (tI r ta tb)):=by
 intro pins s σ H Q I h
 refine wpAny_isTrue_Compare1 (aU (ha pins s σ H _ I h) λv s1 ⟨x,H1,I1,r1,q1⟩=>aU (hb pins s1 σ H1 _ I1 q1) λu s2 ⟨y,H2,I2,r2,q2⟩=>
  aU (ho pins s2 σ H2 x y v u _ I2 r1 r2 q2) λc s3 ⟨z,H3,I3,r3,k,e,q3⟩=>?_) hm
 subst e;cases r3;exact sD ⟨H3,I3,q3⟩
def SR(r r':R2)(ta tb tc:TE):TE:=λσ H Q=>ta σ H λx H1=>tb σ H1 λy H2=>r x y H2 λz H3=>∃k,z=.bl k/\
 (if k=true then tc σ H3 λw' H4=>r' y w' H4 Q else Q (.bl false) H3)
theorem aei{op xy:CmpOp}{r r':R2}(ho:ff X (jQ op) r)(qJ:ff X (jQ xy) r')(ha:PE X a ta)(hb:PE X b tb)(hc:PE X c tc)
  (hm:lastMarks [op,xy] [b,c]=false:=by with_unfolding_all rfl):PE X (.Compare a [op,xy] [b,c] pos) (SR r r' ta tb tc):=by
 intro pins s σ H Q I h
 refine Compare_chain (aU (ha pins s σ H _ I h) λv s1 ⟨x,H1,I1,r1,q1⟩=>chain_link (aU (hb pins s1 σ H1 _ I1 q1) λu s2 ⟨y,H2,I2,r2,q2⟩=>
  aU (ho pins s2 σ H2 x y v u _ I2 r1 r2 q2) λd s3 ⟨z,H3,I3,r3,k,e,q3⟩=>?_)) hm
 subst e;cases r3;refine sD ?_;cases k with
 | false=>exact ite_ff ⟨.bl false,H3,I3,rfl,q3⟩
 | true=>exact ite_tt (chain_last (aU (hc pins s3 σ H3 _ I3 q3) λw' s4 ⟨z',H4,I4,r4,q4⟩=>qJ pins s4 σ H4 y z' u w' Q I4 r2 r4 q4))
theorem aed{op xy:CmpOp}{r r':R2}(ho:ff X (jQ op) r)(qJ:ff X (jQ xy) r')(ha:PE X a ta)(hb:PE X b tb)(hc:PE X c tc)
  (hm:lastMarks [op,xy] [b,c]=false:=by with_unfolding_all rfl):PT X (.Compare a [op,xy] [b,c] pos) (TY (SR r r' ta tb tc)):=by
 intro pins s σ H Q I h
 refine isTrue_chain (aU (ha pins s σ H _ I h) λv s1 ⟨x,H1,I1,r1,q1⟩=>test_link (aU (hb pins s1 σ H1 _ I1 q1) λu s2 ⟨y,H2,I2,r2,q2⟩=>
  aU (ho pins s2 σ H2 x y v u _ I2 r1 r2 q2) λd s3 ⟨z,H3,I3,r3,k,e,q3⟩=>?_)) hm
 subst e;cases r3;refine sD ?_;cases k with
 | false=>
  refine ag q3 λk' e' q'=>?_;cases e';exact ite_ff ⟨H3,I3,q'⟩
 | true=>
  refine ite_tt (test_last (aU (hc pins s3 σ H3 _ I3 q3) λw' s4 ⟨z',H4,I4,r4,q4⟩=>aU (qJ pins s4 σ H4 y z' u w' _ I4 r2 r4 q4) λd' s5 ⟨z2,H5,I5,r5,k2,e2,q5⟩=>?_));subst e2;cases r5;exact sD ⟨H5,I5,q5⟩
theorem rh:(aZ:Nat)<2^63:=by rw[iq];decide
theorem vals1{x:V}{us:List Value}(r:Vals [x] us):∃u,us=[u]/\RelV x u:=by
 cases r with
 | cons r1 r2=>cases r2;exact⟨_,rfl,r1⟩
theorem vals2{x y:V}{us:List Value}(r:Vals [x,y] us):∃u w',us=[u,w']/\RelV x u/\RelV y w':=by
 cases r with
 | cons r1 r2=>
  cases r2 with
  | cons r3 r4=>cases r4;exact⟨_,_,rfl,r1,r3⟩
theorem adO(hc:X.calm=true):kc X (.builtin "max") (λxs H Q=>∃i j,xs=[.int i,.int j]/\Q (.int (if j > i then j else i)) H):=by
 intro pins s σ H xs us Q I r h;refine bf h λi j aa q=>?_;clear h;subst aa;refine cF (vals2 r) λu w' aa aX tR=>?_;subst aa;refine oE aX λt aa=>?_;clear aX;subst aa;refine oE tR λt' aa=>?_;clear tR;subst aa;refine max_two_ints (I.ok.hd hc) λh' tk k=>⟨_,H,I.kept k,?_,q⟩
 by_cases hj:j > i
 ·rw[if_pos hj,if_pos hj];exact⟨_,rfl⟩
 ·rw[if_neg hj,if_neg hj];exact⟨_,rfl⟩
theorem adN(hc:X.calm=true):kc X (.builtin "min") (λxs H Q=>∃i j,xs=[.int i,.int j]/\Q (.int (if j<i then j else i)) H):=by
 intro pins s σ H xs us Q I r h;refine bf h λi j aa q=>?_;clear h;subst aa;refine cF (vals2 r) λu w' aa aX tR=>?_;subst aa;refine oE aX λt aa=>?_;clear aX;subst aa;refine oE tR λt' aa=>?_;clear tR;subst aa;refine min_two_ints (I.ok.hd hc) λh' tk k=>⟨_,H,I.kept k,?_,q⟩
 by_cases hj:j<i
 ·rw[if_pos hj,if_pos hj];exact⟨_,rfl⟩
 ·rw[if_neg hj,if_neg hj];exact⟨_,rfl⟩
end
structure wX(h:Heap)(x dx C:Addr)(mA:Str->Option Value):Prop where
 obj:h.get? x=some (W.instObj C dx)
 ns:h.Ns1 dx mA
 ne:dx≠x
theorem adl{h:Heap}{dx:Addr}{mA:Str->Option Value}(n:h.Ns1 dx mA):∃od,h.get? dx=some od/\∀name,W.lookIn name od=some (mA name):=by
 refine AL n λo es ep ho hd hk _ hm=>?_;refine⟨o,ho,λname=>?_⟩;have e:=hm name;unfold nsFind findBy at e;rw[<-Array.find?_toList]at e;unfold W.lookIn;rw[hd];dsimp only
 split
 ·rename_i y q
  rw[q]at e;exact congrArg some e
 ·rename_i q
  rw[q]at e
  have a:es.toList.any (·.refKey)=false:=by
   rw[List.any_eq_false];intro y hy;refine vk (hk y (Array.mem_toList_iff.mp hy)) λz t ank=>?_;simp[DictEntry.refKey,ank]
  have a':¬es.toList.any (·.refKey)=true:=by rw[a];exact dG
  rw[if_neg a'];exact congrArg some e
theorem wX.look{h:Heap}{x dx C:Addr}{mA:Str->Option Value}(I:wX h x dx C mA):∃od,W.InstAt h x (W.instObj C dx) C (some od)/\∀name,W.lookIn name od=some (mA name):=
 let ⟨od,ho,hl⟩:=adl I.ns
 ⟨od,⟨I.obj,rfl,rfl,ho⟩,hl⟩
section
variable{prog:Program}{w:World}{A:Around}{E:Value->Shared->Prop}{s:Shared}{K:W.Frag}{x dx C f:Addr}{mA:Str->Option Value}{name:Str}{v:Value}
theorem get_map{expr:Bool}{Q:Value->Shared->Prop}(X:K.In s.heap)(I:wX s.heap x dx C mA)(hg:W.plainGet K C name=true)(hh:W.hasDictIn K C=true)
  (ha:W.findIn K (.ref C) name=some none) (hv:mA name=some v) (hv':W.handedIn v=true) (h:Q v { s with toks:=s.toks+1 }) :
  wpAny (model prog w) A (getAttr (.ref x) name expr) Q E s:=by
 refine ag I.look λod J hl=>?_;exact W.get_value X J (W.plainGet_of hg).1 (W.findObj_own hh ha rfl (by rw[hl,hv])) hv' h
theorem aeU{pl:Sem Bool}{Q:Value×List Value->Shared->Prop}(X:K.In s.heap)(I:wX s.heap x dx C mA)(hg:W.plainGet K C name=true)
  (hf:W.findIn K (.ref C) name=some (some (.ref f))) (ht:W.isFn K (.ref f)=true) (hv:mA name=none) (h:Q (.ref f,[.ref x]) s) :
  wpAny (model prog w) A (yz (.ref x) name pl) Q E s:=by
 refine ag I.look λod J hl=>?_;exact W.method_fn X J (W.plainGet_of hg).1 (W.plainGet_of hg).2 hf (beq_iff_eq.mp ht) (by show (W.lookIn name od).map (·.isSome)=some false;rw[hl,hv];rfl) h
theorem af7{ns:List Str}{Q:Unit->Shared->Prop}(X:K.In s.heap)(I:wX s.heap x dx C mA)
  (hs:W.findIn K (.ref C) "__setattr__" = some (some (.builtin "object.__setattr__"))) (hp:W.plainOver K C=true) (ht:W.takerIn K C name=some none) (hh:W.hasDictIn K C=true)
  (hw:PySem.Within mA ns) (eN:ns.length<=aZ)
  (h:∀h',wX h' x dx C (λy=>if y=name then some v else mA y)->gD dx s.heap h'->Q () { s with heap:=h',toks:=s.toks+2 }) :
  wpAny (model prog w) A (setAttr (.ref x) name v) Q E s:=by
 refine ag I.look λod J hl=>?_;refine W.set_plain X J hs (W.osa_open (s:={ s with toks:=s.toks+1 }) (r:=none) X J hp ht λb=>?_);refine ag (W.any_some hh) λcd hc jI=>?_;have hx:s.heap.get? x=some ⟨.ref C,some dx,.plain,#[]⟩:=I.obj;refine ah (aG (ah (ah (wpAny_loadPart hx (ah (W.Looks.here (s:={ s with toks:=s.toks+1 }) (W.looks_clsIn X hc) ?_))))));rw[jI];refine aG (a:=some dx) (ah (aG (ah ?_)));refine wpAny_nsSet1 (s:={ s with toks:=s.toks+1 }) I.ns λh' Xg vy=>?_;refine ng (Xg.count (PySem.Within.cons name v hw)) λoD esD epD hoD hdD hcD=>?_;refine ah (wpAny_lookBehind hoD (by rw[hdD];exact pastItsLine_dict (cH hcD (by rw[jv];exact wb))) ?_);exact aG (h _ ⟨(vy.2 _ (fw I.ne)).trans I.obj,Xg,I.ne⟩ vy)
theorem aeM{R:Result->Shared->Prop}{vs:List Value}{kw:List (Str×Value)}(X:K.In s.heap)(hm:W.makesIn K C=true)
  (hi:W.findIn K (.ref C) "__init__" = some (some (.ref f))) (hf:W.typeIn K (.ref f)=some (.type "function"))
  (h:codeAny (model prog w) (A.under (.builtin "type.__call__" ⟨.ref C::vs,kw⟩)) (.call (.ref f) ⟨.ref (s.heap.objs.size+1)::vs,kw⟩) (W.InitBack (s.heap.objs.size+1) R)
   {s with heap:=(s.heap.push W.emptyDict).push (W.instObj C s.heap.objs.size) }) :
  codeAny (model prog w) A (.call (.ref C) ⟨vs,kw⟩) R s:=by
 obtain⟨hh,g,d,t,os⟩:=s;exact W.make_core (W.makes_of X hm) (W.looks_findIn X hi) (λself=>W.bind_fn X self hf) (.inl rfl) h
end
def aL(f:Str)(v:V):List (Str×V)->List (Str×V)
 | []=>[(f,v)]
 | (g,x)::r=>if g=f then (g,v)::r else (g,x)::aL f v r
theorem f9(f g:Str)(v:V):∀fs:List (Str×V),(aL f v fs).lookup g=if g=f then some v else fs.lookup g
 | []=>by
  show yo g [(f,v)]=_
  by_cases h:g=f
  ·have hb:(g == f)=true:=beq_iff_eq.mpr h;simp only[yo,hb,if_pos h]
  ·have hb:(g == f)=false:=beq_eq_false_iff_ne.mpr h;simp only[yo,hb,if_neg h]
 | (k,x)::r=>by
  have ih:=f9 f g v r;rw[show aL f v ((k,x)::r)=(if k=f then (k,v)::r else (k,x)::aL f v r) from rfl]
  by_cases hk:k=f
  ·rw[if_pos hk]
   by_cases h:g=k
   ·have hb:(g == k)=true:=beq_iff_eq.mpr h;simp only[yo,hb,if_pos (h.trans hk)]
   ·have hb:(g == k)=false:=beq_eq_false_iff_ne.mpr h;simp only[yo,hb,if_neg λe:g=f=>h (e.trans hk.symm)]
  ·rw[if_neg hk]
   by_cases h:g=k
   ·have hb:(g == k)=true:=beq_iff_eq.mpr h;simp only[yo,hb,if_neg λe:g=f=>hk (h.symm.trans e)]
   ·have hb:(g == k)=false:=beq_eq_false_iff_ne.mpr h;simp only[yo,hb];exact ih
theorem HS(f:Str)(v:V):∀fs:List (Str×V),f∈(aL f v fs).map (·.1)/\∀g,g∈fs.map (·.1)->g∈(aL f v fs).map (·.1)
 | []=>⟨by simp[aL],λg h=>by simp at h⟩
 | (k,x)::r=>by
  refine oA (HS f v r) λi1 i2=>?_;rw[show aL f v ((k,x)::r)=(if k=f then (k,v)::r else (k,x)::aL f v r) from rfl]
  by_cases hk:k=f
  ·rw[if_pos hk];subst hk;exact⟨by simp,λg h=>by simpa using h⟩
  ·rw[if_neg hk];refine⟨?_,λg h=>?_⟩
   ·rw[jd];exact eV _ i1
   ·rw[jd]at h ⊢;rcases cx.mp h with e | e
    ·exact cx.mpr (.inl e)
    ·exact eV _ (i2 g e)
theorem jN(f:Str)(v:V):∀fs:List (Str×V),(aL f v fs).length<=fs.length+1
 | []=>by simp[aL]
 | (k,x)::r=>by
  have ih:=jN f v r;rw[show aL f v ((k,x)::r)=(if k=f then (k,v)::r else (k,x)::aL f v r) from rfl]
  by_cases hk:k=f
  ·rw[if_pos hk,jv,jv];exact xd
  ·rw[if_neg hk,jv,jv];omega
theorem rH.some_of{v:V}{o:Option Value}(r:rH (some v) o):∃u,o=some u/\RelV v u:=by
 cases o with
 | none=>exact(show False from r).elim
 | some u=>exact⟨u,rfl,r⟩
theorem rH.none_of{o:Option Value}(r:rH none o):o=none:=by
 cases o with
 | none=>rfl
 | some u=>exact(show False from r).elim
theorem ads{v:V}{u:Value}(r:RelV v u):W.handedIn u=true:=by
 cases v with
 | aD=>cases (show u=gq from r);rfl
 | bl b=>cases (show u=uu b from r);rfl
 | int i=>obtain⟨t,e⟩:=(show ∃t,u=iW i t from r);cases e;rfl
 | str x=>obtain⟨t,e⟩:=(show ∃t,u=Ds x t from r);cases e;rfl
 | pP b=>obtain⟨t,e⟩:=(show ∃t,u=Value.bytes b t from r);cases e;rfl
 | tJ b=>obtain⟨t,e⟩:=(show ∃t,u=Pr b t from r);cases e;rfl
 | ref a=>cases (show u=ee a from r);rfl
 | ty n=>cases (show u=jz n from r);rfl
section
variable{P:Program}{w:World}{H H':Hp}{h h':Heap}{a C dx:Addr}{fs nQ:List (Str×V)}
theorem DN(aM:gz P w H h)(e:H a=some (.ins C dx fs)):∃mA,wX h a dx C mA/\(∀f,rH (fs.lookup f) (mA f))/\PySem.Within mA (fs.map (·.1))/\fs.length<=1000/\H dx=some (.own a):=by
 refine wG ((show h7 P w H h a (.ins C dx fs) from aM a _ e)) λd z ne ob aa=>?_;refine aJ aa λmA n r q=>?_;exact⟨mA,⟨ob,n,ne⟩,r,q,z,d⟩
end
structure eU(K:W.Frag)(C:Addr):Prop where
 pg:W.plainGet K C Str.empty=true
 hd:W.hasDictIn K C=true
 po:W.plainOver K C=true
 sa:W.findIn K (.ref C) "__setattr__" = some (some (.builtin "object.__setattr__"))
theorem eU.get{K:W.Frag}{C:Addr}(c:eU K C)(f:Str):W.plainGet K C f=true:=c.pg
def cq(K:W.Frag)(C:Addr)(f:Str):Prop:=W.findIn K (.ref C) f=some none
theorem cq.ajW{K:W.Frag}{C:Addr}{f:Str}(n:cq K C f):W.takerIn K C f=some none:=by
 unfold W.takerIn;rw[show W.findIn K (.ref C) f=some none from n];rfl
structure Con(K:W.Frag)(C:Addr)(f:Str)(v:V)(u:Value):Prop where
 at_:W.findIn K (.ref C) f=some (some u)
 rel:RelV v u
 get:W.specialIn K u "__get__" = some none
 cp:W.copiedNames.contains f=false
structure Meth(K:W.Frag)(C:Addr)(m:Str)(f:Addr):Prop where
 at_:W.findIn K (.ref C) m=some (some (.ref f))
 fn:W.isFn K (.ref f)=true
 kp:W.keepIn K (.ref f)=true
section
variable{X:Cx}{pins:List (Addr×Obj)}{σ:St}{H:Hp}{s:Shared}{a C dx:Addr}{fs:List (Str×V)}{f:Str}{v:V}{A:Around}{E:Value->Shared->Prop}
theorem PV{b:Bool}{Q:Value->Shared->Prop}(I:Inv X pins σ H s)(e:H a=some (.ins C dx fs))(c:eU X.K C)(n:cq X.K C f)(l:fs.lookup f=some v)
  (h:∀u s',Inv X pins σ H s'->RelV v u->Q u s'):wpAny (model X.prog X.w) A (getAttr (.ref a) f b) Q E s:=by
 refine wC (DN I.aM e) λmA O r _ _ _=>?_;obtain⟨u,hu,ru⟩:=rH.some_of (v:=v) (o:=mA f) (by rw[<-l];exact r f);exact get_map I.dX O (c.get f) c.hd n hu (ads ru) (h u _ (I.tok _) ru)
theorem Dh{m:Str}{g:Addr}{pl:Sem Bool}{Q:Value×List Value->Shared->Prop}(I:Inv X pins σ H s)(e:H a=some (.ins C dx fs))(c:eU X.K C)(k:Meth X.K C m g)(l:fs.lookup m=none)
  (h:Q (.ref g,[.ref a]) s):wpAny (model X.prog X.w) A (yz (.ref a) m pl) Q E s:=by
 refine wC (DN I.aM e) λmA O r _ _ _=>?_;have hn:mA m=none:=rH.none_of (by rw[<-l];exact r m);exact aeU I.dX O (c.get m) k.at_ k.fn hn h
theorem PC{y:V}{u:Value}{Q:Unit->Shared->Prop}(I:Inv X pins σ H s)(e:H a=some (.ins C dx fs))(c:eU X.K C)(n:cq X.K C f)(hl:fs.length<1000)(ry:RelV y u)
  (h:∀s',Inv X pins σ (upd H a (.ins C dx (aL f y fs))) s'->Q () s'):wpAny (model X.prog X.w) A (setAttr (.ref a) f u) Q E s:=by
 refine wC (DN I.aM e) λmA O r wi _ ho=>?_;have hz:(fs.map (·.1)).length<=aZ:=by rw[aN,iq];exact w4
 refine af7 I.dX O c.sa c.po n.ajW c.hd wi hz λh' O' sb=>h _ ?_;have hd:∃o,h'.get? dx=some o:=let ⟨o,_,_,e',_⟩:=O'.ns;⟨o,e'⟩
 refine I.write (x:=a) (e:=dx) (by rw[e];exact uw) (.inr ho) (λb q hb z=>(sb.2 b hb).trans z) hd ?_;refine⟨by rw[ar O.ne];exact ho,?_,O.ne,O'.obj,_,O'.ns,λg=>?_,λg hg=>?_⟩
 ·have:=jN f y fs;omega
 ·show rH ((aL f y fs).lookup g) (if g=f then some u else mA g);rw[f9]
  by_cases q:g=f
  ·rw[if_pos q,if_pos q];exact ry
  ·rw[if_neg q,if_neg q];exact r g
 ·by_cases q:g=f
  ·rw[q];exact(HS f y fs).1
  ·refine(HS f y fs).2 g (wi g λz=>hg ?_);show (if g=f then some u else mA g)=none;rw[if_neg q];exact z
theorem Inv.made(I:Inv X pins σ H s):Inv X pins σ (upd (upd H s.heap.objs.size (.own (s.heap.objs.size+1))) (s.heap.objs.size+1) (.ins C s.heap.objs.size []))
  {s with heap:=(s.heap.push W.emptyDict).push (W.instObj C s.heap.objs.size) }:=by
 have e1:(s.heap.push W.emptyDict).get? s.heap.objs.size=some W.emptyDict:=eO s.heap rfl
 have e2:((s.heap.push W.emptyDict).push (W.instObj C s.heap.objs.size)).get? (s.heap.objs.size+1)=some (W.instObj C s.heap.objs.size):=by
  have:=eO (s.heap.push W.emptyDict) (o:=W.instObj C s.heap.objs.size) rfl;rwa[lS]at this
 have e3:(s.heap.push W.emptyDict).Ns s.heap.objs.size (λ_=>none):=⟨W.emptyDict,#[],_,e1,rfl,(λe he=>absurd he (by simp)),λ_=>rfl⟩;have I1:=I.laid (a:=s.heap.objs.size) (o:=.own (s.heap.objs.size+1)) (h':=s.heap.push W.emptyDict) (t':=s.toks) (λb u q=>bj _ q) (aH _) ⟨_,e1⟩;refine I1.laid (a:=s.heap.objs.size+1) (o:=.ins C s.heap.objs.size []) (t':=s.toks) (λb u q=>bj _ q) (nY (lS _ _)) ?_;have ne:s.heap.objs.size≠s.heap.objs.size+1:=dZ (Ai _);refine⟨by rw[ar ne,aw],bU _,ne,e2,λ_=>none,(Heap.Ns1.of_empty e3).at λo q=>bj _ q,λ_=>uw,λy hy=>absurd rfl hy⟩
theorem ahR{prog:Program}{w:World}{env:Env}{e:Expr}{f:Str}{pos:Pos}{s:Shared}{Q:Value->Shared->Prop}(hb:CW e f env (eval e env)=eval e env)
  (h:wpAny (model prog w) A (eval e env) (λo s₁=>wpAny (model prog w) A (getAttr o f true) Q E s₁) E s):wpAny (model prog w) A (eval (.Attribute e f pos) env) Q E s:=
 Attribute_any_ h (by rw[arm_eval_Attribute,hb])
end
def Ly(K:W.Frag)(ta:TE)(f:Str):TE:=λσ H Q=>ta σ H λx H1=>∃a C dx fs v,x=.ref a/\H1 a=some (.ins C dx fs)/\eU K C/\cq K C f/\fs.lookup f=some v/\Q v H1
def al4(K:W.Frag)(ta tv:TE)(f:Str):TS:=λD σ H=>tv σ H λy H1=>ta σ H1 λx H2=>∃a C dx fs,x=.ref a/\H2 a=some (.ins C dx fs)/\eU K C/\cq K C f/\fs.length<1000/\
 D.nx σ (upd H2 a (.ins C dx (aL f y fs)))
def Vc(X:Cx)(op:Operator)(rd:V->V->Hp->VK->Prop):Prop:=
 ∀(pins:List (Addr×Obj)) (s:Shared) (σ:St) (H:Hp) (x y:V) (u v:Value) (Q:VK),Inv X pins σ H s->RelV x u->RelV y v->rd x y H Q->wpAny (model X.prog X.w) X.A (inplaceOp op u v) (EP X pins σ Q) X.xe s
def agm(K:W.Frag)(ta tv:TE)(rd:V->V->Hp->VK->Prop)(f:Str):TS:=λD σ H=>ta σ H λx H1=>∃a C dx fs v,x=.ref a/\H1 a=some (.ins C dx fs)/\eU K C/\cq K C f/\fs.lookup f=some v/\
 tv σ H1 λy H2=>rd v y H2 λz H3=>∃Cv nQ,H3 a=some (.ins C Cv nQ)/\nQ.length<1000/\D.nx σ (upd H3 a (.ins C Cv (aL f z nQ)))
section
variable{X:Cx}{o e value:Expr}{f:Str}{pos pos' wZ:Pos}{ta tv:TE}
theorem bo(he:PE X e ta)(hb:CW e f X.env (eval e X.env)=eval e X.env):PE X (.Attribute e f pos) (Ly X.K ta f):=by
 intro pins s σ H Q I h;refine ahR hb (aU (he pins s σ H _ I h) λu s1 ⟨x,H1,I1,rx,a,C,dx,fs,v,ex,ea,c,n,l,q⟩=>?_);subst ex;obtain rfl:u=ee a:=rx;exact PV I1 ea c n l λu' s2 I2 ru=>⟨v,H1,I2,ru,q⟩
theorem gH(ha:PE X o ta)(hv:PE X value tv)(hs:Ig value (some (.Attribute o f pos')) pos.line X.env=pure false):PS X (.Assign [.Attribute o f pos'] value pos) (al4 X.K ta tv f):=by
 intro pins s σ H D I h;refine plainObj_wpAny_Assign_Attribute (aU (hv pins s σ H _ I h) λu s1 ⟨y,H1,I1,ry,q⟩=>aU (ha pins s1 σ H1 _ I1 q) λov s2 ⟨x,H2,I2,rx,a,C,dx,fs,ex,ea,c,n,l,q2⟩=>?_) hs;subst ex;obtain rfl:ov=ee a:=rx;exact PC I2 ea c n l ry λs3 I3=>⟨σ,_,I3,q2⟩
theorem ac4{op:Operator}{rd:V->V->Hp->VK->Prop}(ha:PE X o ta)(hv:PE X value tv)(hop:Vc X op rd):PS X (.AugAssign (.Attribute o f wZ) op value pos) (agm X.K ta tv rd f):=by
 intro pins s σ H D I h;refine wpAny_AugAssign_AttributeAny (aU (ha pins s σ H _ I h) λov s1 ⟨x,H1,I1,rx,a,C,dx,fs,v,ex,ea,c,n,l,q⟩=>?_);subst ex;obtain rfl:ov=ee a:=rx;refine PV I1 ea c n l λu s2 I2 ru=>aU (hv pins s2 σ H1 _ I2 q) λw3 s3 ⟨y,H2,I3,ry,q3⟩=>aU (hop pins s3 σ H2 v y u w3 _ I3 ru ry q3) λw4 s4 ⟨z,H3,I4,rz,Cv,nQ,ea',l',q4⟩=>?_;exact PC I4 ea' c n l' rz λs5 I5=>⟨σ,_,I5,q4⟩
def al':V->V->Hp->VK->Prop:=λx y H Q=>∃i j,x=.int i/\y=.int j/\Q (.int (i+j)) H
theorem aiQ:Vc X .Add al':=by
 rintro pins s σ H x y u v Q I rx ry ⟨i,j,rfl,rfl,q⟩;refine oE ((show ∃t,u=iW i t from rx)) λt aa=>?_;subst aa;refine oE ((show ∃t',v=iW j t' from ry)) λt' aa=>?_;subst aa;exact PyProof.Rows.iadd_int ⟨.int (i+j),H,I.tok _,⟨_,rfl⟩,q⟩
end
section
variable{X:Cx}{pins:List (Addr×Obj)}{σ:St}{H:Hp}{s:Shared}{A:Around}{E:Value->Shared->Prop}{Q:Value->Shared->Prop}{c:Value}{b:Bool}
inductive iw (K:W.Frag) (H:Hp):V->Value->Prop where
 | aD:iw K H .aD (.type "NoneType")
 | bl (x:Bool):iw K H (.bl x) (.type "bool")
 | int (i:Int):iw K H (.int i) (.type "int")
 | str (x:Str):iw K H (.str x) (.type "str")
 | tJ (x:UInt64):iw K H (.tJ x) (.type "float")
 | lst {a:Addr} {xs:List V} (e:H a=some (.lst xs)):iw K H (.ref a) (.type "list")
 | nF {a:Addr} {o:Obj} {xs:List V} (e:H a=some (.nF o (.lst xs))):iw K H (.ref a) (.type "list")
 | tup {a:Addr} {xs:List V} (e:H a=some (.tup xs)):iw K H (.ref a) (.type "tuple")
 | dK {a:Addr} {ic:List (Key×V)} (e:H a=some (.dK ic)):iw K H (.ref a) (.type "dict")
 | dT {a:Addr} {ic:List (List Key×V)} (e:H a=some (.dT ic)):iw K H (.ref a) (.type "dict")
 | ins {a C dx:Addr} {fs:List (Str×V)} (e:H a=some (.ins C dx fs)) (cl:eU K C) (ha:W.findIn K (.ref C) "__class__" = some (some (.builtin "object.__class__")))
   (hn:W.specialIn K (.builtin "object.__class__") "__get__" = some (some (.builtin "getset_descriptor.__get__"))) (FG:W.takesIn K (.builtin "object.__class__")=some true)
   (hm:W.mroIn K C (.type "object")=some true):iw K H (.ref a) (.ref C)
theorem ado{x:V}{u t:Value}(I:Inv X pins σ H s)(rx:RelV x u)(ty:iw X.K H x t)(e:W.kitOne X.K t c=some b)(h:∀tk,Q (.bool b) { s with toks:=tk }) :
  wpAny (model X.prog X.w) A (call (.builtin "isinstance") [u,c]) Q E s:=by
 cases ty with
 | aD=>cases (show u=gq from rx);exact W.kia_one W.kitx_none I.dX uw e (λz=>nomatch z) h
 | bl y=>cases (show u=uu y from rx);exact W.kia_one W.kitx_bool I.dX uw e (λz=>nomatch z) h
 | int i=>obtain⟨t,q⟩:=(show ∃t,u=iW i t from rx);cases q;exact W.kia_one W.kitx_int I.dX uw e (λz=>nomatch z) h
 | str y=>obtain⟨t,q⟩:=(show ∃t,u=Ds y t from rx);cases q;exact W.kia_one W.kitx_str I.dX uw e (λz=>nomatch z) h
 | tJ y=>obtain⟨t,q⟩:=(show ∃t,u=Pr y t from rx);cases q;exact W.kia_one W.kitx_float I.dX uw e (λz=>nomatch z) h
 | @lst a xs ea=>
  cases (show u=ee a from rx);refine oA ((show h7 X.prog X.w H s.heap a (.lst xs) from I.aM a _ ea)) λ_ aa=>?_;refine bf aa λ_ n _ h1=>?_;exact W.kia_one W.kitx_list I.dX ⟨_,h1,rfl⟩ e (λz=>nomatch z) h
 | @nF a ob xs ea=>
  cases (show u=ee a from rx);refine iP ((show h7 X.prog X.w H s.heap a (.nF ob (.lst xs)) from I.aM a _ ea)) λ_ _ aa=>?_;refine bf aa λ_ n _ h1=>?_;exact W.kia_one W.kitx_list I.dX ⟨_,h1,rfl⟩ e (λz=>nomatch z) h
 | @tup a xs ea=>
  cases (show u=ee a from rx);refine oA ((show h7 X.prog X.w H s.heap a (.tup xs) from I.aM a _ ea)) λ_ aa=>?_;refine ag aa λ_ _ p=>?_;refine aJ p λo h1 h2 _=>?_;exact W.kia_one W.kitx_tuple I.dX ⟨o,h1,h2⟩ e (λz=>nomatch z) h
 | @dK a ic ea=>
  cases (show u=ee a from rx);refine iP ((show h7 X.prog X.w H s.heap a (.dK ic) from I.aM a _ ea)) λ_ _ aa=>?_;refine ag aa λvs _ p=>?_;refine ng p λo es ep h1 h2 _=>?_;exact W.kia_one W.kitx_dict I.dX ⟨o,h1,h2.1⟩ e (λz=>nomatch z) h
 | @dT a ic ea=>
  cases (show u=ee a from rx);refine iP ((show h7 X.prog X.w H s.heap a (.dT ic) from I.aM a _ ea)) λ_ _ aa=>?_;refine ag aa λxs _ aa=>?_;refine ng aa λo es ep h1 h2 _=>?_;exact W.kia_one W.kitx_dict I.dX ⟨o,h1,h2.1⟩ e (λz=>nomatch z) h
 | @ins a C dx fs ea cl ha hn FG hm=>
  cases (show u=ee a from rx);refine ag (DN I.aM ea) λmA O _=>?_;refine ag O.look λod J _=>?_;exact W.kia_one (W.kitx_own (cl.get _) cl.hd ha hn FG hm) I.dX J e (λz=>nomatch z) h
end
structure e8(k:Nat)(A:Around):Prop where
 hd:A.handled=none
 dp:A.depth+3*k+5<CS
 un:A.units+16*k+200<cLine
theorem e8.mono{j k:Nat}{A:Around}(r:e8 k A)(h:j<=k):e8 j A:=⟨r.hd,by have:=r.dp;omega,by have:=r.un;omega⟩
theorem e8.deeper{k:Nat}{A:Around}(r:e8 (k+1) A)(env:Env):e8 k (A.deeper env):=
 ⟨r.hd,by have:=r.dp;show A.depth+1+3*k+5<_;omega,by have:=r.un;show A.units+3+16*k+200<_;omega⟩
theorem acn{A:Around}{C:Addr}{us:List Value}{kw:List (Str×Value)}:(A.under (.builtin "type.__call__" ⟨.ref C::us,kw⟩)).depth=A.depth+1:=by
 first | rfl | simp[Pj,Code.weight,Code.isCreation,Code.isGuard,Code.isCaller,Code.frames,Code.isFrame,guardIds]
theorem acm{A:Around}{C:Addr}{us:List Value}{kw:List (Str×Value)}:(A.under (.builtin "type.__call__" ⟨.ref C::us,kw⟩)).units=A.units+1:=by
 first | rfl | simp[Pj,Code.cUnits,Code.frames,Code.isFrame]
theorem e8.make{k:Nat}{A:Around}(r:e8 (k+1) A)(C:Addr)(us:List Value)(kw:List (Str×Value)):e8 k (A.under (.builtin "type.__call__" ⟨.ref C::us,kw⟩)):=
 ⟨r.hd,by have:=r.dp;rw[acn];omega,by have:=r.un;rw[acm];omega⟩
theorem e8.depth{k:Nat}{A:Around}(r:e8 k A):A.depth<CS:=by have:=r.dp;omega
theorem e8.units{k:Nat}{A:Around}(r:e8 k A):A.units+64<cLine:=by have:=r.un;omega
abbrev UT:TA:=λ_ H Q=>Q [] H
abbrev aj3(ta:TE)(tr:TA):TA:=λσ H Q=>ta σ H λx H1=>tr σ H1 λxs H2=>Q (x::xs) H2
section
variable{X:Cx}{e:Expr}{es:List Expr}{te:TE}{t:TA}{pos:Pos}
theorem ai:PA X [] UT:=λ_ _ _ _ H Q I h=>Calls.spliced_nil ⟨[],H,I,.nil,h⟩
theorem ae(ha:PE X e te)(hr:PA X es t)(hs:cJ (e::es) X.env=(false,eval e X.env)::cJ es X.env:=by rfl):PA X (e::es) (aj3 te t):=by
 intro pos pins s σ H Q I h;rw[hs];show wpAny _ _ (spliced ((false,eval e X.env)::backTo pos (cJ es X.env))) _ _ s;refine Calls.spliced_cons (aU (ha pins s σ H _ I h) λu s1 ⟨x,H1,I1,r1,q1⟩=>?_);exact aU (hr pos pins s1 σ H1 _ I1 q1) λus s2 ⟨xs,H2,I2,r2,q2⟩=>⟨x::xs,H2,I2,.cons r1 r2,q2⟩
def alT(t:TA):TE:=λσ H Q=>t σ H λxs H1=>xs.length<=aZ/\∀p,H1 p=none->Q (.ref p) (upd H1 p (.tup xs))
def alY(t:TA):TE:=λσ H Q=>t σ H λxs H1=>xs.length<=aZ/\∀p,H1 p=none->Q (.ref p) (upd H1 p (.lst xs))
theorem fG{x1}(h:PA X es t):PE X (.Tuple es x1 pos) (alT t):=by
 intro pins s σ H Q I hq;refine wpAny_Tuple_spliced (aU (h pos pins s σ H _ I hq) λus s1 ⟨xs,H1,I1,r,z,q⟩=>⟨by rw[<-r.length];exact z,?_⟩);have hf:H1 s1.heap.objs.size=none:=I1.aM.fresh (aH _);refine⟨.ref s1.heap.objs.size,upd H1 s1.heap.objs.size (.tup xs),I1.laid (t':=s1.toks) (λb u e=>bj _ e) (aH _) ?_,rfl,q _ hf⟩;exact⟨z,us,r,⟨_,eO _ rfl,rfl,_,rfl⟩⟩
theorem eh(h:PA X es t):PE X (.List es pos) (alY t):=by
 intro pins s σ H Q I hq;refine wpAny_List_spliced (aU (h pos pins s σ H _ I hq) λus s1 ⟨xs,H1,I1,r,z,q⟩=>⟨by rw[<-r.length];exact z,?_⟩);have hf:H1 s1.heap.objs.size=none:=I1.aM.fresh (aH _);refine⟨.ref s1.heap.objs.size,upd H1 s1.heap.objs.size (.lst xs),I1.laid (t':=s1.toks) (λb u e=>bj _ e) (aH _) ?_,rfl,q _ hf⟩;exact⟨z,us,0,r,eO _ rfl⟩
end
abbrev Sp:=List V->Hp->VK->XK->Prop
abbrev nI:=List Env->Hp->Shared->XK->Value->Shared->Prop
structure wY(P:Program)(w:World)(K:W.Frag)(mg:Str->Option Value)(base:Heap)(A:Around)(outer:List Env)(s:Shared)(H:Hp):Prop where
 frames:A.frames=some outer
 mod:Mod K mg base
 bs:∀b o,base.get? b=some o->s.heap.get? b=some o/\H b=none
 ml:base.objs.size<=s.heap.objs.size
 l8:s.heap.FunFrames base outer
 rV:∀b∈iQ outer,H b=none
 aM:gz P w H s.heap
 bare:AllBare s.gens
def CE(outer:List Env)(P:Program)(w:World)(H:Hp)(s:Shared)(Q:VK)(u:Value)(s':Shared):Prop:=
 ∃v H',s'.os=s.os/\AllBare s'.gens/\Un (iQ outer) [] H H' s.heap s'.heap/\gz P w H' s'.heap/\RelV v u/\Q v H'
def CR(CX:nI)(outer:List Env)(P:Program)(w:World)(H:Hp)(s:Shared)(Q:VK)(E:XK)(r:Result)(s':Shared):Prop:=
 match r with
 | .ok (.ret u)=>CE outer P w H s Q u s'
 | .ok _=>False
 | .error e=>CX outer H s E e s'
structure ay(P:Program)(w:World)(K:W.Frag)(mg:Str->Option Value)(base:Heap)(CX:nI)(k:Nat)(f:Addr)(fd:aV)(ps:List Str)(sp:Sp):Prop where
 len:∀vs H Q E,sp vs H Q E->vs.length=ps.length
 run:∀(A:Around) (outer:List Env) (s:Shared) (H:Hp) (args:Args) (us:List Value) (vs:List V) (Q:VK) (E:XK),e8 k A->wY P w K mg base A outer s H->BindsTo s fd args (ps.zip us)->Vals vs us->sp vs H Q E->
  codeAny (model P w) A (.call (.ref f) args) (CR CX outer P w H s Q E) s
theorem wY.make{P:Program}{w:World}{K:W.Frag}{mg:Str->Option Value}{base:Heap}{A:Around}{outer:List Env}{s:Shared}{H:Hp}(e:wY P w K mg base A outer s H)(C:Addr)(us:List Value)(kw:List (Str×Value)) :
  wY P w K mg base (A.under (.builtin "type.__call__" ⟨.ref C::us,kw⟩)) outer s H:=⟨by first | exact e.frames | (simpa[Pj,Code.envs,Code.isFrame,pushEnvs]using e.frames),e.mod,e.bs,e.ml,e.l8,e.rV,e.aM,e.bare⟩
section
variable{X:Cx}{pins:List (Addr×Obj)}{σ:St}{H:Hp}{s s':Shared}
theorem Inv.LX(I:Inv X pins σ H s):wY X.prog X.w X.K X.mg X.base X.A X.stack s H:=
 ⟨I.ok.frames,I.ok.mod,I.bs,cH I.ok.ml I.sz,I.stack,I.DH,I.aM,I.bare⟩
theorem Inv.after{Q:VK}{u:Value}(I:Inv X pins σ H s)(h:CE X.stack X.prog X.w H s Q u s'):EP X pins σ Q u s':=by
 refine jh h λv H' os bare un aM r q=>?_;obtain⟨hh,g,d,t,os'⟩:=s';obtain rfl:os'=s.os:=os;exact⟨v,H',I.call (h':=hh) (g':=g) (d':=d) (t':=t) (ch:=[]) un aM bare λb z=>absurd z (by simp),r,q⟩
end
abbrev T5(sp:Sp)(dvs:List V)(E:XK)(t:TA):TE:=λσ H Q=>t σ H λvs H1=>sp (vs++dvs) H1 Q E
def Ks(C:Addr)(m:Str)(sp:Sp)(dvs:List V)(E:XK)(ta:TE)(t:TA):TE:=λσ H Q=>ta σ H λx H1=>∃a dx fs,x=.ref a/\H1 a=some (.ins C dx fs)/\fs.lookup m=none/\
 t σ H1 λvs H2=>sp (x::(vs++dvs)) H2 Q E
def aj1(C:Addr)(sp:Sp)(dvs:List V)(E:XK)(t:TA):TE:=λσ H Q=>t σ H λvs H1=>∀x dx,H1 x=none->H1 dx=none->dx≠x->
 sp (.ref x::(vs++dvs)) (upd (upd H1 dx (.own x)) x (.ins C dx [])) (λv H2=>v=.aD/\Q (.ref x) H2) E
def Binds(K:W.Frag)(fd:aV)(ps:List Str)(ds:List Value):Prop:=
 ∀(s:Shared) (us:List Value),K.In s.heap->(us++ds).length=ps.length->BindsTo s fd ⟨us,[]⟩ (ps.zip (us++ds))
theorem Binds.all{K:W.Frag}{fd:aV}{ps:List Str}(h:∀us:List Value,us.length=ps.length->sO fd ⟨us,[]⟩=pure (ps.zip us)):Binds K fd ps []:=λs us _ hl=>by
 rw[vS]at hl ⊢;exact .of_eq (h us hl)
def Passes(CX:nI)(X:Cx)(E:XK):Prop:=∀(pins:List (Addr×Obj)) (σ:St) (H:Hp) (s:Shared) (e:Value) (s':Shared),Inv X pins σ H s->CX X.stack H s E e s'->X.xe e s'
section
variable{X:Cx}{CX:nI}{k:Nat}{f C:Addr}{fd:aV}{ps:List Str}{sp:Sp}{dvs:List V}{ds:List Value}{E:XK}{x m:Str}{p pos apos:Pos}{e o:Expr}{es:List Expr}{ta:TE}{t:TA}
theorem A9{pins:List (Addr×Obj)}{σ:St}{H:Hp}{s:Shared}{Q:VK}{us:List Value}{vs:List V}(F:ay X.prog X.w X.K X.mg X.base CX k f fd ps sp)(hr:e8 k X.A)(hb:Binds X.K fd ps ds)(hd:Vals dvs ds)(hx:Passes CX X E)
  (I:Inv X pins σ H s) (r:Vals vs us) (h:sp (vs++dvs) H Q E):wpAny (model X.prog X.w) X.A (call (.ref f) us) (EP X pins σ Q) X.xe s:=by
 have r2:Vals (vs++dvs) (us++ds):=r.append hd;have hl:(us++ds).length=ps.length:=by rw[<-r2.length];exact F.len _ _ _ _ h
 refine yt (vV (F.run X.A X.stack s H ⟨us,[]⟩ (us++ds) (vs++dvs) Q E hr I.LX (hb s us I.dX hl) r2 h) λr s' hq=>?_);cases r with
 | error e=>exact hx pins σ H s e s' I hq
 | ok fl=>
  cases fl with
  | ret u=>exact I.after hq
  | next=>exact jP hq
  | brk=>exact jP hq
  | cont=>exact jP hq
theorem dg(F:ay X.prog X.w X.K X.mg X.base CX k f fd ps sp)(hr:e8 k X.A)(hg:Gl X x)(hm:X.mg x=some (.ref f))(hk:W.keepIn X.K (.ref f)=true)(hb:Binds X.K fd ps ds)(hd:Vals dvs ds)(hx:Passes CX X E)
  (ha:PA X (e::es) t) (mI:(x == ("__debug__" : Str))=false:=by decide) (he:cJ (e::es) X.env=(false,eval e X.env)::cJ es X.env:=by rfl) (dE:(backTo pos (cJ es X.env)).any (·.1)=false:=by rfl) :
  PE X (.Call (.Name x p) (e::es) [] pos) (T5 sp dvs E t):=by
 intro pins s σ H Q I h;refine Ae (wt I hg hm ?_ mI);refine W.callWith_K (h₀:=X.base) I.ok.mod.vm hk (aU (ha pos pins s σ H _ I h) λus s1 ⟨vs,H1,I1,r,q⟩=>⟨I1.dX,?_⟩) he dE;exact A9 F hr hb hd hx I1 r q
theorem gX{pl:Sem Bool}(he:PE X o ta)(c:eU X.K C)(hm:Meth X.K C m f)(F:ay X.prog X.w X.K X.mg X.base CX k f fd ps sp)(hr:e8 k X.A)(hb:Binds X.K fd ps ds)(hd:Vals dvs ds)(hx:Passes CX X E)(ha:PA X (e::es) t)
  (cD:cJ (e::es) X.env=(false,eval e X.env)::cJ es X.env:=by rfl) (dE:(backTo pos (cJ es X.env)).any (·.1)=false:=by rfl)
  (ht:eval (.Call (.Attribute o m apos) (e::es) [] pos) X.env=(do
   let ov <-eval o X.env
   standAt apos.atName
   let (f,first) <-holding [ov] (yz ov m pl)
   DE pos f first (backTo pos (cJ (e::es) X.env)) (AR pos (Av [] X.env))):=by rfl) :
  PE X (.Call (.Attribute o m apos) (e::es) [] pos) (Ks C m sp dvs E ta t):=by
 intro pins s σ H Q I h;refine W.methodCall_KW (pl:=pl) (aU (he pins s σ H _ I h) λu s1 ⟨x,H1,I1,rx,a,dx,fs,ex,ea,l,q⟩=>?_) ht;subst ex;obtain rfl:u=ee a:=rx;refine Dh I1 ea c hm l ?_;refine W.callWith_K (first:=[.ref a]) (h₀:=X.base) I.ok.mod.vm hm.kp (aU (ha pos pins s1 σ H1 _ I1 q) λus s2 ⟨vs,H2,I2,r,q2⟩=>⟨I2.dX,?_⟩) cD dE;exact A9 (us:=.ref a::us) (vs:=.ref a::vs) F hr hb hd hx I2 (.cons rfl r) q2
theorem mV{pl:Sem Bool}(he:PE X o ta)(c:eU X.K C)(hm:Meth X.K C m f)(F:ay X.prog X.w X.K X.mg X.base CX k f fd ps sp)(hr:e8 k X.A)(hb:Binds X.K fd ps ds)(hd:Vals dvs ds)(hx:Passes CX X E)
  (ht:eval (.Call (.Attribute o m apos) [] [] pos) X.env=(do
   let ov <-eval o X.env
   standAt apos.atName
   let (f,first) <-holding [ov] (yz ov m pl)
   DE pos f first (backTo pos (cJ [] X.env)) (AR pos (Av [] X.env))):=by rfl) :
  PE X (.Call (.Attribute o m apos) [] [] pos) (Ks C m sp dvs E ta UT):=by
 intro pins s σ H Q I h;refine W.methodCall_KW (pl:=pl) (aU (he pins s σ H _ I h) λu s1 ⟨x,H1,I1,rx,a,dx,fs,ex,ea,l,q⟩=>?_) ht;subst ex;obtain rfl:u=ee a:=rx;refine Dh I1 ea c hm l ?_;exact W.callWith_K0 (first:=[.ref a]) I1.dX hm.kp (A9 (us:=[.ref a]) (vs:=[.ref a]) F hr hb hd hx I1 (.cons rfl .nil) q)
structure Mk(K:W.Frag)(C f:Addr):Prop where
 makes:W.makesIn K C=true
 init:W.findIn K (.ref C) "__init__" = some (some (.ref f))
 fn:W.isFn K (.ref f)=true
 kp:W.keepIn K (.ref C)=true
theorem aeb{pins:List (Addr×Obj)}{σ:St}{H:Hp}{s:Shared}{Q:VK}{us:List Value}{vs:List V}(M:Mk X.K C f)(F:ay X.prog X.w X.K X.mg X.base CX k f fd ps sp)(hr:e8 (k+1) X.A)(hb:Binds X.K fd ps ds)(hd:Vals dvs ds)
  (hx:Passes CX X E) (I:Inv X pins σ H s) (r:Vals vs us)
  (h:∀x dx,H x=none->H dx=none->dx≠x->sp (.ref x::(vs++dvs)) (upd (upd H dx (.own x)) x (.ins C dx [])) (λv H2=>v=.aD/\Q (.ref x) H2) E) :
  wpAny (model X.prog X.w) X.A (call (.ref C) us) (EP X pins σ Q) X.xe s:=by
 have hq:=h (s.heap.objs.size+1) s.heap.objs.size (I.aM.fresh (lx _)) (I.aM.fresh (aH _)) (dZ (Ai _));have I2:=Inv.made (C:=C) I;have r2:Vals (V.ref (s.heap.objs.size+1)::(vs++dvs)) (ee (s.heap.objs.size+1)::(us++ds)):=.cons rfl (r.append hd)
 have hl:(ee (s.heap.objs.size+1)::us++ds).length=ps.length:=by
  have e:=r2.length;rw[F.len _ _ _ _ hq]at e;exact e.symm
 refine yt (aeM (f:=f) I.dX M.makes M.init (beq_iff_eq.mp M.fn) (vV (F.run _ X.stack _ _ ⟨ee (s.heap.objs.size+1)::us,[]⟩ (ee (s.heap.objs.size+1)::(us++ds)) _ _ E (hr.make C us []) (I2.LX.make C us []) (hb _ (ee (s.heap.objs.size+1)::us) I2.dX hl) r2 hq) λr s' xH=>?_));cases r with
 | error e=>exact hx pins σ _ _ e s' I2 xH
 | ok fl=>
  cases fl with
  | ret u=>
   refine jW (I2.after xH) λv H' I3 rv ev q3=>?_;subst ev;exact⟨rv,⟨V.ref (s.heap.objs.size+1),H',I3,rfl,q3⟩⟩
  | next=>exact jP xH
  | brk=>exact jP xH
  | cont=>exact jP xH
theorem q8(M:Mk X.K C f)(F:ay X.prog X.w X.K X.mg X.base CX k f fd ps sp)(hr:e8 (k+1) X.A)(hg:Gl X x)(hm:X.mg x=some (.ref C))(hb:Binds X.K fd ps ds)(hd:Vals dvs ds)(hx:Passes CX X E)
  (ha:PA X (e::es) t) (mI:(x == ("__debug__" : Str))=false:=by decide) (he:cJ (e::es) X.env=(false,eval e X.env)::cJ es X.env:=by rfl) (dE:(backTo pos (cJ es X.env)).any (·.1)=false:=by rfl) :
  PE X (.Call (.Name x p) (e::es) [] pos) (aj1 C sp dvs E t):=by
 intro pins s σ H Q I h;refine Ae (wt I hg hm ?_ mI);refine W.callWith_K (h₀:=X.base) I.ok.mod.vm M.kp (aU (ha pos pins s σ H _ I h) λus s1 ⟨vs,H1,I1,r,q⟩=>⟨I1.dX,?_⟩) he dE;exact aeb M F hr hb hd hx I1 r q
end
section
variable{X:Cx}{CX:nI}{k:Nat}{f C:Addr}{fd:aV}{ps ks:List Str}{sp:Sp}{E:XK}{x m:Str}{p pos apos Vm:Pos}{e o:Expr}{es:List Expr}{kws:List Keyword}{te ta:TE}{t tk:TA}{nm:Option Str}
structure aoK(K:W.Frag)(fd:aV)(ps ks:List Str)(g:List Value->List Value->List Value)(gV:List V->List V->List V):Prop where
 to:∀(s:Shared) (us ws:List Value),K.In s.heap->(g us ws).length=ps.length->BindsTo s fd ⟨us,ks.zip ws⟩ (ps.zip (g us ws))
 rel:∀{vs:List V} {us:List Value} {zs:List V} {ws:List Value},Vals vs us->Vals zs ws->Vals (gV vs zs) (g us ws)
variable{g:List Value->List Value->List Value}{gV:List V->List V->List V}
end
structure bc(N P:List Str)(sc:Scope):Prop where
 kind:sc.kind=.function
 co:sc.isCoroutine=false
 gen:sc.isGenerator=false
 nd:N.Nodup
 pre:N.take P.length=P
 par:∀x∈P,sc.names.lookup x=some .local\/sc.names.lookup x=some .cell
 air:∀y∈sc.names,y.2≠.free
theorem bz{N P:List Str}{sc:Scope}(a:sc.kind=.function:=by rfl)(b:sc.isCoroutine=false:=by rfl)(c:sc.isGenerator=false:=by rfl)(d:N.Nodup:=by decide +kernel)(e:N.take P.length=P:=by rfl)(f:∀x∈P,sc.names.lookup x=some .local\/ sc.names.lookup x=some .cell:=by decide +kernel)(g:∀y∈sc.names,y.2≠.free:=by decide +kernel):bc N P sc:=⟨a,b,c,d,e,f,g⟩
theorem QT{kindOf:Str->Option eX}{x:Str}:∀{binds:List (Str×Value)} {m:Str->Option Value},(∀v,(x,v)∉binds)->bindL kindOf binds m x=m x
 | [],_,_=>rfl
 | (n,v)::r,m,h=>by
  unfold bindL;rw[QT λw hw=>h w (eV _ hw)]
  split
  ·have:x≠n:=by rintro rfl;exact h v fX
   simp[this]
  ·rfl
theorem QV{kindOf:Str->Option eX}{x:Str}:∀{binds:List (Str×Value)} {m:Str->Option Value},(∀v,(x,v)∉binds)->bindC kindOf binds m x=m x
 | [],_,_=>rfl
 | (n,v)::r,m,h=>by
  unfold bindC;rw[QV λw hw=>h w (eV _ hw)]
  split
  ·rfl
  ·have:x≠n:=by rintro rfl;exact h v fX
   simp[this]
theorem QU{kindOf:Str->Option eX}{x:Str}{v:Value}:∀{P:List Str} {vs:List Value} {i:Nat} {m:Str->Option Value},P.Nodup->P[i]?=some x->vs[i]?=some v->kindOf x=some .local->
  bindL kindOf (P.zip vs) m x=some v
 | [],_,_,_,_,h,_,_=>by simp at h
 | _::_,[],_,_,_,_,h,_=>by simp at h
 | p::P,w::vs,0,m,nd,h1,h2,hk=>by
  simp at h1 h2;subst h1;subst h2;show bindL kindOf ((p,w)::P.zip vs) m p=_;unfold bindL;rw[QT λv hv=>(G6.mp nd).1 (OO hv).1,if_pos hk];simp
 | p::P,w::vs,i+1,m,nd,h1,h2,hk=>by
  show bindL kindOf ((p,w)::P.zip vs) m x=_;unfold bindL;exact QU (i:=i) (G6.mp nd).2 (by simpa using h1) (by simpa using h2) hk
theorem QW{kindOf:Str->Option eX}{x:Str}{v:Value}:∀{P:List Str} {vs:List Value} {i:Nat} {m:Str->Option Value},P.Nodup->P[i]?=some x->vs[i]?=some v->kindOf x≠some .local->
  bindC kindOf (P.zip vs) m x=some v
 | [],_,_,_,_,h,_,_=>by simp at h
 | _::_,[],_,_,_,_,h,_=>by simp at h
 | p::P,w::vs,0,m,nd,h1,h2,hk=>by
  simp at h1 h2;subst h1;subst h2;show bindC kindOf ((p,w)::P.zip vs) m p=_;unfold bindC;rw[QV λv hv=>(G6.mp nd).1 (OO hv).1,if_neg hk];simp
 | p::P,w::vs,i+1,m,nd,h1,h2,hk=>by
  show bindC kindOf ((p,w)::P.zip vs) m x=_;unfold bindC;exact QW (i:=i) (G6.mp nd).2 (by simpa using h1) (by simpa using h2) hk
def start(N:List Str)(vs:List V):St:=vs.map some++dH (N.length-vs.length) none
def lE(CX:nI)(P:Program)(w:World)(K:W.Frag)(mg:Str->Option Value)(base:Heap)(N:List Str)(qual:Str)(scope:Scope)(f:Addr)(cd:Value)(A:Around)(outer:List Env)(s:Shared)(H:Hp)(E:XK):Cx where
 prog:=P
 w:=w
 K:=K
 mg:=mg
 base:=base
 A:=A.deeper (envOfC qual scope s.heap.objs.size f cd)
 N:=N
 s₀:=s
 H₀:=H
 env:=envOfC qual scope s.heap.objs.size f cd
 outer:=outer
 stack:=envOfC qual scope s.heap.objs.size f cd::outer
 ex:=[]
 calm:=true
 fn:=λ_=>true
 pn:=[]
 xe:=λe s'=>wpAny (model P w) (A.deeper (envOfC qual scope s.heap.objs.size f cd)) (leaving (envOfC qual scope s.heap.objs.size f cd) e) (λ_ xw=>CX outer H s E e xw) (λe' xw=>CX outer H s E e' xw) s'
theorem RE{sc:Scope}{n:Nat}{x:Str}(h:sc.names.lookup x=some .cell):∃c,(cellsFrom n sc.names []).lookup x=some c:=by
 have q:=W.cellsFrom_some sc.names n [] (.inl h);exact Option.isSome_iff_exists.mp q
theorem adp{CX:nI}{P:Program}{w:World}{K:W.Frag}{mg:Str->Option Value}{base:Heap}{N ps:List Str}{qual:Str}{scope:Scope}{f:Addr}{cd:Value}{A:Around}{outer:List Env}{s s1:Shared}{H:Hp}{E:XK}{us:List Value}{vs:List V}
  (S:bc N ps scope) (hd:A.handled=none) (e0:wY P w K mg base A outer s H) (hl:vs.length=ps.length) (r:Vals vs us)
  (x:InCallC s s.heap.objs.size (bindL (envOfC qual scope s.heap.objs.size f cd).kindOf (ps.zip us) λ_=>none) (cellsFrom (s.heap.objs.size+1) scope.names []) (bindC (envOfC qual scope s.heap.objs.size f cd).kindOf (ps.zip us) λ_=>none) s1) :
  Inv (lE CX P w K mg base N qual scope f cd A outer s H E) [] (start N vs) H s1:=by
 have dE:ps.length<=N.length:=by have:=congrArg List.length S.pre;rw[gU]at this;omega
 refine bf x.done λh1 tk aa hk=>?_;subst aa;have sg:∀b:Addr,b∉(lE CX P w K mg base N qual scope f cd A outer s H E).ex:=λb z=>absurd (show b∈([]:List Addr) from z) (by simp);refine⟨⟨e0.mod,S.kind,rfl,rfl,aH _,λy z c h1 h2=>?_,λy hy=>?_,λy c _ h=>?_,λ_=>hd,Y4 e0.frames,.inr ⟨rfl,rfl⟩,λb z=>absurd z (sg b),e0.bs,e0.ml,λb _ _=>sg b,λb z=>absurd z (sg b),e0.l8,e0.rV⟩,rfl,e0.bare,Un.kept hk,⟨_,x.toInCall.ns,λi y v h1 h2 h3=>?_⟩,λy c h=>⟨_,x.cell y c h⟩,e0.aM.fresh (aH _),λy c h=>?_,λp hp=>absurd (show p∈([]:List (Addr×Obj)) from hp) (by simp),e0.aM.kept hk,?_⟩
 ·exact name_of_addr x.apart (PySem.mem_of_lookup h1) (PySem.mem_of_lookup h2)
 ·have hy:scope.names.lookup y=some .cell\/scope.names.lookup y=some .free:=hy;rcases hy with hy | hy
  ·exact RE hy
  ·exact absurd rfl (S.air _ (PySem.mem_of_lookup hy))
 ·exact cQ (x.above y c (PySem.mem_of_lookup h))
 ·have hi:i<vs.length:=by
   unfold start at h2
   by_cases hi:i<vs.length
   ·exact hi
   ·rw[CF (by simpa using hi)]at h2;rw[YJ]at h2
    split at h2 <;> cases h2
  have ha:vs[i]?=some v:=by
   unfold start at h2;rw[Oj (by simpa using hi),gC]at h2;cases e:vs[i]? with
   | none=>rw[e]at h2;cases h2
   | some a=>rw[e]at h2;cases h2;rfl
  refine ag (r.get ha) λu hu rv=>?_
  have hp:ps[i]?=some y:=by
   rw[<-S.pre,List.getElem?_take_of_lt wf];exact h1
  have WO:ps.Nodup:=by rw[<-S.pre];exact S.nd.sublist (Zv _ _)
  refine⟨u,rv,?_⟩;rcases S.par y (bb hp)with k | k
  ·exact .inl ⟨k,QU WO hp hu k⟩
  ·refine oE (RE (n:=s.heap.objs.size+1) k) λc e=>?_;refine .inr ⟨.inl k,c,e,?_⟩;have q:=x.cell y c e;rw[QW WO hp hu (by show scope.names.lookup y≠_;rw[k];decide)]at q;exact q
 ·exact e0.aM.fresh (cQ (x.above y c (PySem.mem_of_lookup h)))
 ·unfold start;show _=N.length;rw[eI,aN,Gp];omega
theorem uW{CX:nI}{P:Program}{w:World}{K:W.Frag}{mg:Str->Option Value}{base:Heap}{k:Nat}{f:Addr}{name qual:Str}{params:Arguments}{body:List Stmt}{scope:Scope}{dV kV doc pm aI ct oc:Value}{an od:Option Addr}
  {iB:Array (Option Value)} {N ps:List Str} {sp:Sp} (lk:K.lookup f=some ⟨oc,od,.func (W.fnOf name qual params body scope dV kV doc pm an aI ct),iB⟩) (iD:W.codeIn K aI qual=true) (S:bc N ps scope)
  (len:∀vs H Q E,sp vs H Q E->vs.length=ps.length)
  (tx:∀(A:Around) (outer:List Env) (s:Shared) (H:Hp) (vs:List V) (Q:VK) (E:XK),e8 k (A.deeper (envOfC qual scope s.heap.objs.size f aI))->sp vs H Q E->
   ∃t,eD (lE CX P w K mg base N qual scope f aI A outer s H E) body t/\t { nx:=λ_ H'=>Q .aD H',rt:=Q } (start N vs) H) :
  ay P w K mg base CX (k+1) f (W.fnOf name qual params body scope dV kV doc pm an aI ct) ps sp:=by
 refine⟨len,λA outer s H args us vs Q E hr e0 hb r pS=>?_⟩;have hl:=len _ _ _ _ pS;have KX:K.In s.heap:=e0.mod.vm.keeps λb o e=>(e0.bs b o e).1;have lim:s.heap.NoLimit:=e0.mod.nolimit.keeps λb o e=>(e0.bs b o e).1
 have alC:∀y∈ps.zip us,scope.names.lookup y.1=some .local\/(scope.names.lookup y.1=some .cell/\((cellsFrom (s.heap.objs.size+1) scope.names []).lookup y.1).isSome=true):=λ⟨n,v⟩ hy=>by
  rcases S.par n (OO hy).1 with q | q
  ·exact .inl q
  ·exact .inr ⟨q,W.cellsFrom_some _ _ _ (.inl q)⟩
 refine codeAny_call_function hr.depth (KX _ _ lk) rfl S.co S.gen rfl (W.codeRec_of KX iD) (hb _ _ _ _ ?_);refine wpAny_newFunctionEnv_cells S.kind alC λenv he s1 x=>?_;subst he;refine⟨lim.keeps x.toInCall.keep,codeAny_func ?_⟩;refine ag (tx A outer s H vs Q E (hr.deeper _) pS) λt ht hq=>?_;have I:Inv (lE CX P w K mg base N qual scope f aI A outer s H E) [] (start N vs) H s1:=adp S hr.hd e0 hl r x;refine jg (ht [] s1 (start N vs) H _ I hq) (λfl s' hs=>?_) λe s' hs=>hs
 have fin:∀{σ':St} {H':Hp} {v:V} {u:Value},Inv (lE CX P w K mg base N qual scope f aI A outer s H E) [] σ' H' s'->RelV v u->Q v H'->CE outer P w H s Q u s':=
  λ{σ' H' v u} J rv q=>⟨v,H',J.os,J.bare,J.base,J.aM,rv,q⟩
 cases fl with
 | ret u=>
  refine ng hs λv σ' H' J rv q=>?_;exact fin J rv q
 | next=>
  refine bf hs λσ' H' J q=>?_;exact fin (v:=V.aD) (u:=gq) J rfl q
 | brk=>
  refine bf hs λ_ _ _ q=>?_;exact jP q
 | cont=>
  refine bf hs λ_ _ _ q=>?_;exact jP q
section
variable{X:Cx}{x:Str}{p pos:Pos}{e:Expr}{es:List Expr}{t:TA}{id T:String}{r:List V->Hp->VK->Prop}
def VW(r:List V->Hp->VK->Prop)(t:TA):TE:=λσ H Q=>t σ H λvs H1=>r vs H1 Q
theorem cj(hc:kc X (.builtin id) r)(hg:Gl X x)(hm:X.mg x=none)(hv:sH x=some (.builtin id))(ha:PA X (e::es) t)(hn:x ≠ "__name__":=by decide)(mI:(x == ("__debug__" : Str))=false:=by decide)
  (he:cJ (e::es) X.env=(false,eval e X.env)::cJ es X.env:=by rfl) (dE:(backTo pos (cJ es X.env)).any (·.1)=false:=by rfl):PE X (.Call (.Name x p) (e::es) [] pos) (VW r t):=by
 intro pins s σ H Q I h;refine Ae (uO I hg hm hv ?_ hn mI);exact PyProof.Rows.callWith_builtin1 (aU (ha pos pins s σ H _ I h) λus s1 ⟨vs,H1,I1,r1,q1⟩=>hc pins s1 σ H1 vs us Q I1 r1 q1) he dE
theorem qX(hc:kc X (.type T) r)(hg:Gl X x)(hm:X.mg x=none)(hv:sH x=some (.type T))(ha:PA X (e::es) t)(hn:x ≠ "__name__":=by decide)(mI:(x == ("__debug__" : Str))=false:=by decide)
  (he:cJ (e::es) X.env=(false,eval e X.env)::cJ es X.env:=by rfl) (dE:(backTo pos (cJ es X.env)).any (·.1)=false:=by rfl):PE X (.Call (.Name x p) (e::es) [] pos) (VW r t):=by
 intro pins s σ H Q I h;refine Ae (uO I hg hm hv ?_ hn mI);exact CD (aU (ha pos pins s σ H _ I h) λus s1 ⟨vs,H1,I1,r1,q1⟩=>hc pins s1 σ H1 vs us Q I1 r1 q1) he dE
end
end L2
namespace HT
open PySem PyProof.Rows
section
open PySem.SeqAt
open PySem.AutoSeq1 (wpAny_loadPart')
open PySem.MeetsSeq PySem.MeetsSeq2 PySem.MeetsSeq3
end
section
variable{prog:Program}{w:World}{A:Around}{E:Value->Shared->Prop}{s:Shared}
def cb(n d:Nat):Option Int->Nat
 | none=>d
 | some v=>if v<0 then (v+(n:Int)).toNat else min v.toNat n
theorem Rf(n d:Nat):cb n d none=d:=rfl
theorem Se(n d k:Nat):cb n d (some (k:Int))=min k n:=by
 show (if (k:Int)<0 then ((k:Int)+(n:Int)).toNat else min (k:Int).toNat n)=min k n;rw[if_neg om,iG]
theorem aib(n d:Nat)(hd:d<=n)(o:Option Int):cb n d o<=n:=by
 cases o with
 | none=>exact hd
 | some v=>
  show (if v<0 then (v+(n:Int)).toNat else min v.toNat n)<=n
  by_cases hv:v<0
  ·rw[if_pos hv];omega
  ·rw[if_neg hv];exact Nat.min_le_right _ _
theorem SE(v:Int)(n d:Nat):(if v<0 then max (v+(n:Int)) 0 else min v (n:Int))=((cb n d (some v):Nat):Int):=by
 show (if v<0 then max (v+(n:Int)) 0 else min v (n:Int))=(((if v<0 then (v+(n:Int)).toNat else min v.toNat n):Nat):Int)
 by_cases hv:v<0
 ·simp only[if_pos hv];omega
 ·simp only[if_neg hv];omega
theorem acJ(lo hi:Option Int)(n:Nat):Ol lo hi 1 (n:Int)=(((cb n 0 lo:Nat):Int),((cb n n hi:Nat):Int)):=by
 have h1:¬((1:Int)<0):=om;unfold Ol;simp only[h1,if_false];refine Prod.ext ?_ ?_
 ·cases lo with
  | none=>rfl
  | some v=>exact SE v n 0
 ·cases hi with
  | none=>rfl
  | some v=>exact SE v n n
theorem ab9(i j:Nat):Gj (i:Int) (j:Int) 1=j-i:=by
 unfold Gj;have h1:(1:Int) > 0:=om;simp only[h1,if_true,Int.ediv_one]
 split <;> omega
theorem PB{v:Value}{o:Option Int}{Q:Option Int->Shared->Prop}(p:IsPart v o)(h:Q o s):wpAny (model prog w) A (Builtin.Slice.slicePartIndex v) Q E s:=by
 cases p with
 | none=>exact slicePart_none h
 | int i t=>exact slicePart_int h
theorem Zy{sl:Addr}{vl vu:Value}{lo hi:Option Int}{n:Nat}{Q:Int×Int×Nat->Shared->Prop}(hs:s.heap.IsSliceOf sl vl vu .none)(pl:IsPart vl lo)(pu:IsPart vu hi)
  (h:Q (((cb n 0 lo:Nat):Int),1,cb n n hi-cb n 0 lo) s):wpAny (model prog w) A (Yx (.ref sl) (pure (n:Int))) Q E s:=by
 obtain⟨os,xI,FZ,FY⟩:=id hs;unfold Yx Builtin.Slice.sliceFields;refine ah (ah (jy xI FY (x:=vl) rfl (ah (jy xI FY (x:=vu) rfl (ah (jy xI FY (x:=.none) rfl (aG ?_)))))));refine ah (slicePart_none ?_);show wpAny _ _ (if ((1:Int) == 0)=true then _ else _) _ _ s;rw[if_neg qc];refine ah (PB pl (ah (PB pu (ah (aG ?_)))));show wpAny _ _ (match Ol lo hi 1 (n:Int)with | (lo,hi)=>pure (lo,(1:Int),Gj lo hi 1)) _ _ s;rw[acJ lo hi n];show wpAny _ _ (pure (((cb n 0 lo:Nat):Int),(1:Int),Gj ((cb n 0 lo:Nat):Int) ((cb n n hi:Nat):Int) 1)) _ _ s;rw[ab9];exact aG h
theorem aef(xs:Array Value)(i k:Nat):((List.range k).filterMap λ(m:Nat)=>xs[((i:Int)+(m:Int)*1).toNat]?).toArray=((xs.toList.drop i).take k).toArray:=by
 have e:(λ(m:Nat)=>xs[((i:Int)+(m:Int)*1).toNat]?)=λm=>xs[i+m]?:=by
  funext m
  have:((i:Int)+(m:Int)*1).toNat=i+m:=om;rw[this]
 rw[e];have:=pick_run xs i k;rw[List.filterMap_map]at this;have e2:((λx=>xs[x]?) ∘ λx=>i+x)=λm=>xs[i+m]?:=rfl;rw[e2]at this;rw[this]
theorem Zj{t sl:Addr}{items:Array Value}{vl vu:Value}{lo hi:Option Int}{Q:Value->Shared->Prop}(ht:IsTup s.heap t items)(hs:s.heap.IsSliceOf sl vl vu .none)(pl:IsPart vl lo)(pu:IsPart vu hi)
  (hw:¬(cb items.size 0 lo=0/\cb items.size items.size hi=items.size))
  (h:Q (.ref s.heap.objs.size) { s with heap:=s.heap.push { cls:=.type "tuple",data:=.seq ((items.toList.drop (cb items.size 0 lo)).take (cb items.size items.size hi-cb items.size 0 lo)).toArray } })
  (eN:items.size<=aZ):wpAny (model prog w) A (getItem (.ref t) (.ref sl)) Q E s:=by
 have Eo:sizeOk (.seq ((items.toList.drop (cb items.size 0 lo)).take (cb items.size items.size hi-cb items.size 0 lo)).toArray):=by
  show ((items.toList.drop (cb items.size 0 lo)).take (cb items.size items.size hi-cb items.size 0 lo)).toArray.size<=aZ;rw[dF,gU,OH,lQ];omega
 have hj:cb items.size items.size hi<=items.size:=aib _ _ (aH _) hi;obtain⟨os,xI,FZ,FY⟩:=id hs;have hTs:s.TypeIs (.ref sl) "slice":=⟨os,xI,FZ⟩;unfold getItem
 try with_reducible refine nW ?_
 first | refine ah (aG ?_) | skip
 refine ah (wpAny_sequenceKey ht.typeIs qc ?_);refine ah (vN (name:=qR "__getitem__") ht.typeIs Og (sE Og ht.typeIs entry_tuple_getitem ?_ (args_tuple_getitem _ _)));show wpAny _ _ (Builtin.Tuple.tupleItemsOf (.ref t) >>= _) _ _ s;refine ah (tupleItemsOf_ ht ?_);refine ah (O8 hTs ?_);rw[if_pos qc];refine ah (Zy hs pl pu ?_)
 have fg:¬((((cb items.size 0 lo:Nat):Int) == 0&&(1:Int) == 1&&(cb items.size items.size hi-cb items.size 0 lo) == items.size)=true):=by
  intro q;rw[jc,jc]at q;have q1:((cb items.size 0 lo:Nat):Int)=0:=eq_of_beq q.1.1;have q2:cb items.size items.size hi-cb items.size 0 lo=items.size:=eq_of_beq q.2;exact hw ⟨om,om⟩
 show wpAny _ _ (if (((cb items.size 0 lo:Nat):Int) == 0&&(1:Int) == 1&&(cb items.size items.size hi-cb items.size 0 lo) == items.size)=true then _ else _) _ _ s;rw[if_neg fg,aef]
 first
  | exact ah (m:=Gk _) (pY (aG ⟨_,rfl,aG h⟩) Eo)
  | exact ah (m:=Gk _) (pY (ah (aG (aG ⟨_,rfl,aG h⟩))) Eo)
  | exact ah (ah (m:=Gk _) (pY (aG (aG ⟨_,rfl,aG h⟩)) Eo))
  | exact ah (ah (m:=Gk _) (pY (aG ⟨_,rfl,aG h⟩) Eo))
end
end HT
namespace L2
open PySem PySem.Spec PyProof.Rows
abbrev TO:=St->Hp->(Option Int->Hp->Prop)->Prop
def PO(X:Cx)(e:Option Expr)(t:TO):Prop:=
 ∀(pins:List (Addr×Obj)) (s:Shared) (σ:St) (H:Hp) (Q:Option Int->Hp->Prop),Inv X pins σ H s->t σ H Q->
  wpAny (model X.prog X.w) X.A (evalPart e X.env) (λu s'=>∃o H',Inv X pins σ H' s'/\IsPart u o/\Q o H') X.xe s
def af1:TO:=λ_ H Q=>Q none H
def ajY(t:TE):TO:=λσ H Q=>t σ H λx H1=>∃i,x=.int i/\Q (some i) H1
theorem intsAre_of{ns:List Int}:∀{us:List Value},Vals (ns.map V.int) us->IntsAre us ns:=by
 induction ns with
 | nil=>intro us r;rw[Pf]at r;cases r;exact .nil
 | cons n ns ih=>
  intro us r;rw[jd]at r;cases r with
  | cons r1 r2=>
   refine oE r1 λt e=>?_;subst e;exact .cons n t (ih r2)
section
variable{X:Cx}{e:Expr}{te:TE}{lo hi:Option Expr}{tl th:TO}{pos p2:Pos}
theorem yI:PO X none af1:=by
 intro pins s σ H Q I h;rw[evalPart_none];exact aG ⟨none,H,I,.none,h⟩
theorem yH(h:PE X e te):PO X (some e) (ajY te):=by
 intro pins s σ H Q I hw;rw[evalPart_some];refine aU (h pins s σ H _ I hw) λu s1 ⟨x,H1,I1,r1,q1⟩=>?_;refine ag q1 λi aa q=>?_;clear q1;subst aa;refine oE r1 λt aa=>?_;clear r1;subst aa;exact⟨some i,H1,I1,.int i t,q⟩
def E7(X:Cx)(r:V->Option Int->Option Int->Hp->VK->Prop):Prop:=
 ∀(pins:List (Addr×Obj)) (s:Shared) (σ:St) (H:Hp) (x:V) (v vl vu:Value) (lo hi:Option Int) (sl:Addr) (Q:VK),Inv X pins σ H s->RelV x v->s.heap.IsSliceOf sl vl vu .none->IsPart vl lo->IsPart vu hi->r x lo hi H Q->
  ∃T id,HF (.type T) "__getitem__" = pure (some (.builtin id))/\s.TypeIs v T/\wpAny (model X.prog X.w) X.A (getItem v (.ref sl)) (EP X pins σ Q) X.xe s
def tSl(r:V->Option Int->Option Int->Hp->VK->Prop)(te:TE)(tl th:TO):TE:=λσ H Q=>te σ H λx H1=>tl σ H1 λl H2=>th σ H2 λu H3=>r x l u H3 Q
theorem yA{r:V->Option Int->Option Int->Hp->VK->Prop}(hr:E7 X r)(he:PE X e te)(hl:PO X lo tl)(hu:PO X hi th):PE X (.Subscript e (.Slice lo hi none p2) pos) (tSl r te tl th):=by
 intro pins s σ H Q I h;refine Subscript_ (aU (he pins s σ H _ I h) λv s1 ⟨x,H1,I1,r1,q1⟩=>?_);refine wpAny_Slice (aU (hl pins s1 σ H1 _ I1 q1) λvl s2 ⟨l,H2,I2,pl,q2⟩=>aU (hu pins s2 σ H2 _ I2 q2) λvu s3 ⟨u,H3,I3,pu,q3⟩=>?_);rw[evalPart_none];refine aG ?_;have I4:Inv X pins σ H3 { s3 with heap:=s3.heap.push { cls:=.type "slice",data:=.fields #[vl,vu,.none] } }:=I3.kept (t':=s3.toks) λb ob q=>bj _ q;refine cF (hr pins { s3 with heap:=s3.heap.push { cls:=.type "slice",data:=.fields #[vl,vu,.none] } } σ H3 x v vl vu l u s3.heap.objs.size Q I4 r1 (Heap.IsSliceOf.new ..) pl pu q3) λT id hT ht hg=>?_;show wpAny (model X.prog X.w) X.A (subscriptTail e (.Slice lo hi none p2) v (.ref s3.heap.objs.size)) (EP X pins σ Q) X.xe { s3 with heap:=s3.heap.push { cls:=.type "slice",data:=.fields #[vl,vu,.none] } };exact tail_any (ops:=[.ref s3.heap.objs.size,v]) ht hT hg (by with_unfolding_all rfl)
def jC(xs:List V)(lo hi:Option Int):List V:=(xs.drop (HT.cb xs.length 0 lo)).take (HT.cb xs.length xs.length hi-HT.cb xs.length 0 lo)
theorem Pq(xs:List V)(lo hi:Option Int):(jC xs lo hi).length<=xs.length:=by
 unfold jC;rw[gU,OH];omega
def UY(K:W.Frag):V->Option Int->Option Int->Hp->VK->Prop:=λx lo hi H Q=>∃a xs,x=.ref a/\aF K H a xs/\
 ¬(HT.cb xs.length 0 lo=0/\HT.cb xs.length xs.length hi=xs.length)/\∀p,H p=none->Q (.ref p) (upd H p (.tup (jC xs lo hi)))
theorem JH:E7 X (UY X.K):=by
 intro pins s σ H x v vl vu lo hi sl Q I rx hs pl pu h;refine jW h λa xs aa hx hw q=>?_;clear h;subst aa;cases rx;refine aJ (I.tuple hx) λau r ht hz=>?_;have hlen:au.toArray.size=xs.length:=by rw[dF];exact r.length.symm
 refine⟨"tuple",_,Og.lookup,ht.typeIs,?_⟩;refine HT.Zj ht hs pl pu (by rw[hlen];exact hw) ?_ (by rw[hlen];exact hz);rw[hlen];refine⟨.ref s.heap.objs.size,_,I.laid (t':=s.toks) (o:=.tup (jC xs lo hi)) (λb ob q=>bj _ q) (aH _) ?_,rfl,q _ (I.aM.fresh (aH _))⟩;exact⟨cH (Pq xs lo hi) hz,_,(r.drop (HT.cb xs.length 0 lo)).take (HT.cb xs.length xs.length hi-HT.cb xs.length 0 lo),IsTup.new _ _⟩
end
def qB(n:Nat)(i:Int):Option Nat:=if 0<=i then (if i<n then some i.toNat else none) else if -(n:Int)<=i then some (i+n).toNat else none
def jr{α:Type}(xs:List α)(i:Int):Option α:=(qB xs.length i).bind λj=>xs[j]?
theorem Js{n:Nat}{i:Int}{j:Nat}(h:qB n i=some j):Dr i n=some j/\j<n/\-(n:Int)<=i/\i<n:=by
 unfold qB at h
 by_cases h0:0<=i
 ·rw[if_pos h0]at h
  by_cases h1:i<n
  ·rw[if_pos h1]at h;have e:i.toNat=j:=gn h;exact⟨by rw[seqIndex_of h0 h1,e],om,om,h1⟩
  ·rw[if_neg h1]at h;cases h
 ·rw[if_neg h0]at h
  by_cases h1:-(n:Int)<=i
  ·rw[if_pos h1]at h;have e:(i+n).toNat=j:=gn h;exact⟨by rw[O9 om h1,e],om,h1,om⟩
  ·rw[if_neg h1]at h;cases h
theorem SG{α:Type}{xs:List α}{i:Int}{v:α}(h:jr xs i=some v):∃j,Dr i xs.length=some j/\xs[j]?=some v/\j<xs.length/\-(xs.length:Int)<=i/\i<xs.length:=by
 unfold jr at h;cases e:qB xs.length i with
 | none=>rw[e]at h;cases h
 | some j=>
  rw[e]at h;refine tE (Js e) λh1 h2 h3 h4=>?_;exact⟨j,h1,h,h2,h3,h4⟩
theorem cR{α:Type}{xs:List α}{j:Nat}{v:α}(h:xs[j]?=some v):jr xs (j:Int)=some v:=by
 have hj:j<xs.length:=(eK.mp h).1
 have e:qB xs.length (j:Int)=some j:=by
  unfold qB;rw[if_pos om,if_pos om];simp
 unfold jr;rw[e];exact h
theorem DC{α:Type}(xs:List α)(v:α):jr (xs++[v]) (-1)=some v:=by
 have hl:(xs++[v]).length=xs.length+1:=by simp
 have e:qB (xs++[v]).length (-1)=some xs.length:=by
  unfold qB;rw[hl,if_neg qc,if_pos om]
  congr 1
  omega
 unfold jr;rw[e];show (xs++[v])[xs.length]?=some v;simp
def ahT(b:Expr):Prop:=∀o i,subscripted b false o i=operate [o,i] (getItem o i)
def BL(X:Cx)(r:R2):Prop:=
 ∀(value slice:Expr) (pins:List (Addr×Obj)) (s:Shared) (σ:St) (H:Hp) (x y:V) (v u:Value) (Q:VK),Inv X pins σ H s->RelV x v->RelV y u->r x y H Q->
  subscripted slice false v u=operate [v,u] (getItem v u)->wpAny (model X.prog X.w) X.A (subscriptTail value slice v u) (EP X pins σ Q) X.xe s
def V5(X:Cx)(id:String)(r:V->List V->Hp->VK->Prop):Prop:=
 ∀(pins:List (Addr×Obj)) (s:Shared) (σ:St) (H:Hp) (x:V) (xs:List V) (v:Value) (us:List Value) (Q:VK),Inv X pins σ H s->RelV x v->Vals xs us->r x xs H Q->
  wpAny (model X.prog X.w) X.A (call (.builtin id) (v::us)) (EP X pins σ Q) X.xe s
section
variable{X:Cx}{a b:Expr}{ta tb:TE}{pos:Pos}
theorem ax{r:R2}(hr:BL X r)(ha:PE X a ta)(hb:PE X b tb)(hs:ahT b:=by intro _ _;rfl):PE X (.Subscript a b pos) (tI r ta tb):=by
 intro pins s σ H Q I h;exact Subscript_ (L1 ha hb I h λv u s2 x y H2 I2 rx ry q=>hr a b pins s2 σ H2 x y v u Q I2 rx ry q (hs _ _))
def wU(K:W.Frag):R2:=λx y H Q=>∃p xs i v,x=.ref p/\y=.int i/\aq K H p xs/\jr xs i=some v/\Q v H
def vc(K:W.Frag):R2:=λx y H Q=>∃p xs i v,x=.ref p/\y=.int i/\aF K H p xs/\jr xs i=some v/\Q v H
theorem aP:BL X (wU X.K):=by
 intro value slice pins s σ H x y v u Q I rx ry h hs;refine q9 h λp xs i z aa aX=>?_;clear h;subst aa;refine tE aX λaa hq he q=>?_;clear aX;subst aa;cases rx;refine oE ry λt aa=>?_;clear ry;subst aa;refine aJ (I.list hq) λau r pl hz=>?_;refine wC (SG he) λj h1 h2 h3 h4 h5=>?_;refine ag (r.get h2) λw ew mw=>?_;have hl:=r.length;have hn:=rh;have fin:EP X pins σ Q w s:=⟨z,H,I,mw,q⟩
 by_cases h0:0<=i
 ·have hj:i.toNat=j:=by
   rw[seqIndex_of h0 h5]at h1;exact gn h1
  exact item_listR pl.isList h0 om (by rw[hj];simpa using ew) fin hs
 ·have hj:(i+(au.toArray.size:Int)).toNat=j:=by
   rw[O9 om h4]at h1;rw[dF,<-hl];exact gn h1
  exact YO (x:=w) pl.isList.typeIs slot_list_getitem.lookup
   (wpAny_getItem_list_neg (Q:=λr s'=>r=w/\EP X pins σ Q r s') pl.isList om (by rw[dF] <;> omega) om (by rw[hj];simpa using ew) ⟨rfl,fin⟩) hs
theorem a8:BL X (vc X.K):=by
 intro value slice pins s σ H x y v u Q I rx ry h hs;refine q9 h λp xs i z aa aX=>?_;clear h;subst aa;refine tE aX λaa hq he q=>?_;clear aX;subst aa;cases rx;refine oE ry λt aa=>?_;clear ry;subst aa;refine aJ (I.tuple hq) λau r pl hz=>?_;refine wC (SG he) λj h1 h2 h3 h4 h5=>?_;refine ag (r.get h2) λw ew mw=>?_;have hl:=r.length;have hn:=rh;have fin:EP X pins σ Q w s:=⟨z,H,I,mw,q⟩
 exact YO (x:=w) pl.typeIs slot_tuple_getitem.lookup
  (getItem_tuple (j:=j) (Q:=λr s'=>r=w/\EP X pins σ Q r s') pl om om (by rw[dF,<-hl];exact h1) (by simpa using ew) ⟨rfl,fin⟩) hs
theorem ack(au:List Value)(n j:Nat)(u:Value):jO (·.setIfInBounds j u) { cls:=.type "list",data:=.seq au.toArray n }={ cls:=.type "list",data:=.seq (au.set j u).toArray n }:=by
 simp[jO]
theorem Inv.lst{pins:List (Addr×Obj)}{σ:St}{H:Hp}{s:Shared}{p:Addr}{xs:List V}(I:Inv X pins σ H s)(h:H p=some (.lst xs)) :
  ∃(au:List Value) (n:Nat),Vals xs au/\s.heap.get? p=some { cls:=.type "list",data:=.seq au.toArray n }/\xs.length<=aZ:=by
 refine oA (I.aM p _ h) λz aa=>?_;refine bf aa λau n r e=>?_;exact⟨au,n,r,e,z⟩
theorem Inv.aiD{pins:List (Addr×Obj)}{σ:St}{H:Hp}{s:Shared}{p:Addr}{xs ys:List V}{au lI:List Value}{n n':Nat}{f:Obj->Obj}(I:Inv X pins σ H s)(h:H p=some (.lst xs))
  (ho:s.heap.get? p=some { cls:=.type "list",data:=.seq au.toArray n }) (hf:f { cls:=.type "list",data:=.seq au.toArray n }={ cls:=.type "list",data:=.seq lI.toArray n' }) (r:Vals ys lI) (hz:ys.length<=aZ) (t:Nat) :
  Inv X pins σ (upd H p (.lst ys)) { s with heap:=s.heap.update p f,toks:=t }:=by
 have e:(s.heap.update p f).get? p=some { cls:=.type "list",data:=.seq lI.toArray n' }:=by
  rw[sv f ho (by rw[hf] <;> rfl),hf]
 refine I.write (x:=p) (e:=p) (by rw[h];trivial) (.inl rfl) (λb u hb q=>(x8 _ _ (fw hb)).trans q) ⟨_,e⟩ ?_;exact⟨hz,lI,n',r,e⟩
def aka:V->V->V->Hp->(Hp->Prop)->Prop:=λo i v H Q=>∃p xs k j,o=.ref p/\i=.int k/\H p=some (.lst xs)/\qB xs.length k=some j/\Q (upd H p (.lst (xs.set j v)))
theorem set_list:L6 X aka:=by
 intro pins s σ H o i v ov iv u Q I ro ri rv h;refine q9 h λp xs k j aa aX=>?_;clear h;subst aa;refine tE aX λaa hp hj q=>?_;clear aX;subst aa;cases ro;refine oE ri λt aa=>?_;clear ri;subst aa;refine cF (I.lst hp) λau n r ho hz=>?_;refine tE (Js hj) λh1 h2 h3 h4=>?_;have hl:=r.length;have hn:=rh
 have I':Inv X pins σ (upd H p (.lst (xs.set j v))) { s with heap:=s.heap.update p (jO (·.setIfInBounds j u)) }:=
  I.aiD hp ho (ack au n j u) (r.set rv j) (by rw[lR];exact hz) s.toks
 by_cases h0:0<=k
 ·have hk:k.toNat=j:=by
   rw[seqIndex_of h0 h4]at h1;exact gn h1
  exact W.ki_setAt ho h0 om (by rw[dF,<-hl];exact h4) (by rw[hk];exact⟨_,I',q⟩)
 ·have hk:(k+(au.toArray.size:Int)).toNat=j:=by
   rw[O9 om h3]at h1;rw[dF,<-hl];exact gn h1
  exact W.ki_setBack ho om (by rw[dF,<-hl];exact h3) om (by rw[hk];exact⟨_,I',q⟩)
theorem aa4(lo hi:Option Int)(n:Nat):(yn lo hi none n).1=((HT.cb n 0 lo:Nat):Int)/\(yn lo hi none n).2.1=((HT.cb n n hi:Nat):Int)/\(yn lo hi none n).2.2=1:=by
 refine⟨?_,?_,rfl⟩
 ·cases lo with
  | none=>simp[yn,HT.cb]
  | some i=>
   simp only[yn,HT.cb,Option.getD_none,show (1:Int) > 0 by decide,if_true]
   by_cases h:i<0
   ·simp only[h,if_true] <;> omega
   ·simp only[h,if_false] <;> omega
 ·cases hi with
  | none=>simp[yn,HT.cb]
  | some i=>
   simp only[yn,HT.cb,Option.getD_none,show (1:Int) > 0 by decide,if_true]
   by_cases h:i<0
   ·simp only[h,if_true] <;> omega
   ·simp only[h,if_false] <;> omega
theorem aas(au:List Value)(lo hi:Option Int):slicePick au.toArray lo hi none=((au.drop (HT.cb au.length 0 lo)).take (HT.cb au.length au.length hi-HT.cb au.length 0 lo)).toArray:=by
 refine iP (aa4 lo hi au.toArray.size) λh1 h2 h3=>?_;unfold slicePick;rw[h1,h2,h3];simp only[sliceRange_one,pick_run,dF] <;> rfl
def al5(K:W.Frag):V->Option Int->Option Int->Hp->VK->Prop:=λx lo hi H Q=>∃a xs,x=.ref a/\aq K H a xs/\∀p,H p=none->Q (.ref p) (upd H p (.lst (jC xs lo hi)))
theorem RX:E7 X (al5 X.K):=by
 intro pins s σ H x v vl vu lo hi sl Q I rx hs pl pu h;refine cF h λa xs aa hx q=>?_;clear h;subst aa;cases rx;refine aJ (I.list hx) λau r ht hz=>?_;have hlen:=r.length;refine⟨"list",_,slot_list_getitem.lookup,ht.isList.typeIs,?_⟩;refine wpAny_getItem_list_slice ht.isList hs pl pu .none (by simp) ?_ (by rw[dF] <;> omega);rw[aas,<-hlen];refine⟨.ref s.heap.objs.size,_,I.laid (t':=s.toks) (o:=.lst (jC xs lo hi)) (λb ob q=>bj _ q) (aH _) ?_,rfl,q _ (I.aM.fresh (aH _))⟩;exact⟨cH (Pq xs lo hi) hz,_,0,(r.drop (HT.cb xs.length 0 lo)).take (HT.cb xs.length xs.length hi-HT.cb xs.length 0 lo),eO _ rfl⟩
def tj:V->Bool
 | .aD=>true
 | .bl _=>true
 | .int _=>true
 | .str _=>true
 | _=>false
def oN:V->V->Bool
 | .aD,.aD=>true
 | .bl a,.bl b=>a == b
 | .bl a,.int b=>(if a then 1 else 0) == b
 | .int a,.bl b=>a == (if b then 1 else 0)
 | .int a,.int b=>a == b
 | .str a,.str b=>a == b
 | _,_=>false
theorem ai5{A:Around}{s:Shared}{y x:V}{u v:Value}(ry:RelV y u)(rx:RelV x v)(fy:tj y=true)(fx:tj x=true):jA A s u v (oN y x):=by
 cases y with
 | aD=>
  cases ry;cases x with
  | aD=>cases rx;exact jA.same _
  | bl b=>cases rx;exact jA.none_bool b
  | int b=>obtain⟨t,rfl⟩:=rx;exact jA.none_int b t
  | str b=>obtain⟨t,rfl⟩:=rx;exact jA.none_str b t
  | _=>exact absurd (show false=true from fx) dG
 | bl a=>
  cases ry;cases x with
  | aD=>cases rx;exact jA.bool_none a
  | bl b=>cases rx;exact jA.bool_bool a b
  | int b=>obtain⟨t,rfl⟩:=rx;exact jA.bool_int a b t
  | str b=>obtain⟨t,rfl⟩:=rx;exact jA.bool_str a b t
  | _=>exact absurd (show false=true from fx) dG
 | int a=>
  obtain⟨t',rfl⟩:=ry;cases x with
  | aD=>cases rx;exact jA.int_none a t'
  | bl b=>cases rx;exact jA.int_bool a t' b
  | int b=>obtain⟨t,rfl⟩:=rx;exact jA.int_int a t' b t
  | str b=>obtain⟨t,rfl⟩:=rx;exact Ze a t' b t
  | _=>exact absurd (show false=true from fx) dG
 | str a=>
  obtain⟨t',rfl⟩:=ry;cases x with
  | aD=>cases rx;exact jA.str_none a t'
  | bl b=>cases rx;exact jA.str_bool a t' b
  | int b=>obtain⟨t,rfl⟩:=rx;exact Zd a t' b t
  | str b=>obtain⟨t,rfl⟩:=rx;exact jA.str_str a t' b t
  | _=>exact absurd (show false=true from fx) dG
 | _=>exact absurd (show false=true from fy) dG
def tO(x:V)(u:Value):Bool:=match u with
 | .none=>oN .aD x
 | .bool b=>oN (.bl b) x
 | .int i _=>oN (.int i) x
 | .str z _=>oN (.str z) x
 | _=>false
theorem TF{x y:V}{u:Value}(r:RelV y u)(f:tj y=true):tO x u=oN y x:=by
 cases y with
 | aD=>cases r;rfl
 | bl b=>cases r;rfl
 | int i=>obtain⟨t,rfl⟩:=r;rfl
 | str z=>obtain⟨t,rfl⟩:=r;rfl
 | _=>exact absurd (show false=true from f) dG
theorem JA{x:V}:∀{xs:List V} {us:List Value},Vals xs us->xs.all tj=true->us.any (tO x)=xs.any λy=>oN y x
 | _,_,.nil,_=>rfl
 | y::xs,u::us,.cons r t,f=>by
  rw[yh,jc]at f;rw[yg,yg,TF r f.1,JA t f.2]
theorem IG{A:Around}{s:Shared}{x:V}{v:Value}(rx:RelV x v)(fx:tj x=true):∀{xs:List V} {us:List Value},Vals xs us->xs.all tj=true->∀u∈us,jA A s u v (tO x u)
 | _,_,.nil,_=>λu hu=>by cases hu
 | y::xs,u::us,.cons r t,f=>λu' hu=>by
  rw[yh,jc]at f;rcases cx.mp hu with rfl | hu
  ·rw[TF r f.1];exact ai5 r rx f.1 fx
  ·exact IG rx fx t f.2 u' hu
def nE(x:V)(xs:List V):Bool:=xs.any λy=>oN y x
def rIn(K:W.Frag)(neg:Bool):R2:=λx y H Q=>∃p xs,y=.ref p/\(aq K H p xs\/aF K H p xs)/\tj x=true/\xs.all tj=true/\Q (.bl (if neg then !nE x xs else nE x xs)) H
theorem Hn:ff X (jQ .NotIn) (rIn X.K true):=by
 intro pins s σ H x y v u Q I rx ry h;obtain⟨p,xs,aa,hq,fx,fs,q⟩:=h;subst aa;cases ry;rcases hq with hq | hq
 ·refine aJ (I.list hq) λau r pl hz=>?_;refine SeqAt.notIn_listAt (tO x) pl.isList (λw hw=>IG rx fx r fs w (by simpa using hw)) ⟨.bl _,H,I,rfl,?_⟩;rw[show au.toArray.any (tO x)=au.any (tO x) by simp,JA r fs];exact q
 ·refine aJ (I.tuple hq) λau r pl hz=>?_;refine SeqAt.notIn_tupleAt (tO x) pl (λw hw=>IG rx fx r fs w (by simpa using hw)) ⟨.bl _,H,I,rfl,?_⟩;rw[show au.toArray.any (tO x)=au.any (tO x) by simp,JA r fs];exact q
theorem fv:kc X (.builtin "len") (λxs H Q=>∃p ys,xs=[.ref p]/\(aq X.K H p ys\/aF X.K H p ys)/\Q (.int ys.length) H):=by
 intro pins s σ H xs us Q I r h;obtain⟨p,ys,rfl,hq,q⟩:=h;obtain⟨u,rfl,rx⟩:=vals1 r;cases rx;have hn:=rh;rcases hq with hq | hq
 ·obtain⟨au,r',pl,hz⟩:=I.list hq;have hlen:=r'.length;exact Calls.call_len_list pl.isList (by simp only[dF] <;> omega) ⟨.int ys.length,H,I.tok _,⟨s.toks+1,by rw[dF,hlen]⟩,q⟩
 ·obtain⟨au,r',pl,hz⟩:=I.tuple hq;have hlen:=r'.length;exact len_tuple pl (by simp only[dF] <;> omega) ⟨.int ys.length,H,I.tok _,⟨s.toks+1,by rw[dF,hlen]⟩,q⟩
theorem CZ:kc X (.type "list") (λxs H Q=>∃p ys,xs=[.ref p]/\(aq X.K H p ys\/aF X.K H p ys)/\∀l,H l=none->Q (.ref l) (upd H l (.lst ys))):=by
 intro pins s σ H xs us Q I r h;obtain⟨p,ys,rfl,hq,q⟩:=h;obtain⟨u,rfl,rx⟩:=vals1 r;cases rx
 have fin:∀(au:List Value),Vals ys au->ys.length<=aZ->∀(h':Heap) (c':Nat),(∀b o',s.heap.get? b=some o'->h'.get? b=some o')->
   h'.get? s.heap.objs.size=some { cls:=.type "list",dict:=none,data:=.seq au.toArray c',slots:=#[] }->EP X pins σ Q (.ref s.heap.objs.size) { s with heap:=h' }:=λau r' hz h' c' kp e=>
  ⟨.ref s.heap.objs.size,_,I.laid (t':=s.toks) kp (aH _) (show h7 X.prog X.w _ h' _ (.lst ys) from ⟨hz,au,c',r',e⟩),rfl,q _ (I.aM.fresh (aH _))⟩
 rcases hq with hq | hq
 ·obtain⟨au,r',pl,hz⟩:=I.list hq;have hlen:=r'.length;obtain⟨o,ho,hc,n,hd⟩:=pl.isList;exact call_list_seq p (.inl rfl) ho hc hd (λh' c' kp e=>fin au r' hz h' c' kp e) (by simp only[dF] <;> omega)
 ·obtain⟨au,r',pl,hz⟩:=I.tuple hq;have hlen:=r'.length;obtain⟨o,ho,hc,n,hd⟩:=pl;exact call_list_seq p (.inr rfl) ho hc hd (λh' c' kp e=>fin au r' hz h' c' kp e) (by simp only[dF] <;> omega)
theorem Am:kc X (.type "tuple") (λxs H Q=>∃p ys,xs=[.ref p]/\((aq X.K H p ys/\∀l,H l=none->Q (.ref l) (upd H l (.tup ys)))\/(aF X.K H p ys/\Q (.ref p) H))):=by
 intro pins s σ H xs us Q I r h;obtain⟨p,ys,rfl,h⟩:=h;obtain⟨u,rfl,rx⟩:=vals1 r;cases rx;rcases h with ⟨hq,q⟩ | ⟨hq,q⟩
 ·obtain⟨au,r',pl,hz⟩:=I.list hq;have hlen:=r'.length;refine call_tuple_list pl.isList (λh' kp=>?_) (by simp only[dF] <;> omega);have I1:Inv X pins σ H { s with heap:=h' }:=I.kept (t':=s.toks) kp
  have I2:Inv X pins σ (upd H h'.objs.size (.tup ys)) { s with heap:=h'.push { cls:=.type "tuple",data:=.seq au.toArray } }:=
   I1.laid (t':=s.toks) (λb o e=>bj _ e) (aH _) (show h7 X.prog X.w _ _ _ (.tup ys) from ⟨hz,au,r',IsTup.new _ _⟩)
  exact⟨.ref h'.objs.size,_,I2,rfl,q _ (I1.aM.fresh (aH _))⟩
 ·obtain⟨au,r',pl,hz⟩:=I.tuple hq;exact call_tuple_same pl ⟨.ref p,H,I,rfl,q⟩
def MH(K:W.Frag)(T:String)(x:V)(H:Hp):Prop:=match x with
 | .str _=>T = "str"
 | .int _=>T = "int"
 | .ref p=>(T = "list"/\∃xs,aq K H p xs)\/(T = "tuple"/\∃o,K.lookup p=some o/\o.cls=.type "tuple"/\o.dict=none)\/
   (T = "dict"/\((∃ic,H p=some (.dK ic))\/∃ic,H p=some (.dT ic)))\/(T = "set"/\∃S n,H p=some (.set S n))
 | _=>False
theorem SO{pins:List (Addr×Obj)}{σ:St}{H:Hp}{s:Shared}{T:String}{x:V}{v:Value}(I:Inv X pins σ H s)(r:RelV x v)(ty:MH X.K T x H) :
  s.TypeIs v T/\∀a,v=.ref a->∃ob,s.heap.get? a=some ob/\ob.dict=none:=by
 cases x with
 | str z=>
  obtain⟨t,rfl⟩:=r;cases (show T = "str" from ty);exact⟨typeIs_str s z t,λ_ e=>nomatch e⟩
 | int i=>
  obtain⟨t,rfl⟩:=r;cases (show T = "int" from ty);exact⟨typeIs_int s i t,λ_ e=>nomatch e⟩
 | ref p=>
  cases r;rcases ty with ⟨rfl,xs,hq⟩ | ⟨rfl,o,hk,hc,hd⟩ | ⟨rfl,hk⟩ | ⟨rfl,S,n,hk⟩
  ·refine aJ (I.list hq) λau _ pl _=>?_;refine⟨pl.isList.typeIs,λa e=>?_⟩;cases e;refine jW pl λo n e c hd _=>?_;exact⟨o,e,hd⟩
  ·refine⟨⟨o,I.dX p o hk,hc⟩,λa e=>?_⟩;cases e;exact⟨o,I.dX _ o hk,hd⟩
  ·have z:∃o,s.heap.get? p=some o/\o.ExactDict:=by
    rcases hk with ⟨ic,hk⟩ | ⟨ic,hk⟩
    ·refine iP (I.aM p _ hk) λ_ _ aa=>?_;refine ag aa λ_ _ aa=>?_;refine ng aa λo _ _ e ex _=>?_;exact⟨o,e,ex⟩
    ·refine iP (I.aM p _ hk) λ_ _ aa=>?_;refine ag aa λ_ _ aa=>?_;refine ng aa λo _ _ e ex _=>?_;exact⟨o,e,ex⟩
   refine ag z λo e ex=>?_;refine⟨⟨o,e,ex.1⟩,λa e2=>?_⟩;cases e2;exact⟨o,e,ex.2.1⟩
  ·obtain⟨o,_,_,_,e,ex,_⟩:=I.aM p _ hk;refine⟨⟨o,e,ex.1⟩,λa e2=>?_⟩;cases e2;exact⟨o,e,ex.2.1⟩
 | _=>exact jP ty
abbrev al1(K:W.Frag)(T:String)(r:V->List V->Hp->VK->Prop)(to:TE):TE:=λσ H Q=>to σ H λx H1=>MH K T x H1/\r x [] H1 Q
abbrev tBM(K:W.Frag)(T:String)(r:V->List V->Hp->VK->Prop)(to:TE)(t:TA):TE:=λσ H Q=>to σ H λx H1=>MH K T x H1/\t σ H1 λxs H2=>r x xs H2 Q
variable{o e:Expr}{es:List Expr}{to:TE}{t:TA}{name:Str}{apos oH:Pos}{T id:String}{r:V->List V->Hp->VK->Prop}
theorem Tg(pa:PlainAttrs T)(slot:Slot T name id)(my:typeOf (.builtin id)=pure (.type "method_descriptor"))(hm:V5 X id r)(ho:PE X o to)
  (Lu:CW o name X.env (eval o X.env)=eval o X.env:=by rfl) (Lr:(apos.endLine == oH.line)=true:=by rfl):PE X (.Call (.Attribute o name apos) [] [] oH) (al1 X.K T r to):=by
 intro pins s σ H Q I h;refine wpAny_Call_method0_late Lu Lr (aU (ho pins s σ H _ I h) λv s1 ⟨x,H1,I1,r1,ty,q1⟩=>?_);refine oA (SO I1 r1 ty) λh1 h2=>?_;exact⟨T,id,pa,slot,my,h1,h2,YU rfl (PySem.evalArgs_none (hm pins s1 σ H1 x [] v [] Q I1 r1 .nil q1))⟩
theorem iY(pa:PlainAttrs T)(slot:Slot T name id)(my:typeOf (.builtin id)=pure (.type "method_descriptor"))(hm:V5 X id r)(ho:PE X o to)(ha:PA X (e::es) t)
  (Lu:CW o name X.env (eval o X.env)=eval o X.env:=by rfl)
  (ano:((backTo oH (cJ (e::es) X.env)).all (λx=>!x.1)&&(AR oH (Av [] X.env)).all (λx=>x.1.isSome)
   && decide ((e::es).length+([]:List Keyword).length+(if ([]:List Keyword).isEmpty then 0 else 1)<30))=true:=by rfl)
  (Lr:(apos.endLine == oH.line)=true:=by rfl) (hs:cJ (e::es) X.env=(false,eval e X.env)::cJ es X.env:=by rfl) (ajI:(backTo oH (cJ es X.env)).any (·.1)=false:=by rfl) :
  PE X (.Call (.Attribute o name apos) (e::es) [] oH) (tBM X.K T r to t):=by
 intro pins s σ H Q I h;refine wpAny_Call_method_late Lu ano Lr rfl (aU (ho pins s σ H _ I h) λv s1 ⟨x,H1,I1,r1,ty,q1⟩=>?_);refine oA (SO I1 r1 ty) λh1 h2=>?_;refine⟨T,id,pa,slot,my,h1,h2,?_⟩;have hA:=ha oH pins s1 σ H1 _ I1 q1;rw[hs]at hA ⊢;refine YU (by show (false||(backTo oH (cJ es X.env)).any (·.1))=false;rw[ajI] <;> rfl) (Calls.evalArgs_plain ?_);exact aU hA λus s2 ⟨vs,H2,I2,r2,q2⟩=>hm pins s2 σ H2 x vs v us Q I2 r1 r2 q2
end
def Fc(X:Cx)(id:String)(r:V->List V->Hp->VK->Prop):Prop:=
 ∀(pins:List (Addr×Obj)) (s:Shared) (σ:St) (H:Hp) (x:V) (xs:List V) (v:Value) (us:List Value) (Q:VK),Inv X pins σ H s->RelV x v->Vals xs us->r x xs H Q->
  wpAny (model X.prog X.w) X.A (call (.builtin id) (v::us)) (EP X pins σ Q) X.xe s
theorem Vals.one:∀{x:V} {us:List Value},Vals [x] us->∃u,us=[u]/\RelV x u
 | _,_,.cons r .nil=>⟨_,rfl,r⟩
theorem Vals.zero:∀{us:List Value},Vals [] us->us=[]
 | _,.nil=>rfl
theorem Vals.eraseIdx:∀{xs:List V} {us:List Value} (i:Nat),Vals xs us->Vals (xs.eraseIdx i) (us.eraseIdx i)
 | _,_,_,.nil=>.nil
 | _,_,0,.cons _ t=>t
 | _,_,i+1,.cons r t=>.cons r (Vals.eraseIdx i t)
theorem Vals.rep{xs:List V}{us:List Value}(h:Vals xs us):∀k:Nat,Vals (dH k xs).flatten (dH k us).flatten
 | 0=>.nil
 | k+1=>by
  rw[Ab,Ab,Gw,Gw];exact Vals.append h (Vals.rep h k)
theorem QF{α:Type}:∀(l:List α) (i:Nat),(l.eraseIdx i).length<=l.length
 | [],_=>aH _
 | _::_,0=>lx _
 | _::r,i+1=>CL (QF r i)
theorem foldl_rep(au:List Value):∀(k:Nat) (acc:List Value),Qd (λx1 x2=>x1++x2) acc.toArray (dH k au.toArray)=(acc++(dH k au).flatten).toArray
 | 0,acc=>by simp
 | k+1,acc=>by
  have e:acc.toArray++au.toArray=(acc++au).toArray:=by simp
  have e2:(acc++au)++(dH k au).flatten=acc++(dH (k+1) au).flatten:=by
   rw[Ab,Gw,OE]
  rw[<-e2,<-foldl_rep au k (acc++au),<-e,Ab,List.foldl_cons]
section
variable{X:Cx}{pins:List (Addr×Obj)}{σ:St}{H:Hp}{s:Shared}{l b:Addr}{xs ys zs:List V}
theorem Inv.Eu{au lI:List Value}{n:Nat}{f:Array Value->Array Value}{t':Nat}(I:Inv X pins σ H s)(hH:H l=some (.lst xs))
  (e:s.heap.get? l=some { cls:=.type "list",data:=.seq au.toArray n }) (hf:f au.toArray=lI.toArray) (hv:Vals ys lI) (hz:ys.length<=aZ) :
  Inv X pins σ (upd H l (.lst ys)) { s with heap:=s.heap.update l (jO f),toks:=t' }:=by
 have q:=PySem.IsL.update e f;rw[hf]at q;refine I.write (x:=l) (e:=l) (by rw[hH];exact trivial) (.inl rfl) (λb' u hb hu=>(x8 s.heap (jO f) (fw hb)).trans hu) ⟨_,q⟩ ?_;exact⟨hz,lI,_,hv,q⟩
theorem Inv.U4{au:List Value}{t':Nat}(I:Inv X pins σ H s)(hv:Vals ys au)(hz:ys.length<=aZ) :
  Inv X pins σ (upd H s.heap.objs.size (.lst ys)) { s with heap:=s.heap.push { cls:=.type "list",data:=.seq au.toArray },toks:=t' }:=
 I.laid (λ_ _ q=>bj _ q) (aH _) ⟨hz,au,0,hv,eO _ rfl⟩
theorem Inv.fresh(I:Inv X pins σ H s):H s.heap.objs.size=none:=I.aM.fresh (aH _)
theorem Inv.pI(I:Inv X pins σ H s)(hH:H l=some (.lst xs)):xs.length<=aZ/\∃(au:List Value) (n:Nat),Vals xs au/\xs.length=au.length/\s.heap.get? l=some { cls:=.type "list",data:=.seq au.toArray n }:=by
 refine oA (I.aM l _ hH) λz aa=>?_;refine bf aa λau n r e=>?_;exact⟨z,au,n,r,r.length,e⟩
theorem Rm{n:Nat}(h:n<=aZ):Gm n=false:=by
 unfold Gm;exact decide_eq_false om
end
section
variable{X:Cx}
def agr:V->List V->Hp->VK->Prop:=λx vs H Q=>∃l xs y,x=.ref l/\vs=[y]/\H l=some (.lst xs)/\xs.length<aZ/\Q .aD (upd H l (.lst (xs++[y])))
theorem ky:Fc X "list.append" agr:=by
 intro pins s σ H x vs v us Q I rx rv h;refine AL h λl xs y aa aX hH hz q=>?_;clear h;subst aa;subst aX;cases rx;refine ag rv.one λu aa ru=>?_;subst aa;refine oA (I.pI hH) λz aa=>?_;refine cF aa λau n r hl e=>?_;refine AA F.slot_list_append ⟨_,e,rfl⟩ F.entry_list_append (F.args_list_append_2 _ _) (PySem.list_append l au.toArray n u (by rw[dF];exact w9)) ⟨e,?_⟩;refine⟨.aD,_,I.Eu (lI:=au++[u]) hH e (by simp) (r.append (.cons ru .nil)) ?_,rfl,q⟩;rw[eI,YX];exact wa
def agq:V->List V->Hp->VK->Prop:=λx vs H Q=>∃l b xs zs,x=.ref l/\vs=[.ref b]/\H l=some (.lst xs)/\H b=some (.lst zs)/\xs.length+zs.length<=aZ/\Q .aD (upd H l (.lst (xs++zs)))
theorem QC:Fc X "list.extend" agq:=by
 intro pins s σ H x vs v us Q I rx rv h;refine q9 h λl b xs zs aa aX=>?_;clear h;subst aa;refine wG aX λaa hH hB hz q=>?_;clear aX;subst aa;cases rx;refine ag rv.one λu aa ru=>?_;subst aa;cases ru;refine oA (I.pI hH) λz aa=>?_;refine cF aa λau n r hl e=>?_;refine oA (I.pI hB) λz2 aa=>?_;refine cF aa λqz n2 r2 jH e2=>?_;have eN:au.toArray.size+qz.toArray.size<=aZ:=by rw[dF,dF];omega
 have Lq:¬(!au.toArray.isEmpty&&Gm (au.toArray.size+qz.toArray.size))=true:=by
  rw[Rm eN,Bool.and_false];exact dG
 refine AA F.slot_list_extend ⟨_,e,rfl⟩ F.entry_list_extend (F.args_list_extend_2 _ _)
  (AutoSeq1.list_extend_list_list_0 l au.toArray n b qz.toArray n2 Lq (by rw[dF];exact w9) w4) ⟨e,e2,?_⟩
 refine⟨.aD,_,I.Eu (lI:=au++qz) hH e (by simp) (r.append r2) ?_,rfl,q⟩;rw[eI];exact w0
def aid:V->List V->Hp->VK->Prop:=λx vs H Q=>∃l xs i k y,x=.ref l/\vs=[.int i]/\H l=some (.lst xs)/\-(2^63)<=i/\i<2^63/\Dr i xs.length=some k/\xs[k]?=some y/\Q y (upd H l (.lst (xs.eraseIdx k)))
theorem Rn:Fc X "list.pop" aid:=by
 intro pins s σ H x vs v us Q I rx rv h;obtain⟨l,xs,i,k,y,aa,aX,hH,h1,h2,hk,hy,q⟩:=h;subst aa;subst aX;cases rx;refine ag rv.one λu aa ru=>?_;subst aa;refine oE ru λt aa=>?_;clear ru;subst aa;refine oA (I.pI hH) λz aa=>?_;refine cF aa λau n r hl e=>?_;refine ag (r.get hy) λw hw mw=>?_
 refine AA F.slot_list_pop ⟨_,e,rfl⟩ F.entry_list_pop (F.args_list_pop_2 _ _)
  (MeetsSeq.list_pop_at l au.toArray n i t k w (fitsIndex_both h1 h2) (by rw[dF,<-hl];exact hk) (by rw[<-z0];exact hw) (by rw[dF];exact w9)) ⟨e,?_⟩
 refine⟨y,_,I.Eu (lI:=au.eraseIdx k) hH e ?_ (r.eraseIdx k) ?_,mw,q⟩
 ·show au.toArray.eraseIdxIfInBounds k=(au.eraseIdx k).toArray;rw[List.eraseIdxIfInBounds_toArray]
 ·have:=QF xs k;exact wj
def aie:V->List V->Hp->VK->Prop:=λx vs H Q=>∃l xs,x=.ref l/\vs=[]/\H l=some (.lst xs)/\Q .aD (upd H l (.lst []))
theorem Ro:Fc X "list.clear" aie:=by
 intro pins s σ H x vs v us Q I rx rv h;refine jW h λl xs aa aX hH q=>?_;clear h;subst aa;subst aX;cases rx;have ko:=rv.zero;subst ko;refine oA (I.pI hH) λz aa=>?_;refine cF aa λau n r hl e=>?_;refine AA F.slot_list_clear ⟨_,e,rfl⟩ F.entry_list_clear (F.args_list_clear_1 _) (AutoSeq1.list_clear_list_0 l au.toArray n (by rw[dF];exact w9)) ⟨e,?_⟩;exact⟨.aD,_,I.Eu (lI:=[]) (ys:=[]) hH e rfl .nil (bU _),rfl,q⟩
def al8:R2:=λx y H Q=>∃l b xs zs,x=.ref l/\y=.ref b/\H l=some (.lst xs)/\H b=some (.lst zs)/\xs.length+zs.length<=aZ/\∀p,H p=none->Q (.ref p) (upd H p (.lst (xs++zs)))
theorem Bc:ff X (uD .Add) al8:=by
 intro pins s σ H x y v u Q I rx ry h;refine q9 h λl b xs zs aa aX=>?_;clear h;subst aa;refine wG aX λaa hH hB hz q=>?_;clear aX;subst aa;cases rx;cases ry;refine oA (I.pI hH) λz aa=>?_;refine cF aa λau n r hl e=>?_;refine oA (I.pI hB) λz2 aa=>?_;refine cF aa λqz n2 r2 jH e2=>?_;refine PySem.P.add_list e e2 ?_ (by rw[dF,dF];omega);have ea:au.toArray++qz.toArray=(au++qz).toArray:=by simp
 rw[ea];exact⟨.ref _,_,I.U4 (t':=s.toks) (r.append r2) (by rw[eI];exact w0),rfl,q _ I.fresh⟩
def al6:R2:=λx y H Q=>∃l k xs,x=.ref l/\y=.int k/\H l=some (.lst xs)/\-(2^63)<=k/\k<2^63/\xs.length*k.toNat<=aZ/\
 ∀p,H p=none->Q (.ref p) (upd H p (.lst (dH k.toNat xs).flatten))
theorem len_rep{α:Type}(xs:List α)(k:Nat):(dH k xs).flatten.length=k*xs.length:=by
 induction k with
 | zero=>simp
 | succ k ih=>rw[Ab,Gw,eI,ih,Nat.succ_mul,Nat.add_comm]
theorem JZ:ff X (uD .Mult) al6:=by
 intro pins s σ H x y v u Q I rx ry h;obtain⟨l,k,xs,aa,aX,hH,h1,h2,hz,q⟩:=h;subst aa;subst aX;cases rx;refine oE ry λt aa=>?_;clear ry;subst aa;refine oA (I.pI hH) λz aa=>?_;refine cF aa λau n r hl e=>?_;have hlen:au.toArray.size*k.toNat<=aZ:=by rw[dF,<-hl];exact hz
 have anu:¬au.toArray.size*k.toNat > (2^63-1)/8:=by
  have:(aZ:Nat)<=(2^63-1)/8:=qc;omega
 have anm:¬(!Builtin.List.listFitsIndex k)=true:=by
  rw[fitsIndex_both h1 h2];exact dG
 have Lq:¬Gm (au.toArray.size*k.toNat)=true:=by
  rw[Rm hlen];exact dG
 have anc:Qd (λx1 x2=>x1++x2) #[] (dH (if au.toArray.isEmpty=true then 0 else k.toNat) au.toArray)=(dH k.toNat au).flatten.toArray:=by
  have f0:∀m:Nat,Qd (λx1 x2=>x1++x2) #[] (dH m au.toArray)=(dH m au).flatten.toArray:=λm=>by
   have:=foldl_rep au m [];rw[G7]at this;exact this
  rw[f0];cases au with
  | nil=>simp
  | cons a r'=>rw[if_neg (by simp)]
 refine wpAny_binaryOp_repeat_ref (T:="list") (U:="int") qc ⟨_,e,rfl⟩ (λs'=>typeIs_int s' k t) noFill_list_mul F.fills_int_mul F.slot_int_rmul repeat_list F.slot_int_index.lookup
  (AA F.slot_int_rmul (typeIs_int s k t) F.entry_int_rmul (F.args_int_rmul_2 _ _) (int___rmul___int_list k t l au.toArray n) ⟨e,rfl,⟨_,e,rfl⟩,AA F.slot_list_mul ⟨_,e,rfl⟩ F.entry_list_mul (F.args_list_mul_2 _ _) (AutoListH.list___mul___list_int_3 l au.toArray n k t anm anu Lq) ⟨e,?_⟩⟩)
 rw[anc];exact⟨.ref _,_,I.U4 (t':=s.toks) (r.rep k.toNat) (by rw[len_rep,Nat.mul_comm];exact hz),rfl,q _ I.fresh⟩
end
section
variable{prog:Program}{w:World}{A:Around}{E:Value->Shared->Prop}{s:Shared}
end
section
variable{X:Cx}
end
end L2
namespace Att
open PySem PySem.W PySem.Calls PyProof.Rows
theorem ZL{P:Params}{h:Heap}:∀(ns:List Int) (vs:List Value),WellAll P h vs (ns.map WData.int)->IntsAre vs ns:=by
 intro ns
 induction ns with
 | nil=>
  intro vs w;rw[Pf]at w;cases w;exact .nil
 | cons n ns ih=>
  intro vs w;rw[jd]at w;cases w with
  | cons a b=>
   cases a;exact .cons _ _ (ih _ b)
theorem acY{l:OpenLaw}{n:Nat}(hn:l.most=some n){P:Params}{h:Heap}{args:List WData}{vals:List Value}
  (EI:l.row.toRowW.claim.pre args=true) (ja:WellAll P h vals args) :
  ∃a vs ns,vals=[ee a]/\args=[WData.list (ns.map WData.int)]/\h.get? a=some { cls:=.type "list",data:=.seq vs.toArray }/\IntsAre vs ns/\ns.length<=n:=by
 have Nz:WShape.hasAll [] args [.list .int]=true:=(pre_splitW EI).1;have hc:l.pre.holds [] { args:=args }=true:=(pre_splitW EI).2;obtain⟨d,r,rfl,h1,h2⟩:=hasAllW_cons Nz;obtain rfl:=hasAllW_nil h2;obtain⟨xs,rfl,h3⟩:=hasW_list h1;obtain⟨ns,rfl⟩:=items_int h3
 have hlen:ns.length<=n:=by
  unfold OpenLaw.pre at hc
  have h4:(WTm.not (.lt (.lit (.int (n:Int))) (.len (.arg 0)))).holds [] { args:=[.list (ns.map .int)] }=true:=by
   have h4:=(holds_andW hc).1;rw[hn]at h4;exact h4
  have h5:=condW_of h4 (w_not (w_lt w_lit (w_len_list (w_arg rfl))));rw[aN]at h5;refine Nat.le_of_not_lt λq=>?_;have q':(n:Int)<((ns.length:Nat):Int):=om
  first
   | (rw[decide_eq_true q']at h5;exact absurd h5 qc)
   | (simp at h5;omega)
 cases ja with
 | cons w1 w2=>
  cases w2;cases w1 with
  | list ho Mw=>exact⟨_,_,ns,rfl,rfl,ho,ZL ns _ Mw,hlen⟩
theorem ac5(l:OpenLaw)(args:List WData):l.row.toRowW.claim.post args (.bool true) args=true:=
 postW_of (r:=l.row.toRowW) (X:=(true == true))
  (show WShape.has [] (.bool true) .bool=true by first | rfl | decide | simp[WShape.has,WShape.arms,WShape.armsAll])
  (show (WTm.eq .res (.lit (.bool true))).value [] { args:=args,res:=some (.bool true),after:=args }=some (.bool (true == true)) from w_eq_bool (w_res rfl) w_lit) rfl
theorem abW{l:OpenLaw}{n:Nat}{q:Program}{loose:List Str}{XP:(Str->Option Value)->Heap->Prop}{YP:World->Heap->Prop}{d:DefRec}
  (hn:l.most=some n) (NQ:d.params.defaults=[])
  (call:∀(w:World) (s₀ s₁:Shared) (mg mb:Str->Option Value) (fa:Addr) (o:Obj) (pm cd doc:Value) (a:Addr) (vs:List Value) (ns:List Int),Ground q loose [] XP w s₀ mg mb s₁.heap->YP w s₁.heap->
   s₁.heap.get? fa=some o->o.data=.func (docDef d.name d.params d.body d.scope pm cd doc)->s₁.heap.CodeRec cd d.name->mg d.name=some (.ref fa)->
   s₁.heap.get? a=some { cls:=.type "list",data:=.seq vs.toArray }->IntsAre vs ns->ns.length<=n->s₁.gens=#[]->
   codeAny (model l.prog w) callerA (.call (.ref fa) ⟨[.ref a],[]⟩) (λr s'=>r=.ok (.ret (.bool true))/\OldK s₁.heap s'.heap/\s'.os=s₁.os/\AllBare s'.gens) s₁) :
  WalkO q loose XP YP l.row.toRowW d [] (λf vs=>PySem.call f vs):=by
 intro w s₀ s₁ mg mb G Y fa o pm cd doc dV kV ho hd iD hD zK hg args vals as EI aph hrd ja vz;obtain rfl:dV=.none:=Dflts.none hD NQ;obtain rfl:kV=.none:=Dflts.noKw hD;obtain⟨a,vs,ns,rfl,rfl,Mp,hints,hlen⟩:=acY hn EI ja;refine enter_call (vV (call w s₀ s₁ mg mb fa o pm cd doc a vs ns G Y ho (fd_plain hd) iD zK Mp hints hlen hg) λr s' hq=>?_);obtain⟨rfl,h2,h3,h4⟩:=hq;exact⟨.inl ⟨.bool true,.bool true,[],rfl,λ_=>rfl,.bool true,ac5 l _,λ_=>⟨OZ.nil,λ_ hm=>(nomatch hm)⟩⟩,h2,h3,h4⟩
section
variable{prog:Program}{w:World}{A:Around}{E:Value->Shared->Prop}{s:Shared}{K:Frag}
end
end Att
namespace L2
open PySem PySem.Spec PyProof.Rows
theorem HJ:∀{vs:List Value} {ns:List Int},IntsAre vs ns->Vals (ns.map V.int) vs
 | _,_,.nil=>.nil
 | _,_,.cons n t h=>.cons ⟨t,rfl⟩ (HJ h)
abbrev az:nI:=λ_ _ _ _ _ _=>False
abbrev E0:XK:=λ_ _ _=>False
theorem aS{X:Cx}:Passes az X E0:=λ_ _ _ _ _ _ _ h=>h.elim
structure aW(K:W.Frag)(x qual:Str)(st:Stmt)(f:Addr)(fd:aV):Prop where
 ex:∃(oc:Value) (od:Option Addr) (kV doc pm:Value) (an:Option Addr) (aI ct:Value) (iB:Array (Option Value)),fd=W.fnOf x qual (lA st) (gr st) (aO st) .none kV doc pm an aI ct/\K.lookup f=some ⟨oc,od,.func fd,iB⟩/\W.codeIn K aI qual=true
 kp:W.keepIn K (.ref f)=true
section
variable{P:Program}{w:World}{K:W.Frag}{mg:Str->Option Value}{base:Heap}
theorem aW.ok{x qual:Str}{st:Stmt}{f:Addr}{fd:aV}{N ps:List Str}{k:Nat}{sp:Sp}(F:aW K x qual st f fd)(S:bc N ps (aO st))(len:∀vs H Q E,sp vs H Q E->vs.length=ps.length)
  (tx:∀(aI:Value) (A:Around) (outer:List Env) (s:Shared) (H:Hp) (vs:List V) (Q:VK) (E:XK),e8 k (A.deeper (envOfC qual (aO st) s.heap.objs.size f aI))->sp vs H Q E->
   ∃t,eD (lE az P w K mg base N qual (aO st) f aI A outer s H E).pO (gr st) t/\t { nx:=λ_ H'=>Q .aD H',rt:=Q } (start N vs) H):ay P w K mg base az (k+1) f fd ps sp:=by
 obtain⟨oc,od,kV,doc,pm,an,aI,ct,iB,aa,lk,iD⟩:=F.ex;subst aa;refine uW lk iD S len λA outer s H vs Q E hr pS=>?_;refine ag (tx aI A outer s H vs Q E hr pS) λt h q=>?_;exact⟨t,h.pO,q⟩
theorem aW.binds{x qual:Str}{st:Stmt}{f:Addr}{fd:aV}{ps:List Str}(F:aW K x qual st f fd)
  (h:∀(kV doc pm:Value) (an:Option Addr) (aI ct:Value) (us:List Value),us.length=ps.length->sO (W.fnOf x qual (lA st) (gr st) (aO st) .none kV doc pm an aI ct) ⟨us,[]⟩=pure (ps.zip us)):Binds K fd ps []:=by
 obtain⟨oc,od,kV,doc,pm,an,aI,ct,iB,aa,lk,iD⟩:=F.ex;subst aa;exact .all (h kV doc pm an aI ct)
theorem TB{x qual:Str}{st:Stmt}{f:Addr}{oc:Value}{od an:Option Addr}{iB:Array (Option Value)}{kV doc pm aI ct:Value}(l:K.lookup f=some ⟨oc,od,.func (W.fnOf x qual (lA st) (gr st) (aO st) .none kV doc pm an aI ct),iB⟩)
  (c:W.codeIn K aI qual=true) (k:W.keepIn K (.ref f)=true):aW K x qual st f (W.fnOf x qual (lA st) (gr st) (aO st) .none kV doc pm an aI ct):=⟨⟨oc,od,kV,doc,pm,an,aI,ct,iB,rfl,l,c⟩,k⟩
end
theorem cY{n:Nat}(h:n<=1000):n<aZ:=sC h qc
section
variable{X:Cx}
theorem pv(i:Nat){x:Str}{pos:Pos}(hN:X.N[i]?=some x:=by rfl)(hv:E5 X.env.scope x:=by first | exact aQ rfl | exact Bg (aQ rfl) | exact Bg (Bg rfl))(hd:(x == ("__debug__" : Str))=false:=by decide)
  (iD:(x == ("__classdict__" : Str))=false:=by decide):PE X (.Name x pos) (nz i):=JX hN hv hd iD
end
theorem eY{A B:Prop}(h:B):if false=true then A else B:=by
 rw[if_neg dG];exact h
theorem iZ{A B:Prop}(h:A):if true=true then A else B:=by
 rw[if_pos rfl];exact h
def af(H H':Hp):Prop:=∀b o,H b=some o->H' b=some o
theorem af.refl(H:Hp):af H H:=λ_ _ h=>h
theorem af.trans{H H1 H2:Hp}(a:af H H1)(b:af H1 H2):af H H2:=λc o h=>b c o (a c o h)
theorem af.free{H H':Hp}(e:af H H'){l:Addr}(h:H' l=Option.none):H l=Option.none:=by
 cases q:H l with
 | none=>rfl
 | some o=>
  rw[e l o q]at h;cases h
theorem af.seq{K:W.Frag}{H H':Hp}{a:Addr}{xs:List V}(e:af H H')(h:aq K H a xs):aq K H' a xs:=by
 rcases h with (h | ⟨o,h⟩) | h
 ·exact .inl (.inl (e _ _ h))
 ·exact .inl (.inr ⟨o,e _ _ h⟩)
 ·exact .inr h
section
variable{K:W.Frag}{σ:St}{H:Hp}{Q:VK}{p C dx:Addr}{xs:List V}{v:V}{i:Nat}{j:Int}{fs:List (Str×V)}{f:Str}
theorem vr(h:σ[i]?=some (some v))(q:Q v H):nz i σ H Q:=⟨v,h,q⟩
theorem rT(s:aF K H p xs)(a:jr xs j=some v)(q:Q v H):vc K (.ref p) (.int j) H Q:=⟨_,_,_,_,rfl,rfl,s,a,q⟩
theorem rL(s:aq K H p xs)(a:jr xs j=some v)(q:Q v H):wU K (.ref p) (.int j) H Q:=⟨_,_,_,_,rfl,rfl,s,a,q⟩
theorem cT(s:aF K H p xs)(a:jr xs j=some v)(q:Q v H):tC (.int j) σ H λy H2=>vc K (.ref p) y H2 Q:=⟨_,_,_,_,rfl,rfl,s,a,q⟩
theorem cL(s:aq K H p xs)(a:jr xs j=some v)(q:Q v H):tC (.int j) σ H λy H2=>wU K (.ref p) y H2 Q:=⟨_,_,_,_,rfl,rfl,s,a,q⟩
theorem vT(h:σ[i]?=some (some (.ref p)))(s:aF K H p xs)(a:jr xs j=some v)(q:Q v H):tI (vc K) (nz i) (tC (.int j)) σ H Q:=⟨_,h,_,_,_,_,rfl,rfl,s,a,q⟩
theorem vL(h:σ[i]?=some (some (.ref p)))(s:aq K H p xs)(a:jr xs j=some v)(q:Q v H):tI (wU K) (nz i) (tC (.int j)) σ H Q:=⟨_,h,_,_,_,_,rfl,rfl,s,a,q⟩
theorem vF(h:σ[i]?=some (some (.ref p)))(e:H p=some (.ins C dx fs))(c:eU K C)(n:cq K C f)(l:fs.lookup f=some v)(q:Q v H):Ly K (nz i) f σ H Q:=⟨_,h,_,_,_,_,_,rfl,e,c,n,l,q⟩
theorem vM{m:Str}{sp:Sp}{dvs:List V}{E:XK}{t:TA}(h:σ[i]?=some (some (.ref p)))(e:H p=some (.ins C dx fs))(l:fs.lookup m=none)(q:t σ H λvs H2=>sp (.ref p::(vs++dvs)) H2 Q E):Ks C m sp dvs E (nz i) t σ H Q:=⟨_,h,_,_,_,rfl,e,l,q⟩
end
section
variable{K:W.Frag}{σ:St}{H:Hp}{Q:VK}{p C dx:Addr}{v:V}{fs:List (Str×V)}{f:Str}
theorem rM{m:Str}{R:Prop}(e:H p=some (.ins C dx fs))(l:fs.lookup m=none)(q:R):∃a dx fs,V.ref p=.ref a/\H a=some (.ins C dx fs)/\fs.lookup m=none/\R:=⟨_,_,_,rfl,e,l,q⟩
theorem tk{R:Bool->Prop}{k:Bool}(q:R k):∃k',V.bl k=.bl k'/\R k':=⟨k,rfl,q⟩
end
theorem nC{X:Cx}{ss:List Stmt}{t:TS}{D:Ends}{σ:St}{H:Hp}(h:eD X ss t)(q:t D σ H):∃t,eD X ss t/\t D σ H:=⟨t,h,q⟩
section
variable{K:W.Frag}{σ:St}{H:Hp}{Q:VK}{p:Addr}{xs:List V}{v:V}{i j:Nat}
theorem cG(h:σ[i]?=some (some (.ref p)))(e:H p=some (.tup xs))(a:xs[j]?=some v)(q:Q v H):tI (vc K) (nz i) (tC (.int (j:Int))) σ H Q:=vT h (aF.of e) (cR a) q
theorem fb(h:σ[i]?=some (some (.ref p)))(e:H p=some (.lst xs))(a:xs[j]?=some v)(q:Q v H):tI (wU K) (nz i) (tC (.int (j:Int))) σ H Q:=vL h (aq.of e) (cR a) q
theorem MU(e:H p=some (.tup xs))(a:xs[j]?=some v)(q:Q v H):tC (.int (j:Int)) σ H λy H2=>vc K (.ref p) y H2 Q:=cT (σ:=σ) (aF.of e) (cR a) q
theorem vo(e:H p=some (.lst xs))(a:xs[j]?=some v)(q:Q v H):tC (.int (j:Int)) σ H λy H2=>wU K (.ref p) y H2 Q:=cL (σ:=σ) (aq.of e) (cR a) q
theorem dO{r s:Str}{A B:Hp->Prop}(h:σ[i]?=some (some (.ref p)))(e:H p=some (.tup xs))(a:xs[0]?=some (.str r))(n:r≠s)(q:B H):tI (vc K) (nz i) (tC (.int 0)) σ H λx H1=>tC (.str s) σ H1 λy H2=>VX x y H2 λz H3=>∃k,z=.bl k/\if k=true then A H3 else B H3:=
 vT h (aF.of e) (cR (j:=0) a) ⟨rfl,_,rfl,by rw[if_neg];exact q;intro z;exact n (V.str.inj (of_decide_eq_true z))⟩
end
end L2
namespace L3
open PySem
def tests(ifs:List Expr)(env:Env):Sem Bool:=
 forIn ifs true λc r=>if r=true then (do let ok <-isTrue c env (eval c env);pure (G8 ok)) else pure (G8 r)
section
variable{prog:Program}{w:World}{A:Around}{R:Result->Shared->Prop}{s:Shared}
theorem adK{elt tg iter:Expr}{ifs:List Expr}{sc:Scope}{pos:Pos}{it acc:Value}{env:Env}(J:Nat->Shared->Prop){EE:Value->Shared->Prop}
  (hEE:∀e s',EE e s'->notedBy (model prog w) A env (λe s'=>R (.error e) s') e s')
  (turn:∀n s,J n s->wpAny (model prog w) A (pyNext it) (λr s₁=>(r=none->R (.ok .next) s₁)/\∀v,r=some v->
   wpAny (model prog w) A (G2 tg it v) (λ_ s₂=>wpAny (model prog w) A (assign tg env v) (λ_ s₃=>wpAny (model prog w) A (tests ifs env) (λok s₄=> (ok=true->wpAny (model prog w) A (eval elt env) (λx s₅=>wpAny (model prog w) A (call (.builtin "list.append") [acc,x]) (λ_ s₆=>∃m,m<n/\J m s₆) EE s₅) EE s₄)/\ (ok=false->∃m,m<n/\J m s₄)) EE s₃) EE s₂) EE s₁) EE s)
  (n:Nat) (h:J n s):codeAny (model prog w) A (.compLoop (.ListComp elt [⟨tg,iter,ifs,0⟩] sc pos) 0 it acc env) R s:=by
 refine codeAny_loop rfl J (λn s hJ=>?_) n h;show wpAny _ A ((compTurn (.ListComp elt [⟨tg,iter,ifs,0⟩] sc pos) 0 it acc env).onRaise _) _ _ s;refine wpAny_noted (jg (E:=EE) ?_ (λ_ _ q=>q) λe s' q=>hEE e s' q);rw[compTurn_list];refine ah (CU (ah (jg (turn n s hJ) (λr s₁ h₁=>?_) λ_ _ q=>q)));cases r with
 | none=>exact aG (h₁.1 rfl)
 | some v=>
  refine ah (jg (h₁.2 v rfl) (λ_ s₂ h₂=>?_) λ_ _ q=>q);refine ah (jg h₂ (λ_ s₃ h₃=>?_) λ_ _ q=>q);refine ah (jg h₃ (λok s₄ h₄=>?_) λ_ _ q=>q);cases ok with
  | false=>exact aG ⟨rfl,h₄.2 rfl⟩
  | true=>
   refine ah (ah (jg (h₄.1 rfl) (λx s₅ h₅=>?_) λ_ _ q=>q));exact ah (jg h₅ (λ_ s₆ h₆=>aG (aG ⟨rfl,h₆⟩)) λ_ _ q=>q)
theorem acU{env:Env}{Q:Bool->Shared->Prop}{E:Value->Shared->Prop}(h:Q true s):wpAny (model prog w) A (tests [] env) Q E s:=aG h
theorem acT{c:Expr}{env:Env}{Q:Bool->Shared->Prop}{E:Value->Shared->Prop}(h:wpAny (model prog w) A (isTrue c env (eval c env)) Q E s):wpAny (model prog w) A (tests [c] env) Q E s:=by
 unfold tests;rw[CP];exact ah (ah (jg h (λok s' q=>aG (aG q)) λ_ _ q=>q))
def fJ(cells:List (Str×Addr)):List (Str×eX)->List (Str×Addr)->List (Str×Addr)
 | [],acc=>acc
 | (n,k)::r,acc=>if k == .free then fJ cells r (match cells.lookup n with | some c=>(n,c)::acc | none=>acc) else fJ cells r acc
theorem P'{env:Env}:∀(names:List (Str×eX)) (acc:List (Str×Addr)),(∀p∈names,p.2=.free->∃c,env.cells.lookup p.1=some c)->
  (forIn names acc λ(x:Str×eX) (cs:List (Str×Addr))=>match x with
   | (name,kind)=>if (kind == nX)=true then (do let c <-cellOf env name;pure (G8 ((name,c)::cs))) else (pure (G8 cs):Sem (ForInStep (List (Str×Addr)))))=pure (fJ env.cells names acc)
 | [],acc,_=>rfl
 | (n,k)::r,acc,h=>by
  have ih:=λacc=>P' r acc λp hp=>h p (eV _ hp);rw[CP]
  by_cases hk:(k == nX)=true
  ·obtain⟨c,hc⟩:=h (n,k) fX (by simpa using hk);have e:cellOf env n=pure c:=by unfold cellOf;rw[hc]
   dsimp only;rw[if_pos hk,e];unfold fJ;rw[if_pos hk,hc];exact ih _
  ·dsimp only;rw[if_neg hk];unfold fJ;rw[if_neg hk];exact ih _
theorem HC{env:Env}{sc:Scope}(h:∀p∈sc.names,p.2=.free->∃c,env.cells.lookup p.1=some c):Di sc env=pure (fJ env.cells sc.names []):=by
 unfold Di;have e:=P' (env:=env) sc.names [] h;simp only[e];rfl
theorem Dz{cells:List (Str×Addr)}:∀(names:List (Str×eX)) (acc:List (Str×Addr)),(∀x c,acc.lookup x=some c->cells.lookup x=some c)->∀x c,(fJ cells names acc).lookup x=some c->cells.lookup x=some c
 | [],acc,h,x,c,e=>h x c e
 | (n,k)::r,acc,h,x,c,e=>by
  unfold fJ at e
  split at e
  ·refine Dz r _ (λy d q=>?_) x c e
   split at q
   ·rename_i c' pd
    by_cases hy:y=n
    ·subst hy;rw[zY]at q;cases q;exact pd
    ·have hb:(y == n)=false:=beq_eq_false_iff_ne.mpr hy;rw[sF,hb]at q;exact h y d q
   ·exact h y d q
  ·exact Dz r acc h x c e
theorem Ie{cells:List (Str×Addr)}:∀(names:List (Str×eX)) (acc:List (Str×Addr)) (x:Str),(∃c,acc.lookup x=some c)->∃c,(fJ cells names acc).lookup x=some c
 | [],acc,x,h=>h
 | (n,k)::r,acc,x,h=>by
  unfold fJ
  split
  ·refine Ie r _ x ?_
   split
   ·rename_i c' pd
    by_cases hy:x=n
    ·subst hy;exact⟨c',zY⟩
    ·have hb:(x == n)=false:=beq_eq_false_iff_ne.mpr hy;rw[sF,hb];exact h
   ·exact h
  ·exact Ie r acc x h
theorem DA{cells:List (Str×Addr)}:∀(names:List (Str×eX)) (acc:List (Str×Addr)) (x:Str),(x,nX)∈names->(∃c,cells.lookup x=some c)->∃c,(fJ cells names acc).lookup x=some c
 | [],acc,x,h,_=>by cases h
 | (n,k)::r,acc,x,h,hc=>by
  unfold fJ;rcases cx.mp h with e | e
  ·cases e;obtain⟨c,hc⟩:=hc;rw[if_pos (beq_self_eq_true _),hc];exact Ie r _ n ⟨c,zY⟩
  ·split
   ·exact DA r _ x e hc
   ·exact DA r acc x e hc
end
end L3
namespace L2
open PySem PySem.Spec PyProof.Rows L3
def jq(X:Cx)(sc:Scope)(N:List Str)(s:Shared)(H:Hp)(ex:List Addr)(C:Addr):Cx:=
 {X with N:=N,s₀:=s,H₀:=H,env:=compEnvC sc (fJ X.env.cells sc.names []) C X.env,outer:=X.stack,ex:=ex,fn:=λ_=>false,pn:=[],xe:=λ_ _=>False }
structure eC(X:Cx)(sc:Scope)(N:List Str)(idx:List Nat):Prop where
 kind:sc.kind=.function
 D0:∀y∈sc.names,y.2≠.cell
 locs:∀y∈sc.names,y.2=.local->sc.names.lookup y.1=some .local
 frees:∀y∈sc.names,y.2=.free->X.env.scope.names.lookup y.1=some .cell
 le:idx.length<=N.length
 V1:∀(k i:Nat) (x:Str),idx[k]?=some i->N[k]?=some x->X.N[i]?=some x/\sc.names.lookup x=some .free
def lG(idx:List Nat)(n:Nat)(σ:St):St:=idx.map (λi=>(σ[i]?).join)++dH (n-idx.length) none
theorem IV{idx:List Nat}{n:Nat}{σ:St}(h:idx.length<=n):(lG idx n σ).length=n:=by
 unfold lG;rw[eI,aN,Gp];omega
theorem IW{idx:List Nat}{n k:Nat}{σ:St}{v:V}(h:(lG idx n σ)[k]?=some (some v)):∃i,idx[k]?=some i/\σ[i]?=some (some v):=by
 unfold lG at h
 by_cases hk:k<idx.length
 ·rw[Oj (by simpa using hk),gC]at h;cases e:idx[k]? with
  | none=>rw[e]at h;cases h
  | some i=>
   rw[e]at h;have h':(σ[i]?).join=some v:=gn h;refine ak i rfl ?_;cases e2:σ[i]? with
   | none=>rw[e2]at h';cases h'
   | some o=>rw[e2]at h';rw[show o=some v from h']
 ·rw[CF (by simpa using hk),YJ]at h
  split at h
  ·cases h
  ·cases h
def rl(env:Env)(p:Str×eX):Str×eX:=if (p.2 == nX&&env.scope.kind == .function&&env.kindOf p.1 == some .cell)=true then (p.1,eX.cell) else p
theorem JW{env:Env}{n:Str}{k:eX}(h:(k == nX&&env.scope.kind == .function&&env.kindOf n == some .cell)=true):rl env (n,k)=(n,.cell):=if_pos h
theorem Sf{env:Env}{n:Str}{k:eX}(h:¬(k == nX&&env.scope.kind == .function&&env.kindOf n == some .cell)=true):rl env (n,k)=(n,k):=if_neg h
theorem O4{env:Env}(hf:env.scope.kind=.function):∀{names:List (Str×eX)} {x:Str},names.lookup x=some .free->env.kindOf x=some .cell->(names.map (rl env)).lookup x=some .cell
 | [],_,h,_=>by simp at h
 | (n,k)::r,x,h,hc=>by
  have ih:=@O4 env hf r x;rw[jd]
  by_cases hx:x=n
  ·subst hx;rw[zY]at h;cases h;rw[JW (by rw[hf,hc];decide),zY]
  ·have hb:(x == n)=false:=beq_eq_false_iff_ne.mpr hx;rw[sF,hb]at h;have e:=ih h hc
   by_cases q:(k == nX&&env.scope.kind == .function&&env.kindOf n == some .cell)=true
   ·rw[JW q,sF,hb];exact e
   ·rw[Sf q,sF,hb];exact e
theorem Hk{env:Env}:∀{names:List (Str×eX)} {x:Str} {kd:eX},(names.map (rl env)).lookup x=some kd->(x,kd)∈names\/(x,nX)∈names
 | [],_,_,h=>by simp at h
 | (n,k)::r,x,kd,h=>by
  have ih:=@Hk env r x kd;rw[jd]at h
  by_cases q:(k == nX&&env.scope.kind == .function&&env.kindOf n == some .cell)=true
  ·rw[JW q]at h
   by_cases hx:x=n
   ·subst hx
    have hk:k=.free:=by
     rw[jc,jc]at q;exact eq_of_beq q.1.1
    subst hk;exact .inr fX
   ·have hb:(x == n)=false:=beq_eq_false_iff_ne.mpr hx;rw[sF,hb]at h;exact(ih h).elim (λe=>.inl (eV _ e)) λe=>.inr (eV _ e)
  ·rw[Sf q]at h
   by_cases hx:x=n
   ·subst hx;rw[zY]at h;cases h;exact .inl fX
   ·have hb:(x == n)=false:=beq_eq_false_iff_ne.mpr hx;rw[sF,hb]at h;exact(ih h).elim (λe=>.inl (eV _ e)) λe=>.inr (eV _ e)
theorem Inv.adopt{X:Cx}{pins:List (Addr×Obj)}{σ:St}{H:Hp}{s:Shared}{a:Addr}{o:HO}(I:Inv X pins σ H s)(hn:H a=none)(ya:X.s₀.heap.objs.size<=a)(hL:a≠X.env.locals)
  (hc:∀x c,X.env.cells.lookup x=some c->c≠a) (hp:∀p∈X.pn++pins,p.1≠a) (new:h7 X.prog X.w (upd H a o) s.heap a o):Inv X pins σ (upd H a o) s:=by
 have ne:∀b u,H b=some u->b≠a:=λb u e=>b8 e hn;refine⟨I.ok,I.os,I.bare,⟨I.base.keep,I.base.slot,λb u q n hx=>?_,I.base.there,λb xs q=>?_,λb u xs q=>?_,λb ps q=>?_⟩,I.loc,I.cell,?_,λx c e=>?_,λp hq=>?_,λb u q=>?_,I.len⟩
 ·rw[ar (dZ (fu (cg q) ya))];exact I.base.free b u q n hx
 ·have e:=I.base.qt b xs q;rw[ar (ne b _ e)];exact e
 ·have e:=I.base.pL b u xs q;rw[ar (ne b _ e)];exact e
 ·refine oE (I.base.pG b ps q) λm e=>?_;exact⟨m,by rw[ar (ne b _ e)];exact e⟩
 ·rw[ar (fw hL)];exact I.free
 ·rw[ar (hc x c e)];exact I.jZ x c e
 ·refine iP (I.pin p hq) λe1 e2 e3=>?_;exact cV e1 (by rw[ar (hp p hq)];exact e2) e3
 ·by_cases hb:b=a
  ·subst hb;rw[aw]at q;cases q;exact new
  ·rw[ar hb]at q;exact(I.aM b u q).qu (λ_ _ _ z=>z) (λc z=>by rw[ar (ne c _ z)];exact z) λc xs z=>by rw[ar (ne c _ z)];exact z
section
variable{X:Cx}{pins:List (Addr×Obj)}{σ:St}{H:Hp}{s:Shared}{sc:Scope}{N:List Str}{idx:List Nat}{fp:List Addr}
abbrev gd:Obj:={ cls:=.type "list",data:=.seq ([]:List Value).toArray }
abbrev og(s:Shared):Shared:={ s with heap:=s.heap.push gd }
theorem adY(I:Inv X pins σ H s){b:Addr}(h:eM X pins H b):X.base.get? b=none:=by
 cases e:X.base.get? b with
 | none=>rfl
 | some o=>
  rcases h.2.2.2.1 with z | z
  ·exact absurd z (I.ok.vd b o e)
  ·exact absurd (fu (cg e) (cH I.ok.ml z)) (kv _)
theorem afL(I:Inv X pins σ H s)(S:eC X sc N idx)(hf:∀b∈fp,eM X pins H b)(ho:∀b∈fp,∃o,s.heap.get? b=some o){h':Heap}{m:Str->Option Value}{t:Nat}
  (nK:h'.Ns (s.heap.push gd).objs.size m) (hk:∀b o,(s.heap.push gd).get? b=some o->h'.get? b=some o) :
  Inv (jq X sc N (og s) H (s.heap.objs.size::fp) (s.heap.push gd).objs.size) [] (lG idx N.length σ) H { og s with heap:=h',toks:=t }:=by
 have I3:Inv X pins σ H (og s):=I.kept (t':=s.toks) λb o e=>bj _ e;have hC:(s.heap.push gd).objs.size=s.heap.objs.size+1:=lS _ _;have oq:∀x c,(fJ X.env.cells sc.names []).lookup x=some c->X.env.cells.lookup x=some c:=Dz sc.names [] (λx c e=>by cases e)
 have clt:∀x c,(fJ X.env.cells sc.names []).lookup x=some c->c<s.heap.objs.size:=λx c e=>by
  refine oE (I.cell x c (oq x c e)) λv z=>?_;exact z.lt
 have tJ:∀b∈fp,b<s.heap.objs.size:=λb hb=>by
  refine oE (ho b hb) λo e=>?_;exact cg e
 have back:∀x,((relabel sc X.env).names.lookup x=some .cell\/(relabel sc X.env).names.lookup x=some .free)->(x,nX)∈sc.names:=λx h=>by
  rcases h with h | h
  ·rcases Hk (env:=X.env) (names:=sc.names) (show (sc.names.map (rl X.env)).lookup x=_ from h)with e | e
   ·exact absurd rfl (S.D0 _ e)
   ·exact e
  ·rcases Hk (env:=X.env) (names:=sc.names) (show (sc.names.map (rl X.env)).lookup x=_ from h)with e | e
   ·exact e
   ·exact e
 have has:∀x,(x,nX)∈sc.names->∃c,(fJ X.env.cells sc.names []).lookup x=some c:=λx e=>
  DA sc.names [] x e (I.ok.has x (.inl (S.frees _ e rfl)))
 refine⟨⟨I.ok.mod,S.kind,I.ok.glob,I.ok.blt,aH _,λx y c e1 e2=>I.ok.inj x y c (oq x c e1) (oq y c e2),λx h=>has x (back x h),λx c h=>(by cases h),I.ok.hd,I.ok.frames,.inl rfl,λb hb=>?_,I3.bs,cH I.ok.ml I3.sz,λb o e hb=>?_,λb hb=>?_,I3.stack,I3.DH⟩,I.os ▸ rfl,I.bare,Un.kept hk,⟨m,nK,λk x v e1 e2 e3=>?_⟩,λx c e=>?_,I3.aM.fresh (aH _),λx c e=>I.jZ x c (oq x c e),λp hp=>absurd (show p∈([]:List (Addr×Obj)) from hp) (by simp),I3.aM.kept hk,IV S.le⟩
 ·rcases cx.mp hb with e | hb
  ·subst e;exact⟨by rw[hC];exact dZ (Ai _),λx c e=>dZ (clt x c e)⟩
  ·refine⟨by rw[hC];exact dZ (CJ (tJ b hb)),λx c e=>(hf b hb).2.2.2.2.1 x c (oq x c e)⟩
 ·rcases cx.mp hb with z | hb
  ·subst z;exact absurd (cg (I.bk _ _ e)) (kv _)
  ·have e':X.base.get? b=some o:=e;rw[adY I (hf b hb)]at e';cases e'
 ·intro hs;have Xc:=I.DU b hs;rcases cx.mp hb with z | hb
  ·subst z;rcases cx.mp Xc with e | e
   ·exact absurd I.lt (by rw[<-e];exact kv _)
   ·exact I.U3 (aH _) e
  ·rcases cx.mp Xc with e | e
   ·exact(hf b hb).2.1 e
   ·exact(hf b hb).2.2.1 e
 ·refine ag (IW e2) λi h1 h2=>?_;refine oA (S.V1 k i x h1 e1) λh3 h4=>?_;have gQ:(x,nX)∈sc.names:=PySem.mem_of_lookup h4;have tw:X.env.scope.names.lookup x=some .cell:=S.frees _ gQ rfl;refine ag I.loc λm' xQ vA=>?_;refine ag (vA i x v h3 h2 (.inr (.inl tw))) λu r l=>?_;refine ak u r (.inr ⟨.inl (O4 I.ok.kind h4 tw),?_⟩);rcases l with ⟨q,_⟩ | ⟨_,c,ec,z⟩
  ·have q':X.env.scope.names.lookup x=some .local:=q;rw[tw]at q';cases q'
  ·refine oE (has x gQ) λc' Cr=>?_;have:=oq x c' Cr;rw[ec]at this;cases this;exact ak c Cr (z.keeps λb o e=>hk b o (bj _ e))
 ·refine oE (I.cell x c (oq x c e)) λv z=>?_;exact⟨v,z.keeps λb o e=>hk b o (bj _ e)⟩
theorem afK{σ':St}{H':Hp}{s':Shared}{pl:List (Addr×Obj)}(I:Inv X pins σ H s)(hf:∀b∈fp,eM X pins H b)
  (I':Inv (jq X sc N (og s) H (s.heap.objs.size::fp) (s.heap.push gd).objs.size) pl σ' H' s'):Inv X pins σ H' s':=by
 have I3:Inv X pins σ H (og s):=I.kept (t':=s.toks) λb o e=>bj _ e;have fa:eM X pins H s.heap.objs.size:=I.iu (aH _) (I.aM.fresh (aH _));refine I3.Ld (ch:=s.heap.objs.size::fp) (I'.os.trans rfl) I'.base I'.aM I'.bare λb hb=>?_
 have q:eM X pins H b:=by
  rcases cx.mp hb with e | hb
  ·subst e;exact fa
  ·exact hf b hb
 exact ke q.2.2.2.1 q.2.1 q.2.2.2.2.1 q.2.2.2.2.2
end
abbrev zC:=St->Hp->(Bool->Hp->Prop)->Prop
def jl:zC:=λ_ H Q=>Q true H
def BK(X:Cx)(ifs:List Expr)(t:zC):Prop:=
 ∀(pins:List (Addr×Obj)) (s:Shared) (σ:St) (H:Hp) (Q:Bool->Hp->Prop),Inv X pins σ H s->t σ H Q->wpAny (model X.prog X.w) X.A (tests ifs X.env) (TP X pins σ Q) X.xe s
theorem iX{X:Cx}:BK X [] jl:=λ_ _ _ H _ I h=>acU ⟨H,I,h⟩
theorem Jp{X:Cx}{c:Expr}{t:TT}(h:PT X c t):BK X [c] t:=λpins s σ H Q I q=>acT (h pins s σ H Q I q)
def Br(n:Nat)(σ σ2:St):Prop:=σ2.length=σ.length/\∀i,i<n->σ2[i]?=σ[i]?
def Lj(J:It)(g:TG)(tc:zC)(te:TE)(σ0:St)(H1:Hp)(K:List V->Hp->Prop):Prop:=
 ∃W:Nat->Nat->List V->Hp->Prop,(∃m,W 0 m [] H1)/\∀i m ys H,W i m ys H->
  (J.stop i H/\K ys H)\/
  (J.go i H/\ys.length<aZ/\∃N:List V->Hp->Prop,(∀zs H',N zs H'->∃m',m'<m/\W (i+1) m' zs H')/\
   ∀x H',J.vi i H x H'->g x σ0 H' λσ2 H2=>tc σ2 H2 λb H3=>if b=true then te σ2 H3 (λy H4=>N (ys++[y]) H4) else N ys H3)
def TZ(wi:TI)(g:TG)(tc:zC)(te:TE)(idx:List Nat)(n:Nat):TE:=λσ H Q=>wi σ H λJ H1=>
 Lj J g tc te (lG idx n σ) H1 λys H2=>ys.length<=aZ/\∀p,H2 p=none->Q (.ref p) (upd H2 p (.lst ys))
def Bs(n:Nat)(g:TG):Prop:=∀x σ H Q,g x σ H Q->g x σ H λσ2 H2=>Q σ2 H2/\Br n σ σ2
theorem IH{n k:Nat}{σ:St}{v:Option V}(h:n<=k):Br n σ (σ.set k v):=⟨lR,λi hi=>Aa om⟩
theorem jf{n k:Nat}(h:n<=k):Bs n (iL k):=λx σ H Q q=>⟨q,IH h⟩
theorem Dg{K:PySem.W.Frag}{n k l:Nat}(h:n<=k)(h':n<=l):Bs n (U6 K 2 (K7 (iL k) (K7 (iL l) U7))):=λx σ H Q q=>by
 refine jW q λa xs e1 e2 e3 aa=>?_;refine bf aa λv r e4 aa=>?_;refine cF aa λv' r' e5 e6 q=>?_;refine⟨a,⟨xs,e1,e2,e3,v,r,e4,v',r',e5,e6,q,?_⟩⟩;have k1:Br n σ (σ.set k (some v)):=IH h;have k2:Br n (σ.set k (some v)) ((σ.set k (some v)).set l (some v')):=IH h';exact⟨k2.1.trans k1.1,λi hi=>(k2.2 i hi).trans (k1.2 i hi)⟩
theorem QY{X:Cx}{pins:List (Addr×Obj)}{σ σ2:St}{H:Hp}{s:Shared}{idx:List Nat}{n:Nat}(I:Inv X pins σ2 H s)(k:Br idx.length (lG idx n σ) σ2):Inv X pins (lG idx n σ) H s:=
 I.weak k.1.symm λi v e=>by
  refine ag (IW e) λj h1 _=>?_;rw[k.2 i (eK.mp h1).1];exact e
theorem ig{J:It}{g:TG}{tc:zC}{te:TE}{σ0:St}{H1:Hp}{K:List V->Hp->Prop}{n:Nat}(P:Nat->List V->Hp->Prop)(hn:n<=aZ)(h0:P 0 [] H1)(hle:∀i ys H,P i ys H->ys.length<=i)
  (NI:∀i ys H,i<n->P i ys H->J.go i H) (cD:∀ys H,P n ys H->J.stop n H)
  (hs:∀i ys H,i<n->P i ys H->∀x H',J.vi i H x H'->g x σ0 H' λσ2 H2=>tc σ2 H2 λb H3=>if b=true then te σ2 H3 (λy H4=>P (i+1) (ys++[y]) H4) else P (i+1) ys H3)
  (hd:∀ys H,P n ys H->K ys H):Lj J g tc te σ0 H1 K:=by
 refine⟨λi m ys H=>m=n-i/\i<=n/\P i ys H,⟨n,by simp,bU _,h0⟩,?_⟩;rintro i m ys H ⟨rfl,hi,p⟩
 by_cases de:i<n
 ·refine .inr (cV (NI i ys H de p) (by have:=hle i ys H p;omega) ⟨P (i+1),λzs H' p'=>⟨n-(i+1),om,rfl,de,p'⟩,hs i ys H de p⟩)
 ·have e:i=n:=om;subst e;exact .inl ⟨cD ys H p,hd ys H p⟩
section
variable{X:Cx}{tg elt iter:Expr}{ifs:List Expr}{wi:TI}{g:TG}{tc:zC}{te:TE}{sc:Scope}{N:List Str}{idx:List Nat}{pos:Pos}
theorem RC{pins:List (Addr×Obj)}{s:Shared}{σ:St}{H:Hp}{K:List V->Hp->Prop}{E:Value->Shared->Prop}{RR:Addr->Value->Result->Shared->Prop}(hc:X.calm=true)(S:eC X sc N idx)(gk:Bs idx.length g)
  (hg:∀s H ex C,PG (jq X sc N s H ex C) tg g) (ht:∀s H ex C,BK (jq X sc N s H ex C) ifs tc) (he:∀s H ex C,PE (jq X sc N s H ex C) elt te)
  {it:Addr} {fp:List Addr} {tn:Nat->Heap->Prop} {J:It} (I:Inv X pins σ H s) (T:Turn X.prog X.w X.K tg J fp it tn) (st:tn 0 s.heap) (hf:∀b∈fp,eM X pins H b) (hW:Lj J g tc te (lG idx N.length σ) H K)
  (hR:∀(s':Shared) (ys:List V) (H':Hp) (m:Str->Option Value) (au:List Value) (n:Nat),K ys H'->Inv X pins σ H' s'->s'.heap.Ns (s.heap.push gd).objs.size m->H' (s.heap.push gd).objs.size=none->H' s.heap.objs.size=none->Vals ys au->
   s'.heap.get? s.heap.objs.size=some { cls:=.type "list",data:=.seq au.toArray n }->RR (s.heap.push gd).objs.size (.ref s.heap.objs.size) (.ok .next) s') :
  wpAny (model X.prog X.w) X.A (newList []) (λacc s₃=>wpAny (model X.prog X.w) X.A (newFunctionEnv sc X.env.globals (fJ X.env.cells sc.names []) [] X.env.qual none .none (some X.env)) (λVO s₄=>
   codeAny (model X.prog X.w) X.A (.compStart (.ListComp elt [⟨tg,iter,ifs,0⟩] sc pos) 0 (.ref it) acc { VO with scope:=relabel sc X.env }) (RR VO.locals acc) s₄) E s₃) E s:=by
 refine ag hW λW aa turn=>?_;refine oE aa λm0 w0=>?_;refine pY (wpAny_newFunctionEnv S.D0 (by intro y hy;cases hy) (λh' nK FH=>?_) S.kind);have hC:(s.heap.push gd).objs.size=s.heap.objs.size+1:=lS _ _;have hk:∀b o,(s.heap.push gd).get? b=some o->h'.get? b=some o:=λb o e=>(FH.2 b (dZ (cg e))).trans (bj _ e);have ho:∀b∈fp,∃o,s.heap.get? b=some o:=λb hb=>let ⟨o,e,_⟩:=T.obj _ _ st b hb;⟨o,e⟩
 have I0:=afL (t:=s.toks+([]:List (Str×Value)).length) I S hf ho nK hk
 have fn:∀b∈fp,b≠s.heap.objs.size:=λb hb=>by
  refine oE (ho b hb) λo e=>?_;exact dZ (cg e)
 have accN:H s.heap.objs.size=none:=I.aM.fresh (aH _)
 have N6:∀{H':Hp} {pl:List (Addr×Obj)},(∀b∈fp,H' b=none)->(∀p∈pl,p.1=s.heap.objs.size)->∀b∈fp,eM (jq X sc N (og s) H (s.heap.objs.size::fp) (s.heap.push gd).objs.size) pl H' b:=λ{H' pl} hn hp b hb=>by
  refine⟨(hn b hb),((I0.ok.tM b (eV _ hb)).1),(I0.ok.tF b (eV _ hb)),(.inl (eV _ hb)),((I0.ok.tM b (eV _ hb)).2),(λp hq=>?_)⟩;have xH:p∈pl:=by simpa[jq]using hq
  rw[hp p xH];exact fw (fn b hb)
 have loop:codeAny (model X.prog X.w) X.A (.compLoop (.ListComp elt [⟨tg,iter,ifs,0⟩] sc pos) 0 (.ref it) (.ref s.heap.objs.size) (compEnvC sc (fJ X.env.cells sc.names []) (s.heap.push gd).objs.size X.env))
   (RR (s.heap.push gd).objs.size (.ref s.heap.objs.size)) { og s with heap:=h',toks:=s.toks+([]:List (Str×Value)).length }:=by
  refine adK (EE:=λ_ _=>False) (λn s'=>∃i ys H' au k,Inv (jq X sc N (og s) H (s.heap.objs.size::fp) (s.heap.push gd).objs.size) [] (lG idx N.length σ) H' s'/\tn i s'.heap/\(∀b∈fp,H' b=none)/\H' s.heap.objs.size=none/\
   Vals ys au/\s'.heap.get? s.heap.objs.size=some { cls:=.type "list",data:=.seq au.toArray k }/\W i n ys H') (λ_ _ z=>z.elim) ?_ m0 ?_
  ·rintro n s3 ⟨i,ys,H3,au,kk,I3,BS,Cm,F',Fo,ac3,w3⟩
   have EN:∀{H':Hp},H' s.heap.objs.size=none->eM (jq X sc N (og s) H (s.heap.objs.size::fp) (s.heap.push gd).objs.size) [] H' s.heap.objs.size:=λ{H'} hn=>
    ⟨hn,(I0.ok.tM _ fX).1,I0.ok.tF _ fX,.inl fX,(I0.ok.tM _ fX).2,λp hq=>absurd (show p∈([]:List (Addr×Obj)) from hq) (by simp)⟩
   have P3:Inv (jq X sc N (og s) H (s.heap.objs.size::fp) (s.heap.push gd).objs.size) [(s.heap.objs.size,{ cls:=.type "list",data:=.seq au.toArray kk })] (lG idx N.length σ) H3 s3:=I3.uG λp hp=>by
    have e:p=(s.heap.objs.size,{ cls:=.type "list",data:=.seq au.toArray kk }):=by simpa using hp
    subst e;exact rq ac3 F' ((EN F').2.1) ((EN F').2.2.1) (λv z=>by cases z)
   have one:∀p∈[((s.heap.objs.size,{ cls:=.type "list",data:=.seq au.toArray kk }):Addr×Obj)],p.1=s.heap.objs.size:=λp hp=>by
    have e:p=(s.heap.objs.size,{ cls:=.type "list",data:=.seq au.toArray kk }):=by simpa using hp
    rw[e]
   rcases turn i n ys H3 w3 with ⟨stop,kq⟩ | ⟨go,hz,NN,XE,step⟩
   ·refine aU (T.done (jq X sc N (og s) H (s.heap.objs.size::fp) (s.heap.push gd).objs.size) rfl rfl rfl hc i _ s3 _ H3 _ P3 (N6 Cm one) BS stop) λr s4 ⟨hr,I4⟩=>⟨λ_=>?_,λv e=>(by rw[hr]at e;cases e)⟩;refine ag I4.loc λm' xQ _=>?_;exact hR s4 ys H3 m' au kk kq (afK I hf I4) xQ I4.free F' Fo (I4.pin _ (gR _ fX)).1
   ·refine aU (T.item (jq X sc N (og s) H (s.heap.objs.size::fp) (s.heap.push gd).objs.size) rfl rfl rfl hc i _ s3 _ H3 _ P3 (N6 Cm one) BS go) λr s4 ⟨u,hr,h4⟩=>⟨λe=>(by rw[hr]at e;cases e),λv e=>?_⟩;rw[hr]at e;cases e;refine aU h4 λ_ s5 ⟨x,H5,I5,r5,y5,tS,Cj⟩=>?_;have Od:=I5.pinned (N6 Cj one) (T.obj _ _ tS);refine aU (hg _ _ _ _ _ s5 _ H5 x u _ Od r5 (gk _ _ _ _ (step x H5 y5))) λ_ s6 ⟨σ6,H6,I6,q6,k6⟩=>?_;refine aU (ht _ _ _ _ _ s6 σ6 H6 _ I6 q6) λok s7 ⟨H7,I7,q7⟩=>⟨λe=>?_,λe=>?_⟩
    ·subst e;rw[if_pos rfl]at q7;refine aU (he _ _ _ _ _ s7 σ6 H7 _ I7 q7) λv s8 ⟨y,H8,I8,r8,n8⟩=>?_;refine ag (XE _ _ n8) λm' hm w8=>?_;have pa:=I8.pin (s.heap.objs.size,{ cls:=.type "list",data:=.seq au.toArray kk }) (gR _ (ph _ fX));have hlen:=Fo.length;refine wpAny_list_append_plain (items:=au.toArray) ⟨kk,pa.1⟩ (λh9 pl9 Wb=>?_) (by rw[dF];omega);have Oc:Inv (jq X sc N (og s) H (s.heap.objs.size::fp) (s.heap.push gd).objs.size) (yR fp s5.heap) σ6 H8 s8:=I8.uG λp hp=>I8.pin p (gR _ (gR _ hp))
     have I9:=Oc.turned (h':=h9) (t':=s8.toks) (it:=s.heap.objs.size) (λb o hb e=>(Wb.2 b hb).trans e) pa.2.1 (EN pa.2.1).2.1 (.inl fX) (EN pa.2.1).2.2.2.2.1 (λp hp=>by
      have ju:p∈yR fp s5.heap:=by simpa[jq]using hp
      exact fn p.1 (Qz ju).1)
     refine oE pl9 λk9 e9=>?_;refine⟨m',⟨hm,i+1,ys++[y],H8,au++[v],k9,QY (I9.uG λp hp=>absurd hp (by simp)) k6,T.keep _ _ _ tS λb hb o e=>?_,λb hb=>?_,pa.2.1,Fo.append (.cons r8 .nil),?_,w8⟩⟩
     ·have q:=(Oc.pin (b,o) (gR _ (yr hb e))).1;exact(Wb.2 b (fn b hb)).trans q
     ·refine ag (T.obj _ _ tS b hb) λo e _=>?_;exact(Oc.pin (b,o) (gR _ (yr hb e))).2.1
     ·rw[e9];simp
    ·subst e;rw[if_neg dG]at q7;refine ag (XE _ _ q7) λm' hm w7=>?_;have pa:=I7.pin (s.heap.objs.size,{ cls:=.type "list",data:=.seq au.toArray kk }) (gR _ (ph _ fX));refine⟨m',⟨hm,i+1,ys,H7,au,kk,QY (I7.uG λp hp=>absurd hp (by simp)) k6,T.keep _ _ _ tS λb hb o e=>?_,λb hb=>?_,pa.2.1,Fo,pa.1,w7⟩⟩
     ·exact(I7.pin (b,o) (gR _ (gR _ (yr hb e)))).1
     ·refine ag (T.obj _ _ tS b hb) λo e _=>?_;exact(I7.pin (b,o) (gR _ (gR _ (yr hb e)))).2.1
  ·exact⟨0,([]),H,([]),0,I0,(T.keep _ _ _ st λb hb o e=>hk b o (bj _ e)),(λb hb=>(hf b hb).1),accN,.nil,(hk _ _ (eO _ rfl)),w0⟩
 exact codeAny_compStart_list loop (T.self _ 0 _ _ _ (T.keep _ _ _ st λb hb o e=>hk b o (bj _ e)) loop)
theorem ji(hc:X.calm=true)(S:eC X sc N idx)(gk:Bs idx.length g)(hi:PI X tg iter wi)
  (hg:∀s H ex C,PG (jq X sc N s H ex C) tg g) (ht:∀s H ex C,BK (jq X sc N s H ex C) ifs tc) (he:∀s H ex C,PE (jq X sc N s H ex C) elt te)
  (hs:∀x,OD iter X.env x=pure x:=by intro _;rfl):PE X (.ListComp elt [⟨tg,iter,ifs,0⟩] sc pos) (TZ wi g tc te idx N.length):=by
 intro pins s σ H Q I h;rw[eval_ListComp];have nN:Di sc X.env=pure (fJ X.env.cells sc.names []):=HC λp hp e=>I.ok.has p.1 (.inl (S.frees p hp e));refine YF (use:=none) rfl hs nN S.kind S.locs (aU (hi pins s σ H _ I h) λv s1 h1=>aU h1 λFw s2 h2=>?_);refine uo h2 λit fp tn J H2 e I2 T BU f2 hW=>?_;subst e;refine RC (RR:=λC acc=>compPost (model X.prog X.w) X.A X.xe none (EP X pins σ Q) acc C) hc S gk hg ht he I2 T BU f2 hW λs' ys H' m au n kq I' nK N0 Ci rv ea=>?_;have hC:(s2.heap.push gd).objs.size=s2.heap.objs.size+1:=lS _ _;have fa:eM X pins H2 s2.heap.objs.size:=I2.iu (aH _) (I2.aM.fresh (aH _));have fC:eM X pins H2 (s2.heap.push gd).objs.size:=I2.iu (by rw[hC];exact lx _) (I2.aM.fresh (by rw[hC];exact lx _));have ya:X.s₀.heap.objs.size<=s2.heap.objs.size:=I2.sz;have I1:=Inv.adopt (o:=.lst ys) I' Ci ya fa.2.1 fa.2.2.2.2.1 fa.2.2.2.2.2 ⟨kq.1,au,n,rv,ea⟩;refine ak m nK λh' sb=>(eL (.ref s2.heap.objs.size) _ (I1.turned (h':=h') (t':=s'.toks) (it:=(s2.heap.push gd).objs.size) (λb o hb e=>(sb.2 b hb).trans e) ?_ fC.2.1 (.inr (by rw[hC];exact yc ya)) fC.2.2.2.2.1 fC.2.2.2.2.2) rfl (kq.2 _ Ci));rw[ar (by rw[hC];exact GG _)];exact N0
theorem Df{i:Nat}{x:Str}{pos' Vi:Pos}(hN:X.N.Nodup)(hx:X.N[i]?=some x)(hl:X.env.scope.names.lookup x=some .local)(hc:X.calm=true)(S:eC X sc N idx)(gk:Bs idx.length g)(hi:PI X tg iter wi)
  (hg:∀s H ex C,PG (jq X sc N s H ex C) tg g) (ht:∀s H ex C,BK (jq X sc N s H ex C) ifs tc) (he:∀s H ex C,PE (jq X sc N s H ex C) elt te)
  (hsw:Ig (.ListComp elt [⟨tg,iter,ifs,0⟩] sc pos) (some (.Name x pos')) Vi.line X.env=pure true:=by rfl)
  (hs:∀x,OD iter X.env x=pure x:=by intro _;rfl):PS X (.Assign [.Name x pos'] (.ListComp elt [⟨tg,iter,ifs,0⟩] sc pos) Vi) (Lz (TZ wi g tc te idx N.length) (iL i)):=by
 intro pins s σ H D I h;rw[exec_Assign_Name_used _ _ _ _ hsw];refine ah (CU (ah ?_));have nN:Di sc X.env=pure (fJ X.env.cells sc.names []):=HC λp hp e=>I.ok.has p.1 (.inl (S.frees p hp e));show wpAny _ X.A (do let _ <-comprehension (.ListComp elt [⟨tg,iter,ifs,0⟩] sc pos) sc X.env _ (newList []) false (eval iter X.env) (some (assign (.Name x pos') X.env))) _ _ s;refine ah (jg (YF (use:=some (assign (.Name x pos') X.env)) (Q:=λ_ s'=>SP X pins D .next s') rfl hs nN S.kind S.locs (aU (hi pins s σ H _ I h) λv s1 h1=>aU h1 λFw s2 h2=>?_)) (λ_ s' q=>aG (aG q)) λ_ _ q=>q);refine uo h2 λit fp tn J H2 e I2 T BU f2 hW=>?_;subst e;refine RC (RR:=λC acc=>compPost (model X.prog X.w) X.A X.xe (some (assign (.Name x pos') X.env)) (λ_ s'=>SP X pins D .next s') acc C) hc S gk hg ht he I2 T BU f2 hW λs' ys H' m au n kq I' nK N0 Ci rv ea=>?_;have hC:(s2.heap.push gd).objs.size=s2.heap.objs.size+1:=lS _ _;have fa:eM X pins H2 s2.heap.objs.size:=I2.iu (aH _) (I2.aM.fresh (aH _));have fC:eM X pins H2 (s2.heap.push gd).objs.size:=I2.iu (by rw[hC];exact lx _) (I2.aM.fresh (by rw[hC];exact lx _));have ya:X.s₀.heap.objs.size<=s2.heap.objs.size:=I2.sz;have I1:=Inv.adopt (o:=.lst ys) I' Ci ya fa.2.1 fa.2.2.2.2.1 fa.2.2.2.2.2 ⟨kq.1,au,n,rv,ea⟩
 have anv:upd H' s2.heap.objs.size (.lst ys) (s2.heap.push gd).objs.size=none:=by
  rw[ar (by rw[hC];exact GG _)];exact N0
 show wpAny (model X.prog X.w) X.A (assign (.Name x pos') X.env (.ref s2.heap.objs.size)) _ X.xe s';refine wpAny_assign_Name (Qi (v:=.ref s2.heap.objs.size) I1 hN hx (.inl hl) rfl (λs3 I3 ⟨a,sb,ha⟩=>?_) (.inr hl))
 have aC:(s2.heap.push gd).objs.size≠a:=by
  rcases ha with e | e
  ·rw[e];exact fC.2.1
  ·exact fw (fC.2.2.2.2.1 x a e)
 refine ak m (nK.sameBut sb aC) λh' sb'=>(eT _ _ (I3.turned (h':=h') (t':=s3.toks) (it:=(s2.heap.push gd).objs.size) (λb o hb e=>(sb'.2 b hb).trans e) anv fC.2.1 (.inr (by rw[hC];exact yc ya)) fC.2.2.2.2.1 fC.2.2.2.2.2) (kq.2 _ Ci))
end
end L2
namespace L2
open PySem PySem.W PyProof.Rows
section
variable{cmp:Nat->Nat->(Bool->Shared->Prop)->Shared->Prop}{r:Nat->Int}{n:Nat}{p:Array Nat}{s:Shared}
def rk(r:Nat->Int)(p:Array Nat)(k:Nat):Int:=r (p.getD k 0)
def iM(n:Nat)(p:Array Nat):Prop:=p.Perm (List.range n).toArray
def td(r:Nat->Int)(p:Array Nat)(m:Nat):Prop:=∀i j,i<j->j<m->rk r p i<rk r p j
theorem iM.size(g:iM n p):p.size=n:=by
 have:=g.size_eq;simpa using this
theorem iM.lt(g:iM n p){k:Nat}(hk:k<n):p.getD k 0<n:=by
 have hs:=g.size;have hm:p[k]'(by exact wg)∈p:=Array.getElem_mem _;have:=(g.mem_iff).mp hm;simp only[yv,show k<p.size by exact wg,dif_pos];simpa using this
theorem iM.ne(g:iM n p){i j:Nat}(hi:i<n)(hj:j<n)(h:i≠j):p.getD i 0≠p.getD j 0:=by
 have hs:=g.size;have nd:p.toList.Nodup:=(Yy.mp g).nodup_iff.mpr (by simpa using List.nodup_range);intro e;simp only[yv,show i<p.size by exact wg,show j<p.size by exact wg,dif_pos]at e;have e':p.toList[i]'(by simpa using (by exact wg:i<p.size))=p.toList[j]'(by simpa using (by exact wg:j<p.size)):=by simpa using e
 rcases Zf h with q | q
 ·exact lP.mp nd i j _ _ q e'
 ·exact lP.mp nd j i _ _ q e'.symm
variable(hr:∀i j,i<n->j<n->r i=r j->i=j)(hc:∀i j (C:Bool->Shared->Prop),i<n->j<n->i≠j->C (decide (r i<r j)) s->cmp i j C s)
include hr hc
theorem KO(g:iM n p){i j:Nat}(hi:i<n)(hj:j<n)(h:i≠j):rk r p i≠rk r p j:=λe=>g.ne hi hj h (hr _ _ (g.lt hi) (g.lt hj) e)
theorem Kk(g:iM n p){Q:Nat->Shared->Prop}:∀f m,1<=m->m+f<=n->td r p m->(∀m',m<=m'->m'<=m+f->td r p m'->(m'<m+f->rk r p m'<rk r p (m'-1))->Q m' s)->(kas_asc p f m).kasWp cmp Q s
 | 0,m,h1,h2,ri,k=>k m (aH _) (aH _) ri λh=>absurd h (kv _)
 | f+1,m,h1,h2,ri,k=>by
  refine hc _ _ _ (g.lt om) (g.lt om) (g.ne om om om) ?_
  by_cases hb:r (p.getD m 0)<r (p.getD (m-1) 0)
  ·simp only[hb,decide_true,if_true];exact k m (aH _) om ri λ_=>hb
  ·simp only[hb,decide_false,pX,if_false];refine Kk g f (m+1) om om (λi j oY hj=>?_) λm' a b c d=>k m' om om c λh=>d om
   by_cases e:j=m
   ·subst e
    have h3:rk r p (j-1)<rk r p j:=by
     have:=KO hr hc g (i:=j-1) (j:=j) om om om;unfold rk at this ⊢;omega
    by_cases e2:i=j-1
    ·subst e2;exact h3
    ·have:=ri i (j-1) om om;omega
   ·exact ri i j oY om
theorem Sx(g:iM n p){Q:Array Nat×Nat×Nat->Shared->Prop}:∀f m,1<=m->m+f<=n->(∀i j,i<j->j<m->rk r p j<rk r p i)->
  (∀m',m<=m'->m'<=m+f->(∀i j,i<j->j<m'->rk r p j<rk r p i)->Q (p,m',0) s)->(kas_desc f p m 0).kasWp cmp Q s
 | 0,m,h1,h2,ri,k=>k m (aH _) (aH _) ri
 | f+1,m,h1,h2,ri,k=>by
  refine hc _ _ _ (g.lt om) (g.lt om) (g.ne om om om) ?_
  by_cases hb:r (p.getD m 0)<r (p.getD (m-1) 0)
  ·simp only[hb,decide_true,if_true];rw[if_neg om];refine Sx g f (m+1) om om (λi j oY hj=>?_) λm' a b c=>k m' om om c
   by_cases e:j=m
   ·subst e;have h3:rk r p j<rk r p (j-1):=hb
    by_cases e2:i=j-1
    ·subst e2;exact h3
    ·have:=ri i (j-1) om om;omega
   ·exact ri i j oY om
  ·simp only[hb,decide_false,pX,if_false];refine hc _ _ _ (g.lt om) (g.lt om) (g.ne om om om) ?_
   have h3:r (p.getD (m-1) 0)<r (p.getD m 0):=by
    have:=KO hr hc g (i:=m-1) (j:=m) om om om;unfold rk at this;omega
   simp only[h3,decide_true,if_true];exact k m (aH _) om ri
theorem Td(g:iM n p){m k:Nat}(hm:m<=n)(hk:k<m):rk r (kas_rev p 0 m) k=rk r p (m-1-k):=by
 have hs:=g.size;unfold rk kas_rev;rw[Gh,getElem?_mirror_all om,if_pos ⟨bU _,hk⟩,Gh]
 congr 3
 omega
theorem ad0(g:iM n p){m:Nat}(h1:1<=m)(hm:m<=n)(ri:∀i j,i<j->j<m->rk r p j<rk r p i){Q:Nat×Array Nat->Shared->Prop}
  (k:∀m' p',1<=m'->m'<=n->iM n p'->td r p' m'->Q (m',p') s):(kas_tail3 m n p).kasWp cmp Q s:=by
 unfold kas_tail3;rw[CQ];have g':iM n (kas_rev p 0 m):=(mirror_perm _ _ _ _).trans g;refine Kk hr hc g' _ _ h1 om (λi j oY hj=>?_) λm' a b c _=>k m' _ (by exact wj) om g' c;rw[Td hr hc g hm om,Td hr hc g hm hj];exact ri _ _ om om
theorem afJ(g:iM n p)(h1:1<=n){Q:Nat×Array Nat->Shared->Prop}(k:∀m' p',1<=m'->m'<=n->iM n p'->td r p' m'->Q (m',p') s):(kas_count n p).kasWp cmp Q s:=by
 unfold kas_count;rw[CQ];refine Kk hr hc g _ _ (aH _) om (λi j oY hj=>absurd oY om) λm a b ri hb=>?_
 by_cases e:m=n
 ·rw[if_pos (by simpa using e)];exact k m p (by exact w0) om g ri
 ·rw[if_neg (by simpa using e)]
  by_cases h2:m > 1
  ·rw[if_pos h2];refine hc _ _ _ (g.lt om) (g.lt om) (g.ne om om om) ?_;have h3:=ri 0 (m-1) om om;unfold rk at h3;simp only[h3,decide_true,if_true];exact k m p (by exact w0) om g ri
  ·rw[if_neg h2];have hm:m=1:=om;subst hm;have h3:=hb om;unfold kas_descPart;rw[CQ];refine Sx hr hc g _ _ (by exact xd) om (λi j oY hj=>?_) λm' a b ri'=>?_
   ·have:i=0/\j=1:=om;rw[this.1,this.2];exact h3
   ·simp only[kv,gt_iff_lt,if_false];exact ad0 hr hc g om om ri' k
theorem IE(g:iM n p){k:Nat}(hk:k<n)(ri:td r p k){Q:Nat->Shared->Prop}:∀f l u,l<=u->u<=k->u-l<=f->(∀i,i<l->rk r p i<rk r p k)->(∀i,u<=i->i<k->rk r p k<rk r p i)->
  (∀l,l<=k->(∀i,i<l->rk r p i<rk r p k)->(∀i,l<=i->i<k->rk r p k<rk r p i)->Q l s)->(kas_place p k f l u).kasWp cmp Q s
 | 0,l,u,h1,h2,h3,a,b,q=>q l (by exact wj) a λi hi hk=>b i om hk
 | f+1,l,u,h1,h2,h3,a,b,q=>by
  unfold kas_place
  by_cases e:l ≥ u
  ·rw[if_pos e];exact q l (by exact wj) a λi hi hk=>b i (by exact wj) hk
  ·rw[if_neg e];refine hc _ _ _ (g.lt hk) (g.lt om) (g.ne hk om om) ?_;have hm:(l+u)/2<u:=om;have hl:l<=(l+u)/2:=om
   by_cases hb:r (p.getD k 0)<r (p.getD ((l+u)/2) 0)
   ·simp only[hb,decide_true,if_true];refine IE g hk ri f l ((l+u)/2) hl om om a (λi hi xS=>?_) q
    by_cases e2:i=(l+u)/2
    ·subst e2;exact hb
    ·have:=ri ((l+u)/2) i om xS;have tZ:rk r p k<rk r p ((l+u)/2):=hb;omega
   ·simp only[hb,decide_false,pX,if_false]
    have tZ:rk r p ((l+u)/2)<rk r p k:=by
     have:=KO hr hc g (i:=(l+u)/2) (j:=k) om hk om;unfold rk at this ⊢;omega
    refine IE g hk ri f ((l+u)/2+1) u (by exact xf) h2 om (λi hi=>?_) b q
    by_cases e2:i=(l+u)/2
    ·subst e2;exact tZ
    ·have:=ri i ((l+u)/2) om (by exact wh);omega
theorem TK(g:iM n p){k l:Nat}(hk:k<n)(hl:l<=k)(j:Nat):rk r (bubble p k (k-l)) j=if j=l then rk r p k else if l<j/\j<=k then rk r p (j-1) else rk r p j:=by
 have hs:=g.size;unfold rk;rw[Gh,getElem?_bubble (by exact wg) _ om,show k-(k-l)=l by omega];simp only[Gh]
 repeat' split
 all_goals first | rfl | (exfalso;omega)
theorem TM{Q:Array Nat->Shared->Prop}(q:∀p',iM n p'->td r p' n->Q p' s):∀f k (p:Array Nat),iM n p->k+f=n->td r p k->(kas_bin f p k).kasWp cmp Q s
 | 0,k,p,g,h,ri=>q p g (by have:k=n:=om;rwa[this]at ri)
 | f+1,k,p,g,h,ri=>by
  unfold kas_bin;rw[CQ];refine IE hr hc g om ri k 0 k (bU _) (aH _) (by exact w1) (λi hi=>absurd hi om) (λi hi hk=>absurd hk om) λl hl a b=>?_;refine TM q f (k+1) _ ((bubble_perm _ _ _).trans g) om λi j oY hj=>?_;rw[TK hr hc g om hl,TK hr hc g om hl]
  by_cases e1:i=l
  ·rw[if_pos e1,if_neg om,if_pos om];exact b _ om om
  ·rw[if_neg e1]
   by_cases e2:j=l
   ·rw[if_pos e2,if_neg om];exact a i (by exact wf)
   ·rw[if_neg e2]
    by_cases h3:l<i/\i<=k
    ·rw[if_pos h3,if_pos om];exact ri _ _ om om
    ·rw[if_neg h3]
     by_cases h4:l<j/\j<=k
     ·rw[if_pos h4]
      by_cases e5:i=j-1
      ·omega
      ·exact ri _ _ om om
     ·rw[if_neg h4];exact ri _ _ oY om
theorem af4(h1:1<=n){Q:Array Nat->Shared->Prop}(q:∀p',iM n p'->td r p' n->Q p' s):(kas_sort n).kasWp cmp Q s:=by
 unfold kas_sort;rw[CQ];refine afJ hr hc (Z2 _) h1 λm p' a b g ri=>?_;dsimp only
 by_cases h:m<n
 ·rw[if_pos h];exact TM hr hc q _ _ _ g om (by rw[show max m 1=m by omega];exact ri)
 ·rw[if_neg h];have:m=n:=om;rw[this]at ri;exact q p' g ri
end
end L2
namespace L2
open PySem PySem.Spec PySem.W PyProof.Rows
theorem agP{h:Heap}{a:Addr}{m m':Str->Option Value}(x:h.Ns a m)(y:h.Ns a m'):m=m':=by
 obtain⟨o,es,ep,e,d,_,f⟩:=x;obtain⟨o',lO,zR,e',d',_,f'⟩:=y;rw[e]at e';cases e';rw[d]at d';cases d'
 funext n
 exact(f n).symm.trans (f' n)
section
variable{X:Cx}{pins:List (Addr×Obj)}{σ:St}{H:Hp}{s:Shared}
theorem Inv.regrown{h':Heap}{m:Str->Option Value}{t':Nat}{d':Drawn}(I:Inv X pins σ H s)(h1:s.heap.Ns X.env.locals m)(h2:h'.Ns X.env.locals m)(k:∀b o,b≠X.env.locals->s.heap.get? b=some o->h'.get? b=some o) :
  Inv X pins σ H { s with heap:=h',drawn:=d',toks:=t' }:=by
 refine I.step (g':=s.gens) (d':=d') (ch:=[]) (λ_ z=>nomatch z) (λb o hL _ _ e _=>k b o hL e) (λb o hL _ _ e _=>⟨o.slots,k b o hL e⟩) (λ_ _ _ _ n=>n) (λb o _ e=>?_) (λ_ _ e=>e) (λ_ _ _ e=>e)
  (λb ps e=>⟨#[],by rw[e];simp⟩) (λm' hm=>by rw[agP hm h1];exact h2) (λb u e=>?_) I.bare
 ·by_cases z:b=X.env.locals
  ·obtain⟨o',_,_,q,_⟩:=h2;exact⟨o',by rw[z];exact q⟩
  ·exact⟨o,k b o z e⟩
 ·refine(I.aM b u e).qu (λd v hd q=>k d v (λz=>?_) q) (λ_ q=>q) λ_ _ q=>q;have fr:=I.free;rw[<-z]at fr;rcases hd with y | y
  ·rw[y,e]at fr;cases fr
  ·rw[y]at fr;cases fr
structure Srt(P:Program)(w:World)(L:Addr)(h:Heap)(vs:List Value)(r:Nat->Int):Prop where
 small:vs.length<64
 inj:∀i j,i<vs.length->j<vs.length->r i=r j->i=j
 ask:2<=vs.length->∃κ,∀(A:Around) (s':Shared),(∀b o,b≠L->h.get? b=some o->s'.heap.get? b=some o)->
  (∀Q:SortKind->Shared->Prop,Q κ s'->wpAny (model P w) A (keyKind' vs.toArray) Q (λ_ _=>False) s')/\
  ∀i j (C:Bool->Shared->Prop),i<vs.length->j<vs.length->i≠j->C (decide (r i<r j)) s'->kas_ask P w A κ vs i j C s'
def D'(ys:List V)(r:Nat->Int)(zs:List V):Prop:=∃p:Array Nat,iM ys.length p/\td r p ys.length/\zs=p.toList.map λi=>ys.getD i .aD
theorem ab4{P:Program}{w:World}{A:Around}{E:Value->Shared->Prop}{a:Addr}{vs:List Value}{n:Nat}{R:PySem.Fin->Shared->Prop}(ho:s.heap.get? a=some (seqObj "list" vs.toArray n))(h1:vs.length<2)
  (k:∀h' e,(∀b o,b≠a->s.heap.get? b=some o->h'.get? b=some o)->h'.get? a=some (seqObj "list" vs.toArray e)->R (.done (.ret .none)) { s with heap:=h' }) :
  wpAny (model P w) A (Builtin.«list.sort» ⟨[.ref a],[]⟩) R E s:=by
 have la:=cg ho;have hn:vs.toArray.size<2:=by rw[dF];exact h1
 have zs:∀m:Nat,m<2->m<=aZ:=λm hm=>by rw[iq];exact w5
 obtain⟨e1,q1⟩:∃e1,(s.heap.update a (jO λ_=>(#[]:Array Value))).get? a=some (seqObj "list" #[] e1):=⟨_,OM ho λ_=>#[]⟩;rw[list_sort_plain];refine ah (listItems_at ho rfl (ah (listUpdate_at ho rfl (ah (seqEpoch_at q1 rfl (ah (OQ (ah (OX (nW ?_) (bU _))) (zs _ (by simpa using h1)))))) (zs _ (by simpa using h1)) (bU _))));have q3:=bj (seqObj "list" #[] 0) (bj (seqObj "tuple" vs.toArray 0) q1);dsimp only;rw[if_pos hn,if_pos hn];refine ah (aG ?_);rw[StateT.run_pure];refine ah (aG ?_);dsimp only
 have eo:(arrOf (SortSt.mk' general' (vs.toArray.zip vs.toArray) #[] 7 none)).map (·.2)=vs.toArray:=by
  show (vs.toArray.zip vs.toArray).map (·.2)=vs.toArray;apply Array.toList_inj.mp;rw[Array.toList_map,Array.toList_zip];show (vs.zip vs).map Prod.snd=vs;rw[List.map_snd_zip (aH _)]
 rw[eo];refine ah (seqEpoch_at q3 rfl (ah (listUpdate_at q3 rfl ?_ (bU _) (cH (zs _ (by simpa using h1)) (lx _)))));rw[if_neg (by simp)];refine aG (k _ _ (λb o hb e=>?_) (OM q3 λ_=>vs.toArray));rw[Oy _ _ _ _ hb];exact bj _ (bj _ (by rw[Oy _ _ _ _ hb];exact e))
theorem Qf{ys:List V}{vs:List Value}(rv:Vals ys vs):∀l:List Nat,Vals (l.map λi=>ys.getD i .aD) (l.map λi=>vs.getD i gq)
 | []=>.nil
 | i::l=>by
  refine .cons ?_ (Qf rv l);dsimp only;rw[ug,ug];cases e:ys[i]? with
  | none=>rw[rv.none_of e];rfl
  | some y=>obtain⟨u,e',q⟩:=rv.get e;rw[e'];exact q
theorem ab'(ys:List V):(List.range ys.length).map (λi=>ys.getD i .aD)=ys:=by
 apply OI
 ·simp
 ·intro i h1 h2;simp[h2]
theorem QD{n:Nat}{p:Array Nat}(g:iM n p):p.toList.length=n:=by rw[lQ,g.size]
theorem Qn{x:Value}{Q:VK}(ans:wpAny (model X.prog X.w) X.A.in1 (collect x) (λvs s1=>∃ys r,Inv X pins σ H s1/\Vals ys vs/\Srt X.prog X.w X.env.locals s1.heap vs r/\∀l zs,H l=none->D' ys r zs->Q (.ref l) (upd H l (.lst zs))) X.xe s) :
  wpAny (model X.prog X.w) X.A (call (.builtin "sorted") [x]) (EP X pins σ Q) X.xe s:=by
 refine Calls.call_function_entry kind_sorted plain_sorted entry_sorted (args_sorted1 _) ?_;unfold Builtin.«sorted»;refine ah (aG (a:=()) (ah (jg ans (λvs s1 hq=>?_) λ_ _ z=>z)));obtain⟨ys,r,I,rv,S,q⟩:=hq;have hlen:=rv.length;have line:vs.length<=aZ:=by have:=S.small;rw[iq];exact w5
 refine ah (OX ?_ line);obtain⟨du,g,d,tk,os⟩:=s1;dsimp only at I S ⊢;have q0:(du.push (seqObj "list" vs.toArray 0)).get? du.objs.size=some (seqObj "list" vs.toArray 0):=eO _ rfl;obtain⟨m,F0⟩:=I.fr;have hL:X.env.locals<du.objs.size:=I.lt;have hb:X.base.objs.size<=du.objs.size:=cH I.ok.ml I.sz
 have fin:∀(h2:Heap) (c:Nat) (zs:List V) (out:List Value),h2.Ns X.env.locals m->(∀b o,b≠X.env.locals->du.get? b=some o->h2.get? b=some o)->h2.get? du.objs.size=some (seqObj "list" out.toArray c)->
   Vals zs out->zs.length<=aZ->D' ys r zs->EP X pins σ Q (.ref du.objs.size) ⟨h2,g,d,tk,os⟩:=λh2 c zs out n2 k2 e2 v2 l2 so=>by
  have hn:H du.objs.size=none:=I.aM.fresh (aH _);have f:=I.iu (b:=du.objs.size) (aH _) hn;have J:=Inv.regrown (s:=⟨du,g,d,tk,os⟩) (t':=tk) (d':=d) I F0.ns n2 k2;exact⟨.ref du.objs.size,_,Inv.adopt (o:=.lst zs) J hn I.sz f.2.1 f.2.2.2.2.1 f.2.2.2.2.2 ⟨l2,out,c,v2,e2⟩,rfl,q _ _ hn so⟩
 refine ah (nW (sE slot_list_sort ⟨_,q0,rfl⟩ entry_list_sort ?_ (args_list_sort _)));have kp:∀b o,du.get? b=some o->(du.push (seqObj "list" vs.toArray 0)).get? b=some o:=λb o e=>bj _ e
 by_cases h2:vs.length<2
 ·refine ab4 (s:=⟨du.push (seqObj "list" vs.toArray 0),g,d,tk,os⟩) q0 h2 λh' e k' e'=>⟨_,rfl,aG ⟨_,rfl,?_⟩⟩;have ne:∀b o,du.get? b=some o->b≠du.objs.size:=λb o z=>dZ (cg z);refine fin h' e ys vs ?_ (λb o _ z=>k' b o (ne b o z) (kp b o z)) e' rv w7 ⟨(List.range ys.length).toArray,Z2 _,λi j oY hj=>absurd oY om,(ab' ys).symm⟩;obtain⟨o,es,ep,z,rr⟩:=F0.ns;exact⟨o,es,ep,k' _ _ (ne _ _ z) (kp _ _ z),rr⟩
 ·have h3:2<=vs.length:=om
  refine kat_list_sort (s:=⟨du.push (seqObj "list" vs.toArray 0),g,d,tk,os⟩) (h₀:=X.base) (L:=X.env.locals) (m:=m) (news:=rest X.base (du.push (seqObj "list" vs.toArray 0)) X.env.locals du.objs.size) (F0.push _)
   (λp hp=>aeF p (qa.mp hp).1) q0 (qS hL) (Y3 hb) Sg h3 S.small λe1 h' F1 N1=>?_
  have keep:∀h3:Heap,Fr X.base X.env.locals h3 m->News X.base X.env.locals h3 (rest X.base (du.push (seqObj "list" vs.toArray 0)) X.env.locals du.objs.size)->∀b o,b≠X.env.locals->du.get? b=some o->h3.get? b=some o:=λh3 F3 N3 b o hb z=>
   abb (λb o z=>kp b o (I.bk b o z)) F3 N3 b o hb (dZ (cg z)) (kp b o z)
  obtain⟨κ,hκ⟩:=S.ask h3;have hk:=hκ X.A.in1.in1 ⟨h',g,d,tk,os⟩ (keep h' F1 λp hp=>N1 p (.tail _ hp));refine hk.1 _ (af4 (r:=r) S.inj (λi j C hi hj ne c=>hk.2 i j C hi hj ne c) om λp' gp ri=>?_);refine KasFin.intro F1 N1 (.head Sg) λh4 c F4 N4=>⟨_,rfl,aG ⟨_,rfl,?_⟩⟩;refine fin h4 c (p'.toList.map λi=>ys.getD i .aD) _ F4.ns (keep h4 F4 λp hp=>N4 p (.tail _ hp)) (N4 _ (.head _)).1 (Qf rv _) ?_ ⟨p',by rw[hlen];exact gp,by rw[hlen];exact ri,rfl⟩;rw[aN,QD gp];exact line
end
end L2
namespace L2
open PySem PySem.Spec PySem.W PyProof.Rows L3
abbrev J9(X:Cx)(sc:Scope)(qual:Str)(f:Addr)(cd:Value)(L:Addr):Env:=envX qual sc L f cd (fJ X.env.cells sc.names [])
def E3(X:Cx)(A:Around)(sc:Scope)(N:List Str)(qual:Str)(f:Addr)(cd:Value)(s:Shared)(H:Hp):Cx:=
 {X with A:=A.deeper (J9 X sc qual f cd s.heap.objs.size),N:=N,s₀:=s,H₀:=H,env:=J9 X sc qual f cd s.heap.objs.size,outer:=X.stack,stack:=J9 X sc qual f cd s.heap.objs.size::X.stack,ex:=[],fn:=λ_=>false,calm:=true,pn:=[],xe:=λ_ _=>False }
section
variable{X:Cx}{pins:List (Addr×Obj)}{σ:St}{H:Hp}{s:Shared}{sc:Scope}{N:List Str}{idx:List Nat}{A:Around}{f:Addr}{cd:Value}{qual px:Str}{k:Nat}{v:V}{u:Value}
theorem ag5(I:Inv X pins σ H s)(S:eC X sc N idx)(hA:A.frames=some X.stack)(hh:A.handled=none)(hk:N[k]?=some px)(hl:sc.names.lookup px=some .local)(hi:idx.length<=k)(r:RelV v u){h':Heap}{m:Str->Option Value}{t:Nat}
  (nK:h'.Ns s.heap.objs.size m) (hm:m px=some u) (kp:∀b o,s.heap.get? b=some o->h'.get? b=some o) :
  Inv (E3 X A sc N qual f cd s H) [] ((lG idx N.length σ).set k (some v)) H { s with heap:=h',toks:=t }:=by
 have oq:∀x c,(fJ X.env.cells sc.names []).lookup x=some c->X.env.cells.lookup x=some c:=Dz sc.names [] (λx c e=>by cases e);have has:∀x,(x,nX)∈sc.names->∃c,(fJ X.env.cells sc.names []).lookup x=some c:=λx e=>DA sc.names [] x e (I.ok.has x (.inl (S.frees _ e rfl)));have sg:∀b:Addr,b∉(E3 X A sc N qual f cd s H).ex:=λb z=>absurd (show b∈([]:List Addr) from z) (by simp);refine⟨⟨I.ok.mod,S.kind,rfl,rfl,aH _,λx y c e1 e2=>I.ok.inj x y c (oq x c e1) (oq y c e2),λx h=>?_,λx c h=>(by cases h),λ_=>hh,Y4 hA,.inr ⟨rfl,rfl⟩,λb z=>absurd z (sg b),I.bs,cH I.ok.ml I.sz,λb _ _=>sg b,λb z=>absurd z (sg b),I.stack,I.DH⟩,rfl,I.bare,Un.kept kp,⟨m,nK,λj x w e1 e2 e3=>?_⟩,λx c e=>?_,I.aM.fresh (aH _),λx c e=>I.jZ x c (oq x c e),λp hp=>absurd (show p∈([]:List (Addr×Obj)) from hp) (by simp),I.aM.kept kp,by rw[lR];exact IV S.le⟩
 ·have h2:sc.names.lookup x=some .cell\/sc.names.lookup x=some .free:=h;rcases h2 with z | z
  ·exact absurd rfl (S.D0 _ (PySem.mem_of_lookup z))
  ·exact has x (PySem.mem_of_lookup z)
 ·have Cu:N[j]?=some x:=e1
  by_cases hj:j=k
  ·subst hj;rw[hk]at Cu;cases Cu;have de:j<(lG idx N.length σ).length:=by rw[IV S.le];exact(eK.mp hk).1
   rw[jL de]at e2;cases e2;exact⟨u,r,.inl ⟨hl,hm⟩⟩
  ·rw[Aa (fw hj)]at e2;obtain⟨i,h1,h2⟩:=IW e2;obtain⟨h3,h4⟩:=S.V1 j i x h1 Cu;have gQ:(x,nX)∈sc.names:=PySem.mem_of_lookup h4;have tw:X.env.scope.names.lookup x=some .cell:=S.frees _ gQ rfl;obtain⟨m',xQ,vA⟩:=I.loc;obtain⟨u',r',l⟩:=vA i x w h3 h2 (.inr (.inl tw));refine⟨u',r',.inr ⟨.inr h4,?_⟩⟩;rcases l with ⟨q,_⟩ | ⟨_,c,ec,z⟩
   ·have q':X.env.scope.names.lookup x=some .local:=q;rw[tw]at q';cases q'
   ·obtain⟨c',Cr⟩:=has x gQ;have:=oq x c' Cr;rw[ec]at this;cases this;exact⟨c,Cr,z.keeps λb o e=>kp b o e⟩
 ·obtain⟨v',z⟩:=I.cell x c (oq x c e);exact⟨v',z.keeps λb o e=>kp b o e⟩
theorem aeP{params:Arguments}{body:Expr}{pm pe:Value}{c':Addr}{te:TE}{Q:VK}{E:Value->Shared->Prop}(I:Inv X pins σ H s)(S:eC X sc N idx)(hA:A.frames=some X.stack)(hh:A.handled=none)(alB:A.depth<CS)(hk:N[k]?=some px)
  (hl:sc.names.lookup px=some .local) (hi:idx.length<=k) (r:RelV v u) (ho:s.heap.get? f=some (kla_obj "<lambda>" qual params body sc (fJ X.env.cells sc.names []) pm c' pe)) (iD:s.heap.CodeRec (.ref c') qual)
  (Bu:sO (kla_fn "<lambda>" qual params body sc (fJ X.env.cells sc.names []) pm (.ref c') pe) ⟨[u],[]⟩=pure [(px,u)]) (NT:sc.isCoroutine=false) (Ms:sc.isGenerator=false)
  (hb:PE (E3 X A sc N qual f (.ref c') s H) body te) (q:te ((lG idx N.length σ).set k (some v)) H Q):wpAny (model X.prog X.w) A (call (.ref f) [u]) (EP X pins σ Q) E s:=by
 refine yt (kla_callFunE alB ho rfl NT Ms rfl iD ?_);rw[Bu];refine aG (wpAny_newFunctionEnv S.D0 (λy hy=>?_) (λh1 nK FH=>⟨I.nolimit.fresh _ FH,?_⟩) S.kind)
 ·have e:y=(px,u):=by simpa using hy
  rw[e];exact hl
 ·have kp:∀b o,s.heap.get? b=some o->h1.get? b=some o:=λb o e=>FH.extBut b o (dZ (cg e)) (bj _ e);have J:=ag5 (A:=A) (f:=f) (cd:=.ref c') (qual:=qual) (t:=s.toks+[(px,u)].length) I S hA hh hk hl hi r nK (by simp[sF]) kp;refine kla_codeExpr (jg (hb [] _ _ H _ J q) (λw s2 hw=>?_) λ_ _ z=>jP z);obtain⟨v2,H2,J2,r2,q2⟩:=hw;exact⟨v2,H2,I.Ld (ch:=[]) (J2.os.trans rfl) J2.base J2.aM J2.bare λb z=>absurd z (by simp),r2,q2⟩
end
def zB(c:Addr)(qual:Str):HO:=.ext λh=>h.CodeRec (.ref c) qual
theorem ajb{P:Program}{w:World}{H:Hp}{h:Heap}{c:Addr}{qual:Str}(x:h.CodeRec (.ref c) qual):h7 P w H h c (zB c qual):=by
 obtain⟨c0,o,vs,t,e,q,r⟩:=id x;cases e;refine⟨x,⟨o,q⟩,λh1 h2 y k=>?_⟩;obtain⟨c1,o1,BQ,t1,e1,q1,r1⟩:=y;cases e1;exact⟨c,o1,BQ,t1,rfl,k _ q1,r1⟩
def cU(P:Addr)(pos:Pos)(qual:Str)(H:Hp):Prop:=∃ps,H P=some (.fk ps)/\(ps=#[]\/∃c,ps=#[rawInt pos.line,rawInt pos.col,.ref c]/\H c=some (zB c qual))
def uY(P:Addr)(H H':Hp):Prop:=∀b o,b≠P->H b=some o->H' b=some o
theorem uY.refl{P:Addr}(H:Hp):uY P H H:=λ_ _ _ e=>e
def tH(mg:Str->Option Value)(base:Heap):Prop:=∃bm ob,mg "__builtins__" = some (.ref bm)/\bm≠qV/\bm≠gc/\base.get? bm=some ob/\ob.cls=.type "module"/\ob.dict=some qV/\ob.data=.plain
section
variable{X:Cx}{pins:List (Addr×Obj)}{σ:St}{H:Hp}{s:Shared}
theorem Inv.grow{h':Heap}{P:Addr}{ps more:Array Value}{t':Nat}(I:Inv X pins σ H s)(hP:H P=some (.fk ps))(k:∀b o,b≠P->s.heap.get? b=some o->h'.get? b=some o)(e:h'.get? P=some (tabObj (ps++more))) :
  Inv X pins σ (upd H P (.fk (ps++more))) { s with heap:=h',toks:=t' }:=by
 have ne:∀b,H b=none->b≠P:=λb n z=>by rw[z,hP]at n;cases n
 refine I.step (g':=s.gens) (d':=s.drawn) (ch:=[]) (λ_ z=>nomatch z) (λb o _ _ _ q n=>k b o (ne b n) q) (λb o _ _ _ q n=>⟨o.slots,k b o (ne b n) q⟩) (λb o _ q n=>by rw[ar (ne b n)];exact n) (λb o _ q=>?_) (λb xs q=>?_) (λb o u q=>?_) (λb qs q=>?_)
  (λm hm=>?_) (λb u q=>?_) I.bare
 ·by_cases z:b=P
  ·exact⟨_,by rw[z];exact e⟩
  ·exact⟨o,k b o z q⟩
 ·rw[ar (iK q hP (by intro z;cases z))];exact q
 ·rw[ar (iK q hP (by intro z;cases z))];exact q
 ·by_cases z:b=P
  ·subst z;rw[hP]at q;cases q;exact⟨more,aw⟩
  ·exact⟨#[],by rw[ar z,q];simp⟩
 ·obtain⟨o,es,ep,q,r⟩:=hm;exact⟨o,es,ep,k _ o (ne _ I.free) q,r⟩
 ·by_cases z:b=P
  ·subst z;rw[aw]at q;cases q;exact e
  ·rw[ar z]at q;refine(I.aM b u q).qu (λd v hd y=>k d v (λw=>?_) y) (λc y=>?_) λc xs y=>?_
   ·rcases hd with y1 | y1
    ·exact z (y1.symm.trans w)
    ·rw[w,hP]at y1;cases y1
   ·rw[ar (iK y hP (by intro z;cases z))];exact y
   ·rw[ar (iK y hP (by intro z;cases z))];exact y
theorem Inv.Et{f:Addr}{o:Obj}(I:Inv X pins σ H s)(g:eM X pins H f)(e:s.heap.get? f=some o)(n:∀v,o.data≠.cell v):Inv X (pins++[(f,o)]) σ H s:=
 I.uG λp hp=>by
  rcases jx.mp hp with z | z
  ·exact I.pin p (gR _ z)
  ·have z':p=(f,o):=by simpa using z
   rw[z'];exact⟨e,g.1,g.2.1,g.2.2.1,n⟩
theorem aeO{sc:Scope}{N:List Str}{idx:List Nat}{params:Arguments}{body:Expr}{pos:Pos}{c P:Addr}{E:Value->Shared->Prop}{R:Value->Shared->Prop}(I:Inv X pins σ H s)(S:eC X sc N idx)(Ep:X.env.code=.ref c)(C:CodeHd X.base c P)(B:tH X.mg X.base)
  (Mt:defaultsOf params X.env=([],[])) (h:cU P pos (X.env.qual ++ "<lambda>") H)
  (k:∀f c' H' pm pe s',Inv X (pins++[(f,kla_obj "<lambda>" (X.env.qual ++ "<lambda>") params body sc (fJ X.env.cells sc.names []) pm c' pe)]) σ H' s'->uY P H H'->cU P pos (X.env.qual ++ "<lambda>") H'->H' c'=some (zB c' (X.env.qual ++ "<lambda>"))->R (.ref f) s') :
  wpAny (model X.prog X.w) X.A (eval (.Lambda params body sc pos) X.env) R E s:=by
 have nN:Di sc X.env=pure (fJ X.env.cells sc.names []):=HC λp hp e=>I.ok.has p.1 (.inl (S.frees p hp e));obtain⟨ps,hP,oU⟩:=h;have oP:s.heap.get? P=some (tabObj ps):=I.aM P _ hP;obtain⟨bm,ob,b1,b2,b3,b4,b5,b6,b7⟩:=B
 have nP:∀b o,X.base.get? b=some o->b≠P:=λb o e z=>by
  have:=(I.bs b o e).2;rw[z,hP]at this;cases this
 have Xq:s.heap.Ns gc X.mg:=I.mod.glob.keeps I.bk
 have gP:gc≠P:=by
  obtain⟨o,es,ep,e,_⟩:=I.mod.glob;exact nP _ _ e
 have hb:s.heap.BuiltinsAt X.mg P:=⟨bm,ob,b1,b2,b3,nP _ _ b4,I.bk _ _ b4,b5,b6,b7⟩;have CC:CodeHd s.heap c P:=C.keeps I.bk;refine kla_eval Mt ?_;rcases oU with rfl | ⟨c0,rfl,NU⟩
 ·refine kla_makeFunction (mg:=X.mg) nN I.ok.glob Xq Ep CC oP uw rfl gP hb λc' pe h' tk hx oZ de am5 htb=>?_
  have I1:Inv X pins σ (upd H P (.fk (#[] ++ #[rawInt pos.line,rawInt pos.col,.ref c']))) { s with heap:=h'.push (kla_obj "<lambda>" (X.env.qual ++ "<lambda>") params body sc (fJ X.env.cells sc.names []) ((X.mg "__name__").getD .none) c' pe),toks:=tk }:=
   I.grow hP (λb o n e=>bj _ (hx b o n e)) (bj _ htb)
  have W3:P<s.heap.objs.size:=cg oP;have nc:H c'=none:=I.aM.fresh oZ;have cP:c'≠P:=qS (fu W3 oZ);have nc1:upd H P (.fk (#[] ++ #[rawInt pos.line,rawInt pos.col,.ref c'])) c'=none:=by rw[ar cP];exact nc
  have fc:=I.iu (b:=c') oZ nc;have I2:=Inv.adopt (o:=zB c' (X.env.qual ++ "<lambda>")) I1 nc1 (cH I.sz oZ) fc.2.1 fc.2.2.2.2.1 fc.2.2.2.2.2 (ajb (am5.push _));have NJ:s.heap.objs.size<=h'.objs.size:=cH oZ (cQ de);have fP:h'.objs.size≠P:=qS (fu W3 NJ)
  have nf:upd (upd H P (.fk (#[] ++ #[rawInt pos.line,rawInt pos.col,.ref c']))) c' (zB c' (X.env.qual ++ "<lambda>")) h'.objs.size=none:=by
   rw[ar (qS de),ar fP];exact I.aM.fresh NJ
  have I3:=I2.Et (I.iu (b:=h'.objs.size) NJ nf) (eO _ rfl) (λv z=>by cases z);refine k _ c' _ _ pe _ I3 (λb o n e=>?_) ⟨_,by rw[ar (fw cP),aw],.inr ⟨c',by simp,aw⟩⟩ aw;rw[ar (b8 e nc),ar n];exact e
 ·have hcr:s.heap.CodeRec (.ref c0) (X.env.qual ++ "<lambda>"):=(I.aM c0 _ NU).1;have hf:codeAmong pos (#[rawInt pos.line,rawInt pos.col,ee c0]:Array Value).toList=some (.ref c0):=by simp[codeAmong,rawInt]
  refine kla_makeFunctionHit (mg:=X.mg) nN I.ok.glob Xq Ep CC oP (show TriplesOk [rawInt pos.line,rawInt pos.col,ee c0] from uw) hf hb λpe h' tk kk oZ=>?_;have I1:Inv X pins σ H { s with heap:=h'.push (kla_obj "<lambda>" (X.env.qual ++ "<lambda>") params body sc (fJ X.env.cells sc.names []) ((X.mg "__name__").getD .none) c0 pe),toks:=tk }:=I.kept λb o e=>bj _ (kk b o e);have I3:=I1.Et (I.iu (b:=h'.objs.size) oZ (I.aM.fresh oZ)) (eO _ rfl) (λv z=>by cases z);exact k _ c0 _ _ pe _ I3 (uY.refl H) ⟨_,hP,.inr ⟨c0,rfl,NU⟩⟩ NU
end
end L2
namespace L2
open PySem PySem.Spec PySem.W PyProof.Rows
def UC(ts:List Addr)(H:Hp):Prop:=(∀b,H b=none\/(∃o xs,H b=some (.nF o (.lst xs)))\/(b∈ts/\H b=some (.fk #[])))/\∀b∈ts,H b=some (.fk #[])
theorem adm{P:Program}{w:World}{K:W.Frag}{mg mb:Str->Option Value}{CX:nI}{k:Nat}{fa a:Addr}{fd:aV}{x:Str}{sp:Sp}{s₁:Shared}{vs:List Value}{ns:List Int}{ts:List Addr}
  (KX:K.In s₁.heap) (nK:s₁.heap.Ns gc mg) (hb:s₁.heap.Ns qV mb) (hbb:∀x:Str,x ≠ "__name__"->mb x=sH x) (anh:s₁.heap.NoLimit) (hg:s₁.gens=#[]) (vE:tH mg s₁.heap)
  (xE:∀b∈ts,s₁.heap.get? b=some (tabObj #[])) (htc:∀b∈ts,isCodeTable s₁.heap b) (FG:∀b∈ts,K.lookup b=none)
  (ha:s₁.heap.get? a=some { cls:=.type "list",data:=.seq vs.toArray }) (hi:IntsAre vs ns) (hl:ns.length<=aZ) (hr:e8 k callerA)
  (F:∀base:Heap,K.In base->base.Ns gc mg->tH mg base->ay P w K mg base CX k fa fd [x] sp) (Bu:∀(s:Shared) (u:Value),BindsTo s fd ⟨[u],[]⟩ [(x,u)])
  (pS:∀H:Hp,UC ts H->aq K H a (ns.map V.int)->sp [.ref a] H (λv _=>v=.bl true) λ_ _ _=>False)
  (hCX:∀H e s',CX [] H s₁ (λ_ _ _=>False) e s'->False) :
  codeAny (model P w) callerA (.call (.ref fa) ⟨[.ref a],[]⟩) (λr s'=>r=.ok (.ret (.bool true))/\OldK s₁.heap s'.heap/\s'.os=s₁.os/\AllBare s'.gens) s₁:=by
 have rv:=HJ hi;have amv:=hi.length
 have Yc:a∉ts:=λz=>by
  have e:=xE a z;rw[ha]at e;cases e
 have core:∀H:Hp,UC ts H->aq K H a (ns.map V.int)->gz P w H s₁.heap->(∀b,H b≠none->b=a\/b∈ts)->(H a≠none->K.lookup a=none)->
   codeAny (model P w) callerA (.call (.ref fa) ⟨[.ref a],[]⟩) (λr s'=>r=.ok (.ret (.bool true))/\OldK s₁.heap s'.heap/\s'.os=s₁.os/\AllBare s'.gens) s₁:=by
  intro H hO hS aM hA hK;have base_of:∀{b:Addr} {o:Obj},s₁.heap.get? b=some o->H b=none->(rE s₁.heap H).get? b=some o:=λe n=>aeT e n
  have sg:∀{b:Addr} {o:Obj},s₁.heap.get? b=some o->(∀xs n,o.data≠.seq xs n)->(∀xs,o.data≠.fields xs)->H b=none:=λ{b o} e d1 d2=>by
   cases q:H b with
   | none=>rfl
   | some u=>
    rcases hA b (by rw[q];simp)with z | z
    ·subst z;rw[ha]at e;cases e;exact absurd rfl (d1 _ _)
    ·rw[xE b z]at e;cases e;exact absurd rfl (d2 _)
  have Fq:∀{b:Addr} {m:Str->Option Value},s₁.heap.Ns b m->(rE s₁.heap H).Ns b m:=λ{b m} ⟨o,es,ep,e,d,r⟩=>⟨o,es,ep,base_of e (sg e (λ_ _ z=>by rw[d]at z;cases z) λ_ z=>by rw[d]at z;cases z),d,r⟩
  have XG:K.In (rE s₁.heap H):=λb o e=>base_of (KX b o e) (by
   cases q:H b with
   | none=>rfl
   | some u=>
    rcases hA b (by rw[q];simp)with z | z
    ·subst z;rw[hK (by rw[q];simp)]at e;cases e
    ·rw[FG b z]at e;cases e)
  have hB:tH mg (rE s₁.heap H):=by
   obtain⟨bm,ob,b1,b2,b3,b4,b5,b6,b7⟩:=vE;exact⟨bm,ob,b1,b2,b3,base_of b4 (sg b4 (λ_ _ z=>by rw[b7]at z;cases z) λ_ z=>by rw[b7]at z;cases z),b5,b6,b7⟩
  have hM:Mod K mg (rE s₁.heap H):=⟨XG,Fq nK,⟨mb,Fq hb,hbb⟩,let ⟨mc,h1,h2⟩:=anh;⟨mc,Fq h1,h2⟩⟩;have e0:wY P w K mg (rE s₁.heap H) callerA [] s₁ H:=⟨rfl,hM,λb o e=>agO e,nY (adq _ _),trivial,λb hb=>absurd (show b∈([]:List Addr) from hb) (by simp),aM,.of_eq hg⟩;refine vV ((F _ XG (Fq nK) hB).run callerA [] s₁ H ⟨[.ref a],[]⟩ [.ref a] [.ref a] _ _ hr e0 (Bu s₁ (.ref a)) (.cons rfl .nil) (pS H hO hS)) λr s' h=>?_;cases r with
  | error e=>exact(hCX H e s' h).elim
  | ok fl=>
   cases fl with
   | next=>exact jP h
   | brk=>exact jP h
   | cont=>exact jP h
   | ret u=>
    obtain⟨v,H',os,bare,un,Vu,r',q⟩:=h;have q':v=.bl true:=q;subst q';obtain rfl:u=uu true:=r'
    have old:∀b o,s₁.heap.get? b=some o->asItWas s₁.heap s'.heap b o/\∃o',s'.heap.get? b=some o':=λb o e=>by
     cases q:H b with
     | none=>
      have:=un.keep b o e q (by intro z;exact absurd (show b∈([]:List Addr) from z) (by simp)) (by simp);exact⟨.inl this,_,this⟩
     | some u=>
      rcases hO.1 b with z | ⟨ob,xs,z⟩ | ⟨hm,z⟩
      ·rw[q]at z;cases z
      ·have z2:=un.pL b ob _ z;obtain⟨e1,_⟩:=aM b _ z;obtain⟨e2,_⟩:=Vu b _ z2;rw[e]at e1;cases e1;exact⟨.inl e2,_,e2⟩
      ·obtain⟨more,z2⟩:=un.pG b _ z;have e2:s'.heap.get? b=some (tabObj (#[]++more)):=Vu b _ z2;have e1:=xE b hm;rw[e]at e1;cases e1;exact⟨.inr (.inl ⟨htc b hm,rfl,#[],more,rfl,e2⟩),_,e2⟩
    exact⟨rfl,⟨λb o e=>(old b o e).1,λb o e=>(old b o e).2⟩,os,bare⟩
 have tok:∀b,b∈ts->h7 P w (λb=>if b=a then none else if b∈ts then some (.fk #[]) else none) s₁.heap b (.fk #[]):=λb hb=>xE b hb;cases hk:K.lookup a with
 | some o=>
  have e:=KX a o hk;rw[ha]at e;cases e;have hta:∀b∈ts,(λb=>if b∈ts then some (HO.fk #[]) else none) b=some (.fk #[]):=λb hb=>if_pos hb;refine core (λb=>if b∈ts then some (.fk #[]) else none) ⟨λb=>?_,hta⟩ (.inr ⟨_,vs.toArray,_,hk,rfl,rfl,rfl,by rw[dF,amv];exact hl,by simpa using rv⟩) (λb u z=>?_) (λb z=>?_) λz=>absurd (if_neg Yc) z
  ·by_cases hb:b∈ts
   ·exact .inr (.inr ⟨hb,if_pos hb⟩)
   ·exact .inl (if_neg hb)
  ·by_cases hb:b∈ts
   ·have z':=(if_pos hb).symm.trans z;cases z';exact xE b hb
   ·have z':=(if_neg hb).symm.trans z;cases z'
  ·by_cases hb:b∈ts
   ·exact .inr hb
   ·exact absurd (if_neg hb) z
 | none=>
  have ne:∀b∈ts,b≠a:=λb hb z=>Yc (z ▸ hb);refine core (λb=>if b=a then some (.nF { cls:=.type "list",data:=.seq vs.toArray } (.lst (ns.map V.int))) else if b∈ts then some (.fk #[]) else none) ⟨λb=>?_,λb hb=>?_⟩ (.inl (.inr ⟨{ cls:=.type "list",data:=.seq vs.toArray },if_pos rfl⟩)) (λb u z=>?_) (λb z=>?_) λ_=>hk
  ·by_cases hb:b=a
   ·exact .inr (.inl ⟨_,_,if_pos hb⟩)
   ·by_cases hc:b∈ts
    ·exact .inr (.inr ⟨hc,by dsimp only;rw[if_neg hb,if_pos hc]⟩)
    ·exact .inl (by dsimp only;rw[if_neg hb,if_neg hc])
  ·dsimp only;rw[if_neg (ne b hb),if_pos hb]
  ·dsimp only at z
   by_cases hb:b=a
   ·rw[if_pos hb]at z;cases z;subst hb;exact⟨ha,by rw[aN];exact hl,vs,_,rv,ha⟩
   ·rw[if_neg hb]at z
    by_cases hc:b∈ts
    ·rw[if_pos hc]at z;cases z;exact xE b hc
    ·rw[if_neg hc]at z;cases z
  ·by_cases hb:b=a
   ·exact .inl hb
   ·by_cases hc:b∈ts
    ·exact .inr hc
    ·exact absurd (show (if b=a then _ else if b∈ts then _ else none)=none by rw[if_neg hb,if_neg hc]) z
end L2
namespace HT
open PySem PySem.W L2
theorem O2:∀{us:List Value} {xs:List Str},qZ us xs=true->Vals (xs.map V.str) us/\us.length=xs.length
 | [],[],_=>⟨.nil,rfl⟩
 | .str y t::us,x::xs,h=>by
  have h:(decide (y=x)&&qZ us xs)=true:=h;rw[jc]at h;obtain⟨a,b⟩:=O2 h.2;have e:=of_decide_eq_true h.1;subst e;exact⟨.cons ⟨t,rfl⟩ a,by rw[jv,jv,b]⟩
 | [],_::_,h=>by simp[qZ]at h
 | u::us,[],h=>by cases u <;> simp[qZ]at h
 | .none::_,_::_,h=>by simp[qZ]at h
 | .ref _::_,_::_,h=>by simp[qZ]at h
 | .int _ _::_,_::_,h=>by simp[qZ]at h
 | .bool _::_,_::_,h=>by simp[qZ]at h
theorem afX{K:Frag}{a:Addr}{xs:List Str}(h:tupS K a xs=true)(hz:xs.length<=aZ)(H:Hp):aF K H a (xs.map V.str):=by
 unfold tupS at h
 split at h
 ·rename_i d au n sl e
  obtain⟨r,l⟩:=O2 h;exact .inr ⟨_,au,n,e,rfl,rfl,by rw[<-lQ,l];exact hz,r⟩
 ·cases h
end HT
namespace L3
open PySem
def gf(b:Bool)(h:Heap)(it l:Addr)(i:Nat):Prop:=if b=true then h.IsListIter it l i else h.IsTupleIter it l i
def gx(b:Bool)(h:Heap)(l:Addr)(xs:Array Value):Prop:=if b=true then h.IsList l xs else h.IsTuple l xs
theorem gf.ext{b:Bool}{h h':Heap}{it l c:Addr}{i:Nat}(x:gf b h it l i)(e:Hs c h h')(n:it≠c):gf b h' it l i:=by
 cases b with
 | true=>exact(show h.IsListIter it l i from x).extBut e n
 | false=>exact(show h.IsTupleIter it l i from x).extBut e n
theorem gx.ext{b:Bool}{h h':Heap}{l c:Addr}{xs:Array Value}(x:gx b h l xs)(e:Hs c h h')(n:l≠c):gx b h' l xs:=by
 cases b with
 | true=>exact(show h.IsList l xs from x).extBut e n
 | false=>exact(show h.IsTuple l xs from x).extBut e n
theorem gf.at{b:Bool}{h h':Heap}{it l:Addr}{i:Nat}(x:gf b h it l i)(e:∀o,h.get? it=some o->h'.get? it=some o):gf b h' it l i:=by
 cases b with
 | true=>exact(show h.IsListIter it l i from x).at e
 | false=>obtain⟨o,ho,r⟩:=(show h.IsTupleIter it l i from x);exact⟨o,e o ho,r⟩
theorem gx.at{b:Bool}{h h':Heap}{l:Addr}{xs:Array Value}(x:gx b h l xs)(e:∀o,h.get? l=some o->h'.get? l=some o):gx b h' l xs:=by
 cases b with
 | true=>exact(show h.IsList l xs from x).at e
 | false=>obtain⟨o,ho,r⟩:=(show h.IsTuple l xs from x);exact⟨o,e o ho,r⟩
theorem gf.obj{b:Bool}{h:Heap}{it l:Addr}{i:Nat}(x:gf b h it l i):∃o vs,h.get? it=some o/\o.data=.fields vs:=by
 cases b with
 | true=>obtain⟨o,e,_,d⟩:=(show h.IsListIter it l i from x);exact⟨o,_,e,d⟩
 | false=>obtain⟨o,e,_,d⟩:=(show h.IsTupleIter it l i from x);exact⟨o,_,e,d⟩
section
variable{prog:Program}{w:World}{A:Around}{E:Value->Shared->Prop}{s:Shared}
theorem aau{it t:Addr}{i:Nat}{au:Array Value}{x:Value}{Q:Value->Shared->Prop}(a1:s.heap.IsTupleIter it t i)(a2:s.heap.IsTuple t au)(a3:au[i]?=some x)
  (k:∀h',h'.IsTupleIter it t (i+1)->gD it s.heap h'->Q x { s with heap:=h' }):wpAny (model prog w) A (su (.ref it)) Q E s:=by
 obtain⟨o,e,c,d⟩:=id a1;obtain⟨ot,et,_,nt,dt⟩:=a2;unfold su;refine ah (vN (name:=qR "__next__") a1.typeIs Gi (sE Gi a1.typeIs Yt ?_ (Ys _)));show wpAny _ _ (field (.ref it) 0 >>= _) _ _ s;refine ah (jy e d (x:=.ref t) rfl ?_);show wpAny _ _ (if (ee t == gq)=true then _ else _) _ _ s;rw[if_neg (by exact dG)];show wpAny _ _ (field (.ref it) 1 >>= _) _ _ s;refine ah (jy e d (x:=.int i 0) rfl ?_);show wpAny _ _ (Ih (.ref t) >>= _) _ _ s;refine ah (qb et dt ?_);simp only[iG,a3];refine ah (qQ e d (by simp) (aG ⟨x,rfl,aG (k _ ⟨_,sv _ e (Ot (CH d _)),(Zu ..).trans c,?_⟩ (lh ..))⟩));rw[CH d];simp[rawInt]
theorem aa9{it t:Addr}{i:Nat}{au:Array Value}{Q:Value->Shared->Prop}(hh:A.handled=none)(a1:s.heap.IsTupleIter it t i)(a2:s.heap.IsTuple t au)(a3:au[i]?=none)
  (k:∀h' x,Hs it s.heap h'->(∃o,h'.get? x=some o/\o.cls=.type "StopIteration")->E (.ref x) { s with heap:=h' }):wpAny (model prog w) A (su (.ref it)) Q E s:=by
 obtain⟨o,e,c,d⟩:=id a1;obtain⟨ot,et,_,nt,dt⟩:=a2;unfold su;refine ah (vN (name:=qR "__next__") a1.typeIs Gi (sE Gi a1.typeIs Yt ?_ (Ys _)));show wpAny _ _ (field (.ref it) 0 >>= _) _ _ s;refine ah (jy e d (x:=.ref t) rfl ?_);show wpAny _ _ (if (ee t == gq)=true then _ else _) _ _ s;rw[if_neg (by exact dG)];show wpAny _ _ (field (.ref it) 1 >>= _) _ _ s;refine ah (jy e d (x:=.int i 0) rfl ?_);show wpAny _ _ (Ih (.ref t) >>= _) _ _ s;refine ah (qb et dt ?_);simp only[iG,a3];refine ah (v3 (ah (qQ e d (by simp) ?_)));show wpAny _ _ (newExc (.type "StopIteration") [] >>= _) _ _ _;refine ah ?_;unfold newExc newTuple;refine ah (pY ?_ (by size_fits));refine ah (m:=Hd _ _) (Dc (a:=gq) (by first | rfl | (simp only[Hd];rfl)) ?_);refine pY ?_ (by size_fits);unfold raiseNew;refine ah (wpAny_handled ?_)
 first | rw[show A.in1.handled=none from hh] | rw[hh]
 exact ah (aG (wpAny_throw (k _ _ (((lh ..).extBut.push _).push _) ⟨_,eO _ rfl,rfl⟩)))
theorem next_item{b:Bool}{it l:Addr}{i:Nat}{xs:Array Value}{x:Value}{Q:Value->Shared->Prop}(a1:gf b s.heap it l i)(a2:gx b s.heap l xs)(a3:xs[i]?=some x)
  (k:∀h',gf b h' it l (i+1)->gD it s.heap h'->Q x { s with heap:=h' }):wpAny (model prog w) A (su (.ref it)) Q E s:=by
 cases b with
 | true=>exact wpAny_nextOf_list_item a1 a2 a3 k
 | false=>exact aau a1 a2 a3 k
theorem next_end{b:Bool}{it l:Addr}{i:Nat}{xs:Array Value}{Q:Value->Shared->Prop}(hh:A.handled=none)(a1:gf b s.heap it l i)(a2:gx b s.heap l xs)(a3:xs[i]?=none)
  (k:∀h' x,Hs it s.heap h'->(∃o,h'.get? x=some o/\o.cls=.type "StopIteration")->E (.ref x) { s with heap:=h' }):wpAny (model prog w) A (su (.ref it)) Q E s:=by
 cases b with
 | true=>exact wpAny_nextOf_list_end hh a1 a2 a3 k
 | false=>exact aa9 hh a1 a2 a3 k
theorem adW{b1 b2:Bool}{z TI TO i1 i2 l1 l2:Addr}{k1 k2:Nat}{xs ys:Array Value}{x y a b:Value}{Q:Option Value->Shared->Prop}(D:ZipApart z TI TO i1 i2 l1 l2)
  (hz:IsZip s.heap z TI TO .none) (NX:IsPair s.heap TI (.ref i1) (.ref i2)) (NW:IsPair s.heap TO a b) (n1:gf b1 s.heap i1 l1 k1) (n2:gf b2 s.heap i2 l2 k2) (m1:gx b1 s.heap l1 xs) (m2:gx b2 s.heap l2 ys)
  (hx:xs[k1]?=some x) (hy:ys[k2]?=some y)
  (hQ:∀h',IsZip h' z TI TO (rawInt s.heap.objs.size)->IsPair h' TO x y->gf b1 h' i1 l1 (k1+1)->gf b2 h' i2 l2 (k2+1)->IsPair h' s.heap.objs.size x y-> (∀c o,c≠z->c≠TO->c≠i1->c≠i2->s.heap.get? c=some o->h'.get? c=some o)->Q (some (.ref s.heap.objs.size)) { s with heap:=h' }):wpAny (model prog w) A (pyNext (.ref z)) Q E s:=by
 have hT:s.TypeIs (.ref z) "zip":=⟨_,hz,rfl⟩;unfold pyNext;refine ah (CV (vN (name:=qR "__next__") hT G9 (sE G9 hT F.entry_zip_next ?_ (F.args_zip_next_1 _))));show wpAny _ _ (field (.ref z) 2 >>= _) _ _ s;refine ah (jy hz rfl (x:=.bool false) rfl ?_);show wpAny _ _ (field (.ref z) 3 >>= _) _ _ s;refine ah (jy hz rfl (x:=.ref TI) rfl (ah (qb NX rfl ?_)));show wpAny _ _ (Gg (.ref z) >>= _) _ _ s;unfold Gg;refine ah (ah (jy hz rfl (x:=.none) rfl (aG ?_)));simp only[if_true];refine ah (v3 (ah (jy hz rfl (x:=.ref TO) rfl (ah (Ad hz (by simp) λg1 dn s1=>?_)))));have dn:IsZip g1 z TI TO .ellipsis:=dn;simp only[List.zipIdx_cons,List.zipIdx_nil,CP,List.forIn_nil];refine ah (ah (ah (Hg ?_)));show wpAny _ _ (su (.ref i1) >>= _) _ _ _;refine ah (next_item (n1.ext s1.extBut D.i1z) (m1.ext s1.extBut D.l1z) hx λg2 W0 s2=>aG ?_);have t2:IsPair g2 TO a b:=s2.extBut _ _ D.TOi1 (s1.extBut _ _ D.TOz NW);refine ah (qb t2 rfl (ah (Ou t2 λg3 t3 s3=>ah (ym (aG ?_)))));have t3:IsPair g3 TO x b:=t3;refine ah (ah (Hg ?_));show wpAny _ _ (su (.ref i2) >>= _) _ _ _;refine ah (next_item (((n2.ext s1.extBut D.i2z).ext s2.extBut D.i12.symm).ext s3.extBut D.TOi2.symm) (((m2.ext s1.extBut D.l2z).ext s2.extBut D.l2i1).ext s3.extBut D.l2TO) hy λg4 n2' s4=>aG ?_);have t4:IsPair g4 TO x b:=s4.extBut _ _ D.TOi2 t3;refine ah (qb t4 rfl (ah (Ou t4 λg5 t5 s5=>ah (ym (aG (aG ?_))))));have t5:IsPair g5 TO x y:=t5;refine ah (qb t5 rfl (ah (OQ ?_)));have eN:g5.objs.size=s.heap.objs.size:=by rw[s5.1,s4.1,s3.1,s2.1,s1.1]
 have Fy:IsZip g5 z TI TO .ellipsis:=s5.extBut _ _ D.TOz.symm (s4.extBut _ _ D.i2z.symm (s3.extBut _ _ D.TOz.symm (s2.extBut _ _ D.i1z.symm dn)))
 have k5:∀c o,c≠z->c≠TO->c≠i1->c≠i2->s.heap.get? c=some o->g5.get? c=some o:=λc o c1 c2 c3 c4 e=>
  s5.extBut _ _ c2 (s4.extBut _ _ c4 (s3.extBut _ _ c2 (s2.extBut _ _ c3 (s1.extBut _ _ c1 e))))
 have B2:gf b1 g5 i1 l1 (k1+1):=((W0.ext s3.extBut D.TOi1.symm).ext s4.extBut D.i12).ext s5.extBut D.TOi1.symm;have n25:gf b2 g5 i2 l2 (k2+1):=n2'.ext s5.extBut D.TOi2.symm;have V9:z<g5.objs.size:=cg Fy;show wpAny _ _ (Yo (.ref z) (.ref g5.objs.size) >>= _) _ _ _;unfold Yo;have hz6:IsZip (g5.push { cls:=.type "tuple",data:=.seq #[x,y] }) z TI TO .ellipsis:=bj _ Fy;refine ah (ah (Ad hz6 (by simp) λg7 Nt s7=>?_));have Nt:IsZip g7 z TI TO (rawInt g5.objs.size):=Nt;refine Ad Nt (by simp) λg8 Fx s8=>?_;have Fx:IsZip g8 z TI TO (rawInt g5.objs.size):=Fx;have up:∀c o,c≠z->g5.get? c=some o->g8.get? c=some o:=λc o c1 e=>s8.extBut _ _ c1 (s7.extBut _ _ c1 (bj _ e));have Xx:IsPair g8 g5.objs.size x y:=s8.extBut _ _ (qS V9) (s7.extBut _ _ (qS V9) (eO _ rfl));rw[eN]at Fx Xx;refine aG ⟨_,rfl,?_⟩;show wpAny _ _ (pure (some (ee g5.objs.size)):Sem (Option Value)) _ _ _;rw[eN];exact aG (hQ g8 Fx (up _ _ D.TOz t5) (B2.at λo e=>up _ o D.i1z e) (n25.at λo e=>up _ o D.i2z e) Xx λc o c1 c2 c3 c4 e=>up c o c1 (k5 c o c1 c2 c3 c4 e))
theorem afU{b1 b2:Bool}{z TI TO i1 i2 l1 l2:Addr}{k1 k2:Nat}{xs ys:Array Value}{a b:Value}{Q:Option Value->Shared->Prop}(hh:A.handled=none)(D:ZipApart z TI TO i1 i2 l1 l2)
  (hz:IsZip s.heap z TI TO .none) (NX:IsPair s.heap TI (.ref i1) (.ref i2)) (NW:IsPair s.heap TO a b) (n1:gf b1 s.heap i1 l1 k1) (n2:gf b2 s.heap i2 l2 k2) (m1:gx b1 s.heap l1 xs) (m2:gx b2 s.heap l2 ys)
  (EK:xs[k1]?=none\/ys[k2]?=none)
  (hQ:∀h',(∀c o,c≠z->c≠TO->c≠i1->c≠i2->s.heap.get? c=some o->h'.get? c=some o)->Q none { s with heap:=h' }):wpAny (model prog w) A (pyNext (.ref z)) Q E s:=by
 have hT:s.TypeIs (.ref z) "zip":=⟨_,hz,rfl⟩
 have fin:∀(h':Heap) (e:Addr),(∀c o,c≠z->c≠TO->c≠i1->c≠i2->s.heap.get? c=some o->h'.get? c=some o)->(∃o,h'.get? e=some o/\o.cls=.type "StopIteration")->
   wpAny (model prog w) A (do if <-yu (.ref e) (.type "StopIteration") then pure none else throw (.ref e)) Q E { s with heap:=h' }:=λh' e hk ⟨o,ho,hc⟩=>
  ah (Gz (T:="StopIteration") (b:=true) ⟨o,ho,hc⟩ OR (aG (hQ _ hk)))
 unfold pyNext;refine ah (CV (vN (name:=qR "__next__") hT G9 (sE G9 hT F.entry_zip_next ?_ (F.args_zip_next_1 _))));show wpAny _ _ (field (.ref z) 2 >>= _) _ _ s;refine ah (jy hz rfl (x:=.bool false) rfl ?_);show wpAny _ _ (field (.ref z) 3 >>= _) _ _ s;refine ah (jy hz rfl (x:=.ref TI) rfl (ah (qb NX rfl ?_)));show wpAny _ _ (Gg (.ref z) >>= _) _ _ s;unfold Gg;refine ah (ah (jy hz rfl (x:=.none) rfl (aG ?_)));simp only[if_true];refine ah (v3 (ah (jy hz rfl (x:=.ref TO) rfl (ah (Ad hz (by simp) λg1 dn s1=>?_)))));have dn:IsZip g1 z TI TO .ellipsis:=dn;simp only[List.zipIdx_cons,List.zipIdx_nil,CP,List.forIn_nil];refine ah (ah (ah (Hg ?_)));show wpAny _ _ (su (.ref i1) >>= _) _ _ _;cases hx:xs[k1]? with
 | none=>
  refine ah (next_end hh (n1.ext s1.extBut D.i1z) (m1.ext s1.extBut D.l1z) hx λg2 e s2 he=>?_);obtain⟨oe,xK,vD⟩:=he;have pR:IsZip g2 z TI TO .ellipsis:=s2 _ _ D.i1z.symm dn;have NL:e≠z:=λq=>by subst q;rw[pR]at xK;cases xK;simp at vD
  exact Ad pR (by simp) λg3 _ s3=>fin g3 e (λc o c1 _ c3 _ q=>s3.extBut _ _ c1 (s2 _ _ c3 (s1.extBut _ _ c1 q))) ⟨oe,s3.extBut _ _ NL xK,vD⟩
 | some x=>
  have hy:ys[k2]?=none:=by
   rcases EK with q | q
   ·rw[hx]at q;cases q
   ·exact q
  refine ah (next_item (n1.ext s1.extBut D.i1z) (m1.ext s1.extBut D.l1z) hx λg2 W0 s2=>aG ?_);have t2:IsPair g2 TO a b:=s2.extBut _ _ D.TOi1 (s1.extBut _ _ D.TOz NW);refine ah (qb t2 rfl (ah (Ou t2 λg3 t3 s3=>ah (ym (aG ?_)))));refine ah (ah (Hg ?_));show wpAny _ _ (su (.ref i2) >>= _) _ _ _;refine ah (next_end hh (((n2.ext s1.extBut D.i2z).ext s2.extBut D.i12.symm).ext s3.extBut D.TOi2.symm) (((m2.ext s1.extBut D.l2z).ext s2.extBut D.l2i1).ext s3.extBut D.l2TO) hy λg4 e s4 he=>?_);obtain⟨oe,xK,vD⟩:=he;have W7:IsZip g4 z TI TO .ellipsis:=s4 _ _ D.i2z.symm (s3.extBut _ _ D.TOz.symm (s2.extBut _ _ D.i1z.symm dn));have NL:e≠z:=λq=>by subst q;rw[W7]at xK;cases xK;simp at vD
  exact Ad W7 (by simp) λg5 _ s5=>fin g5 e (λc o c1 c2 c3 c4 q=>s5.extBut _ _ c1 (s4 _ _ c4 (s3.extBut _ _ c2 (s2.extBut _ _ c3 (s1.extBut _ _ c1 q))))) ⟨oe,s5.extBut _ _ NL xK,vD⟩
abbrev rn(b:Bool)(l:Addr):Obj:={ cls:=.type (if b=true then "list_iterator" else "tuple_iterator"),data:=.fields #[.ref l,.int 0 0] }
theorem Dv{b:Bool}{l:Addr}{xs:Array Value}{Q:Value->Shared->Prop}(m:gx b s.heap l xs)(k:Q (.ref s.heap.objs.size) { s with heap:=s.heap.push (rn b l) }):wpAny (model prog w) A (pyIter (.ref l)) Q E s:=by
 cases b with
 | true=>exact CI m k
 | false=>exact wpAny_pyIter_tuple m k
theorem Ru{b:Bool}{h:Heap}{a l:Addr}(e:h.get? a=some (rn b l)):gf b h a l 0:=by
 cases b with
 | true=>exact⟨_,e,rfl,rfl⟩
 | false=>exact⟨_,e,rfl,rfl⟩
end
abbrev EU(b1:Bool)(h:Heap)(l1:Addr):Heap:=h.push (rn b1 l1)
abbrev ET(b1 b2:Bool)(h:Heap)(l1 l2:Addr):Heap:=(EU b1 h l1).push (rn b2 l2)
abbrev ES(b1 b2:Bool)(h:Heap)(l1 l2:Addr):Heap:=(ET b1 b2 h l1 l2).push { cls:=.type "tuple",data:=.seq #[.ref h.objs.size,.ref (EU b1 h l1).objs.size] }
abbrev ER(b1 b2:Bool)(h:Heap)(l1 l2:Addr):Heap:=(ES b1 b2 h l1 l2).push { cls:=.type "tuple",data:=.seq #[.none,.none] }
abbrev zv(b1 b2:Bool)(h:Heap)(l1 l2:Addr):Heap:=(ER b1 b2 h l1 l2).push { cls:=.type "zip",data:=.fields #[.none,.bool false,.bool false,.ref (ET b1 b2 h l1 l2).objs.size,.ref (ES b1 b2 h l1 l2).objs.size] }
theorem gx.push{b:Bool}{h:Heap}{l:Addr}{xs:Array Value}(x:gx b h l xs)(o:Obj):gx b (h.push o) l xs:=x.at λ_ e=>bj _ e
theorem afT(b1 b2:Bool)(l1 l2:Addr)(xs ys:Array Value) :
  Meets (Builtin.«zip.__new__» ⟨[.type "zip",.ref l1,.ref l2],[]⟩) (λ_ R s=>gx b1 s.heap l1 xs/\gx b2 s.heap l2 ys/\R (.ok (.ret (.ref (ER b1 b2 s.heap l1 l2).objs.size))) { s with heap:=zv b1 b2 s.heap l1 l2 }):=
 .of_wp λprog w A R s h=>by
  obtain⟨hp,g,d,tk,os⟩:=s;obtain⟨m1,m2,h⟩:=h;have Mj:=sub_zip;have M1:gx b1 (Pu ⟨hp,g,d,tk,os⟩) l1 xs:=m1;have M2:gx b2 (Pu ⟨hp.push (rn b1 l1),g,d,tk,os⟩) l2 ys:=gx.push m2 _
  wp_walk using Dv M1,Dv M2
  exact⟨_,rfl,h⟩
section
variable{prog:Program}{w:World}{A:Around}{E:Value->Shared->Prop}{s:Shared}
theorem adX{b1 b2:Bool}{l1 l2:Addr}{xs ys:Array Value}{Q:Value->Shared->Prop}(m1:gx b1 s.heap l1 xs)(m2:gx b2 s.heap l2 ys)
  (k:∀h',IsZip h' (s.heap.objs.size+4) (s.heap.objs.size+2) (s.heap.objs.size+3) .none->IsPair h' (s.heap.objs.size+2) (.ref s.heap.objs.size) (.ref (s.heap.objs.size+1))->
   IsPair h' (s.heap.objs.size+3) .none .none->gf b1 h' s.heap.objs.size l1 0->gf b2 h' (s.heap.objs.size+1) l2 0->(∀c o,s.heap.get? c=some o->h'.get? c=some o)->Q (.ref (s.heap.objs.size+4)) { s with heap:=h' }) :
  wpAny (model prog w) A (call (.type "zip") [.ref l1,.ref l2]) Q E s:=by
 refine callType_new F.called_zip qc (F.typeCall_zip_2 _ _) (F.newCall_zip_2 _ _) (λobj=>F.args_object_init_3 obj _ _) F.entry_zip_new (afT b1 b2 l1 l2 xs ys) ⟨m1,m2,?_⟩;have z1:(EU b1 s.heap l1).objs.size=s.heap.objs.size+1:=lS ..;have z2:(ET b1 b2 s.heap l1 l2).objs.size=s.heap.objs.size+2:=by rw[lS,z1]
 have z3:(ES b1 b2 s.heap l1 l2).objs.size=s.heap.objs.size+3:=by rw[lS,z2]
 have z4:(ER b1 b2 s.heap l1 l2).objs.size=s.heap.objs.size+4:=by rw[lS,z3]
 have q5:(zv b1 b2 s.heap l1 l2).get? (ER b1 b2 s.heap l1 l2).objs.size=some _:=eO _ rfl;have q4:(zv b1 b2 s.heap l1 l2).get? (ES b1 b2 s.heap l1 l2).objs.size=some _:=bj _ (eO _ rfl);have q3:(zv b1 b2 s.heap l1 l2).get? (ET b1 b2 s.heap l1 l2).objs.size=some _:=bj _ (bj _ (eO _ rfl));have q2:(zv b1 b2 s.heap l1 l2).get? (EU b1 s.heap l1).objs.size=some _:=bj _ (bj _ (bj _ (eO _ rfl)));have q1:(zv b1 b2 s.heap l1 l2).get? s.heap.objs.size=some _:=bj _ (bj _ (bj _ (bj _ (eO _ rfl))));show _/\_;rw[z2,z3,z4]at q5;rw[z1,z2]at q3;rw[z3]at q4;rw[z1]at q2;rw[z4];exact⟨⟨_,q5,rfl⟩,k _ q5 q3 q4 (Ru q1) (Ru q2) λc o x=>bj _ (bj _ (bj _ (bj _ (bj _ x))))⟩
end
end L3
namespace L3
open PySem
open AutoSeq1 (wpAny_loadPart')
theorem adG(l:Addr)(au:Array Value)(n:Nat)(Oa:Option Addr)(sl:Array (Option Value)) :
  Meets (Builtin.«enumerate.__new__» ⟨[.type "enumerate",.ref l],[]⟩) (λ_ R s=>s.heap.get? l=some { cls:=.type "tuple",dict:=Oa,data:=.seq au n,slots:=sl }/\
   R (.ok (.ret (.ref (s.heap.push (rn false l)).objs.size))) { s with heap:=(s.heap.push (rn false l)).push { cls:=.type "enumerate",data:=.fields #[.none,.bool false,.ref s.heap.objs.size,rawInt 0,.none,.none] } }):=
 .of_wp λprog w A R s h=>by
  obtain⟨hp,g,d,tk,os⟩:=s;obtain⟨q,h⟩:=h;have Mj:=sub_enumerate;have M:gx false (Pu ⟨hp,g,d,tk,os⟩) l au:=⟨_,q,rfl,n,rfl⟩
  wp_walk using OL q
  refine wpAny_stack_any λst=>aG ?_
  split
  ·rename_i c _ _ _ _ _
   cases (c == jz "enumerate") <;> (wp_walk using OL q,Dv M;exact⟨_,rfl,h⟩)
  ·wp_walk using OL q,Dv M
   exact⟨_,rfl,h⟩
section
variable{prog:Program}{w:World}{A:Around}{E:Value->Shared->Prop}{s:Shared}
theorem adH{b:Bool}{l:Addr}{xs:Array Value}{Q:Value->Shared->Prop}(m:gx b s.heap l xs)
  (k:∀h',IsEnum h' (s.heap.objs.size+1) s.heap.objs.size 0 .none->gf b h' s.heap.objs.size l 0->(∀c o,s.heap.get? c=some o->h'.get? c=some o)->Q (.ref (s.heap.objs.size+1)) { s with heap:=h' }) :
  wpAny (model prog w) A (call (.type "enumerate") [.ref l]) Q E s:=by
 cases b with
 | true=>exact call_enumerate_list (show s.heap.IsList l xs from m) λh' a1 a2 _ a4=>k h' a1 a2 a4
 | false=>
  obtain⟨⟨c,Oa,dt,sl⟩,hl,hc,n,hd⟩:=(show s.heap.IsTuple l xs from m);have hc:c=.type "tuple":=hc;have hd:dt=.seq xs n:=hd;subst hc hd;refine callType_new F.called_enumerate qc (F.typeCall_enumerate_1 _) (F.newCall_enumerate_1 _) (λobj=>F.args_object_init_2 obj _) F.entry_enumerate_new (adG l xs n Oa sl) ⟨hl,?_⟩;have hz:(s.heap.push (rn false l)).objs.size=s.heap.objs.size+1:=lS ..
  have he:IsEnum ((s.heap.push (rn false l)).push { cls:=.type "enumerate",data:=.fields #[.none,.bool false,.ref s.heap.objs.size,rawInt 0,.none,.none] }) (s.heap.objs.size+1) s.heap.objs.size 0 .none:=by
   have q:=eO (s.heap.push (rn false l)) (o:={ cls:=.type "enumerate",data:=.fields #[.none,.bool false,.ref s.heap.objs.size,rawInt 0,.none,.none] }) rfl;rw[hz]at q;exact q
  show _/\_;rw[hz];exact⟨⟨_,he,rfl⟩,k _ he ⟨_,bj _ (eO _ rfl),rfl,rfl⟩ λc o x=>bj _ (bj _ x)⟩
theorem adI{b:Bool}(hh:A.handled=none)(it l:Addr)(iU:l≠it)(xs:Array Value):Draws prog w A it [it,l] xs.size (λi v=>xs[i]?=some v) (λi h=>gf b h it l i/\gx b h l xs) where
 live:=λ_ _ st=>let ⟨o,_,e,_⟩:=st.1.obj;⟨o,e⟩
 frame:=λ_ _ _ st hk=>⟨st.1.at λo e=>hk it (by simp) o e,st.2.at λo e=>hk l (by simp) o e⟩
 item:=λi s Q E hi st hQ=>next_item st.1 st.2 (x:=xs[i]) (by simp[hi]) λh' n' sb=>hQ _ h' s.toks (by simp[hi]) ⟨n',st.2.ext sb.extBut iU⟩ sb
 done:=λs Q E st hE=>next_end hh st.1 st.2 (by simp) hE
end
end L3
namespace L2
open PySem PySem.Spec PyProof.Rows L3
theorem Inv.IZ{X:Cx}{pins:List (Addr×Obj)}{σ:St}{H:Hp}{s:Shared}{h':Heap}{t':Nat}{ch:List Addr}(I:Inv X pins σ H s)(k:∀b o,b∉ch->s.heap.get? b=some o->h'.get? b=some o)
  (hc:∀b∈ch,eM X pins H b):Inv X pins σ H { s with heap:=h',toks:=t' }:=by
 have vw:∀b u,H b=some u->b∉ch:=λb u e z=>by rw[(hc b z).1]at e;cases e
 refine I.step (g':=s.gens) (d':=s.drawn) (ch:=ch) (λb hb=>⟨(hc b hb).2.2.2.1,(hc b hb).2.1,(hc b hb).2.2.2.2.1,(hc b hb).2.2.2.2.2⟩) (λb o _ _ z e _=>k b o z e) (λb o _ _ z e _=>⟨o.slots,k b o z e⟩) (λ_ _ _ _ n=>n)
  (λb o z e=>⟨o,k b o z e⟩) (λ_ _ e=>e) (λ_ _ _ e=>e) (λb ps e=>⟨#[],by rw[e];simp⟩) (λm hm=>?_) (λb u e=>?_) I.bare
 ·refine gJ hm λo es ep ho r=>?_;exact K1 o es ep (k _ o (λz=>(hc _ z).2.1 rfl) ho) r
 ·refine(I.aM b u e).qu (λc v hq q=>k c v ?_ q) (λ_ q=>q) λ_ _ q=>q;rcases hq with z | z
  ·rw[z];exact vw b u e
  ·exact vw c _ z
def Sq(b:Bool)(K:W.Frag)(H:Hp)(a:Addr)(xs:List V):Prop:=if b=true then aq K H a xs else aF K H a xs
theorem rm{X:Cx}{pins:List (Addr×Obj)}{σ:St}{H:Hp}{s:Shared}{b:Bool}{a:Addr}{xs:List V}(I:Inv X pins σ H s)(h:Sq b X.K H a xs):∃au:List Value,Vals xs au/\gx b s.heap a au.toArray/\xs.length<=aZ:=by
 cases b with
 | true=>
  refine aJ (I.list h) λau r p z=>?_;exact cO au r p.isList z
 | false=>
  refine aJ (I.tuple h) λau r p z=>?_;exact cO au r p z
theorem JF{X:Cx}{pins:List (Addr×Obj)}{σ:St}{H:Hp}{s:Shared}{b:Bool}{a:Addr}{xs ys:List V}(I:Inv X pins σ H s)(h:Sq b X.K H a xs)(h':Sq b X.K H a ys):xs=ys:=by
 cases b with
 | true=>exact I.Rp h h'
 | false=>exact I.Qh h h'
theorem Kv{X:Cx}{pins:List (Addr×Obj)}{σ:St}{H:Hp}{s:Shared}{b:Bool}{a:Addr}{xs:List V}(I:Inv X pins σ H s)(h:Sq b X.K H a xs):a<s.heap.objs.size:=by
 refine aJ (rm I h) λau r p z=>?_;cases b with
 | true=>obtain⟨o,e,_⟩:=(show s.heap.IsList a au.toArray from p);exact cg e
 | false=>obtain⟨o,e,_⟩:=(show s.heap.IsTuple a au.toArray from p);exact cg e
def V6(b1 b2:Bool)(K:W.Frag)(l1 l2:Addr):It:=
 ⟨λi H=>∃xs ys x y,Sq b1 K H l1 xs/\Sq b2 K H l2 ys/\xs[i]?=some x/\ys[i]?=some y,λi H v H'=>∃p x y,H p=none/\v=.ref p/\H'=upd H p (.tup [x,y])/\∀xs ys,Sq b1 K H l1 xs->Sq b2 K H l2 ys->xs[i]?=some x/\ys[i]?=some y,λi H=>∃xs ys,Sq b1 K H l1 xs/\Sq b2 K H l2 ys/\(xs.length<=i\/ys.length<=i)⟩
theorem yp{b:Bool}{h:Heap}{it l:Addr}{i:Nat}(x:gf b h it l i):∃o,h.get? it=some o/\∀v,o.data≠.cell v:=by
 refine bf x.obj λo vs e d=>?_;exact ak o e (λv z=>by rw[d]at z;cases z)
theorem adZ{P:Program}{w:World}{K:W.Frag}{es:List Expr}{x1:Nat}{pos:Pos}{b1 b2:Bool}{z TI TO i1 i2 l1 l2:Addr}(D:ZipApart z TI TO i1 i2 l1 l2) :
  Turn P w K (.Tuple es x1 pos) (V6 b1 b2 K l1 l2) [z,TI,TO,i1,i2] z (λi h=>IsZip h z TI TO .none/\IsPair h TI (.ref i1) (.ref i2)/\(∃a b,IsPair h TO a b)/\gf b1 h i1 l1 i/\gf b2 h i2 l2 i) where
 mem:=by simp
 obj:=λi h ⟨a1,a2,⟨a,b,a3⟩,a4,a5⟩ c hc=>by
  simp only[cx,qO,or_false]at hc;rcases hc with rfl | rfl | rfl | rfl | rfl
  ·exact ak _ a1 (λv z=>by cases z)
  ·exact ak _ a2 (λv z=>by cases z)
  ·exact ak _ a3 (λv z=>by cases z)
  ·exact yp a4
  ·exact yp a5
 keep:=λi h h' ⟨a1,a2,⟨a,b,a3⟩,a4,a5⟩ k=>⟨k z (by simp) _ a1,k TI (by simp) _ a2,⟨a,b,k TO (by simp) _ a3⟩,a4.at λo e=>k i1 (by simp) o e,a5.at λo e=>k i2 (by simp) o e⟩
 item:=by
  intro X hP hw hK hc i pins s σ H E I hf ⟨a1,a2,⟨a,b,a3⟩,a4,a5⟩ hg;subst hP hw hK;refine uB hg λxs ys x y q1 q2 hx hy=>?_;refine aJ (rm I q1) λBQ r1 m1 _=>?_;refine aJ (rm I q2) λWa r2 m2 _=>?_;refine ag (r1.get hx) λu hu ru=>?_;refine ag (r2.get hy) λv hv rv=>?_;refine adW D a1 a2 a3 a4 a5 m1 m2 (x:=u) (y:=v) (by simpa using hu) (by simpa using hv) λh' c1 c2 c3 c4 c5 kk=>?_;have hp:H s.heap.objs.size=none:=I.aM.fresh (aH _)
  have lts:∀c∈[z,TI,TO,i1,i2],c<s.heap.objs.size:=λc hc=>by
   simp only[cx,qO,or_false]at hc;rcases hc with rfl | rfl | rfl | rfl | rfl
   ·exact cg a1
   ·exact cg a2
   ·exact cg a3
   ·obtain⟨o,e,_⟩:=yp a4;exact cg e
   ·obtain⟨o,e,_⟩:=yp a5;exact cg e
  refine ak _ rfl (wpAny_letOwnedTupleGo_zip c1 λt8 d1 sb=>?_);have sz:∀c∈[z,TI,TO,i1,i2],c≠s.heap.objs.size:=λc hc=>dZ (lts c hc)
  have k2:∀c o,c∉[z,TO,i1,i2]->s.heap.get? c=some o->t8.get? c=some o:=λc o hc e=>by
   simp only[cx,qO,or_false,not_or]at hc;exact(sb.2 c hc.1).trans (kk c o hc.1 hc.2.1 hc.2.2.1 hc.2.2.2 e)
  have fz:∀c∈[z,TO,i1,i2],eM X pins H c:=λc hc=>hf c (by
   simp only[cx,qO,or_false]at hc ⊢;rcases hc with rfl | rfl | rfl | rfl <;> simp)
  have I1:Inv X pins σ H { s with heap:=t8 }:=Inv.IZ (t':=s.toks) I k2 fz;have pT:IsPair t8 s.heap.objs.size u v:=(sb.2 _ (fw (sz z (by simp)))).trans c5;have fT:eM X pins H s.heap.objs.size:=I.iu (aH _) hp;have I2:Inv X pins σ (upd H s.heap.objs.size (.tup [x,y])) { s with heap:=t8 }:=Inv.adopt I1 hp I.sz fT.2.1 fT.2.2.2.2.1 fT.2.2.2.2.2 ⟨by show 2<=aZ;decide,[u,v],.cons ru (.cons rv .nil),⟨_,pT,rfl,_,rfl⟩⟩;refine⟨.ref s.heap.objs.size,_,I2,rfl,⟨_,x,y,hp,rfl,rfl,λxs' oQ p1 p2=>⟨by rw[JF I p1 q1];exact hx,by rw[JF I p2 q2];exact hy⟩⟩,⟨d1,(sb.2 _ D.TIz).trans (kk _ _ D.TIz D.TITO D.TIi1 D.TIi2 a2),⟨u,v,(sb.2 _ D.TOz).trans c2⟩,c3.at λo e=>(sb.2 _ D.i1z).trans e,c4.at λo e=>(sb.2 _ D.i2z).trans e⟩,λc hc=>?_⟩;rw[ar (sz c hc)];exact(hf c hc).1
 done:=by
  intro X hP hw hK hc i pins s σ H E I hf ⟨a1,a2,⟨a,b,a3⟩,a4,a5⟩ hg;subst hP hw hK;refine cF hg λxs ys q1 q2 EK=>?_;refine aJ (rm I q1) λBQ r1 m1 _=>?_;refine aJ (rm I q2) λWa r2 m2 _=>?_;have l1':=r1.length;have l2':=r2.length;refine afU (I.ok.hd hc) D a1 a2 a3 a4 a5 m1 m2 (by rcases EK with q | q;exact .inl (by simp;omega);exact .inr (by simp;omega)) λh' kk=>⟨rfl,?_⟩
  refine Inv.IZ (t':=s.toks) (ch:=[z,TO,i1,i2]) I (λc o hc e=>?_) λc hc=>hf c (by
   simp only[cx,qO,or_false]at hc ⊢;rcases hc with rfl | rfl | rfl | rfl <;> simp)
  simp only[cx,qO,or_false,not_or]at hc;exact kk c o hc.1 hc.2.1 hc.2.2.1 hc.2.2.2 e
 self:=λ_ _ _ _ _ st h=>wpAny_pyIter_zip st.1 h
section
variable{X:Cx}{pos:Pos}
def amh(b1 b2:Bool)(K:W.Frag)(ta:TA):TI:=λσ H R=>ta σ H λvs H1=>∃l1 l2 xs ys,vs=[.ref l1,.ref l2]/\Sq b1 K H1 l1 xs/\Sq b2 K H1 l2 ys/\R (V6 b1 b2 K l1 l2) H1
theorem aif{b1 b2:Bool}{a b:Expr}{ta:TA}{p:Pos}{es:List Expr}{x1:Nat}{wZ:Pos}(hg:Gl X "zip")(hm:X.mg "zip" = none)(ha:PA X [a,b] ta)
  (hs:cJ [a,b] X.env=[(false,eval a X.env),(false,eval b X.env)]:=by rfl) (vy:cJ [b] X.env=[(false,eval b X.env)]:=by rfl):PI X (.Tuple es x1 wZ) (.Call (.Name "zip" p) [a,b] [] pos) (amh b1 b2 X.K ta):=by
 intro pins s σ H R I h;refine Call_ (uO I hg hm boot_zip (CD (aU (ha pos pins s σ H _ I h) λus s1 ⟨vs,H1,I1,r1,q1⟩=>?_) (by rw[hs,vy]) (by rw[vy];rfl)));obtain⟨l1,l2,xs,ys,e,q1,q2,q⟩:=q1;subst e;cases r1 with
 | cons r rr=>
  cases rr with
  | cons r' rr=>
   cases rr;cases r;cases r';obtain⟨BQ,_,m1,_⟩:=rm I1 q1;obtain⟨Wa,_,m2,_⟩:=rm I1 q2;have n1:=Kv I1 q1;have n2:=Kv I1 q2;refine adX m1 m2 λh' c1 c2 c3 c4 c5 kk=>wpAny_pyIter_zip c1 ?_;refine qd _ _ _ _ H1 rfl (I1.kept (t':=s1.toks) kk) (adZ (D:=zipApart_new n1 n2)) ⟨c1,c2,⟨_,_,c3⟩,c4,c5⟩ (λc hc=>?_) q
   have pd:s1.heap.objs.size<=c:=by
    simp only[cx,qO,or_false]at hc;rcases hc with rfl | rfl | rfl | rfl | rfl <;> omega
   exact I1.iu pd (I1.aM.fresh pd)
def V8(b:Bool)(K:W.Frag)(l:Addr):It:=
 ⟨λi H=>∃xs x,Sq b K H l xs/\xs[i]?=some x,λi H v H'=>∃p x,H p=none/\v=.ref p/\H'=upd H p (.tup [.int i,x])/\∀xs,Sq b K H l xs->xs[i]?=some x,λi H=>∃xs,Sq b K H l xs/\xs.length<=i⟩
end
theorem acS{P:Program}{w:World}{K:W.Frag}{es:List Expr}{x1:Nat}{pos:Pos}{b:Bool}{e it l:Addr}(n1:e≠it)(n2:l≠it)(n3:e≠l) :
  Turn P w K (.Tuple es x1 pos) (V8 b K l) [e,it] e (λi h=>(∃old,IsEnum h e it i old)/\gf b h it l i) where
 mem:=by simp
 obj:=λi h ⟨⟨old,a1⟩,a2⟩ c hc=>by
  simp only[cx,qO,or_false]at hc;rcases hc with rfl | rfl
  ·exact ak _ a1 (λv z=>by cases z)
  ·exact yp a2
 keep:=λi h h' ⟨⟨old,a1⟩,a2⟩ k=>⟨⟨old,k e (by simp) _ a1⟩,a2.at λo q=>k it (by simp) o q⟩
 item:=by
  intro X hP hw hK hc i pins s σ H E I hf ⟨⟨old,a1⟩,a2⟩ hg;subst hP hw hK;refine bf hg λxs x q1 hx=>?_;refine aJ (rm I q1) λvs r1 m1 _=>?_;refine ag (r1.get hx) λu hu ru=>?_
  have FV:i<vs.toArray.size:=by
   have:=(eK.mp hu).1;simpa using this
  have hh:X.A.in1.handled=none:=I.ok.hd hc;refine wpAny_pyNext_enum_itemD (n:=vs.toArray.size) (adI (b:=b) hh it l n2 vs.toArray) a1 ⟨a2,m1⟩ FV n1 (by simp;exact⟨n1,n3⟩) λy h' tk hy c1 c2 c3 c4 kk=>?_
  have ey:y=u:=by
   have:vs[i]?=some y:=by simpa using hy
   rw[hu]at this;exact(gn this).symm
  subst ey;have hp:H s.heap.objs.size=none:=I.aM.fresh (aH _);have eS:e≠s.heap.objs.size:=dZ (cg a1)
  have iS:it≠s.heap.objs.size:=by
   refine ag (yp a2) λo q _=>?_;exact dZ (cg q)
  refine ak _ rfl (wpAny_letOwnedTupleGo_enum c1 λt8 d1 sb=>?_)
  have k2:∀c o,c∉[e,it]->s.heap.get? c=some o->t8.get? c=some o:=λc o hc q=>by
   simp only[cx,qO,or_false,not_or]at hc;exact(sb.2 c hc.1).trans (kk c o hc.1 hc.2 q)
  have I1:Inv X pins σ H { s with heap:=t8,toks:=tk+1 }:=Inv.IZ I k2 hf;have pT:t8.get? s.heap.objs.size=some { cls:=.type "tuple",data:=.seq #[.int i tk,y] }:=(sb.2 _ (fw eS)).trans c3;have fT:eM X pins H s.heap.objs.size:=I.iu (aH _) hp
  have I2:Inv X pins σ (upd H s.heap.objs.size (.tup [.int i,x])) { s with heap:=t8,toks:=tk+1 }:=Inv.adopt I1 hp I.sz fT.2.1 fT.2.2.2.2.1 fT.2.2.2.2.2
   ⟨by show 2<=aZ;decide,[.int i tk,y],.cons ⟨_,rfl⟩ (.cons ru .nil),⟨_,pT,rfl,_,rfl⟩⟩
  refine DO (.ref s.heap.objs.size) _ I2 rfl ⟨_,x,hp,rfl,rfl,λxs' p1=>by rw[JF I p1 q1];exact hx⟩ ⟨⟨_,by simpa using d1⟩,c2.1.at λo q=>(sb.2 _ (fw n1)).trans q⟩ λc hc=>?_;simp only[cx,qO,or_false]at hc;rcases hc with rfl | rfl
  ·rw[ar eS];exact(hf _ (by simp)).1
  ·rw[ar iS];exact(hf _ (by simp)).1
 done:=by
  intro X hP hw hK hc i pins s σ H E I hf ⟨⟨old,a1⟩,a2⟩ hg;subst hP hw hK;refine ag hg λxs q1 EK=>?_;refine aJ (rm I q1) λvs r1 m1 _=>?_;have hl:=r1.length;have hT:s.TypeIs (.ref e) "enumerate":=⟨_,a1,rfl⟩;unfold pyNext;refine ah (CV (vN (name:=qR "__next__") hT YY (sE YY hT F.entry_enumerate_next ?_ (F.args_enumerate_next_1 _))));show wpAny _ _ (field (.ref e) 2 >>= _) _ _ s;refine ah (jy a1 rfl (x:=.ref it) rfl (ah (next_end (show X.A.in1.handled=none from I.ok.hd hc) a2 m1 (by simp;omega) λh' y hk ⟨o,ho,xO⟩=>?_)));refine ah (Gz (T:="StopIteration") (b:=true) ⟨o,ho,xO⟩ OR (aG ⟨rfl,?_⟩));refine I.turned (t':=s.toks) (it:=it) (λc q hc z=>hk c q hc z) (hf it (by simp)).1 (hf it (by simp)).2.1 (hf it (by simp)).2.2.2.1 (hf it (by simp)).2.2.2.2.1 (hf it (by simp)).2.2.2.2.2
 self:=λ_ _ _ _ _ st h=>let ⟨_,a1⟩:=st.1;wpAny_pyIter_enum a1 h
section
variable{X:Cx}{pos:Pos}
def akL(b:Bool)(K:W.Frag)(ta:TA):TI:=λσ H R=>ta σ H λvs H1=>∃l xs,vs=[.ref l]/\Sq b K H1 l xs/\R (V8 b K l) H1
theorem AV{b:Bool}{a:Expr}{ta:TA}{p:Pos}{es:List Expr}{x1:Nat}{wZ:Pos}(hg:Gl X "enumerate")(hm:X.mg "enumerate" = none)(ha:PA X [a] ta)
  (hs:cJ [a] X.env=[(false,eval a X.env)]:=by rfl):PI X (.Tuple es x1 wZ) (.Call (.Name "enumerate" p) [a] [] pos) (akL b X.K ta):=by
 intro pins s σ H R I h;refine Call_ (uO I hg hm boot_enumerate (CD (aU (ha pos pins s σ H _ I h) λus s1 ⟨vs,H1,I1,r1,q1⟩=>?_) hs rfl));obtain⟨l,xs,e,q1,q⟩:=q1;subst e;cases r1 with
 | cons r rr=>
  cases rr;cases r;obtain⟨BQ,_,m1,_⟩:=rm I1 q1;have n1:=Kv I1 q1;refine adH m1 λh' c1 c2 kk=>wpAny_pyIter_enum c1 ?_;refine qd _ _ _ _ H1 rfl (I1.kept (t':=s1.toks) kk) (acS (GG _) (dZ n1) (fw (dZ (CJ n1)))) ⟨⟨_,c1⟩,c2⟩ (λc hc=>?_) q
  have pd:s1.heap.objs.size<=c:=by
   simp only[cx,qO,or_false]at hc;rcases hc with rfl | rfl <;> omega
  exact I1.iu pd (I1.aM.fresh pd)
end
end L2
namespace L2
open PySem PySem.Spec PyProof.Rows PySem.SeqAt L3
def LZ:V->Option Value
 | .ty n=>some (.type n)
 | .ref a=>some (.ref a)
 | _=>none
theorem RD{c:V}{cv u:Value}(h:LZ c=some cv)(r:RelV c u):u=cv:=by
 cases c with
 | ty n=>cases h;exact r
 | ref a=>cases h;exact r
 | _=>cases h
def UZ(K:W.Frag):List V->Hp->VK->Prop:=λxs H Q=>∃x c t cv b,xs=[x,c]/\iw K H x t/\LZ c=some cv/\W.kitOne K t cv=some b/\Q (.bl b) H
section
variable{X:Cx}
theorem jT:kc X (.builtin "isinstance") (UZ X.K):=by
 intro pins s σ H xs us Q I r h;obtain⟨x,c,t,cv,b,e,ty,hc,hk,q⟩:=h;subst e;cases r with
 | cons r1 r2=>
  cases r2 with
  | cons r2 r3=>
   cases r3;cases RD hc r2;exact ado I r1 ty hk λtk=>(eL (.bl b) H (I.tok tk) rfl q)
theorem range_all(bs:List Bool):(List.range bs.length).all (λi=>bs.getD i false)=bs.all id:=by
 induction bs with
 | nil=>rfl
 | cons b r ih=>
  rw[jv,List.range_succ_eq_map,yh,Ap,yh];simp only[List.getD_cons_zero,id]
  congr 1
theorem QS:∀{bs:List Bool} {us:List Value},Vals (bs.map V.bl) us->us=bs.map uu
 | [],_,r=>by cases r;rfl
 | b::bs,_,r=>by
  cases r with
  | cons r1 r2=>
   cases r1;rw[jd,QS r2]
theorem aby{A:Around}(bs:List Bool):TruthOf X.prog X.w A (λi v=>(bs.map uu).toArray[i]?=some v) (λi=>bs.getD i false):=by
 intro i v s Q E h q;have h':(bs.map uu)[i]?=some v:=by simpa using h
 rw[gC]at h';cases e:bs[i]? with
 | none=>rw[e]at h';cases h'
 | some b=>
  rw[e]at h';have hv:v=.bool b:=(gn h').symm;subst hv;have hq:bs.getD i false=b:=by rw[ug,e];rfl
  have q':Q (bs.getD i false) s:=q;rw[hq]at q';exact sD q'
def al9(K:W.Frag):List V->Hp->VK->Prop:=λxs H Q=>∃(p:Addr) (bs:List Bool),xs=[.ref p]/\aq K H p (bs.map V.bl)/\Q (.bl (bs.all id)) H
theorem AN(hc:X.calm=true):kc X (.builtin "all") (al9 X.K):=by
 intro pins s σ H xs us Q I r h;refine cF h λp bs e hq q=>?_;subst e;refine ag (vals1 r) λu aa rx=>?_;subst aa;cases rx;refine aJ (I.list hq) λau rv pl hz=>?_;have ei:=QS rv;subst ei
 have iU:p≠s.heap.objs.size:=by
  refine ag pl.isList λo e _=>?_;exact dZ (cg e)
 refine call_all_walk (CI pl.isList (Jt _ _ _ _ _ _ (hG _ rfl (HI (show X.A.in1.handled=none from I.ok.hd hc) _ p iU (bs.map uu).toArray) ⟨⟨_,eO _ rfl,rfl,rfl⟩,pl.isList.push _⟩ (aby bs) λh' tk kk=>?_)))
 have e2:(List.range (bs.map uu).toArray.size).all (λi=>bs.getD i false)=bs.all id:=by
  rw[dF,aN];exact range_all bs
 rw[e2];refine eL (.bl _) H (I.kept λb o e=>kk b o (λz=>?_) (bj _ e)) rfl q;have z':b=s.heap.objs.size:=by simpa using z
 rw[z']at e;exact absurd (cg e) (kv _)
mutual
inductive gy (K:W.Frag) (H:Hp):V->PyData->Prop
 | aD:gy K H .aD .none
 | bl (b:Bool):gy K H (.bl b) (.bool b)
 | int (i:Int):gy K H (.int i) (.int i)
 | str (x:Str):gy K H (.str x) (.str x)
 | lst {a:Addr} {xs:List V} {ds:List PyData}:aq K H a xs->kX K H xs ds->gy K H (.ref a) (.list ds)
 | tup {a:Addr} {xs:List V} {ds:List PyData}:aF K H a xs->kX K H xs ds->gy K H (.ref a) (.tuple ds)
inductive kX (K:W.Frag) (H:Hp):List V->List PyData->Prop
 | nil:kX K H [] []
 | cons {x:V} {d:PyData} {xs:List V} {ds:List PyData}:gy K H x d->kX K H xs ds->kX K H (x::xs) (d::ds)
end
variable{pins:List (Addr×Obj)}{σ:St}{H:Hp}{s:Shared}
mutual
theorem gy.reads(I:Inv X pins σ H s):∀{v:V} {d:PyData} {u:Value},gy X.K H v d->RelV v u->∃as,Reads s.heap u d as
 | _,_,_,.aD,r=>by cases r;exact⟨_,.none⟩
 | _,_,_,.bl b,r=>by cases r;exact⟨_,.bool b⟩
 | _,_,_,.int i,r=>by obtain⟨t,e⟩:=r;subst e;exact⟨_,.int i t⟩
 | _,_,_,.str x,r=>by obtain⟨t,e⟩:=r;subst e;exact⟨_,.str x t⟩
 | _,_,_,.lst hq hs,r=>by
  cases r;refine aJ (I.list hq) λau rv pl hz=>?_;refine oE (kX.reads I hs rv) λas h=>?_;refine aJ pl.isList λo ho hc aa=>?_;refine oE aa λn hd=>?_;exact⟨_,.list ho hc hd (by simpa using h)⟩
 | _,_,_,.tup hq hs,r=>by
  cases r;refine aJ (I.tuple hq) λau rv pl hz=>?_;refine oE (kX.reads I hs rv) λas h=>?_;refine aJ pl λo ho hc aa=>?_;refine oE aa λn hd=>?_;exact⟨_,.tuple ho hc hd (by simpa using h)⟩
theorem kX.reads(I:Inv X pins σ H s):∀{vs:List V} {ds:List PyData} {us:List Value},kX X.K H vs ds->Vals vs us->∃as,ReadsAll s.heap us ds as
 | _,_,_,.nil,r=>by cases r;exact⟨_,.nil⟩
 | _,_,_,.cons h t,r=>by
  cases r with
  | cons r1 r2=>
   refine oE (gy.reads I h r1) λas q1=>?_;refine oE (kX.reads I t r2) λbs q2=>?_;exact⟨_,.cons q1 q2⟩
end
def Er(K:W.Frag)(neg:Bool):R2:=λx y H Q=>∃d e,gy K H x d/\gy K H y e/\shaped d=true/\shaped e=true/\noMix d e=true/\Q (.bl (if neg=true then !same d e else same d e)) H
theorem Tj(hu:X.A.units+64<cLine):ff X (jQ .Eq) (Er X.K false):=by
 intro pins s σ H x y v u Q I rx ry h;refine jh h λd e h1 h2 h3 h4 h5 q=>?_;refine oE (h1.reads I rx) λas q1=>?_;refine oE (h2.reads I ry) λbs q2=>?_;exact eq_dataH_same q1 q2 h3 h4 hu h5 (eL (.bl _) H I rfl q)
theorem wB(hu:X.A.units+64<cLine):ff X (jQ .NotEq) (Er X.K true):=by
 intro pins s σ H x y v u Q I rx ry h;refine jh h λd e h1 h2 h3 h4 h5 q=>?_;refine oE (h1.reads I rx) λas q1=>?_;refine oE (h2.reads I ry) λbs q2=>?_;exact ne_dataH_same q1 q2 h3 h4 hu h5 (eL (.bl _) H I rfl q)
end
structure Lk(K:W.Frag)(C:Addr)(m:Str)(f:Addr):Prop where
 sp:W.specialIn K (.ref C) "__getattribute__" = some (some (.builtin "type.__getattribute__"))
 rd:W.readsIn K C (.type "type")=true
 fc:W.findCls K (.ref C) (.type "type") m=some (.val (.ref f))
 kp:W.keepIn K (.ref f)=true
section
variable{X:Cx}{CX:nI}{k:Nat}{f C:Addr}{fd:aV}{ps:List Str}{sp:Sp}{dvs:List V}{ds:List Value}{E:XK}{x m:Str}{p pos apos:Pos}{e o:Expr}{es:List Expr}{ta:TE}{t:TA}
theorem yq{pl:Sem Bool}(c:Lk X.K C m f)(F:ay X.prog X.w X.K X.mg X.base CX k f fd ps sp)(hr:e8 k X.A)(hg:Gl X x)(hm:X.mg x=some (.ref C))(hb:Binds X.K fd ps ds)(hd:Vals dvs ds)(hx:Passes CX X E)(ha:PA X (e::es) t)
  (mI:(x == ("__debug__" : Str))=false:=by decide) (cD:cJ (e::es) X.env=(false,eval e X.env)::cJ es X.env:=by rfl) (dE:(backTo pos (cJ es X.env)).any (·.1)=false:=by rfl)
  (ht:eval (.Call (.Attribute (.Name x p) m apos) (e::es) [] pos) X.env=(do
   let ov <-eval (.Name x p) X.env
   standAt apos.atName
   let (f,first) <-holding [ov] (yz ov m pl)
   DE pos f first (backTo pos (cJ (e::es) X.env)) (AR pos (Av [] X.env))):=by rfl) :
  PE X (.Call (.Attribute (.Name x p) m apos) (e::es) [] pos) (T5 sp dvs E t):=by
 intro pins s σ H Q I h;refine W.methodCall_KW (pl:=pl) (wt I hg hm ?_ mI) ht;refine W.method_cls I.dX c.sp (W.cls_value I.dX c.rd c.fc rfl ?_);have I1:=I.tok (s.toks+1);refine W.callWith_K (first:=[]) (h₀:=X.base) I.ok.mod.vm c.kp (aU (ha pos pins _ σ H _ I1 h) λus s2 ⟨vs,H2,I2,r,q2⟩=>⟨I2.dX,?_⟩) cD dE;exact A9 F hr hb hd hx I2 r q2
def ah1(P:Program)(w:World)(K:W.Frag)(mg:Str->Option Value)(base:Heap)(CX:nI)(k:Nat)(m:Str)(E:XK)(ta:TE):TE:=λσ H Q=>ta σ H λx H1=>∃a C dx fs f fd ps sp,x=.ref a/\H1 a=some (.ins C dx fs)/\fs.lookup m=none/\eU K C/\Meth K C m f/\
 ay P w K mg base CX k f fd ps sp/\Binds K fd ps []/\sp [.ref a] H1 Q E
theorem aeh{P:Program}{w:World}{K:W.Frag}{mg:Str->Option Value}{base:Heap}{pl:Sem Bool}(he:PE X o ta)(hr:e8 k X.A)(hx:Passes CX X E)(hP:X.prog=P:=by rfl)(hw:X.w=w:=by rfl)(hK:X.K=K:=by rfl)(zK:X.mg=mg:=by rfl)(hbs:X.base=base:=by rfl)
  (ht:eval (.Call (.Attribute o m apos) [] [] pos) X.env=(do
   let ov <-eval o X.env
   standAt apos.atName
   let (f,first) <-holding [ov] (yz ov m pl)
   DE pos f first (backTo pos (cJ [] X.env)) (AR pos (Av [] X.env))):=by rfl) :
  PE X (.Call (.Attribute o m apos) [] [] pos) (ah1 P w K mg base CX k m E ta):=by
 subst hP hw hK zK hbs;intro pins s σ H Q I h;refine W.methodCall_KW (pl:=pl) (aU (he pins s σ H _ I h) λu s1 hh=>?_) ht;refine cF hh λx H1 I1 rx aa=>?_;refine vX aa λa C dx fs f fd ps sp ex ea aa=>?_;refine nh aa λl c hm F hb q=>?_;subst ex;obtain rfl:u=ee a:=rx;refine Dh I1 ea c hm l ?_;exact W.callWith_K0 (first:=[.ref a]) I1.dX hm.kp (A9 (us:=[.ref a]) (vs:=[.ref a]) (dvs:=[]) (ds:=[]) F hr hb .nil hx I1 (.cons rfl .nil) q)
end
theorem bG{c A B:Prop}[Decidable c](h1:c->A)(h2:¬c->B):if decide c=true then A else B:=by
 by_cases h:c
 ·rw[decide_eq_true h];exact iZ (h1 h)
 ·rw[decide_eq_false h];exact eY (h2 h)
theorem uU{c A B:Prop}[Decidable c](h1:¬c->A)(h2:c->B):if (!decide c)=true then A else B:=by
 by_cases h:c
 ·rw[decide_eq_true h];exact eY (h2 h)
 ·rw[decide_eq_false h];exact iZ (h1 h)
theorem LO{b:Bool}{A B:Prop}(h1:b=true->A)(h2:b=false->B):if b=true then A else B:=by
 cases b with
 | true=>exact iZ (h1 rfl)
 | false=>exact eY (h2 rfl)
theorem Bo{b:Bool}{A B:Prop}(h1:b=false->A)(h2:b=true->B):if (!b)=true then A else B:=by
 cases b with
 | true=>exact eY (h2 rfl)
 | false=>exact iZ (h1 rfl)
def UX(sc out:Scope)(XN N:List Str)(idx:List Nat):Bool:=
 decide (sc.kind=.function)&&(sc.names.all (λy=>decide (y.2≠.cell))&&(sc.names.all (λy=>decide (y.2≠.local)||decide (sc.names.lookup y.1=some .local)) && (sc.names.all (λy=>decide (y.2≠.free)||decide (out.names.lookup y.1=some .cell))&&(decide (idx.length<=N.length)&&(idx.zip N).all λp=>decide (XN[p.1]?=some p.2)&&decide (sc.names.lookup p.2=some .free)))))
theorem eC.of{X:Cx}{sc:Scope}{N:List Str}{idx:List Nat}(h:UX sc X.env.scope X.N N idx=true):eC X sc N idx:=by
 unfold UX at h;simp only[jc,decide_eq_true_eq,Aj,Bool.or_eq_true]at h;refine nh h λh1 h2 h3 h4 h5 h6=>?_;refine⟨h1,h2,λy hy e=>?_,λy hy e=>?_,h5,λk i x a b=>?_⟩
 ·rcases h3 y hy with z | z
  ·exact absurd e z
  ·exact z
 ·rcases h4 y hy with z | z
  ·exact absurd e z
  ·exact z
 ·have hm:(i,x)∈idx.zip N:=by
   have:(idx.zip N)[k]?=some (i,x):=by rw[YC];exact⟨a,b⟩
   exact bb this
  exact h6 (i,x) hm
end L2
namespace TL
open PySem PySem.Spec PyProof.Rows L2 L3
def kinds:List String:=["NoneType","bool","int","str","list","tuple"]
def Tv:List String:=["int","bool","str","tuple","list"]
def rD(T U:String):Bool:=T == U||(T == "bool" && U == "int")
theorem aiJ(K:W.Frag)(T U:String):W.kitOne K (.type T) (.type U) =
  (if (jz T == jz U)=true then some true else if W.kitMeta U=true then (fastBuiltinMro T).map (·.contains (.type U)) else none):=rfl
theorem ag6:∀T∈kinds,∀U∈Tv,(if (jz T == jz U)=true then some true else if W.kitMeta U=true then (fastBuiltinMro T).map (·.contains (.type U)) else none)=some (rD T U):=dk
def tyName(H:Hp):V->Option String
 | .aD=>some "NoneType"
 | .bl _=>some "bool"
 | .int _=>some "int"
 | .str _=>some "str"
 | .ref a=>match H a with
  | some (.lst _)=>some "list"
  | some (.tup _)=>some "tuple"
  | _=>none
 | _=>none
theorem Qg{K:W.Frag}{H:Hp}{v:V}{T:String}(h:tyName H v=some T):iw K H v (.type T)/\T∈kinds:=by
 cases v with
 | aD=>cases h;exact⟨.aD,qc⟩
 | bl b=>cases h;exact⟨.bl b,qc⟩
 | int i=>cases h;exact⟨.int i,qc⟩
 | str x=>cases h;exact⟨.str x,qc⟩
 | ref a=>
  unfold tyName at h;cases e:H a with
  | none=>simp only[e]at h;cases h
  | some o=>
   cases o with
   | lst xs=>simp only[e]at h;cases h;exact⟨.lst e,qc⟩
   | tup xs=>simp only[e]at h;cases h;exact⟨.tup e,qc⟩
   | _=>simp only[e]at h;cases h
 | _=>cases h
theorem pJ{K:W.Frag}{H:Hp}{v:V}{T U:String}(h:tyName H v=some T)(hU:U∈Tv):W.kitOne K (.type T) (.type U)=some (rD T U):=by
 rw[aiJ];exact ag6 T (Qg (K:=K) h).2 U hU
theorem pM{K:W.Frag}{H:Hp}{v:V}{T:String}(h:tyName H v=some T):iw K H v (.type T):=(Qg h).1
theorem Pk{H H':Hp}{v:V}{T:String}(s:af H H')(h:tyName H v=some T):tyName H' v=some T:=by
 cases v with
 | ref a=>
  unfold tyName at h ⊢;cases e:H a with
  | none=>simp only[e]at h;cases h
  | some o=>simp only[s a o e];simp only[e]at h;exact h
 | _=>exact h
def qC:V->Bool
 | .int _=>true
 | _=>false
theorem Tz{H:Hp}{v:V}{T:String}(h:tyName H v=some T):(rD T "int" && !rD T "bool")=qC v:=by
 cases v with
 | aD=>cases h;rfl
 | bl b=>cases h;rfl
 | int i=>cases h;rfl
 | str x=>cases h;rfl
 | ref a=>
  unfold tyName at h;cases e:H a with
  | none=>simp only[e]at h;cases h
  | some o=>
   cases o with
   | lst xs=>simp only[e]at h;cases h;rfl
   | tup xs=>simp only[e]at h;cases h;rfl
   | _=>simp only[e]at h;cases h
 | _=>cases h
def da(w:Str):Option (List Int):=
 if w = "put" then some [4,fQ] else if w = "add" then some [4,4] else if w = "set" then some [12,4] else if w = "look" then some [4,12] else if w = "swap" then some [4,12]
 else if w = "clear" then some [] else if w = "skip" then some [4,121] else none
def oJ:V->Int->Bool
 | .int i,b=>decide (0<=i)&&decide (i<b)
 | _,_=>false
def stepOk:List V->Bool
 | .str w::ps=>match da w with
  | none=>false
  | some bs=>decide (ps.length=bs.length)&&(ps.zip bs).all λp=>oJ p.1 p.2
 | _=>false
def tf(H:Hp):V->Option (List V)
 | .ref a=>match H a with
  | some (.tup xs)=>some xs
  | _=>none
 | _=>none
def yX(H:Hp)(v:V):Bool:=match tf H v with
 | some xs=>stepOk xs
 | none=>false
theorem acQ{H:Hp}{v:V}{xs:List V}(h:tf H v=some xs):∃a,v=.ref a/\H a=some (.tup xs):=by
 cases v with
 | ref a=>
  refine ak a rfl ?_;unfold tf at h;cases e:H a with
  | none=>simp only[e]at h;cases h
  | some o=>
   cases o with
   | tup ys=>simp only[e]at h;cases h;rfl
   | _=>simp only[e]at h;cases h
 | _=>cases h
theorem QZ{H:Hp}{a:Addr}{xs:List V}(h:H a=some (.tup xs)):tf H (.ref a)=some xs:=by
 unfold tf;simp only[h]
theorem Dd{H:Hp}{a:Addr}{xs:List V}(h:H a=some (.tup xs)):tyName H (.ref a)=some "tuple":=by
 unfold tyName;simp only[h]
theorem Tn{H:Hp}{v:V}{T:String}(h:tyName H v=some T):rD T "tuple" = (tf H v).isSome:=by
 cases v with
 | aD=>cases h;rfl
 | bl b=>cases h;rfl
 | int i=>cases h;rfl
 | str x=>cases h;rfl
 | ref a=>
  unfold tyName at h;unfold tf;cases e:H a with
  | none=>simp only[e]at h;cases h
  | some o=>
   cases o with
   | lst xs=>simp only[e]at h ⊢;cases h;rfl
   | tup xs=>simp only[e]at h ⊢;cases h;rfl
   | _=>simp only[e]at h;cases h
 | _=>cases h
theorem D5{H:Hp}{v:V}{T:String}(h:tyName H v=some T):rD T "str" = true↔∃x,v=.str x:=by
 cases v with
 | str x=>cases h;exact⟨λ_=>⟨x,rfl⟩,λ_=>rfl⟩
 | aD=>cases h;exact⟨λz=>(by cases z),λ⟨_,z⟩=>(by cases z)⟩
 | bl b=>cases h;exact⟨λz=>(by cases z),λ⟨_,z⟩=>(by cases z)⟩
 | int i=>cases h;exact⟨λz=>(by cases z),λ⟨_,z⟩=>(by cases z)⟩
 | ref a=>
  refine⟨λz=>?_,λ⟨_,z⟩=>by cases z⟩;unfold tyName at h;cases e:H a with
  | none=>simp only[e]at h;cases h
  | some o=>
   cases o with
   | lst xs=>simp only[e]at h;cases h;cases z
   | tup xs=>simp only[e]at h;cases h;cases z
   | _=>simp only[e]at h;cases h
 | _=>cases h
theorem aE{H H':Hp}{p:Addr}{o:HO}(s:af H H')(h:H' p=none):af H (upd H' p o):=λb u e=>by
 rw[ar (b8 (s b u e) h)];exact s b u e
structure Bl(mg:Str->Option Value):Prop where
 jF:mg "isinstance" = none
 int:mg "int" = none
 bool:mg "bool" = none
 str:mg "str" = none
 tuple:mg "tuple" = none
 len:mg "len" = none
 all:mg "all" = none
 zip:mg "zip" = none
structure Cn(mg:Str->Option Value):Prop where
 top:∃u,mg "TOP" = some u/\RelV (.int fQ) u
 names:∃u,mg "NAMES" = some u/\RelV (.int 12) u
 eR:∃u,mg "REGISTERS" = some u/\RelV (.int 4) u
 long:∃u,mg "LONGEST" = some u/\RelV (.int 120) u
section
variable{P:Program}{w:World}{K:W.Frag}{mg:Str->Option Value}{base:Heap}
def Ja:Sp:=λvs H Q _=>∃v T,vs=[v]/\tyName H v=some T/\Q (.bl (qC v)) H
theorem af':bc ["thing"] ["thing"] (aO A6):=bz
theorem Rl{f:Addr}{fd:aV}(F:aW K "is_whole" "is_whole" A6 f fd)(B:Bl mg):ay P w K mg base az 1 f fd ["thing"] Ja:=by
 refine F.ok af' (λvs H Q E h=>?_) λaI A outer s H vs Q E hr h=>?_
 ·refine bf h λv T aa _=>?_;clear h;subst aa;rfl
 ·refine cF h λv T aa ht k=>?_;clear h;subst aa;refine⟨_,aB (a7 (Ba (cj jT rfl B.jF jw (ae (pv 0) (ae (pq (v:=.ty "int") rfl B.int boot_int rfl) ai))) (yS (JY (cj jT rfl B.jF jw (ae (pv 0) (ae (pq (v:=.ty "bool") rfl B.bool boot_bool rfl) ai))))))),?_⟩;have e:=Tz ht;refine ak v rfl (dA _ _ _ _ (hG _ rfl (pM ht) rfl (pJ ht qc) (ak _ rfl (LO (λh1=>?_) λh1=>?_))))
  ·refine ak v rfl (dA _ _ _ _ (hG _ rfl (pM ht) rfl (pJ ht qc) (ak _ rfl ?_)));rw[h1,Ao]at e;rw[e];exact k
  ·rw[h1,Al]at e;rw[e];exact k
def Q9:Sp:=λvs H Q _=>∃x,vs=[.str x]/\(da x=none->Q .aD H)/\∀bs,da x=some bs->∀p,H p=none->Q (.ref p) (upd H p (.lst (bs.map V.int)))
theorem aea:bc ["word"] ["word"] (aO AU):=bz
theorem str_inj{x y:Str}(h:V.str x=V.str y):x=y:=by injection h
theorem ada{f:Addr}{fd:aV}(F:aW K "bounds_of" "bounds_of" AU f fd)(C:Cn mg):ay P w K mg base az 1 f fd ["word"] Q9:=by
 refine F.ok aea (λvs H Q E h=>?_) λaI A outer s H vs Q E hr h=>?_
 ·refine ag h λv aa _=>?_;clear h;subst aa;rfl
 ·refine aJ h λx aa k0 k1=>?_;clear h;subst aa;refine ag C.top λuT mT rT=>?_;refine ag C.names λuN mN rN=>?_;refine ag C.eR λuR mR rR=>?_;refine ag C.long λuL mL rL=>?_;refine⟨_,aA (bZ (bq dm (pv 0) cA (br _)) (aB (a7 (eh (ae (gF rfl mR rR) (ae (gF rfl mT rT) ai))))) cu) (aA (bZ (bq dm (pv 0) cA (br _)) (aB (a7 (eh (ae (gF rfl mR rR) (ae (gF rfl mR rR) ai))))) cu) (aA (bZ (bq dm (pv 0) cA (br _)) (aB (a7 (eh (ae (gF rfl mN rN) (ae (gF rfl mR rR) ai))))) cu) (aA (bZ (PW.pt (pw_or (bq dm (pv 0) cA (br _)) (pw_or1 (bq dm (pv 0) cA (br _))))) (aB (a7 (eh (ae (gF rfl mR rR) (ae (gF rfl mN rN) ai))))) cu) (aA (bZ (bq dm (pv 0) cA (br _)) (aB (a7 (eh ai))) cu) (aA (bZ (bq dm (pv 0) cA (br _)) (aB (a7 (eh (ae (gF rfl mR rR) (ae (a6 jV (gF rfl mL rL) aj) ai))))) cu) (aB (a7 m9))))))),?_⟩;refine vr rfl ⟨rfl,⟨_,rfl,bG (λe=>?_) λn1=>?_⟩⟩
  ·cases str_inj e;exact⟨qc,λp hp=>k1 [4,fQ] (by unfold da;rw[if_pos rfl]) p hp⟩
  refine ak _ rfl ⟨rfl,⟨_,rfl,bG (λe=>?_) λn2=>?_⟩⟩
  ·cases str_inj e;exact⟨qc,λp hp=>k1 [4,4] (by unfold da;rw[if_neg dk,if_pos rfl]) p hp⟩
  refine ak _ rfl ⟨rfl,⟨_,rfl,bG (λe=>?_) λn3=>?_⟩⟩
  ·cases str_inj e;exact⟨qc,λp hp=>k1 [12,4] (by unfold da;rw[if_neg dk,if_neg dk,if_pos rfl]) p hp⟩
  refine ak _ rfl ⟨rfl,⟨_,rfl,bG (λe=>?_) λn4=>?_⟩⟩
  ·cases str_inj e;exact iZ ⟨qc,λp hp=>k1 [4,12] (by unfold da;rw[if_neg dk,if_neg dk,if_neg dk,if_pos rfl]) p hp⟩
  refine vr rfl ⟨rfl,⟨_,rfl,bG (λe=>?_) λn5=>?_⟩⟩
  ·cases str_inj e;exact⟨qc,λp hp=>k1 [4,12] (by unfold da;rw[if_neg dk,if_neg dk,if_neg dk,if_neg dk,if_pos rfl]) p hp⟩
  refine ak _ rfl ⟨rfl,⟨_,rfl,bG (λe=>?_) λn6=>?_⟩⟩
  ·cases str_inj e;exact⟨qc,λp hp=>k1 [] (by unfold da;rw[if_neg dk,if_neg dk,if_neg dk,if_neg dk,if_neg dk,if_pos rfl]) p hp⟩
  refine ak _ rfl ⟨rfl,⟨_,rfl,bG (λe=>?_) λn7=>?_⟩⟩
  ·cases str_inj e;exact⟨_,⟨_,rfl,rfl,qc,λp hp=>k1 [4,121] (by unfold da;rw[if_neg dk,if_neg dk,if_neg dk,if_neg dk,if_neg dk,if_neg dk,if_pos rfl]) p hp⟩⟩
  refine k0 ?_;have nn:∀{y:Str},¬V.str x=V.str y->¬x=y:=λh e=>h (by rw[e]);unfold da;rw[if_neg (nn n1),if_neg (nn n2),if_neg (nn n3),if_neg (nn n4),if_neg (nn n5),if_neg (nn n6),if_neg (nn n7)]
def Q5:Sp:=λvs H Q _=>∃v T,vs=[v]/\tyName H v=some T/\(∀xs,tf H v=some xs->xs.length<=1000/\∀x∈xs,∃T,tyName H x=some T)/\∀H',af H H'->Q (.bl (yX H v)) H'
theorem Rc:bc ["told","bounds"] ["told"] (aO DK):=bz
theorem LH(y:V)(ps:List V):HT.cb (y::ps).length 0 (some 1)=1:=by
 simp only[HT.cb,jv]
 first | omega | (simp;done) | (split <;> omega)
theorem U9(y:V)(ps:List V):jC (y::ps) (some 1) none=ps:=by
 unfold jC;rw[LH];show List.take (HT.cb (y::ps).length (y::ps).length none-1) ps=ps;exact jK (by simp[HT.cb])
theorem Qa{x:Str}{bs:List Int}(h:da x=some bs):bs.length<=2:=by
 unfold da at h
 repeat (first | (split at h;(cases h;decide)) | (cases h;done))
theorem Uo:(["part","bound"]:List Str).Nodup:=dk
theorem ac'{f fW fB:Addr}{fd mj oM:aV}(F:aW K "is_step" "is_step" DK f fd)(B:Bl mg)(C:Cn mg)
  (FW:aW K "is_whole" "is_whole" A6 fW mj) (bW:Binds K mj ["thing"] []) (mW:mg "is_whole" = some (.ref fW)) (FB:aW K "bounds_of" "bounds_of" AU fB oM) (bB:Binds K oM ["word"] []) (mB:mg "bounds_of" = some (.ref fB)) :
  ay P w K mg base az 2 f fd ["told"] Q5:=by
 have GW:ay P w K mg base az 1 fW mj ["thing"] Ja:=Rl FW B;have GB:ay P w K mg base az 1 fB oM ["word"] Q9:=ada FB C;refine F.ok Rc (λvs H Q E h=>?_) λaI A outer s H vs Q E hr h=>?_
 ·refine bf h λv T aa _=>?_;clear h;subst aa;rfl
 ·refine jW h λv T aa ht hx k=>?_;clear h;subst aa
  refine⟨_,aA (bZ (PW.pt (pw_or (m8 (iJ (cj jT rfl B.jF jw (ae (pv 0) (ae (pq (v:=.ty "tuple") rfl B.tuple ur rfl) ai))))) (pw_or (bq dm (cj fv rfl B.len PySem.boot_len (ae (pv 0) ai)) aj (br _)) (pw_or1 (m8 (iJ (cj jT rfl B.jF jw (ae (ax a8 (pv 0) aj) (ae (pq (v:=.ty "str") rfl B.str boot_str rfl) ai))))))))) (aB (a7 kQ)) cu) (aA (cy (i:=1) Rc.nd rfl (aQ rfl) (dg GB hr rfl mB FB.kp bB .nil aS (ae (ax a8 (pv 0) aj) ai))) (aA (bZ (PW.pt (pw_or (bq Ti (pv 1) m9 (br _)) (pw_or1 (bq Bj (cj fv rfl B.len PySem.boot_len (ae (pv 0) ai)) (a6 jV (cj fv rfl B.len PySem.boot_len (ae (pv 1) ai)) aj) (br _))))) (aB (a7 kQ)) cu) (aB (a7 (cj (AN rfl) rfl B.all DF (ae (ji (N:=["part","bound"]) (idx:=[]) rfl (eC.of (by kernel_rfl)) (Dg (bU _) (bU _))
    (aif (b1:=false) (b2:=true) rfl B.zip (ae (yA JH (pv 0) (yH aj) yI) (ae (pv 1) ai)))
    (λ_ _ _ _=>sU rfl (jS (cW (i:=0) Uo rfl (aQ rfl) (.inr rfl)) (jS (cW (i:=1) Uo rfl (aQ rfl) (.inr rfl)) sP)))
    (λ_ _ _ _=>iX)
    λ_ _ _ _=>Ba (dg GW hr rfl mW FW.kp bW .nil aS (ae (pv 0) ai)) (yS (aei KQ y' aj (pv 0) (pv 1)))) ai)))))),?_⟩
  cases hv:tf H v with
  | none=>
   have hi:rD T "tuple" = false:=by rw[Tn ht,hv];rfl
   have cD:yX H v=false:=by unfold yX;rw[hv]
   have kk:=k H (af.refl H);rw[cD]at kk;refine ak v rfl (dA _ _ _ _ (hG _ rfl (pM ht) rfl (pJ ht qc) (ak _ rfl ?_)));rw[hi];exact iZ (iZ kk)
  | some xs=>
   refine ag (acQ hv) λa e0 ha=>?_;subst e0;refine oA (hx xs hv) λhl my=>?_;have hi:rD T "tuple" = true:=by rw[Tn ht,hv];rfl
   have kk:∀H',af H H'->Q (.bl (stepOk xs)) H':=λH' s=>by
    have q:=k H' s;unfold yX at q;rw[hv]at q;exact q
   refine vr rfl (dA _ _ _ _ (hG _ rfl (pM ht) rfl (pJ ht qc) (ak _ rfl ?_)));rw[hi];refine eY ?_;cases xs with
   | nil=>
    refine vr rfl (eL a ([]) rfl (.inr (aF.of ha)) ⟨rfl,⟨_,rfl,bG (λe=>?_) λn0=>absurd rfl n0⟩⟩);exact iZ (kk H (af.refl H))
   | cons y ps=>
    refine vr rfl (eL a (y::ps) rfl (.inr (aF.of ha)) ⟨rfl,⟨_,rfl,bG (λe=>?_) λn0=>?_⟩⟩)
    ·injection e with e
     exact absurd e (by simp only[jv];omega)
    refine oE (my y fX) λTy hy=>?_;refine cG (v:=y) (j:=0) rfl ha rfl (dA _ _ _ _ (hG _ rfl (pM hy) rfl (pJ hy qc) (ak _ rfl ?_)));refine Bo (λh1=>?_) λh1=>?_
    ·have e:stepOk (y::ps)=false:=by
      cases y with
      | str x=>exact absurd ((D5 hy).mpr ⟨x,rfl⟩) (by rw[h1];exact dG)
      | _=>rfl
     have q:=kk H (af.refl H);rw[e]at q;exact q
    refine oE ((D5 hy).mp h1) λx0 e0=>?_;subst e0;refine cG (v:=.str x0) (j:=0) rfl ha rfl (cO x0 rfl (λhb=>?_) λbs hb p hp=>?_)
    ·refine ak _ rfl ⟨rfl,⟨_,rfl,bG (λ_=>?_) λn=>absurd rfl n⟩⟩
     have e:stepOk (.str x0::ps)=false:=by
      show (match da x0 with | none=>false | some bs=>decide (ps.length=bs.length)&&(ps.zip bs).all λp=>oJ p.1 p.2)=false;rw[hb]
     have q:=kk H (af.refl H);rw[e]at q;exact iZ q
    have s1:af H (upd H p (.lst (bs.map V.int))):=aE (af.refl H) hp;have Xv:=s1 _ _ ha
    have eS:stepOk (.str x0::ps)=(decide (ps.length=bs.length)&&(ps.zip bs).all λp=>oJ p.1 p.2):=by
     show (match da x0 with | none=>false | some bs=>decide (ps.length=bs.length)&&(ps.zip bs).all λp=>oJ p.1 p.2)=_;rw[hb]
    rw[eS]at kk;refine ak _ rfl ⟨rfl,⟨_,rfl,bG (λz=>by cases z) λ_=>?_⟩⟩;refine vr rfl ⟨a,⟨_,rfl,.inr (aF.of Xv),_,rfl,p,_,rfl,.inl (aq.of aw),_,_,rfl,rfl,rfl,_,rfl,uU (λne=>?_) λeq=>?_⟩⟩
    ·have e:decide (ps.length=bs.length)=false:=decide_eq_false λz=>ne (by rw[jv,aN,z];rfl);rw[e,Al]at kk;exact kk _ s1
    have hlen:ps.length=bs.length:=by
     injection eq with eq
     rw[jv,aN]at eq;omega
    rw[decide_eq_true hlen,Ao]at kk;refine ak _ rfl (ak 1 rfl ⟨a,⟨_,rfl,aF.of Xv,?_,λq hq=>?_⟩⟩)
    ·intro z;have z1:=z.1;rw[LH]at z1;cases z1
    rw[U9];have s2:af H (upd (upd H p (.lst (bs.map V.int))) q (.tup ps)):=aE s1 hq;have iy:p≠q:=b8 aw hq;have qI:upd (upd H p (.lst (bs.map V.int))) q (.tup ps) p=some (.lst (bs.map V.int)):=by rw[ar iy];exact aw
    refine vr rfl (⟨q,p,ps,(bs.map V.int),rfl,(aF.of aw),(aq.of qI),?_⟩);generalize hH3:upd (upd H p (.lst (bs.map V.int))) q (.tup ps)=H3 at s2 qI;have tV:H3 q=some (.tup ps):=by rw[<-hH3];exact aw
    refine ig (n:=bs.length) (λi ys H'=>i<=bs.length/\af H3 H'/\ys=((ps.zip bs).take i).map λz=>V.bl (oJ z.1 z.2)) ?_ ?_ ?_ ?_ ?_ ?_ ?_
    ·have dY:=Qa hb;exact cQ (cY w4)
    ·exact cV (bU _) (af.refl _) rfl
    ·rintro i ys H' ⟨_,_,e⟩;rw[e,aN,gU];exact xl
    ·rintro i ys H' hi ⟨_,s3,_⟩;exact⟨ps,(bs.map V.int),(ps[i]'wg),(V.int bs[i]),(aF.of (s3 _ _ tV)),(aq.of (s3 _ _ qI)),(by simp[hlen,hi]),(by simp[hi])⟩
    ·rintro ys H' ⟨_,s3,_⟩;exact eL ps (bs.map V.int) (aF.of (s3 _ _ tV)) (aq.of (s3 _ _ qI)) (.inr (by rw[aN];exact aH _))
    ·rintro i ys H' hi ⟨_,s3,e⟩ v gj ⟨r,x,y,ie,ev,eH,hxy⟩;refine oA (hxy ps (bs.map V.int) (aF.of (s3 _ _ tV)) (aq.of (s3 _ _ qI))) λjG tT=>?_;subst ev;subst eH
     have xV:y=V.int bs[i]:=by
      rw[gC,aT hi]at tT;exact(gn tT).symm
     subst xV;have s4:af H3 (upd H' r (.tup [x,V.int bs[i]])):=aE s3 ie;refine oE (my x (eV _ (bb jG))) λTx NV=>?_;have Mx:=Pk (s2.trans s4) NV
     have zi:(ps.zip bs)[i]?=some (x,bs[i]):=by
      rw[YC];exact⟨jG,aT hi⟩
     have fin:∀c,c=oJ x bs[i]->i+1<=bs.length/\af H3 (upd H' r (.tup [x,V.int bs[i]]))/\ys++[V.bl c]=((ps.zip bs).take (i+1)).map λz=>V.bl (oJ z.1 z.2):=λc hc=>by
      refine cV hi s4 ?_;rw[ku,zi,iH,<-e,hc];rfl
     refine qk r ([x,V.int bs[i]]) rfl (aF.of aw) rfl (eT x ([V.int bs[i]]) rfl (eL (V.int bs[i]) ([]) rfl rfl ?_));dsimp only[jl];rw[if_pos rfl];refine vr rfl (eL x Tx rfl Mx (ak _ rfl ?_));cases x with
     | int j=>
      refine iZ (ak _ rfl (eT 0 j rfl ⟨rfl,⟨_,rfl,bG (λh0=>?_) λh0=>?_⟩⟩))
      ·refine vr rfl (eL j (bs[i]) rfl rfl ?_);exact fin _ (by show _=(decide (0<=j)&&decide (j<bs[i]));rw[decide_eq_true h0,Ao])
      ·exact fin _ (by show _=(decide (0<=j)&&decide (j<bs[i]));rw[decide_eq_false h0,Al])
     | _=>exact eY (fin _ rfl)
    ·rintro ys H' ⟨_,s3,e⟩;refine⟨?_,λr ie=>?_⟩
     ·rw[e,aN,gU];have dY:=Qa hb;have:=cY (n:=bs.length) w4;omega
     have ey:ys=(((ps.zip bs).map λz=>oJ z.1 z.2)).map V.bl:=by
      rw[e,jK (by rw[List.length_zip];omega),sI];rfl
     refine eL r ((ps.zip bs).map λz=>oJ z.1 z.2) rfl (aq.of (by rw[aw,ey])) ?_;rw[Ap];exact kk _ (aE (s2.trans s3) ie)
def uK(K:W.Frag):Sp:=λvs H Q _=>∃x C dx fs a xs,vs=[.ref x,.ref a]/\H x=some (.ins C dx fs)/\eU K C/\cq K C "parts"/\fs.length<900/\H a=some (.tup xs)/\Q .aD (upd H x (.ins C dx (aL "parts" (.ref a) fs)))
theorem ah8:bc ["self","told"] ["self","told"] (aO Eg):=bz
theorem wq{f:Addr}{fd:aV}(F:aW K "__init__" "Step.__init__" Eg f fd)(B:mg "tuple" = none):ay P w K mg base az 1 f fd ["self","told"] (uK K):=by
 refine F.ok ah8 (λvs H Q E h=>?_) λaI A outer s H vs Q E hr h=>?_
 ·refine lX h λx C dx fs a xs aa _=>?_;subst aa;rfl
 ·obtain⟨x,C,dx,fs,a,xs,aa,hx,cl,nP,hl,ha,k⟩:=h;subst aa;refine nC (aB (gH (pv 0) (qX Am rfl B ur (ae (pv 1) ai)) rfl)) ?_;exact vr rfl (eT a xs rfl (.inr ⟨aF.of ha,_,rfl,x,C,dx,fs,rfl,hx,cl,nP,wa,k⟩))
theorem zg(f:Str)(u:V):(aL f u []).length<1000:=by
 have h1:=jN f u [];have h3:([]:List (Str×V)).length=0:=rfl;exact wb
theorem zf(f g:Str)(u v:V):(aL f u (aL g v [])).length<1000:=by
 have h1:=jN f u (aL g v []);have h2:=jN g v [];have h3:([]:List (Str×V)).length=0:=rfl;exact xi
structure wM(K:W.Frag)(mg:Str->Option Value)(cS fI:Addr)(gh:aV):Prop where
 fn:aW K "__init__" "Step.__init__" Eg fI gh
 bi:Binds K gh ["self","told"] []
 cf:Lk K cS "__init__" fI
 at_:mg "Step" = some (.ref cS)
 tup:mg "tuple" = none
def pN(C:Addr)(f1 f2:Str):Sp:=λvs H Q _=>∃x dx a xs v1 v2,vs=[.ref x,.ref a]/\H x=some (.ins C dx [])/\H a=some (.tup xs)/\xs[1]?=some v1/\xs[2]?=some v2/\
 Q .aD (upd H x (.ins C dx (aL f2 v2 (aL f1 v1 (aL "parts" (.ref a) [])))))
theorem ah6:bc ["self","told"] ["self","told"] (aO Ef):=bz
theorem agD{f fI cS C:Addr}{fd gh:aV}(F:aW K "__init__" "Put.__init__" Ef f fd)(I:wM K mg cS fI gh)(cl:eU K C)(nP:cq K C "parts")(n1:cq K C "reg")(n2:cq K C "number") :
  ay P w K mg base az 2 f fd ["self","told"] (pN C "reg" "number"):=by
 have GI:ay P w K mg base az 1 fI gh ["self","told"] (uK K):=wq I.fn I.tup;refine F.ok ah6 (λvs H Q E h=>?_) λaI A outer s H vs Q E hr h=>?_
 ·refine lX h λx dx a xs v1 v2 aa _=>?_;subst aa;rfl
 ·refine vU h λx dx a xs v1 v2 aa hx ha e1 e2 k=>?_;subst aa;refine⟨_,aA (cZ (yq I.cf GI hr rfl I.at_ I.bi .nil aS (ae (pv 0) (ae (pv 1) ai)))) (aA (gH (pv 0) (ax a8 (pv 1) aj) rfl) (aB (gH (pv 0) (ax a8 (pv 1) aj) rfl))),?_⟩;have iC:a≠x:=iK ha hx (by intro z;cases z);refine vr rfl (vr rfl ⟨x,⟨C,dx,[],a,xs,rfl,hx,cl,nP,qc,ha,?_⟩⟩);refine vT (v:=v1) rfl (aF.of (by rw[ar iC];exact ha)) (cR (j:=1) e1) ⟨_,rfl,x,C,dx,_,rfl,aw,cl,n1,zg _ _,?_⟩;refine vT (v:=v2) rfl (aF.of (by rw[ar iC,ar iC];exact ha)) (cR (j:=2) e2) ⟨_,rfl,x,C,dx,_,rfl,aw,cl,n2,zf _ _ _ _,?_⟩;rw[oh,oh];exact k
theorem aia:bc ["self","told"] ["self","told"] (aO Eh):=bz
theorem agN{f fI cS C:Addr}{fd gh:aV}(F:aW K "__init__" "Add.__init__" Eh f fd)(I:wM K mg cS fI gh)(cl:eU K C)(nP:cq K C "parts")(n1:cq K C "reg")(n2:cq K C "other") :
  ay P w K mg base az 2 f fd ["self","told"] (pN C "reg" "other"):=by
 have GI:ay P w K mg base az 1 fI gh ["self","told"] (uK K):=wq I.fn I.tup;refine F.ok aia (λvs H Q E h=>?_) λaI A outer s H vs Q E hr h=>?_
 ·refine lX h λx dx a xs v1 v2 aa _=>?_;subst aa;rfl
 ·refine vU h λx dx a xs v1 v2 aa hx ha e1 e2 k=>?_;subst aa;refine⟨_,aA (cZ (yq I.cf GI hr rfl I.at_ I.bi .nil aS (ae (pv 0) (ae (pv 1) ai)))) (aA (gH (pv 0) (ax a8 (pv 1) aj) rfl) (aB (gH (pv 0) (ax a8 (pv 1) aj) rfl))),?_⟩;have iC:a≠x:=iK ha hx (by intro z;cases z);refine vr rfl (vr rfl ⟨x,⟨C,dx,[],a,xs,rfl,hx,cl,nP,qc,ha,?_⟩⟩);refine vT (v:=v1) rfl (aF.of (by rw[ar iC];exact ha)) (cR (j:=1) e1) ⟨_,rfl,x,C,dx,_,rfl,aw,cl,n1,zg _ _,?_⟩;refine vT (v:=v2) rfl (aF.of (by rw[ar iC,ar iC];exact ha)) (cR (j:=2) e2) ⟨_,rfl,x,C,dx,_,rfl,aw,cl,n2,zf _ _ _ _,?_⟩;rw[oh,oh];exact k
theorem ah5:bc ["self","told"] ["self","told"] (aO Ee):=bz
theorem agB{f fI cS C:Addr}{fd gh:aV}(F:aW K "__init__" "Set.__init__" Ee f fd)(I:wM K mg cS fI gh)(cl:eU K C)(nP:cq K C "parts")(n1:cq K C "name")(n2:cq K C "reg") :
  ay P w K mg base az 2 f fd ["self","told"] (pN C "name" "reg"):=by
 have GI:ay P w K mg base az 1 fI gh ["self","told"] (uK K):=wq I.fn I.tup;refine F.ok ah5 (λvs H Q E h=>?_) λaI A outer s H vs Q E hr h=>?_
 ·refine lX h λx dx a xs v1 v2 aa _=>?_;subst aa;rfl
 ·refine vU h λx dx a xs v1 v2 aa hx ha e1 e2 k=>?_;subst aa;refine⟨_,aA (cZ (yq I.cf GI hr rfl I.at_ I.bi .nil aS (ae (pv 0) (ae (pv 1) ai)))) (aA (gH (pv 0) (ax a8 (pv 1) aj) rfl) (aB (gH (pv 0) (ax a8 (pv 1) aj) rfl))),?_⟩;have iC:a≠x:=iK ha hx (by intro z;cases z);refine vr rfl (vr rfl ⟨x,⟨C,dx,[],a,xs,rfl,hx,cl,nP,qc,ha,?_⟩⟩);refine vT (v:=v1) rfl (aF.of (by rw[ar iC];exact ha)) (cR (j:=1) e1) ⟨_,rfl,x,C,dx,_,rfl,aw,cl,n1,zg _ _,?_⟩;refine vT (v:=v2) rfl (aF.of (by rw[ar iC,ar iC];exact ha)) (cR (j:=2) e2) ⟨_,rfl,x,C,dx,_,rfl,aw,cl,n2,zf _ _ _ _,?_⟩;rw[oh,oh];exact k
theorem agf:bc ["self","told"] ["self","told"] (aO DX):=bz
theorem aev{f fI cS C:Addr}{fd gh:aV}(F:aW K "__init__" "Look.__init__" DX f fd)(I:wM K mg cS fI gh)(cl:eU K C)(nP:cq K C "parts")(n1:cq K C "reg")(n2:cq K C "name") :
  ay P w K mg base az 2 f fd ["self","told"] (pN C "reg" "name"):=by
 have GI:ay P w K mg base az 1 fI gh ["self","told"] (uK K):=wq I.fn I.tup;refine F.ok agf (λvs H Q E h=>?_) λaI A outer s H vs Q E hr h=>?_
 ·refine lX h λx dx a xs v1 v2 aa _=>?_;subst aa;rfl
 ·refine vU h λx dx a xs v1 v2 aa hx ha e1 e2 k=>?_;subst aa;refine⟨_,aA (cZ (yq I.cf GI hr rfl I.at_ I.bi .nil aS (ae (pv 0) (ae (pv 1) ai)))) (aA (gH (pv 0) (ax a8 (pv 1) aj) rfl) (aB (gH (pv 0) (ax a8 (pv 1) aj) rfl))),?_⟩;have iC:a≠x:=iK ha hx (by intro z;cases z);refine vr rfl (vr rfl ⟨x,⟨C,dx,[],a,xs,rfl,hx,cl,nP,qc,ha,?_⟩⟩);refine vT (v:=v1) rfl (aF.of (by rw[ar iC];exact ha)) (cR (j:=1) e1) ⟨_,rfl,x,C,dx,_,rfl,aw,cl,n1,zg _ _,?_⟩;refine vT (v:=v2) rfl (aF.of (by rw[ar iC,ar iC];exact ha)) (cR (j:=2) e2) ⟨_,rfl,x,C,dx,_,rfl,aw,cl,n2,zf _ _ _ _,?_⟩;rw[oh,oh];exact k
theorem agc:bc ["self","told"] ["self","told"] (aO DV):=bz
theorem aeq{f fI cS C:Addr}{fd gh:aV}(F:aW K "__init__" "Swap.__init__" DV f fd)(I:wM K mg cS fI gh)(cl:eU K C)(nP:cq K C "parts")(n1:cq K C "reg")(n2:cq K C "name") :
  ay P w K mg base az 2 f fd ["self","told"] (pN C "reg" "name"):=by
 have GI:ay P w K mg base az 1 fI gh ["self","told"] (uK K):=wq I.fn I.tup;refine F.ok agc (λvs H Q E h=>?_) λaI A outer s H vs Q E hr h=>?_
 ·refine lX h λx dx a xs v1 v2 aa _=>?_;subst aa;rfl
 ·refine vU h λx dx a xs v1 v2 aa hx ha e1 e2 k=>?_;subst aa;refine⟨_,aA (cZ (yq I.cf GI hr rfl I.at_ I.bi .nil aS (ae (pv 0) (ae (pv 1) ai)))) (aA (gH (pv 0) (ax a8 (pv 1) aj) rfl) (aB (gH (pv 0) (ax a8 (pv 1) aj) rfl))),?_⟩;have iC:a≠x:=iK ha hx (by intro z;cases z);refine vr rfl (vr rfl ⟨x,⟨C,dx,[],a,xs,rfl,hx,cl,nP,qc,ha,?_⟩⟩);refine vT (v:=v1) rfl (aF.of (by rw[ar iC];exact ha)) (cR (j:=1) e1) ⟨_,rfl,x,C,dx,_,rfl,aw,cl,n1,zg _ _,?_⟩;refine vT (v:=v2) rfl (aF.of (by rw[ar iC,ar iC];exact ha)) (cR (j:=2) e2) ⟨_,rfl,x,C,dx,_,rfl,aw,cl,n2,zf _ _ _ _,?_⟩;rw[oh,oh];exact k
theorem agd:bc ["self","told"] ["self","told"] (aO DW):=bz
theorem aes{f fI cS C:Addr}{fd gh:aV}(F:aW K "__init__" "Skip.__init__" DW f fd)(I:wM K mg cS fI gh)(cl:eU K C)(nP:cq K C "parts")(n1:cq K C "reg")(n2:cq K C "place") :
  ay P w K mg base az 2 f fd ["self","told"] (pN C "reg" "place"):=by
 have GI:ay P w K mg base az 1 fI gh ["self","told"] (uK K):=wq I.fn I.tup;refine F.ok agd (λvs H Q E h=>?_) λaI A outer s H vs Q E hr h=>?_
 ·refine lX h λx dx a xs v1 v2 aa _=>?_;subst aa;rfl
 ·refine vU h λx dx a xs v1 v2 aa hx ha e1 e2 k=>?_;subst aa;refine⟨_,aA (cZ (yq I.cf GI hr rfl I.at_ I.bi .nil aS (ae (pv 0) (ae (pv 1) ai)))) (aA (gH (pv 0) (ax a8 (pv 1) aj) rfl) (aB (gH (pv 0) (ax a8 (pv 1) aj) rfl))),?_⟩;have iC:a≠x:=iK ha hx (by intro z;cases z);refine vr rfl (vr rfl ⟨x,⟨C,dx,[],a,xs,rfl,hx,cl,nP,qc,ha,?_⟩⟩);refine vT (v:=v1) rfl (aF.of (by rw[ar iC];exact ha)) (cR (j:=1) e1) ⟨_,rfl,x,C,dx,_,rfl,aw,cl,n1,zg _ _,?_⟩;refine vT (v:=v2) rfl (aF.of (by rw[ar iC,ar iC];exact ha)) (cR (j:=2) e2) ⟨_,rfl,x,C,dx,_,rfl,aw,cl,n2,zf _ _ _ _,?_⟩;rw[oh,oh];exact k
structure bg where
 (fW fB fS fO fI LV LW LU Lb K' La akU ma mf kY lC lB sZ j':Addr)
 (mj oM oK tL gh El Em Ek D8 D6 D7:aV)
structure s9(K:W.Frag)(mg:Str->Option Value)(t:bg):Prop where
 bl:Bl mg
 cn:Cn mg
 MR:aW K "is_whole" "is_whole" A6 t.fW t.mj
 bW:Binds K t.mj ["thing"] []
 mW:mg "is_whole" = some (.ref t.fW)
 fnB:aW K "bounds_of" "bounds_of" AU t.fB t.oM
 bB:Binds K t.oM ["word"] []
 mB:mg "bounds_of" = some (.ref t.fB)
 V0:aW K "is_step" "is_step" DK t.fS t.oK
 bS:Binds K t.oK ["told"] []
 mS:mg "is_step" = some (.ref t.fS)
 MS:aW K "step_of" "step_of" Jh t.fO t.tL
 bO:Binds K t.tL ["told"] []
 mO:mg "step_of" = some (.ref t.fO)
 init:wM K mg t.akU t.fI t.gh
 AZ:eU K t.sZ
 agT:cq K t.sZ "parts"
 agW:Mk K t.sZ t.fI
 agX:mg "Clear" = some (.ref t.sZ)
 wI:eU K t.ma
 aks:cq K t.ma "parts"
 Ut:cq K t.ma "reg"
 Ur:cq K t.ma "number"
 akv:Mk K t.ma t.LV
 Uv:mg "Put" = some (.ref t.ma)
 akN:aW K "__init__" "Put.__init__" Ef t.LV t.El
 akY:Binds K t.El ["self","told"] []
 uX:eU K t.mf
 akt:cq K t.mf "parts"
 KU:cq K t.mf "reg"
 Us:cq K t.mf "other"
 mkAdd:Mk K t.mf t.LW
 Uw:mg "Add" = some (.ref t.mf)
 akO:aW K "__init__" "Add.__init__" Eh t.LW t.Em
 akZ:Binds K t.Em ["self","told"] []
 tm:eU K t.kY
 akr:cq K t.kY "parts"
 Ej:cq K t.kY "name"
 Uq:cq K t.kY "reg"
 mkSet:Mk K t.kY t.LU
 Uu:mg "Set" = some (.ref t.kY)
 akM:aW K "__init__" "Set.__init__" Ee t.LU t.Ek
 akX:Binds K t.Ek ["self","told"] []
 sY:eU K t.lC
 aiy:cq K t.lC "parts"
 Tq:cq K t.lC "reg"
 D2:cq K t.lC "name"
 aiB:Mk K t.lC t.Lb
 Ts:mg "Look" = some (.ref t.lC)
 aiV:aW K "__init__" "Look.__init__" DX t.Lb t.D8
 ajf:Binds K t.D8 ["self","told"] []
 rj:eU K t.lB
 aiw:cq K t.lB "parts"
 J3:cq K t.lB "reg"
 D1:cq K t.lB "name"
 aiz:Mk K t.lB t.K'
 Tr:mg "Swap" = some (.ref t.lB)
 aiS:aW K "__init__" "Swap.__init__" DV t.K' t.D6
 ajd:Binds K t.D6 ["self","told"] []
 uP:eU K t.j'
 aix:cq K t.j' "parts"
 Tp:cq K t.j' "reg"
 J1:cq K t.j' "place"
 aiA:Mk K t.j' t.La
 J5:mg "Skip" = some (.ref t.j')
 aiU:aW K "__init__" "Skip.__init__" DW t.La t.D7
 aje:Binds K t.D7 ["self","told"] []
def dq(t:bg)(x:Str):Addr:=if x = "put" then t.ma else if x = "add" then t.mf else if x = "set" then t.kY else if x = "look" then t.lC else if x = "swap" then t.lB else if x = "clear" then t.sZ else t.j'
def eQ(v:V)(x:Str)(ps:List V):List (Str×V):=
 if x = "put" then aL "number" (ps.getD 1 .aD) (aL "reg" (ps.getD 0 .aD) (aL "parts" v []))
 else if x = "add" then aL "other" (ps.getD 1 .aD) (aL "reg" (ps.getD 0 .aD) (aL "parts" v []))
 else if x = "set" then aL "reg" (ps.getD 1 .aD) (aL "name" (ps.getD 0 .aD) (aL "parts" v []))
 else if x = "look" then aL "name" (ps.getD 1 .aD) (aL "reg" (ps.getD 0 .aD) (aL "parts" v []))
 else if x = "swap" then aL "name" (ps.getD 1 .aD) (aL "reg" (ps.getD 0 .aD) (aL "parts" v []))
 else if x = "clear" then aL "parts" v []
 else aL "place" (ps.getD 1 .aD) (aL "reg" (ps.getD 0 .aD) (aL "parts" v []))
theorem ag2{α:Type}{l:List α}(h:l.length=2):∃a b,l=[a,b]:=by
 cases l with
 | nil=>cases h
 | cons a t=>
  refine oE (YS.mp (show t.length=1 from Nat.succ.inj h)) λb e=>?_;exact qD a b (by rw[e])
theorem yO{x:Str}{ps:List V}(h:stepOk (.str x::ps)=true){b c:Int}{bs:List Int}(hb:da x=some bs)(hl:bs=[b,c]:=by rfl):∃v1 v2,ps=[v1,v2]:=by
 subst hl;have h':(match da x with | none=>false | some bs=>decide (ps.length=bs.length)&&(ps.zip bs).all λp=>oJ p.1 p.2)=true:=h;rw[hb]at h';simp only[jc,decide_eq_true_eq]at h';exact ag2 h'.1
theorem adn{x:Str}{ps:List V}(h:stepOk (.str x::ps)=true)(n1:¬x = "put")(n2:¬x = "add")(n3:¬x = "set")(n4:¬x = "look")(n5:¬x = "swap")(n6:¬x = "clear"):x = "skip":=by
 apply YD;intro n7
 have e:da x=none:=by
  unfold da;rw[if_neg n1,if_neg n2,if_neg n3,if_neg n4,if_neg n5,if_neg n6,if_neg n7]
 have h':(match da x with | none=>false | some bs=>decide (ps.length=bs.length)&&(ps.zip bs).all λp=>oJ p.1 p.2)=true:=h;rw[e]at h';cases h'
def Im(t:bg):Sp:=λvs H Q _=>∃a x ps,vs=[.ref a]/\H a=some (.tup (.str x::ps))/\stepOk (.str x::ps)=true/\(ps.length<=900/\∀y∈ps,∃T,tyName H y=some T)/\
 ∀z dx H',af H H'->H z=none->H' z=some (.ins (dq t x) dx (eQ (.ref a) x ps))->Q (.ref z) H'
theorem Rb:bc ["told","word"] ["told"] (aO Jh):=bz
theorem Qy{t:bg}(T:s9 K mg t):ay P w K mg base az 4 t.fO t.tL ["told"] (Im t):=by
 have GS:ay P w K mg base az 2 t.fS t.oK ["told"] Q5:=ac' T.V0 T.bl T.cn T.MR T.bW T.mW T.fnB T.bB T.mB;have GI:ay P w K mg base az 1 t.fI t.gh ["self","told"] (uK K):=wq T.init.fn T.init.tup;have an9:ay P w K mg base az 2 t.LV t.El ["self","told"] (pN t.ma "reg" "number"):=agD T.akN T.init T.wI T.aks T.Ut T.Ur;have aoo:ay P w K mg base az 2 t.LW t.Em ["self","told"] (pN t.mf "reg" "other"):=agN T.akO T.init T.uX T.akt T.KU T.Us;have an8:ay P w K mg base az 2 t.LU t.Ek ["self","told"] (pN t.kY "name" "reg"):=agB T.akM T.init T.tm T.akr T.Ej T.Uq;have alN:ay P w K mg base az 2 t.Lb t.D8 ["self","told"] (pN t.lC "reg" "name"):=aev T.aiV T.init T.sY T.aiy T.Tq T.D2;have alL:ay P w K mg base az 2 t.K' t.D6 ["self","told"] (pN t.lB "reg" "name"):=aeq T.aiS T.init T.rj T.aiw T.J3 T.D1;have alM:ay P w K mg base az 2 t.La t.D7 ["self","told"] (pN t.j' "reg" "place"):=aes T.aiU T.init T.uP T.aix T.Tp T.J1;refine T.MS.ok Rb (λvs H Q E h=>?_) λaI A outer s H vs Q E hr h=>?_
 ·refine gJ h λa x ps aa _=>?_;clear h;subst aa;rfl
 ·refine ng h λa x0 ps aa ha aX=>?_;clear h;subst aa;refine iP aX λhk aa k=>?_;refine oA aa λhl my=>?_;have nn:∀{y:Str},¬V.str x0=V.str y->¬x0=y:=λh e=>h (by rw[e])
  refine⟨_,(aA (bZ (m8 (iJ (dg GS (hr.mono qc) rfl T.mS T.V0.kp T.bS .nil aS (ae (pv 0) ai)))) yw cu)
   (aA (cy (i:=1) Rb.nd rfl (aQ rfl) (ax a8 (pv 0) aj)) (aA (bZ (bq dm (pv 1) cA (br _)) (aB (a7 (q8 T.akv an9 hr rfl T.Uv T.akY .nil aS (ae (pv 0) ai)))) cu) (aA (bZ (bq dm (pv 1) cA (br _)) (aB (a7 (q8 T.mkAdd aoo hr rfl T.Uw T.akZ .nil aS (ae (pv 0) ai)))) cu) (aA (bZ (bq dm (pv 1) cA (br _)) (aB (a7 (q8 T.mkSet an8 hr rfl T.Uu T.akX .nil aS (ae (pv 0) ai)))) cu) (aA (bZ (bq dm (pv 1) cA (br _)) (aB (a7 (q8 T.aiB alN hr rfl T.Ts T.ajf .nil aS (ae (pv 0) ai)))) cu) (aA (bZ (bq dm (pv 1) cA (br _)) (aB (a7 (q8 T.aiz alL hr rfl T.Tr T.ajd .nil aS (ae (pv 0) ai)))) cu) (aA (bZ (bq dm (pv 1) cA (br _)) (aB (a7 (q8 T.agW GI (hr.mono qc) rfl T.agX T.init.bi .nil aS (ae (pv 0) ai)))) cu)
   (aB (a7 (q8 T.aiA alM hr rfl T.J5 T.aje .nil aS (ae (pv 0) ai)))))))))))),?_⟩
  refine vr rfl ⟨_,⟨_,rfl,Dd ha,(λxs hv=>?_),λH1 hS=>?_⟩⟩
  ·rw[QZ ha]at hv;cases hv;refine⟨by simp only[jv];exact wb,λy hy=>?_⟩;rcases cx.mp hy with e | hy
   ·subst e;exact⟨_,rfl⟩
   ·exact my y hy
  have cD:yX H (.ref a)=true:=by unfold yX;rw[QZ ha];exact hk
  rw[cD];refine ak _ rfl (eY ?_);refine cG (v:=.str x0) (j:=0) rfl ((hS _ _ ha)) rfl ?_;refine ak _ rfl ⟨rfl,⟨_,rfl,bG (λe=>?_) λn1=>?_⟩⟩
  ·cases str_inj e;obtain⟨v1,v2,oU⟩:=yO hk (bs:=[4,fQ]) (by unfold da;rw[if_pos rfl]);subst oU;refine vr rfl λx dx nx gA zE=>⟨x,dx,a,[.str "put",v1,v2],v1,v2,rfl,aw,?_,rfl,rfl,rfl,?_⟩
   ·rw[ar (b8 (hS _ _ ha) nx),ar (b8 (hS _ _ ha) gA)];exact hS _ _ ha
   ·refine k x dx _ (λb o q=>?_) (hS.free nx) (by rw[aw];rfl);rw[ar (b8 (hS b o q) nx),ar (b8 (hS b o q) nx),ar (b8 (hS b o q) gA)];exact hS b o q
  refine ak _ rfl ⟨rfl,⟨_,rfl,bG (λe=>?_) λn2=>?_⟩⟩
  ·cases str_inj e;obtain⟨v1,v2,oU⟩:=yO hk (bs:=[4,4]) (by unfold da;rw[if_neg dk,if_pos rfl]);subst oU;refine vr rfl λx dx nx gA zE=>⟨x,dx,a,[.str "add",v1,v2],v1,v2,rfl,aw,?_,rfl,rfl,rfl,?_⟩
   ·rw[ar (b8 (hS _ _ ha) nx),ar (b8 (hS _ _ ha) gA)];exact hS _ _ ha
   ·refine k x dx _ (λb o q=>?_) (hS.free nx) (by rw[aw];rfl);rw[ar (b8 (hS b o q) nx),ar (b8 (hS b o q) nx),ar (b8 (hS b o q) gA)];exact hS b o q
  refine ak _ rfl ⟨rfl,⟨_,rfl,bG (λe=>?_) λn3=>?_⟩⟩
  ·cases str_inj e;obtain⟨v1,v2,oU⟩:=yO hk (bs:=[12,4]) (by unfold da;rw[if_neg dk,if_neg dk,if_pos rfl]);subst oU;refine vr rfl λx dx nx gA zE=>⟨x,dx,a,[.str "set",v1,v2],v1,v2,rfl,aw,?_,rfl,rfl,rfl,?_⟩
   ·rw[ar (b8 (hS _ _ ha) nx),ar (b8 (hS _ _ ha) gA)];exact hS _ _ ha
   ·refine k x dx _ (λb o q=>?_) (hS.free nx) (by rw[aw];rfl);rw[ar (b8 (hS b o q) nx),ar (b8 (hS b o q) nx),ar (b8 (hS b o q) gA)];exact hS b o q
  refine ak _ rfl ⟨rfl,⟨_,rfl,bG (λe=>?_) λn4=>?_⟩⟩
  ·cases str_inj e;obtain⟨v1,v2,oU⟩:=yO hk (bs:=[4,12]) (by unfold da;rw[if_neg dk,if_neg dk,if_neg dk,if_pos rfl]);subst oU;refine vr rfl λx dx nx gA zE=>⟨x,dx,a,[.str "look",v1,v2],v1,v2,rfl,aw,?_,rfl,rfl,rfl,?_⟩
   ·rw[ar (b8 (hS _ _ ha) nx),ar (b8 (hS _ _ ha) gA)];exact hS _ _ ha
   ·refine k x dx _ (λb o q=>?_) (hS.free nx) (by rw[aw];rfl);rw[ar (b8 (hS b o q) nx),ar (b8 (hS b o q) nx),ar (b8 (hS b o q) gA)];exact hS b o q
  refine ak _ rfl ⟨rfl,⟨_,rfl,bG (λe=>?_) λn5=>?_⟩⟩
  ·cases str_inj e;obtain⟨v1,v2,oU⟩:=yO hk (bs:=[4,12]) (by unfold da;rw[if_neg dk,if_neg dk,if_neg dk,if_neg dk,if_pos rfl]);subst oU;refine vr rfl λx dx nx gA zE=>⟨x,dx,a,[.str "swap",v1,v2],v1,v2,rfl,aw,?_,rfl,rfl,rfl,?_⟩
   ·rw[ar (b8 (hS _ _ ha) nx),ar (b8 (hS _ _ ha) gA)];exact hS _ _ ha
   ·refine k x dx _ (λb o q=>?_) (hS.free nx) (by rw[aw];rfl);rw[ar (b8 (hS b o q) nx),ar (b8 (hS b o q) nx),ar (b8 (hS b o q) gA)];exact hS b o q
  refine ak _ rfl ⟨rfl,⟨_,rfl,bG (λe=>?_) λn6=>?_⟩⟩
  ·cases str_inj e;refine vr rfl λx dx nx gA zE=>⟨x,t.sZ,dx,[],a,.str "clear" :: ps,rfl,aw,T.AZ,T.agT,qc,?_,rfl,?_⟩
   ·rw[ar (b8 (hS _ _ ha) nx),ar (b8 (hS _ _ ha) gA)];exact hS _ _ ha
   ·refine k x dx _ (λb o q=>?_) (hS.free nx) (by rw[aw];rfl);rw[ar (b8 (hS b o q) nx),ar (b8 (hS b o q) nx),ar (b8 (hS b o q) gA)];exact hS b o q
  have alA:x0 = "skip":=adn hk (nn n1) (nn n2) (nn n3) (nn n4) (nn n5) (nn n6);subst alA;obtain⟨v1,v2,oU⟩:=yO hk (bs:=[4,121]) (by unfold da;rw[if_neg dk,if_neg dk,if_neg dk,if_neg dk,if_neg dk,if_neg dk,if_pos rfl]);subst oU;refine vr rfl λx dx nx gA zE=>⟨x,dx,a,[.str "skip",v1,v2],v1,v2,rfl,aw,?_,rfl,rfl,rfl,?_⟩
  ·rw[ar (b8 (hS _ _ ha) nx),ar (b8 (hS _ _ ha) gA)];exact hS _ _ ha
  ·refine k x dx _ (λb o q=>?_) (hS.free nx) (by rw[aw];rfl);rw[ar (b8 (hS b o q) nx),ar (b8 (hS b o q) nx),ar (b8 (hS b o q) gA)];exact hS b o q
end
end TL
namespace L2
open PySem PySem.Spec PyProof.Rows
section
variable{X:Cx}
theorem len_K(K:W.Frag)(h:X.K=K:=by rfl):kc X (.builtin "len") (λxs H Q=>∃p ys,xs=[.ref p]/\(aq K H p ys\/aF K H p ys)/\Q (.int ys.length) H):=by subst h;exact fv
theorem Uy(K:W.Frag)(h:X.K=K:=by rfl):BL X (wU K):=by subst h;exact aP
theorem K0(K:W.Frag)(h:X.K=K:=by rfl):BL X (vc K):=by subst h;exact a8
theorem Ue(K:W.Frag)(h:X.K=K:=by rfl):E7 X (UY K):=by subst h;exact JH
theorem akP{e:Expr}{f:Str}{pos:Pos}{ta:TE}(K:W.Frag)(he:PE X e ta)(hb:CW e f X.env (eval e X.env)=eval e X.env)(h:X.K=K:=by rfl):PE X (.Attribute e f pos) (Ly K ta f):=by subst h;exact bo he hb
end
end L2
namespace L2
open PySem
end L2
namespace L2
open PySem PySem.Spec PyProof.Rows L3
def EC(h:Heap)(e:Addr)(cls:Value)(dd:Option Addr)(tb:Value):Prop:=
 ∃oe vs a0,h.get? e=some oe/\oe.cls=cls/\oe.dict=dd/\oe.data=.fields vs/\vs[0]?=some a0/\vs[1]?=some tb/\(cls≠.ref U'->vs[2]?=some .none)
def Va(h:Heap)(e T:Addr)(fl:Value):Prop:=T≠e/\∃oT ts,h.get? T=some oT/\oT.data=.fields ts/\ts[3]?=some fl
def BN(h:Heap)(e:Addr)(cls:Value)(dd:Option Addr)(tb:Option Addr):Prop:=
 EC h e cls dd (tb.elim .none ee)/\∀T,tb=some T->Va h e T .none
def L7(h:Heap)(e:Addr)(cls:Value)(dd:Option Addr)(T:Addr)(fl:Value):Prop:=EC h e cls dd (.ref T)/\Va h e T fl
theorem adJ(o:Obj)(f:Array Value->Array Value):(o.mapFields f).dict=o.dict:=by
 obtain⟨c,d,dt,s⟩:=o;cases dt <;> rfl
section
variable{M:Model}{A:Around}{E:Value->Shared->Prop}{s:Shared}{base:Heap}{env:Env}{outer:List Env}{L e:Addr}{cls:Value}{dd:Option Addr}{Q:Unit->Shared->Prop}
theorem P7{head:Value}{had:Bool}{oe:Obj}{vs:Array Value}{a0:Value}(gQ:A.frames=some (env::outer))(hl:s.heap.FunFrames base (env::outer))(hf:env.frame=some L)(q:s.heap.get? e=some oe)(hc:oe.cls=cls)(vC:oe.dict=dd)
  (hd:oe.data=.fields vs) (h0:vs[0]?=some a0) (eN:1<vs.size) (zQ:cls≠.ref U'->vs[2]?=some .none)
  (k:∀h' T,(∀b o,b∉iQ (env::outer)->b≠e->s.heap.get? b=some o->h'.get? b=some o)->(∀b o,s.heap.get? b=some o->b≠e->∃sl,h'.get? b=some { o with slots:=sl })->s.heap.objs.size<=T->
   L7 h' e cls dd T (rawInt L)->Q () { s with heap:=h' }) :
  wpAny M A (do let a <-frameOf env;let pl <-entryPlaceOf L had;let b <-Y9 head a .none (rawInt L) .none pl;setField (.ref e) 1 b) Q E s:=by
 have iU:e∉iQ (env::outer):=λz=>by
  refine oA (hl.mem z) λ_ aa=>?_;refine ag aa λo ho nf=>?_;rw[q]at ho;cases ho;exact nf vs hd
 refine ah (wpAny_frameOf_fun gQ hl hf λh1 so=>?_);refine ah (wpAny_entryPlaceOf λpl hp=>?_);unfold Y9 newFields;refine ah (pY ?_ (hp.sizeOk5 _ _ _ _ _));have q1:h1.get? e=some oe:=(so.2.1 e iU).trans q;generalize hz:({ cls:=.type "traceback",dict:=none,data:=.fields ([head,.ref L,.none,rawInt L,.none]++(if pl.isEmpty then dH 6 gq else pl)).toArray }:Obj)=ot;have q2:(h1.push ot).get? e=some oe:=bj _ q1;refine qQ q2 hd eN ?_;have nT:h1.objs.size≠e:=qS (cg q1);have d3:=CH hd (·.setIfInBounds 1 (ee h1.objs.size));have e3:=sv (lU (·.setIfInBounds 1 (ee h1.objs.size))) q2 (Ot d3);have fr:ot.isFreed=false:=by rw[<-hz];rfl
 have t3:((h1.push ot).update e (lU (·.setIfInBounds 1 (ee h1.objs.size)))).get? h1.objs.size=some ot:=by
  rw[x8 _ _ (fw nT)];exact eO h1 fr
 have kp:∀b o,b≠e->h1.get? b=some o->((h1.push ot).update e (lU (·.setIfInBounds 1 (ee h1.objs.size)))).get? b=some o:=λb o n z=>by
  rw[x8 _ _ (fw n)];exact bj _ z
 refine k _ h1.objs.size (λb o hb n z=>kp b o n ((so.2.1 b hb).trans z)) (λb o z n=>?_) (nY so.1.symm) (cV ⟨_,_,a0,e3,?_,?_,d3,?_,?_,λz=>by rw[Yp qc];exact zQ z⟩ nT ⟨ot,_,t3,by rw[<-hz],?_⟩)
 ·refine oE (so.2.2 b o z) λsl z1=>?_;exact⟨sl,kp b _ n z1⟩
 ·rw[Zu];exact hc
 ·rw[adJ];exact vC
 ·rw[Yp qc];exact h0
 ·simp[eN]
 ·first | (simp;done) | (rcases hp with rfl | ⟨_,_,_,_,_,_,_,rfl⟩ <;> simp)
theorem QA{tb:Option Addr}(gQ:A.frames=some (env::outer))(hl:s.heap.FunFrames base (env::outer))(hf:env.frame=some L)(x:BN s.heap e cls dd tb)
  (k:∀h' T,(∀b o,b∉iQ (env::outer)->b≠e->tb≠some b->s.heap.get? b=some o->h'.get? b=some o)->(∀b o,s.heap.get? b=some o->b≠e->tb≠some b->∃sl,h'.get? b=some { o with slots:=sl })->s.heap.objs.size<=T->
   L7 h' e cls dd T (rawInt L)->Q () { s with heap:=h' }):wpAny M A (noteFrame (.ref e) env) Q E s:=by
 refine oA x λaa ht=>?_;obtain⟨oe,vs,a0,q,hc,vC,hd,h0,h1,zQ⟩:=aa;have eN:1<vs.size:=(Oh.mp h1).1;unfold noteFrame;simp only[hf];cases tb with
 | none=>
  refine ah (jy q hd h1 ?_);rw[if_neg qc];exact P7 gQ hl hf q hc vC hd h0 eN zQ λh' T a b c d=>k h' T (λx o y z _=>a x o y z) (λx o y z _=>b x o y z) c d
 | some T0=>
  refine oA (ht T0 rfl) λnT aa=>?_;refine cF aa λoT ts qT dT t3=>?_;refine ah (jy q hd h1 ?_);show wpAny M A (if (ee T0 != gq)=true then _ else _) Q E s;rw[if_pos (by simp)];refine ah (jy qT dT t3 ?_);rw[if_neg (show ¬((gq == rawInt L)=true) by simp[rawInt])];refine ah (qQ qT dT (Oh.mp t3).1 ?_);have xx:∀b,b≠T0->(s.heap.update T0 (lU (·.setIfInBounds 3 gq))).get? b=s.heap.get? b:=λb n=>x8 _ _ (fw n);refine P7 (s:={ s with heap:=s.heap.update T0 (lU (·.setIfInBounds 3 gq)) }) gQ (hl.of_keeps λb o z nf=>⟨o,(xx b λw=>?_).trans z,rfl⟩) hf ((xx e (fw nT)).trans q) hc vC hd h0 eN zQ λh' T a b c d=>?_
  ·rw[w,qT]at z;cases z;exact nf ts dT
  ·refine k h' T (λx o y z n w=>a x o y z ((xx x λv=>n (by rw[v])).trans w)) (λx o w z n=>b x o ((xx x λv=>n (by rw[v])).trans w) z) ?_ d;have c':(s.heap.update T0 (lU (·.setIfInBounds 3 gq))).objs.size<=T:=c;rw[Heap.size_after_update]at c';exact c'
theorem C9{T:Addr}{fl:Value}(x:L7 s.heap e cls dd T fl)(k:∀h',(∀b o,b≠T->s.heap.get? b=some o->h'.get? b=some o)->BN h' e cls dd (some T)->Q () { s with heap:=h' }) :
  wpAny M A (setFlight (.ref e) none) Q E s:=by
 refine iP x λaa nT aX=>?_;obtain⟨oe,vs,a0,q,hc,vC,hd,h0,h1,zQ⟩:=aa;refine cF aX λoT ts qT dT t3=>?_;have s3:3<ts.size:=(Oh.mp t3).1;unfold setFlight;refine ah (jy q hd h1 ?_);rw[if_pos (show (ee T != gq)=true by simp)];have xx:∀b,b≠T->(s.heap.update T (lU (·.setIfInBounds 3 ((none:Option Addr).elim gq λf=>rawInt f)))).get? b=s.heap.get? b:=λb n=>x8 _ _ (fw n);refine qQ qT dT s3 (k _ (λb o n z=>(xx b n).trans z) ⟨⟨oe,vs,a0,(xx e (fw nT)).trans q,hc,vC,hd,h0,h1,zQ⟩,λT' z=>?_⟩);cases z;exact⟨nT,⟨_,_,sv _ qT (Ot (CH dT _)),CH dT _,by simp[s3]⟩⟩
end
def km(P:Program)(w:World):nI:=λouter H s E e s'=>∃ea c dd T H',e=.ref ea/\s'.os=s.os/\AllBare s'.gens/\Un (iQ outer) [] H H' s.heap s'.heap/\gz P w H' s'.heap/\BN s'.heap ea c dd (some T)/\
 s.heap.objs.size<=ea/\s.heap.objs.size<=T/\H' ea=none/\H' T=none/\E c dd H'
structure Bf(X:Cx)(pins:List (Addr×Obj))(σ:St)(H:Hp)(s:Shared)(ea:Addr)(c:Value)(dd tb:Option Addr):Prop where
 inv:Inv X pins σ H s
 E2:BN s.heap ea c dd tb
 fe:eM X pins H ea
 ft:∀T,tb=some T->eM X pins H T
abbrev WX:=St->XK
def wL(X:Cx)(W:WX):Prop:=∀(pins:List (Addr×Obj)) (σ:St) (H:Hp) (s:Shared) (ea:Addr) (c:Value) (dd tb:Option Addr),Bf X pins σ H s ea c dd tb->W σ c dd H->X.xe (.ref ea) s
section
variable{X:Cx}{pins:List (Addr×Obj)}{σ:St}{H:Hp}{s:Shared}
theorem QI{h':Heap}{ch:List Addr}(I:Inv X pins σ H s)(hc:∀b∈ch,H b=none)(k:∀b o,b∉iQ X.stack->b∉ch->s.heap.get? b=some o->h'.get? b=some o):gz X.prog X.w H h':=λb u e=>by
 refine(I.aM b u e).qu (λd v hd q=>k d v (λz=>?_) (λz=>?_) q) (λ_ q=>q) λ_ _ q=>q
 ·have n:=I.DH d z;rcases hd with w | w
  ·rw[w,e]at n;cases n
  ·rw[w]at n;cases n
 ·have n:=hc d z;rcases hd with w | w
  ·rw[w,e]at n;cases n
  ·rw[w]at n;cases n
theorem aeN{P:Program}{w:World}{K:PySem.W.Frag}{mg:Str->Option Value}{base:Heap}{N:List Str}{qual:Str}{scope:Scope}{f:Addr}{cd:Value}{A:Around}{outer:List Env}{s0:Shared}{H0:Hp}{E:XK} :
  wL (lE (km P w) P w K mg base N qual scope f cd A outer s0 H0 E) (λ_=>E):=by
 intro pins σ H s ea c dd tb x hE;show wpAny (model P w) (A.deeper (envOfC qual scope s0.heap.objs.size f cd)) (leaving (envOfC qual scope s0.heap.objs.size f cd) (.ref ea)) (λ_ xw=>km P w outer H0 s0 E (.ref ea) xw) (λe' xw=>km P w outer H0 s0 E e' xw) s;have I:=x.inv
 have X0:s0.heap.objs.size<=ea:=by
  rcases x.fe.2.2.2.1 with z | z
  ·exact absurd (show ea∈([]:List Addr) from z) (by simp)
  ·exact z
 have tN:∀T,tb=some T->s0.heap.objs.size<=T:=λT z=>by
  rcases(x.ft T z).2.2.2.1 with y | y
  ·exact absurd (show T∈([]:List Addr) from y) (by simp)
  ·exact y
 unfold leaving;refine ah (QA (base:=base) I.ok.frames I.stack rfl x.E2 λh1 T k1 k2 hT NR=>?_);refine C9 NR λh2 k3 N7=>?_;have xC:∀{b:Addr} {o:Obj},s0.heap.get? b=some o->b<s0.heap.objs.size:=λe=>cg e;have sN:s0.heap.objs.size<=s.heap.objs.size:=I.sz;have Nd:∀{b:Addr},b<s0.heap.objs.size->b≠T:=λh z=>absurd (fu h (cH sN hT)) (by rw[z];exact kv _);have Nf:∀{b:Addr},b<s0.heap.objs.size->b≠ea:=λh z=>absurd (fu h X0) (by rw[z];exact kv _);have Ng:∀{b:Addr},b<s0.heap.objs.size->tb≠some b:=λh z=>absurd (fu h (tN _ z)) (kv _)
 have xB:∀{b:Addr},b<s0.heap.objs.size->b∉iQ outer->b∉iQ (envOfC qual scope s0.heap.objs.size f cd::outer):=λh z y=>by
  rcases I.DU _ y |> cx.mp with u | u
  ·exact absurd h (by rw[u];exact kv _)
  ·exact z u
 have Fp:∀{b:Addr} {o:Obj},s.heap.get? b=some o->b≠T:=λe z=>absurd (fu (cg e) hT) (by rw[z];exact kv _)
 have ana:gz P w H h2:=by
  refine QI (ch:=ea::tb.toList) I (λb hb=>?_) λb o hb hc e=>k3 b o (Fp e) (k1 b o hb (λz=>hc (by rw[z];exact fX)) (λz=>hc (eV _ (by rw[z];simp))) e);rcases cx.mp hb with z | z
  ·rw[z];exact x.fe.1
  ·cases tb with
   | none=>simp at z
   | some T0=>
    have z':b=T0:=by simpa using z
    rw[z'];exact(x.ft T0 rfl).1
 refine⟨ea,c,dd,T,H,rfl,I.os,I.bare,⟨λb o e n hb hx=>?_,λb o e n hb hx=>?_,I.base.free,λb o e hx=>?_,I.base.qt,I.base.pL,I.base.pG⟩,ana,N7,X0,(cH sN hT),x.fe.1,⟨I.aM.fresh hT,hE⟩⟩
 ·have l:=xC e;exact k3 b o (Nd l) (k1 b o (xB l hb) (Nf l) (Ng l) (I.base.keep b o e n hb hx))
 ·have l:=xC e;refine oE (I.base.slot b o e n hb hx) λsl q=>?_;refine oE (k2 b _ q (Nf l) (Ng l)) λFi q'=>?_;exact⟨Fi,k3 b _ (Nd l) q'⟩
 ·have l:=xC e;refine oE (I.base.there b o e hx) λo' q=>?_;refine oE (k2 b _ q (Nf l) (Ng l)) λFi q'=>?_;exact⟨_,k3 b _ (Nd l) q'⟩
theorem acM{E:XK}{e:Value}{s':Shared}(I:Inv X pins σ H s)(h:km X.prog X.w X.stack H s E e s'):∃ea c dd T H',e=.ref ea/\Bf X pins σ H' s' ea c dd (some T)/\E c dd H':=by
 refine uo h λea c dd T H' aa os bare un aM aX=>?_;subst aa;refine nh aX λfl l1 l2 n1 n2 q=>?_;exact⟨ea,c,dd,T,H',rfl,⟨I.Ld os un aM bare λb z=>absurd z (by simp),fl,I.iu l1 n1,λT' z=>by cases z;exact I.iu l2 n2⟩,q⟩
end
section
variable{X:Cx}{k:Nat}{f C:Addr}{fd:aV}{ps:List Str}{sp:Sp}{dvs:List V}{ds:List Value}{W:WX}{x m:Str}{p pos apos:Pos}{e o:Expr}{es:List Expr}{ta:TE}{t:TA}{P:Program}{w:World}
theorem agn{pins:List (Addr×Obj)}{σ:St}{H:Hp}{s:Shared}{Q:VK}{us:List Value}{vs:List V}(F:ay X.prog X.w X.K X.mg X.base (km X.prog X.w) k f fd ps sp)(hr:e8 k X.A)(hb:Binds X.K fd ps ds)(hd:Vals dvs ds)(hx:wL X W)
  (I:Inv X pins σ H s) (r:Vals vs us) (h:sp (vs++dvs) H Q (W σ)):wpAny (model X.prog X.w) X.A (call (.ref f) us) (EP X pins σ Q) X.xe s:=by
 have r2:Vals (vs++dvs) (us++ds):=r.append hd;have hl:(us++ds).length=ps.length:=by rw[<-r2.length];exact F.len _ _ _ _ h
 refine yt (vV (F.run X.A X.stack s H ⟨us,[]⟩ (us++ds) (vs++dvs) Q (W σ) hr I.LX (hb s us I.dX hl) r2 h) λr s' hq=>?_);cases r with
 | error e=>
  obtain⟨ea,c,dd,T,H',aa,x,hE⟩:=acM I hq;subst aa;exact hx _ _ _ _ _ _ _ _ x hE
 | ok fl=>
  cases fl with
  | ret u=>exact I.after hq
  | next=>exact jP hq
  | brk=>exact jP hq
  | cont=>exact jP hq
end
section
variable{P:Program}{w:World}{K:PySem.W.Frag}{mg:Str->Option Value}{base:Heap}
theorem aW.ML{x qual:Str}{st:Stmt}{f:Addr}{fd:aV}{N ps:List Str}{k:Nat}{sp:Sp}(F:aW K x qual st f fd)(S:bc N ps (aO st))(len:∀vs H Q E,sp vs H Q E->vs.length=ps.length)
  (tx:∀(aI:Value) (A:Around) (outer:List Env) (s:Shared) (H:Hp) (vs:List V) (Q:VK) (E:XK),e8 k (A.deeper (envOfC qual (aO st) s.heap.objs.size f aI))->
   wL (lE (km P w) P w K mg base N qual (aO st) f aI A outer s H E) (λ_=>E)->
   jR (model P w) (A.deeper (envOfC qual (aO st) s.heap.objs.size f aI)) (envOfC qual (aO st) s.heap.objs.size f aI) (lE (km P w) P w K mg base N qual (aO st) f aI A outer s H E).xe->sp vs H Q E->
   ∃t,eD (lE (km P w) P w K mg base N qual (aO st) f aI A outer s H E) (gr st) t/\t { nx:=λ_ H'=>Q .aD H',rt:=Q } (start N vs) H):ay P w K mg base (km P w) (k+1) f fd ps sp:=by
 obtain⟨oc,od,kV,doc,pm,an,aI,ct,iB,aa,lk,iD⟩:=F.ex;subst aa;exact uW lk iD S len λA outer s H vs Q E hr pS=>tx aI A outer s H vs Q E hr aeN jR.leaving pS
end
end L2
namespace L2
open PySem PySem.Spec PyProof.Rows L3
open Sem (wp)
def xt(h:Heap)(C:Addr)(oi:Option Value):Prop:=∃nm q N bs bm zu sn sub ab col dd k0 k1 k2 k3 k5 mN,h.get? C=some (excClassObj nm q C N bs bm zu sn sub ab col dd k0 k1 k2 k3 k5 "ValueError.__new__")/\h.Ns N mN/\mN "__init__" = oi/\OwnTail h EA bm
theorem xt.keeps{h h':Heap}{C:Addr}{oi:Option Value}(x:xt h C oi)(k:∀b o,h.get? b=some o->h'.get? b=some o):xt h' C oi:=by
 refine lu x λnm q N bs bm zu sn sub ab col aa=>?_;refine As aa λdd k0 k1 k2 k3 k5 mN hC hN hi T=>?_;exact⟨nm,⟨q,N,bs,bm,zu,sn,sub,ab,col,dd,k0,k1,k2,k3,k5,mN,k _ _ hC,hN.keeps k,hi,T.keeps k⟩⟩
def EB(K:W.Frag)(C:Addr):Prop:=W.excIn K C EA "ValueError.__new__" = true
theorem EB.at{K:W.Frag}{C:Addr}{h:Heap}(x:EB K C)(X:K.In h):xt h C none:=by
 unfold EB W.excIn at x
 split at x
 ·rename_i dd cd sl ho
  split at x
  ·rename_i C' bm k0 k1 k2 k3 n k5 hm hs
   simp only[jc,beq_iff_eq,Bool.not_eq_true']at x;refine oA x λaa zJ=>?_;refine oA aa λaa aM=>?_;refine oA aa λaa ht=>?_;refine oA aa λaa VI=>?_;refine oA aa λe1 e2=>?_;subst e1 e2;obtain⟨nm,bs,mro,ns,qn,hd,sn,sub,ab,col,del⟩:=cd;dsimp only at hm VI aM zJ;subst hm VI
   have hsl:sl=#[k0,k1,k2,k3,some (.builtin "ValueError.__new__"),k5]:=by
    obtain⟨l⟩:=sl;exact congrArg IY hs
   subst hsl;exact⟨nm,⟨qn,ns,bs,bm,hd,sn,sub,ab,col,dd,k0,k1,k2,k3,k5,_,X _ _ ho,.of_isNs (W.isNs_of_in X aM),W.nsMap_none_of_in X aM zJ,W.tail_of_in X ht⟩⟩
  ·cases x
 ·cases x
section
variable{prog:Program}{w:World}{A:Around}{E:Value->Shared->Prop}{h:Heap}{g:Array GenState}{d:Drawn}{t:Nat}{os:OsState}{C:Addr}
abbrev newX(C t:Addr):Obj:={ cls:=.ref C,data:=.fields #[.ref t,.none,.none,.none,.bool false,.none] }
theorem afB{us:List Value}{Q:Fin->Shared->Prop}(x:xt h C none)(hz:us.length<=aZ)
  (hq:∀h' t',(∀b o,h.get? b=some o->h'.get? b=some o)->h'.get? (h.objs.size+1)=some (newX C t')->Q (.done (.ret (.ref (h.objs.size+1)))) ⟨h',g,d,t,os⟩) :
  wpAny (model prog w) A (Builtin.«type.__call__» ⟨.ref C::us,[]⟩) Q E ⟨h,g,d,t,os⟩:=by
 refine lu x λnm q N bs bm zu sn sub ab col aa=>?_;refine As aa λdd k0 k1 k2 k3 k5 mN hC hN hi T=>?_;have Fv:=PySem.F.excBase_ValueError
 repeat (first | (with_reducible refine Ag hC ?_) | (with_reducible refine wpAny_madeBy_exc hC ?_) | wp_step)
 refine codeAny_call_builtin_code (OC _ Fv.quiet) (wpAny_check_new_subU Fv rfl T hC (codeAny_exc_new_subU Fv rfl Fv T hC ?_ hz));show wpAny _ _ _ _ _ _;have kk:∀b o,h.get? b=some o->((h.push { cls:=.type "tuple",data:=.seq us.toArray }).push { cls:=.ref C,data:=.fields #[.ref h.objs.size,.none,.none,.none,.bool false,.none] }).get? b=some o:=λb o z=>bj _ (bj _ z);have c1:=kk _ _ hC;have n1:=hN.keeps kk;have T1:=T.keeps kk;have ge:((h.push { cls:=.type "tuple",data:=.seq us.toArray }).push { cls:=.ref C,data:=.fields #[.ref h.objs.size,.none,.none,.none,.bool false,.none] }).get? (h.objs.size+1)=some { cls:=.ref C,data:=.fields #[.ref h.objs.size,.none,.none,.none,.bool false,.none] }:=by heap_get
 have cc:(ee C::bm).contains (.ref C)=true:=by simp
 unfold yu
 repeat (first | (with_reducible refine Ag ge ?_) | (with_reducible refine wpAny_isSubtype_exc c1 ?_;rw[cc]) | wp_step)
 show wpAny _ _ (HF (.ref C) _) _ _ _;refine wpAny_typeLookup_tail c1 n1 T1 Fv.mroIs Fv.init.lookup ?_;rw[hi];refine nW (ah (Dc (Fv.init.bind _) (ah (yt (codeAny_call_builtin Fv.init.plain Fv.initEntry (wpAny_check_init_subU Fv T1 c1 ge rfl ?_))))))
 wp_walk
 refine hq _ (h.objs.size+2) (λb o z=>?_) ?_
 ·rw[x8 _ _ (qS (CJ (cg z)))];exact bj _ (kk b o z)
 ·rw[sv _ (bj _ ge) rfl];simp only[lS];rfl
theorem afC{us:List Value}{Q:Value->Shared->Prop}(x:xt h C none)(hz:us.length<=aZ)
  (hq:∀h' t',(∀b o,h.get? b=some o->h'.get? b=some o)->h'.get? (h.objs.size+1)=some (newX C t')->Q (.ref (h.objs.size+1)) ⟨h',g,d,t,os⟩) :
  wpAny (model prog w) A (call (.ref C) us) Q E ⟨h,g,d,t,os⟩:=by
 refine lu (id x) λnm q N bs bm zu sn sub ab col aa=>?_;refine AF aa λdd k0 k1 k2 k3 k5 mN hC r=>?_;have f1:=tc_lookup;have f2:=tc_bind (.ref C);have hT:(⟨h,g,d,t,os⟩:Shared).TypeIs (.ref C) "type":=⟨_,hC,rfl⟩;refine yt (ON ?_);show wpAny _ _ (callAny (.ref C) _) _ _ _
 repeat (any_goals (first | assumption | (with_reducible refine Ag hC ?_) | wp_step))
 exact⟨rfl,codeAny_call_builtin_at (OC _ dk) entry_typeCall (wpAny_check_type_call_sub hC (afB x hz λh' t' k q=>hq h' t' k q))⟩
end
section
variable{M:Model}{A:Around}{E:Value->Shared->Prop}{s:Shared}{env:Env}{C:Addr}
theorem ab8{x:Sem Value}{Q:Flow->Shared->Prop}(hh:A.handled=none)
  (k:wpAny M A x (λv s1=>∃e oe vs a0 oi,v=.ref e/\xt s1.heap C oi/\s1.heap.get? e=some oe/\oe.cls=.ref C/\oe.data=.fields vs/\vs[0]?=some a0/\vs[1]?=some .none/\E (.ref e) s1) E s) :
  wpAny M A (raiseStmt env (some x) none) Q E s:=by
 unfold raiseStmt;refine ah (jg k (λv s1 z=>?_) λ_ _ y=>y);refine uo z λe oe vs a0 oi aa aX he hc hd tR=>?_;subst aa;refine lu aX λnm q N bs bm zu sn sub ab col aa=>?_;refine As aa λdd k0 k1 k2 k3 k5 mN hC hN hi T=>?_;refine iP tR λh0 h1 hE=>?_;have cB:(ee C::bm).contains (.type "BaseException")=true:=by rw[List.contains_cons,T.hasType (show EA.contains (.type "BaseException")=true from rfl),Bool.or_true]
 obtain⟨oc,od,oda,iB⟩:=oe;dsimp only at hc hd;subst hc hd;obtain⟨hp,g,d,tk,os⟩:=s1
 repeat (first | (with_reducible refine Ag he ?_) | (with_reducible refine Ag hC ?_) | (with_reducible refine wpAny_isSubtype_exc hC ?_;rw[cB]) | wp_step)
 rw[h1];refine aG ?_;rw[if_neg qc];exact aG (wpAny_raiseNew_none hh hE)
end
end L2
namespace L2
open PySem PySem.Spec PyProof.Rows L3
structure XC(K:PySem.W.Frag)(C:Addr):Prop where
 exc:EB K C
 kp:PySem.W.keepIn K (.ref C)=true
def ahY(C:Addr)(W:WX)(t:TA):TS:=λ_ σ H=>t σ H λvs H1=>vs.length<=aZ/\W σ (.ref C) none H1
section
variable{X:Cx}{W:WX}{C:Addr}{x:Str}{np oH pos:Pos}{e:Expr}{es:List Expr}{t:TA}
theorem ID(hc:X.calm=true)(hL:wL X W)(xc:XC X.K C)(hg:Gl X x)(hm:X.mg x=some (.ref C))(ha:PA X (e::es) t)(mI:(x == ("__debug__" : Str))=false:=by decide)
  (he:cJ (e::es) X.env=(false,eval e X.env)::cJ es X.env:=by rfl) (dE:(backTo oH (cJ es X.env)).any (·.1)=false:=by rfl) :
  PS X (.Raise (some (.Call (.Name x np) (e::es) [] oH)) none pos) (ahY C W t):=by
 intro pins s σ H D I h;rw[arm_exec_Raise];refine ah (CU (ab8 (C:=C) (I.ok.hd hc) (ah (jg ?_ (λv s3 z=>ah (CU (aG z))) λ_ _ y=>y))));refine Ae (wt I hg hm ?_ mI);refine PySem.W.callWith_K (h₀:=X.base) I.ok.mod.vm xc.kp (aU (ha oH pins s σ H _ I h) λus s1 ⟨vs,H1,I1,r,hz,q⟩=>⟨I1.dX,?_⟩) he dE;have xa:=xc.exc.at I1.dX;obtain⟨h1,g1,d1,t1,os1⟩:=s1;refine afC xa (by rw[G7,<-r.length];exact hz) λh' t' k ge=>?_;have I2:=I1.kept (t':=t1) k;refine dA _ _ _ _ (HU _ rfl (xa.keeps k) ge rfl rfl rfl rfl (hL _ _ _ _ _ _ _ (tb:=none) ⟨I2,⟨⟨_,_,_,ge,rfl,rfl,rfl,rfl,rfl,λ_=>rfl⟩,λT z=>by cases z⟩,I1.iu (lx _) (I1.aM.fresh (lx _)),λT z=>by cases z⟩ q))
end
section
variable{M:Model}{A:Around}{E:Value->Shared->Prop}{s:Shared}
theorem PQ{K:PySem.W.Frag}{ea:Addr}{c cv tb:Value}{dd:Option Addr}{b:Bool}{Q:Bool->Shared->Prop}(X:K.In s.heap)(he:EC s.heap ea c dd tb)(hb:PySem.W.kitCls K c cv=some b)(hx:PySem.W.kitCls K cv (.type "BaseException")=some true)
  (hq:Q b s):wpAny M A (excMatches (.ref ea) cv) Q E s:=by
 refine iP (PySem.W.kit_cls (M:=M) X hb) λl1 l2 l3=>?_;refine iP (PySem.W.kit_cls (M:=M) X hx) λ_ _ m3=>?_;refine ng he λoe vs a0 q hc _=>?_;have nt:=tc_notTuple;unfold excMatches yu;refine ah (ah (l1.at ?_));rw[nt];refine aG ?_;rw[if_neg dG];refine ah (aG ?_);simp only[CP,List.forIn_nil];unfold isExcClass;refine ah (ah (ah (ah (l2.at ?_))));rw[if_pos rfl];refine m3.at ?_;simp only[O1,pX,if_false];refine aG (aG ?_);obtain⟨hp,g,d,tk,os⟩:=s;unfold typeOf;refine ah (ah ?_);refine Ag q (aG ?_);rw[hc];refine ah (ah (ah (l3.at ?_)));cases b with
 | true=>exact aG (aG (aG hq))
 | false=>exact aG (aG (aG hq))
end
abbrev Cx.body(X:Cx)(pn:List (Addr×Obj))(E:Value->Shared->Prop):Cx:={ X with pn:=pn,xe:=E }
abbrev Cx.jY(X:Cx)(ea:Addr)(pn:List (Addr×Obj)):Cx:={ X with A:=X.A.mark (some (.ref ea)),calm:=false,pn:=pn,xe:=λ_ _=>False }
section
variable{X:Cx}{pins pl:List (Addr×Obj)}{σ:St}{H:Hp}{s:Shared}{ea:Addr}{E:Value->Shared->Prop}
theorem agz(ok:X.Ok)(pn:List (Addr×Obj))(E:Value->Shared->Prop):(X.body pn E).Ok:=
 ⟨ok.mod,ok.kind,ok.glob,ok.blt,ok.above,ok.inj,ok.has,ok.vp,ok.hd,ok.frames,ok.xj,ok.tM,ok.bs,ok.ml,ok.vd,ok.tF,ok.l8,ok.rV⟩
theorem ac9{pn:List (Addr×Obj)}(ok:(X.body pn E).Ok):X.Ok:=
 ⟨ok.mod,ok.kind,ok.glob,ok.blt,ok.above,ok.inj,ok.has,ok.vp,ok.hd,ok.frames,ok.xj,ok.tM,ok.bs,ok.ml,ok.vd,ok.tF,ok.l8,ok.rV⟩
theorem ael(ok:X.Ok)(ea:Addr)(pn:List (Addr×Obj)):(X.jY ea pn).Ok:=
 ⟨ok.mod,ok.kind,ok.glob,ok.blt,ok.above,ok.inj,ok.has,ok.vp,λz=>(by cases z),ok.frames,ok.xj,ok.tM,ok.bs,ok.ml,ok.vd,ok.tF,ok.l8,ok.rV⟩
theorem Inv.body(I:Inv X pins σ H s)(E:Value->Shared->Prop):Inv (X.body (X.pn++pins) E) [] σ H s:=
 ⟨agz I.ok _ E,I.os,I.bare,I.base,I.loc,I.cell,I.free,I.jZ,λp hp=>I.pin p (by simpa using hp),I.aM,I.len⟩
theorem Inv.sS(I:Inv (X.body (X.pn++pins) E) pl σ H s):Inv X pins σ H s:=
 ⟨ac9 I.ok,I.os,I.bare,I.base,I.loc,I.cell,I.free,I.jZ,λp hp=>I.pin p (ph _ hp),I.aM,I.len⟩
theorem Inv.jY(I:Inv X pins σ H s)(ea:Addr):Inv (X.jY ea (X.pn++pins)) [] σ H s:=
 ⟨ael I.ok ea _,I.os,I.bare,I.base,I.loc,I.cell,I.free,I.jZ,λp hp=>I.pin p (by simpa using hp),I.aM,I.len⟩
theorem Inv.uE(ok:X.Ok)(I:Inv (X.jY ea (X.pn++pins)) pl σ H s):Inv X pins σ H s:=
 ⟨ok,I.os,I.bare,I.base,I.loc,I.cell,I.free,I.jZ,λp hp=>I.pin p (ph _ hp),I.aM,I.len⟩
theorem eM.body{b:Addr}(f:eM (X.body (X.pn++pins) E) pl H b):eM X pins H b:=
 ⟨f.1,f.2.1,f.2.2.1,f.2.2.2.1,f.2.2.2.2.1,λp hp=>f.2.2.2.2.2 p (ph _ hp)⟩
theorem SP.sS{D:Ends}{f:Flow}(h:SP (X.body (X.pn++pins) E) pl D f s):SP X pins D f s:=by
 cases f with
 | next=>obtain⟨σ',H',I,q⟩:=h;exact⟨σ',H',I.sS,q⟩
 | brk=>obtain⟨σ',H',I,q⟩:=h;exact⟨σ',H',I.sS,q⟩
 | cont=>obtain⟨σ',H',I,q⟩:=h;exact⟨σ',H',I.sS,q⟩
 | ret u=>obtain⟨v,σ',H',I,r,q⟩:=h;exact⟨v,σ',H',I.sS,r,q⟩
theorem QE{c:Value}{dd tb:Option Addr}{Q:Unit->Shared->Prop}{E':Value->Shared->Prop}(hs:X.stack=X.env::X.outer)(hf:X.env.frame=some X.env.locals)(x:Bf X pins σ H s ea c dd tb)
  (k:∀h' T,Inv X pins σ H { s with heap:=h' }->BN h' ea c dd (some T)->eM X pins H ea->eM X pins H T->Q () { s with heap:=h' }) :
  wpAny (model X.prog X.w) X.A (noteFrame (.ref ea) X.env) (λ_ s2=>wpAny (model X.prog X.w) X.A (setFlight (.ref ea) none) Q E' s2) E' s:=by
 have I:=x.inv;have st:=I.stack;have fr:=I.ok.frames;rw[hs]at st fr;refine QA (base:=X.base) fr st hf x.E2 λh1 T k1 k2 hT NR=>?_;refine C9 NR λh2 k3 N7=>?_;have Fp:∀{b:Addr} {o:Obj},s.heap.get? b=some o->b≠T:=λe z=>absurd (fu (cg e) hT) (by rw[z];exact kv _)
 have lM:∀b∈ea::tb.toList,eM X pins H b:=λb hb=>by
  rcases cx.mp hb with z | z
  ·rw[z];exact x.fe
  ·cases tb with
   | none=>simp at z
   | some T0=>
    have z':b=T0:=by simpa using z
    rw[z'];exact x.ft T0 rfl
 have n1:∀{b:Addr},b∉ea::tb.toList->b≠ea:=λh z=>h (by rw[z];exact fX);have n2:∀{b:Addr},b∉ea::tb.toList->tb≠some b:=λh z=>h (eV _ (by rw[z];simp));have kk:∀b o,b∉iQ X.stack->b∉ea::tb.toList->s.heap.get? b=some o->h2.get? b=some o:=λb o hb hc e=>k3 b o (Fp e) (k1 b o (by rw[<-hs];exact hb) (n1 hc) (n2 hc) e)
 have ks:∀b o,b∉ea::tb.toList->s.heap.get? b=some o->∃sl,h2.get? b=some { o with slots:=sl }:=λb o hc e=>by
  refine oE (k2 b o e (n1 hc) (n2 hc)) λsl q=>?_;exact⟨sl,k3 b _ (Fp e) q⟩
 have I2:Inv X pins σ H { s with heap:=h2 }:=I.call (g':=s.gens) (d':=s.drawn) (t':=s.toks) (ch:=ea::tb.toList)
  ⟨λb o e n hb hx=>kk b o hb hx e,λb o e n hb hx=>ks b o hx e,λ_ _ _ n _=>n,λb o e hx=>let ⟨sl,q⟩:=ks b o hx e;⟨_,q⟩,λ_ _ e=>e,λ_ _ _ e=>e,λb ps e=>⟨#[],by rw[e];simp⟩⟩
  (QI I (λb hb=>(lM b hb).1) kk) I.bare λb hb=>⟨(lM b hb).2.2.2.1,(lM b hb).2.1,(lM b hb).2.2.2.2.1,(lM b hb).2.2.2.2.2⟩
 exact k h2 T I2 N7 x.fe (I.iu hT (I.aM.fresh hT))
end
def BE(ea:Addr)(c:Value)(dd:Option Addr):HO:=.ext λh=>∃o vs,h.get? ea=some o/\o.cls=c/\o.dict=dd/\o.data=.fields vs
theorem ai3{P:Program}{w:World}{H:Hp}{h:Heap}{ea:Addr}{c tb:Value}{dd:Option Addr}(x:EC h ea c dd tb):h7 P w H h ea (BE ea c dd):=by
 refine AL x λoe vs a0 q hc vC hd _=>?_;exact cV ⟨oe,vs,q,hc,vC,hd⟩ ⟨oe,q⟩ λh1 h2 ⟨o,vs,e,r⟩ k=>⟨o,vs,k o e,r⟩
section
variable{X:Cx}{pins:List (Addr×Obj)}{σ:St}{H:Hp}{s:Shared}
theorem DP{M:Model}{A:Around}{E:Value->Shared->Prop}{i:Nat}{n:Str}{pos:Pos}{Q:Unit->Shared->Prop}(I:Inv X pins σ H s)(hN:X.N.Nodup)(hi:X.N[i]?=some n)(hl:X.env.scope.names.lookup n=some .local)
  (k:∀s',Inv X pins (σ.set i none) H s'->Q () s'):wpAny M A (do bindName X.env n .none;unbindBehindTheSuite X.env n pos) Q E s:=by
 refine ag (id I.loc) λm hn vz=>?_;have Mu:(X.env.scope.kind == .class||(X.env.scope.kind == .module&&X.env.locals != X.env.globals))=false:=by rw[I.ok.kind];rfl
 have FV:i < σ.length:=by rw[I.len];exact(eK.mp hi).1
 refine wpAny_nameGoes_keeps hl hn Mu λh' v xQ hs=>k _ ?_;have xC:∀{b:Addr} {o:Obj},X.s₀.heap.get? b=some o->b≠X.env.locals:=λe=>dZ (fu (cg e) I.ok.above);refine⟨I.ok,I.os,I.bare,⟨λb o e n hb hx=>(hs.2 b (xC e)).trans (I.base.keep b o e n hb hx),λb o e n hb hx=>let ⟨sl,q⟩:=I.base.slot b o e n hb hx;⟨sl,(hs.2 b (xC e)).trans q⟩,I.base.free,λb o e hx=>let ⟨o',q⟩:=I.base.there b o e hx;⟨o',(hs.2 b (xC e)).trans q⟩,I.base.qt,I.base.pL,I.base.pG⟩,⟨_,xQ,λj y v' e1 e2 e3=>?_⟩,λy c e=>let ⟨u,z⟩:=I.cell y c e;⟨u,z.sameBut hs (I.tP y c e)⟩,I.free,I.jZ,λp hp=>let ⟨e,n,ne,r⟩:=I.pin p hp;⟨(hs.2 p.1 ne).trans e,n,ne,r⟩,λb u e=>?_,by simpa using I.len⟩
 ·by_cases hj:j=i
  ·subst hj;rw[jL FV]at e2;cases e2
  ·rw[Aa (fw hj)]at e2;refine ag (vz j y v' e1 e2 e3) λu r q=>?_;refine ak u r ?_;rcases q with ⟨kd,e⟩ | ⟨kd,c,e,z⟩
   ·refine .inl ⟨kd,?_⟩;have ny:y≠n:=λz=>hj (IF hN e1 (z ▸ hi));show (if y=n then v else m y)=some u;rw[if_neg ny];exact e
   ·exact .inr ⟨kd,⟨c,e,z.sameBut hs (I.tP y c e)⟩⟩
 ·refine(I.aM b u e).qu (λd w hd q=>(hs.2 d λz=>?_).trans q) (λ_ q=>q) λ_ _ q=>q;have fr:=I.free;rw[<-z]at fr;rcases hd with y | y
  ·rw[y,e]at fr;cases fr
  ·rw[y]at fr;cases fr
end
def ahX(K:PySem.W.Frag)(cv:Value)(i:Nat)(tb:WX->TS)(ts:TS):TS:=λD σ H=>tb (λσ' c dd H'=>PySem.W.kitCls K c cv=some true/\
 ∀ea,H' ea=none->ts ⟨λσ2 H2=>D.nx (σ2.set i none) H2,D.rt,λσ2 H2=>D.bk (σ2.set i none) H2,λσ2 H2=>D.ct (σ2.set i none) H2⟩ (σ'.set i (some (.ref ea))) (upd H' ea (BE ea c dd))) D σ H
def ajX(K:PySem.W.Frag)(cv:Value)(tb:WX->TS)(ts:TS):TS:=λD σ H=>tb (λσ' c dd H'=>PySem.W.kitCls K c cv=some true/\ts D σ' H') D σ H
section
variable{X:Cx}{body:List Stmt}{b0:Stmt}{jY:List Stmt}{x n:Str}{np Mn pos:Pos}{tb:WX->TS}{ts:TS}{cv:Value}{i:Nat}
theorem aee(hs:X.stack=X.env::X.outer)(hf:X.env.frame=some X.env.locals)(hx:X.ex=[])(hN:X.N.Nodup)(hi:X.N[i]?=some n)(hl:X.env.scope.names.lookup n=some .local)
  (hg:Gl X x) (hm:X.mg x=some cv) (F2:PySem.W.kitCls X.K cv (.type "BaseException")=some true)
  (hb:∀(W:WX) (pn:List (Addr×Obj)) (E:Value->Shared->Prop),wL (X.body pn E) W->jR (model X.prog X.w) X.A X.env E->eD (X.body pn E) body (tb W))
  (Ny:∀(ea:Addr) (pn:List (Addr×Obj)),eD (X.jY ea pn) (b0::jY) ts) (mI:(x == ("__debug__" : Str))=false:=by decide) :
  PS X (.Try body [.ExceptHandler (some (.Name x np)) (some n) (b0::jY) Mn] [] [] pos) (ahX X.K cv i tb ts):=by
 intro pins s σ H D I h;have ok:=I.ok;refine wpAny_Try_except (jg (hb _ (X.pn++pins) _ ?_ Zt [] s σ H D (I.body _) h) (λf s1 q=>?_) λ_ _ y=>y)
 ·-- the exception
  intro pl σ1 H1 s1 ea c dd M0 x1 hW;refine oA hW λhk hW=>?_;have x2:Bf X pins σ1 H1 s1 ea c dd M0:=⟨x1.inv.sS,x1.E2,x1.fe.body,λT z=>(x1.ft T z).body⟩;refine QE hs hf x2 λh' T I2 fl fe fT=>?_;have I3:=I2.jY ea;refine wpAny_handleBy_cons (YV (wt (X:=X.jY ea (X.pn++pins)) I3 hg hm ?_ mI)) (by intro z;cases z);refine PQ I3.dX fl.1 hk F2 (codeAny_handlers_suite_as ?_);refine C9 (T:=T) (fl:=.none) ⟨fl.1,fl.2 T rfl⟩ λh3 k3 XM=>?_;have I4:Inv X pins σ1 H1 { s1 with heap:=h3 }:=Inv.turned (s:={ s1 with heap:=h' }) (h':=h3) (t':=s1.toks) (it:=T) I2 (λb o hb e=>k3 b o hb e) fT.1 fT.2.1 fT.2.2.2.1 fT.2.2.2.2.1 fT.2.2.2.2.2
  have ya:X.s₀.heap.objs.size<=ea:=by
   rcases fe.2.2.2.1 with z | z
   ·rw[hx]at z;exact absurd z (by simp)
   ·exact z
  have I5:=Inv.adopt (o:=BE ea c dd) I4 fe.1 ya fe.2.1 fe.2.2.2.2.1 fe.2.2.2.2.2 (ai3 XM.1);have I6:=I5.jY ea;refine Ik (X:=X.jY ea (X.pn++pins)) (v:=.ref ea) I6 hN hi (.inl hl) rfl (λs4 I7=>?_) (.inr hl);refine jg (Ny ea (X.pn++pins) [] s4 _ _ _ I7 (hW ea fe.1)) (λf s5 q=>?_) λ_ _ z=>jP z;cases f with
  | next=>obtain⟨σ',H',J,q⟩:=q;exact DP (X:=X) (Inv.uE ok J) hN hi hl λs6 J6=>⟨_,_,J6,q⟩
  | brk=>obtain⟨σ',H',J,q⟩:=q;exact DP (X:=X) (Inv.uE ok J) hN hi hl λs6 J6=>⟨_,_,J6,q⟩
  | cont=>obtain⟨σ',H',J,q⟩:=q;exact DP (X:=X) (Inv.uE ok J) hN hi hl λs6 J6=>⟨_,_,J6,q⟩
  | ret u=>obtain⟨v,σ',H',J,r,q⟩:=q;exact DP (X:=X) (Inv.uE ok J) hN hi hl λs6 J6=>⟨v,_,_,J6,r,q⟩
 ·have q':=SP.sS q;cases f with
  | next=>exact CN q'
  | brk=>exact q'
  | cont=>exact q'
  | ret u=>exact q'
theorem ags(hs:X.stack=X.env::X.outer)(hf:X.env.frame=some X.env.locals)(hg:Gl X x)(hm:X.mg x=some cv)(F2:PySem.W.kitCls X.K cv (.type "BaseException")=some true)
  (hb:∀(W:WX) (pn:List (Addr×Obj)) (E:Value->Shared->Prop),wL (X.body pn E) W->jR (model X.prog X.w) X.A X.env E->eD (X.body pn E) body (tb W))
  (Ny:∀(ea:Addr) (pn:List (Addr×Obj)),eD (X.jY ea pn) (b0::jY) ts) (mI:(x == ("__debug__" : Str))=false:=by decide) :
  PS X (.Try body [.ExceptHandler (some (.Name x np)) none (b0::jY) Mn] [] [] pos) (ajX X.K cv tb ts):=by
 intro pins s σ H D I h;have ok:=I.ok;refine wpAny_Try_except (jg (hb _ (X.pn++pins) _ ?_ Zt [] s σ H D (I.body _) h) (λf s1 q=>?_) λ_ _ y=>y)
 ·intro pl σ1 H1 s1 ea c dd M0 x1 hW;refine oA hW λhk hW=>?_;have x2:Bf X pins σ1 H1 s1 ea c dd M0:=⟨x1.inv.sS,x1.E2,x1.fe.body,λT z=>(x1.ft T z).body⟩;refine QE hs hf x2 λh' T I2 fl fe fT=>?_;have I3:=I2.jY ea;refine wpAny_handleBy_cons (YV (wt (X:=X.jY ea (X.pn++pins)) I3 hg hm ?_ mI)) (by intro z;cases z);refine PQ I3.dX fl.1 hk F2 (codeAny_handlers_suite ?_);refine C9 (T:=T) (fl:=.none) ⟨fl.1,fl.2 T rfl⟩ λh3 k3 XM=>?_;have I4:Inv X pins σ1 H1 { s1 with heap:=h3 }:=Inv.turned (s:={ s1 with heap:=h' }) (h':=h3) (t':=s1.toks) (it:=T) I2 (λb o hb e=>k3 b o hb e) fT.1 fT.2.1 fT.2.2.2.1 fT.2.2.2.2.1 fT.2.2.2.2.2;refine jg (Ny ea (X.pn++pins) [] _ _ _ _ (I4.jY ea) hW) (λf s5 q=>?_) λ_ _ z=>jP z;cases f with
  | next=>obtain⟨σ',H',J,q⟩:=q;exact⟨_,_,Inv.uE ok J,q⟩
  | brk=>obtain⟨σ',H',J,q⟩:=q;exact⟨_,_,Inv.uE ok J,q⟩
  | cont=>obtain⟨σ',H',J,q⟩:=q;exact⟨_,_,Inv.uE ok J,q⟩
  | ret u=>obtain⟨v,σ',H',J,r,q⟩:=q;exact⟨v,_,_,Inv.uE ok J,r,q⟩
 ·have q':=SP.sS q;cases f with
  | next=>exact CN q'
  | brk=>exact q'
  | cont=>exact q'
  | ret u=>exact q'
end
end L2
namespace L2
open PySem PySem.Spec PySem.W PyProof.Rows L3
theorem afV{K:Frag}{x t c:Value}{H:Heap->Prop}(ty:∀(M:Model) (h:Heap),K.In h->H h->Looks M h (typeOf x) t)(e:kitOne K t c=some true):Answers (λs=>K.In s.heap/\H s.heap) x c true:=by
 intro dep tk prog w A R s hs;obtain⟨h0,g,d,tt,os⟩:=s;refine oA hs λaa hq=>?_;refine oA aa λkx p=>?_;have L0:=ty (model prog w) h0 kx p;unfold kitOne at e;unfold Builtin.«isinstance.nested»;refine(ah (L0.at ?_))
 by_cases q:(t == c)=true
 ·rw[if_pos q]
  first
   | exact ah (v3 (hq tt))
   | exact ah (v3 (aG (hq tt)))
 ·rw[if_neg q]at e;rw[if_neg q];refine iP (kit_cls (M:=model prog w) kx e) λc1 c2 c3=>?_;refine ah (c1.at ?_);rw[if_pos qc]
  k_delta "plainIsInstance"
  refine(ah (ah (c2.at ?_)));simp only[O1,pX,if_false];refine ah ((L0.andThen c3:Looks (model prog w) h0 (yu x c) true).at ?_)
  first
   | exact aG (aG (hq tt))
   | (simp only[if_true];first | exact aG (aG (hq tt)) | exact aG (hq tt) | exact ah (aG (aG (hq tt))))
def Uk(K:Frag):List V->Hp->VK->Prop:=λxs H Q=>∃ea c dd cl cv,xs=[.ref ea,cl]/\H ea=some (BE ea c dd)/\LZ cl=some cv/\kitOne K c cv=some true/\Q (.bl true) H
theorem adP{X:Cx}:kc X (.builtin "isinstance") (Uk X.K):=by
 intro pins s σ H xs us Q I r h;obtain⟨ea,c,dd,cl,cv,e,he,hc,hk,q⟩:=h;subst e;cases r with
 | cons r1 r2=>
  cases r2 with
  | cons r2 r3=>
   cases r3;cases RD hc r2;cases r1
   have ho:∃o,s.heap.get? ea=some o/\o.cls=c:=by
    refine oA (I.aM ea _ he) λaa _=>?_;refine cF aa λo vs e c1 _=>?_;exact ak o e c1
   have ty:∀(M:Model) (h:Heap),X.K.In h->(∃o,h.get? ea=some o/\o.cls=c)->Looks M h (typeOf (.ref ea)) c:=λM h _ p=>by
    refine ag p λo e z=>?_;exact z ▸ (Looks.ld e).andThen .now
   exact call_isinstance (S:=λ_ R s=>(X.K.In s.heap/\∃o,s.heap.get? ea=some o/\o.cls=c)/\∀tk,R (.ok (.ret (.bool true))) { s with toks:=tk })
    (λprog w A R s hs=>isinstance_outer (afV ty hk 0 _ prog w A R s hs) (λz=>nomatch z)) ⟨⟨I.dX,ho⟩,λtk=>⟨.bl true,H,I.tok tk,rfl,q⟩⟩
theorem Tw{X:Cx}(K:Frag)(h:X.K=K:=by rfl):kc X (.builtin "isinstance") (Uk K):=by subst h;exact adP
end L2
namespace L2
open PySem PySem.Spec PyProof.Rows
open Sem (wp)
section
variable{X:Cx}
end
end L2
namespace HT
open PySem PySem.Spec PyProof.Rows
open Sem (wp)
section
variable{prog:Program}{w:World}{A:Around}{E:Value->Shared->Prop}{s:Shared}
end
end HT
namespace L2
open PySem PySem.Spec PyProof.Rows
section
variable{X:Cx}
end
end L2
namespace L2
open PySem PySem.Spec PyProof.Rows PySem.SeqAt
mutual
def noDict:PyData->Bool
 | .dict _=>false
 | .list xs=>ux xs
 | .tuple xs=>ux xs
 | _=>true
def ux:List PyData->Bool
 | []=>true
 | x::xs=>noDict x&&ux xs
end
mutual
theorem PM:∀d:PyData,noDict d=true->noMix d d=true/\same d d=true
 | .none,_=>⟨rfl,rfl⟩
 | .bool b,_=>⟨rfl,by simp[same]⟩
 | .int i,_=>⟨rfl,by simp[same]⟩
 | .str x,_=>⟨rfl,by simp[same]⟩
 | .list xs,h=>by
  rw[noMix,same];exact He xs (by rw[noDict]at h;exact h)
 | .tuple xs,h=>by
  rw[noMix,same];exact He xs (by rw[noDict]at h;exact h)
 | .dict _,h=>by rw[noDict]at h;cases h
theorem He:∀xs:List PyData,ux xs=true->DD xs xs=true/\sameAll xs xs=true
 | [],_=>⟨by rw[DD],by rw[sameAll]⟩
 | x::xs,h=>by
  rw[ux,jc]at h;refine oA (PM x h.1) λa b=>?_;refine oA (He xs h.2) λc d=>?_;rw[DD,sameAll,a,b,c,d];exact⟨rfl,rfl⟩
end
mutual
theorem OV:∀d:PyData,d.canLay0=true->noDict d=true
 | .none,_=>rfl
 | .bool b,_=>rfl
 | .int i,_=>rfl
 | .str x,_=>rfl
 | .list xs,h=>by rw[noDict];exact Gy xs (by rw[nV]at h;exact h)
 | .tuple xs,h=>by rw[noDict];exact Gy xs (by rw[nV]at h;exact h)
 | .dict _,h=>by rw[nV]at h;cases h
theorem Gy:∀xs:List PyData,qN xs=true->ux xs=true
 | [],_=>by rw[ux]
 | x::xs,h=>by
  rw[qN,jc]at h;rw[ux,OV x h.1,Gy xs h.2];rfl
end
theorem RY{d:PyData}(h:shaped d=true):noMix d d=true/\same d d=true:=PM d (OV d (canLay_of_shaped h))
theorem yB{K:W.Frag}{H:Hp}{x y:V}{Q:VK}{d:PyData}(hx:gy K H x d)(hy:gy K H y d)(hs:shaped d=true)(q:Q (.bl false) H):Er K true x y H Q:=by
 refine oA (RY hs) λa b=>?_;refine II d d hx hy hs hs a ?_;rw[if_pos rfl,b];exact q
theorem afD{K:W.Frag}{H:Hp}{x y:V}{Q:VK}{d:PyData}(hx:gy K H x d)(hy:gy K H y d)(hs:shaped d=true)(q:Q (.bl true) H):Er K false x y H Q:=by
 refine oA (RY hs) λa b=>?_;refine II d d hx hy hs hs a ?_;rw[if_neg dG,b];exact q
theorem vZ{α:Type}{f:α->PyData}:∀{l:List α},(∀a∈l,(f a).canLay0=true)->qN (l.map f)=true
 | [],_=>by simp[qN]
 | a::l,h=>by
  rw[jd,qN,h a fX,vZ λb hb=>h b (eV _ hb)];rfl
theorem uz{α:Type}{f:α->PyData}{k:Nat}:∀{l:List α},(∀a∈l,(f a).depth<=k)->pZ (l.map f)<=k
 | [],_=>by simp[pZ]
 | a::l,h=>by
  have h1:=h a fX;have h2:=uz λb hb=>h b (eV _ hb);simp only[jd,pZ];omega
theorem Aw{α:Type}{f:α->PyData}{l:List α}(h1:∀a∈l,(f a).canLay0=true)(h2:∀a∈l,(f a).depth<=60):shaped (.list (l.map f))=true:=by
 have d:=uz h2;unfold shaped;rw[jc];refine⟨by simp only[nV];exact vZ h1,decide_eq_true ?_⟩;simp only[jM];exact wb
theorem sM{α:Type}{K:W.Frag}{H:Hp}{F:V->α->Prop}{f:α->PyData}(h:∀v a,F v a->gy K H v (f a)):∀{vs:List V} {l:List α},Paired F vs l->kX K H vs (l.map f)
 | _,_,.nil=>.nil
 | _,_,.cons g t=>.cons (h _ _ g) (sM h t)
def xq(h:Heap)(dx:PyData)(u:Value):Bool:=@decide (∃d as,Reads h u d as/\qW d dx=true) (Oo _)
theorem TH{h:Heap}{dx d:PyData}{u:Value}{as:List Addr}(r:Reads h u d as):xq h dx u=qW d dx:=by
 unfold xq;cases e:qW d dx with
 | true=>exact @decide_eq_true _ (Oo _) ⟨d,as,r,e⟩
 | false=>
  refine @decide_eq_false _ (Oo _) ?_;rintro⟨d',as',r',e'⟩;refine oA (r.unique d' as' r') λq _=>?_;rw[q,e']at e;cases e
theorem SH{h:Heap}{dx:PyData}:∀{us:List Value} {ds:List PyData} {as:List Addr},ReadsAll h us ds as->us.any (xq h dx)=ds.any λd=>qW d dx
 | _,_,_,.nil=>rfl
 | _,_,_,.cons r t=>by rw[yg,yg,TH r,SH t]
theorem Sr{A:Around}{s:Shared}{v:Value}{dx:PyData}{bs:List Addr}(rx:Reads s.heap v dx bs)(sx:shaped dx=true)(hu:A.in1.units+64<cLine):∀{us:List Value} {ds:List PyData} {as:List Addr},ReadsAll s.heap us ds as->(∀d∈ds,shaped d=true)->∀u∈us,EqAt A.in1 s u v (xq s.heap dx u)
 | _,_,_,.nil,_=>λu hu=>by cases hu
 | _,_,_,.cons r t,h=>λu hm=>by
  rcases cx.mp hm with rfl | hm
  ·rw[TH r];exact W.keq_at r rx (h _ (by simp)) sx hu
  ·exact Sr rx sx hu t (λd hd=>h d (eV _ hd)) u hm
def al7(K:W.Frag)(neg:Bool):R2:=λx y H Q=>∃p xs ds dx,y=.ref p/\aq K H p xs/\kX K H xs ds/\gy K H x dx/\shaped dx=true/\(∀d∈ds,shaped d=true)/\Q (.bl (if neg=true then !(ds.any λd=>qW d dx) else ds.any λd=>qW d dx)) H
section
variable{X:Cx}
theorem Qx(hu:X.A.units+65<cLine):ff X (jQ .NotIn) (al7 X.K true):=by
 intro pins s σ H x y v u Q I rx ry h;obtain⟨p,xs,ds,dx,aa,hq,hd,hx,sx,sd,q⟩:=h;subst aa;cases ry;refine aJ (I.list hq) λau r pl hz=>?_;refine oE (hd.reads I r) λas q1=>?_;refine oE (hx.reads I rx) λbs q2=>?_;refine notIn_listAt (xq s.heap dx) pl.isList (λw hw=>Sr q2 sx (by show X.A.units+1+64<cLine;exact w0) q1 sd w (by simpa using hw)) ⟨.bl _,H,I,rfl,?_⟩;rw[show au.toArray.any (xq s.heap dx)=au.any (xq s.heap dx) by simp,SH q1];exact q
end
theorem Rj{X:Cx}(hu:X.A.units+64<cLine):ff X (jQ .NotEq) (λx y H Q=>∃a b xs,x=.ref a/\y=.ref b/\H a=some (.lst xs)/\H b=some (.lst [])/\Q (.bl (!decide (xs=[]))) H):=by
 intro pins s σ H x y v u Q I rx ry h;obtain⟨a,b,xs,rfl,rfl,ha,hb,q⟩:=h
 by_cases e:xs=[]
 ·subst e;refine wB hu pins s σ H _ _ v u Q I rx ry ⟨.list [],.list [],.lst (aq.of ha) .nil,.lst (aq.of hb) .nil,qc,qc,by simp[noMix,DD],?_⟩;have e1:same (.list []) (.list [])=true:=by simp[same,sameAll]
  rw[if_pos rfl,e1];exact q
 ·cases rx;cases ry;obtain⟨z,au,n,r,hl,e1⟩:=I.pI ha;obtain⟨z2,qz,n2,r2,jH,e2⟩:=I.pI hb;rw[decide_eq_false e]at q;have hz:qz=[]:=nU.mp (by rw[<-jH];rfl);subst hz
  have hs:(au.toArray.size != ([]:List Value).toArray.size)=true:=by
   rw[bne_iff_ne,dF,<-hl];intro h0;exact e (nU.mp h0)
  show wpAny _ _ (richCompare .NotEq (.ref a) (.ref b)) _ _ s;exact YQ ⟨_,e1,rfl⟩ ⟨_,e2,rfl⟩ F.slot_list_ne F.entry_list_ne (F.args_list_ne_2 _ _) (list_ne_lengthsAt a b _ _ _ _ _ _ _ _ hs) ⟨e1,e2,(by intro z;cases z),⟨.bl true,H,I,rfl,q⟩⟩ om
theorem Rk{X:Cx}(hu:X.A.units+64<cLine):ff X (jQ .Eq) (λx y H Q=>∃a b xs,x=.ref a/\y=.ref b/\H a=some (.lst xs)/\H b=some (.lst [])/\Q (.bl (decide (xs=[]))) H):=by
 intro pins s σ H x y v u Q I rx ry h;obtain⟨a,b,xs,rfl,rfl,ha,hb,q⟩:=h
 by_cases e:xs=[]
 ·subst e;refine Tj hu pins s σ H _ _ v u Q I rx ry ⟨.list [],.list [],.lst (aq.of ha) .nil,.lst (aq.of hb) .nil,qc,qc,by simp[noMix,DD],?_⟩;have e1:same (.list []) (.list [])=true:=by simp[same,sameAll]
  rw[if_neg dG,e1];exact q
 ·cases rx;cases ry;obtain⟨z,au,n,r,hl,e1⟩:=I.pI ha;obtain⟨z2,qz,n2,r2,jH,e2⟩:=I.pI hb;rw[decide_eq_false e]at q;have hz:qz=[]:=nU.mp (by rw[<-jH];rfl);subst hz
  have hs:(au.toArray.size != ([]:List Value).toArray.size)=true:=by
   rw[bne_iff_ne,dF,<-hl];intro h0;exact e (nU.mp h0)
  show wpAny _ _ (richCompare .Eq (.ref a) (.ref b)) _ _ s;exact YQ ⟨_,e1,rfl⟩ ⟨_,e2,rfl⟩ F.slot_list_eq F.entry_list_eq (F.args_list_eq_2 _ _) (list_eq_lengthsAt a b _ _ _ _ _ _ _ _ hs) ⟨e1,e2,(by intro z;cases z),⟨.bl false,H,I,rfl,q⟩⟩ om
end L2
namespace L2
open PySem PySem.Spec PyProof.Rows
theorem Kf{J:It}{n:Nat}{g:TG}{tb:TS}{D:Ends}{σ:St}{H:Hp}(Pv:Nat->St->Hp->Prop)(h0:Pv 0 σ H)(NI:∀i σ H,i<n->Pv i σ H->J.go i H)(cD:∀σ H,Pv n σ H->J.stop n H)
  (hs:∀i σ H,i<n->Pv i σ H->∀x H',J.vi i H x H'->g x σ H' λσ2 H2=>tb { D with nx:=Pv (i+1),ct:=Pv (i+1),bk:=D.nx } σ2 H2) (hd:∀σ H,Pv n σ H->D.nx σ H) :
  ∃W:Nat->Nat->St->Hp->Prop,(∃m,W 0 m σ H)/\∀i m σ H,W i m σ H->
   (J.stop i H/\D.nx σ H)\/(J.go i H/\∃N:St->Hp->Prop,(∀σ' H',N σ' H'->∃m',m'<m/\W (i+1) m' σ' H')/\∀x H',J.vi i H x H'->g x σ H' λσ2 H2=>tb { D with nx:=N,ct:=N,bk:=D.nx } σ2 H2):=by
 refine⟨λi m σ H=>m=n-i/\i<=n/\Pv i σ H,⟨n,by simp,bU _,h0⟩,?_⟩;rintro i m σ H ⟨rfl,hi,p⟩
 by_cases de:i<n
 ·exact .inr ⟨NI i σ H de p,⟨Pv (i+1),λσ' H' p'=>⟨n-(i+1),om,rfl,de,p'⟩,hs i σ H de p⟩⟩
 ·have e:i=n:=om;subst e;exact .inl ⟨cD σ H p,hd σ H p⟩
end L2
namespace TL
open PySem PySem.Spec PyProof.Rows PySem.SeqAt L2 L3
structure Kl(K:W.Frag)(c cE:Addr):Prop where
 xc:XC K c
 self:W.kitCls K (.ref c) (.ref c)=some true
 base:W.kitCls K (.ref c) (.type "BaseException")=some true
 te:W.kitOne K (.ref c) (.ref cE)=some true
 ve:W.kitOne K (.ref c) (.type "ValueError")=some true
end TL
namespace L2
open PySem PySem.Spec PySem.W PyProof.Rows L3
section
variable{X:Cx}{pz:List (Addr×Obj)}{σ:St}{H:Hp}{s:Shared}{ns:List Int}{kf:Int->Int}{l it sx f:Addr}{R:Result->Shared->Prop}
def ajk(kf:Int->Int)(ns:List Int)(sx:Addr)(j:Nat)(h:Heap):Prop:=(j=0/\∃c,h.get? sx=some (seqObj "list" #[] c))\/
 (0<j/\∃nb vb tb c,h.get? sx=some (seqObj "list" #[vb,.int (kf nb) tb] c)/\RelV (.int nb) vb/\nb∈ns/\∀i n,i<j->ns[i]?=some n->kf nb<=kf n)
theorem ajj{vs:List Value}(rv:Vals (ns.map V.int) vs){j:Nat}{v:Value}(e:vs[j]?=some v):∃n t,ns[j]?=some n/\v=.int n t:=by
 have hl:=rv.length;rw[aN]at hl;have hj:j<vs.length:=(eK.mp e).1;obtain⟨u,e',t,ru⟩:=rv.get (i:=j) (x:=.int ns[j]) (by simp[show j<ns.length by exact wg]);rw[e]at e';cases e';exact⟨ns[j],t,aT (by exact wg),ru⟩
theorem aeJ(hh:X.A.handled=none)(hl:aq X.K H l (ns.map V.int))(h0:0<ns.length)(NG:l≠it)
  (turn:∀(n:Int) (u:Value) (pp:List (Addr×Obj)) (s:Shared),n∈ns->RelV (.int n) u->(∀p∈pz,p∈pp)->Inv X pp σ H s->wpAny (model X.prog X.w) X.A.in1 (call (.ref f) [u]) (EP X pp σ λv H'=>v=.int (kf n)/\H'=H) (λ_ _=>False) s)
  (hR:∀nb vb s',Inv X pz σ H s'->RelV (.int nb) vb->nb∈ns->(∀n∈ns,kf nb<=kf n)->R (.ok (.ret vb)) s') :
  ∀(r j:Nat) (s:Shared),ns.length-j=r->j<=ns.length->Inv X pz σ H s->eM X pz H sx->eM X pz H it->sx≠it->s.heap.IsListIter it l j->ajk kf ns sx j s.heap->
   codeAny (model X.prog X.w) X.A (.builtin "min.loop" ⟨[.ref it,.ref f,.ref sx],[]⟩) R s:=by
 have Bt:(toString "min" ++ toString ".loop" : String) = "min.loop":=qc;intro r
 induction r with
 | zero=>
  intro j s hr hj I fs fi xA hit hb;have ej:j=ns.length:=om;rcases hb with ⟨z,_⟩ | ⟨_,nb,vb,tb,c,eS,rb,mb,best⟩
  ·omega
  ·obtain⟨vs,rv,pl,hz⟩:=I.list hl;have lv:=rv.length;rw[aN]at lv;have W:=HI (prog:=X.prog) (w:=X.w) (A:=X.A.in1) hh it l NG vs.toArray;refine(sG PySem.F.entry_min_loop (?_:wpAny _ _ _ _ _ s));rw[(ui PySem.F.plain_min_loop _)];show wpAny _ X.A.in1 (Ih (.ref sx) >>= _) _ _ _;refine ah (qb eS rfl (?_:wpAny _ X.A.in1 (tryCatch (pyNext (.ref it)) _ >>= _) _ _ _));refine ah (Hc (W.done _ _ _ ⟨by rw[dF,<-lv,<-ej];exact hit,pl.isList⟩ λh' BR xS=>?_));have k1:∀b o,b≠it->s.heap.get? b=some o->h'.get? b=some o:=λb o n e=>xS b o (by simpa using n) e;have I1:Inv X pz σ H { s with heap:=h',toks:=BR }:=I.turned k1 fi.1 fi.2.1 fi.2.2.2.1 fi.2.2.2.2.1 fi.2.2.2.2.2;have e1:=k1 sx _ xA eS;show wpAny _ X.A.in1 (Dq sx (λ_=>#[]) >>= _) _ _ _;refine ah (Ak e1 rfl (ah (ym (aG ?_))));have sb:=lh h' sx (jO λ_=>(#[]:Array Value));refine hR nb vb _ (I1.turned (h':=_) (t':=BR) (it:=sx) (λb o n e=>(sb.2 b n).trans e) fs.1 fs.2.1 fs.2.2.2.1 fs.2.2.2.2.1 fs.2.2.2.2.2) rb mb λn hn=>?_;obtain⟨i,hi,e⟩:=sA hn;exact best i n (by exact wg) (by rw[<-e];exact aT hi)
 | succ r ih=>
  intro j s hr hj I fs fi xA hit hb;have lt:j<ns.length:=om;obtain⟨vs,rv,pl,hz⟩:=I.list hl;have lv:=rv.length;rw[aN]at lv;have W:=HI (prog:=X.prog) (w:=X.w) (A:=X.A.in1) hh it l NG vs.toArray
  have hS:∃xs c,s.heap.get? sx=some (seqObj "list" xs c)/\((j=0/\xs=#[])\/(0<j/\∃nb vb tb,xs=#[vb,.int (kf nb) tb]/\RelV (.int nb) vb/\nb∈ns/\∀i n,i<j->ns[i]?=some n->kf nb<=kf n)):=by
   rcases hb with ⟨z,c,e⟩ | ⟨z,nb,vb,tb,c,e,q⟩
   ·exact⟨_,c,e,.inl ⟨z,rfl⟩⟩
   ·exact⟨_,c,e,.inr ⟨z,nb,vb,tb,rfl,q⟩⟩
  obtain⟨xs,c,eS,hx⟩:=hS;refine(sG PySem.F.entry_min_loop (?_:wpAny _ _ _ _ _ s));rw[(ui PySem.F.plain_min_loop _)];show wpAny _ X.A.in1 (Ih (.ref sx) >>= _) _ _ _;refine ah (qb eS rfl (?_:wpAny _ X.A.in1 (tryCatch (pyNext (.ref it)) _ >>= _) _ _ _));refine ah (Hc (W.item j _ _ _ (by rw[dF];exact wf) ⟨hit,pl.isList⟩ λv h' BR hP zr xS=>?_));have hv:vs[j]?=some v:=by simpa using hP
  obtain⟨n,t,en,rfl⟩:=ajj rv hv;have mn:n∈ns:=bb en;have k1:∀b o,b≠it->s.heap.get? b=some o->h'.get? b=some o:=λb o z e=>xS b o (by simpa using z) e;have I1:Inv X pz σ H { s with heap:=h',toks:=BR }:=I.turned k1 fi.1 fi.2.1 fi.2.2.2.1 fi.2.2.2.2.1 fi.2.2.2.2.2;have e1:=k1 sx _ xA eS;obtain⟨oI,hoI,xO,NC⟩:=id zr.1
  have P1:Inv X ((pz++[(sx,seqObj "list" xs c)])++[(it,oI)]) σ H { s with heap:=h',toks:=BR }:=by
   have a:=I1.Et fs e1 (λv z=>by cases z);refine a.Et ⟨fi.1,fi.2.1,fi.2.2.1,fi.2.2.2.1,fi.2.2.2.2.1,λp hp=>?_⟩ hoI (λv z=>by rw[NC]at z;cases z);rcases jx.mp hp with z | z
   ·exact fi.2.2.2.2.2 p (ph _ z)
   ·rcases jx.mp z with z | z
    ·exact fi.2.2.2.2.2 p (gR _ z)
    ·have z':p=(sx,seqObj "list" xs c):=by simpa using z
     rw[z'];exact xA
  show wpAny _ X.A.in1 (tryCatch (holding [iW n t] (call (.ref f) [iW n t])) _ >>= _) _ _ _;refine ah (Hc (nW (jg (turn n _ _ _ mn ⟨t,rfl⟩ (λp hp=>ph _ (ph _ hp)) P1) (λw s2 hw=>?_) λ_ _ z=>z.elim)));obtain⟨v2,H2,J,r2,rfl,rfl⟩:=hw;obtain⟨t2,rfl⟩:=r2;have I2:Inv X pz σ H2 s2:=J.uG λp hp=>J.pin p (gR _ (ph _ (ph _ hp)));have e2:=(J.pin (sx,seqObj "list" xs c) (gR _ (ph _ (gR _ (by simp))))).1;have i2:=(J.pin (it,oI) (gR _ (gR _ (by simp)))).1
  have wr:∀(tk:Nat),(∀i m,i<j->ns[i]?=some m->kf n<=kf m)->codeAny (model X.prog X.w) X.A (.builtin "min.loop" ⟨[.ref it,.ref f,.ref sx],[]⟩) R { s2 with heap:=s2.heap.update sx (jO λ_=>#[.int n t,.int (kf n) t2]),toks:=tk }:=λtk alD=>by
   have sb:=lh s2.heap sx (jO λ_=>#[iW n t,iW (kf n) t2]);have I3:Inv X pz σ H2 { s2 with heap:=s2.heap.update sx (jO λ_=>#[.int n t,.int (kf n) t2]),toks:=tk }:=I2.turned (it:=sx) (λb o z e=>(sb.2 b z).trans e) fs.1 fs.2.1 fs.2.2.2.1 fs.2.2.2.2.1 fs.2.2.2.2.2;refine ih (j+1) _ om (by exact xf) I3 fs fi xA ⟨oI,(sb.2 it (fw xA)).trans i2,xO,NC⟩ (.inr ⟨Pd _,n,_,t2,_,OM e2 λ_=>#[.int n t,.int (kf n) t2],⟨t,rfl⟩,mn,λi m hi em=>?_⟩)
   by_cases z:i=j
   ·subst z;rw[en]at em;cases em;exact Int.le_refl _
   ·exact alD i m om em
  rcases hx with ⟨z,rfl⟩ | ⟨z,nb,vb,tb,rfl,rb,mb,best⟩
  ·show wpAny _ X.A.in1 (Dq sx (λ_=>#[.int n t,.int (kf n) t2]) >>= _) _ _ _;refine ah (Ak e2 rfl ?_);rw[Bt];exact aG ⟨um PySem.F.plain_min_loop _,wr s2.toks λi m hi _=>absurd hi om⟩
  ·show wpAny _ X.A.in1 (tryCatch (holding [.int n t,.int (kf n) t2] (richCompare .Lt (.int (kf n) t2) (.int (kf nb) tb) >>= _)) _ >>= _) _ _ _;refine ah (Hc (nW (ah (lt_int (?_:wpAny _ _ _ _ _ _)))));refine ah (nW (sD (ah (ym (aG ?_)))))
   by_cases de:kf n<kf nb
   ·simp only[de,decide_true,if_true];refine ah (Ak e2 rfl (ah (ym ?_)));rw[Bt];refine aG ⟨um PySem.F.plain_min_loop _,wr s2.toks λi m hi em=>?_⟩;have:=best i m hi em;omega
   ·simp only[de,decide_false,pX,if_false];refine ah (ym ?_);rw[Bt];refine aG ⟨um PySem.F.plain_min_loop _,ih (j+1) _ om (by exact xf) I2 fs fi xA ⟨oI,i2,xO,NC⟩ (.inr ⟨Pd _,nb,vb,tb,c,e2,rb,mb,λi m hi em=>?_⟩)⟩
    by_cases z2:i=j
    ·subst z2;rw[en]at em;cases em;omega
    ·exact best i m om em
end
section
variable{X:Cx}{pins:List (Addr×Obj)}{σ:St}{H:Hp}{s:Shared}{ns:List Int}{kf:Int->Int}{l f:Addr}
theorem aeK{Q:VK}{E:Value->Shared->Prop}{pz:List (Addr×Obj)}(I:Inv X pz σ H s)(hh:X.A.handled=none)(hl:aq X.K H l (ns.map V.int))(h0:0<ns.length)
  (turn:∀(n:Int) (u:Value) (pp:List (Addr×Obj)) (s:Shared),n∈ns->RelV (.int n) u->(∀p∈pz,p∈pp)->Inv X pp σ H s->wpAny (model X.prog X.w) X.A.in1 (call (.ref f) [u]) (EP X pp σ λv H'=>v=.int (kf n)/\H'=H) (λ_ _=>False) s)
  (q:∀m∈ns,(∀n∈ns,kf m<=kf n)->Q (.int m) H):wpAny (model X.prog X.w) X.A (call (.builtin "min") [.ref l] [(qR "key",.ref f)]) (EP X pz σ Q) E s:=by
 have Bt:(toString "min" ++ toString ".loop" : String) = "min.loop":=qc;obtain⟨vs,rv,pl,hz⟩:=I.list hl
 have hll:l<s.heap.objs.size:=by
  obtain⟨o,e,_⟩:=pl.isList;exact cg e
 refine kmk_tree PySem.F.kind_min PySem.F.plain_min PySem.F.entry_min (kmk_min_key _ _) (?_:wpAny _ X.A.in1 (Yv "min" ["key","default"] 0 ⟨[],[(qR "key",.ref f)]⟩ >>= _) _ _ s);refine ah (Dc (rfl:Yv "min" ["key","default"] 0 ⟨[],[(qR "key",.ref f)]⟩=pure [some (.ref f),none]) ?_);refine ah (aG (ah (CI pl.isList (ah (OX ?_ (bU _))))));rw[Bt];have z1:(s.heap.push { cls:=.type "list_iterator",data:=.fields #[.ref l,.int 0 0] }).objs.size=s.heap.objs.size+1:=lS _ _;have hI:H s.heap.objs.size=none:=I.aM.fresh (aH _);have hS:H (s.heap.push { cls:=.type "list_iterator",data:=.fields #[.ref l,.int 0 0] }).objs.size=none:=I.aM.fresh (by rw[z1];exact lx _);refine aG ⟨um PySem.F.plain_min_loop _,?_⟩;have I1:Inv X pz σ H { s with heap:=(s.heap.push { cls:=.type "list_iterator",data:=.fields #[.ref l,.int 0 0] }).push (seqObj "list" #[] 0) }:=I.kept (t':=s.toks) λb o e=>bj _ (bj _ e)
 refine aeJ (kf:=kf) (pz:=pz) (σ:=σ) hh hl h0 (dZ hll) turn (λnb vb s' J rb mb best=>?_) (ns.length-0) 0 _ rfl (bU _) I1 (I.iu (by rw[z1];exact lx _) hS) (I.iu (aH _) hI) (by rw[z1];exact GG _)
  ⟨_,bj _ (eO _ rfl),rfl,rfl⟩ (.inl ⟨rfl,0,eO _ rfl⟩)
 exact⟨.int nb,H,J,rb,q nb mb best⟩
def U2(B:V->Hp->Prop):List V->Hp->Prop:=λvs H=>match vs with | [x]=>B x H | _=>False
theorem agx{B:V->Hp->Prop}:∀{vs:List V} {H:Hp},U2 B vs H->∃x,vs=[x]/\B x H
 | [x],_,h=>⟨x,rfl,h⟩
 | [],_,h=>h.elim
 | _::_::_,_,h=>h.elim
def af2(K:W.Frag)(P:Addr)(xb:Pos)(qual:Str)(tl te:TE)(idx:List Nat)(n k:Nat):TE:=λσ H Q=>tl σ H λx H1=>∃(a:Addr) (ns:List Int) (kf:Int->Int),x=.ref a/\aq K H1 a (ns.map V.int)/\0<ns.length/\cU P xb qual H1/\
 ∀H2,uY P H1 H2->cU P xb qual H2->aq K H2 a (ns.map V.int)/\(∀m∈ns,te ((lG idx n σ).set k (some (.int m))) H2 λv H'=>v=.int (kf m)/\H'=H2)/\∀m∈ns,(∀n∈ns,kf m<=kf n)->Q (.int m) H2
theorem ac7{sc:Scope}{N:List Str}{idx:List Nat}{k:Nat}{px:Str}{params:Arguments}{le body:Expr}{p pos xb Vm:Pos}{c P:Addr}{tl te:TE}(hc:X.calm=true)(Xe:X.A.depth+5<CS)(hg:Gl X "min")(hm:X.mg "min" = none)(hl:PE X le tl)(S:eC X sc N idx)
  (Ep:X.env.code=.ref c) (C:CodeHd X.base c P) (B:tH X.mg X.base) (hk:N[k]?=some px) (vz:sc.names.lookup px=some .local) (hi:idx.length<=k) (hb:∀A qual f cd s H,PE (E3 X A sc N qual f cd s H) body te)
  (Bu:∀(qual:Str) (cl:List (Str×Addr)) (pm cd pe u:Value),sO (kla_fn "<lambda>" qual params body sc cl pm cd pe) ⟨[u],[]⟩=pure [(px,u)]) (Mt:defaultsOf params X.env=([],[]):=by rfl) (NT:sc.isCoroutine=false:=by rfl) (Ms:sc.isGenerator=false:=by rfl)
  (he:backTo pos (cJ [le] X.env)=(false,eval le X.env)::backTo pos (cJ [] X.env):=by rfl) (dE:(backTo pos (cJ [le] X.env)).any (·.1)=false:=by rfl) (hs:cJ [le] X.env=(false,eval le X.env)::cJ [] X.env:=by rfl) :
  PE X (.Call (.Name "min" p) [le] [⟨some "key",.Lambda params body sc xb,Vm⟩] pos) (af2 X.K P xb (X.env.qual ++ "<lambda>") tl te idx N.length k):=by
 intro pins s σ H Q I h;refine Ae (uO I hg hm (show sH "min" = some (.builtin "min") from boot_min) ?_ qc qc)
 refine callWith_kw (aU (ae (X:=X) hl ai hs pos pins s σ H (U2 λx H1=>∃(a:Addr) (ns:List Int) (kf:Int->Int),x=.ref a/\aq X.K H1 a (ns.map V.int)/\0<ns.length/\cU P xb (X.env.qual ++ "<lambda>") H1/\
  ∀H2,uY P H1 H2->cU P xb (X.env.qual ++ "<lambda>") H2->aq X.K H2 a (ns.map V.int)/\(∀m∈ns,te ((lG idx N.length σ).set k (some (.int m))) H2 λv H'=>v=.int (kf m)/\H'=H2)/\∀m∈ns,(∀n∈ns,kf m<=kf n)->Q (.int m) H2) I h) λus s1 ⟨vs,H1,I1,rv,q1⟩=>?_) he dE rfl rfl
 obtain⟨x,rfl,a,ns,kf,rfl,hL,h0,rP,hq⟩:=agx q1;obtain⟨u,rfl,ru⟩:=vals1 rv;cases ru;refine kws_cons (aeO I1 S Ep C B Mt rP λf c' H2 pm pe s2 I2 sm qy hc2=>kws_nil ?_);obtain⟨iE,Nx,hQ⟩:=hq H2 sm qy;have hh:X.A.handled=none:=I.ok.hd hc;refine aU (aeK (kf:=kf) (f:=f) I2 hh iE h0 (λn u pp s3 hn ru hp I3=>?_) λm hm hb=>hQ m hm hb) λw s4 ⟨v,H4,I4,r4,q4⟩=>⟨v,H4,I4.Dt,r4,q4⟩;refine aeP (A:=X.A.in1) (v:=.int n) I3 S I3.ok.frames hh (by show X.A.depth<_;omega) hk vz hi ru (I3.pin _ (gR _ (hp _ (gR _ fX)))).1 (I3.aM c' _ hc2).1 (Bu _ _ _ _ _ _) NT Ms (hb _ _ _ _ _ _) (Nx n hn)
end
end L2
namespace L2
open PySem PySem.Spec PyProof.Rows L3
def ah0(C:Addr)(m:Str)(sp:Sp)(dvs:List V)(W:WX)(ta:TE)(t:TA):TE:=λσ H Q=>ta σ H λx H1=>∃a dx fs,x=.ref a/\H1 a=some (.ins C dx fs)/\fs.lookup m=none/\
 t σ H1 λvs H2=>sp (x::(vs++dvs)) H2 Q (W σ)
section
variable{X:Cx}{k:Nat}{f C:Addr}{fd:aV}{ps:List Str}{sp:Sp}{dvs:List V}{ds:List Value}{W:WX}{x m:Str}{p pos apos:Pos}{e o:Expr}{es:List Expr}{ta:TE}{t:TA}{P:Program}{w:World}
theorem aeg{pl:Sem Bool}(he:PE X o ta)(c:eU X.K C)(hm:Meth X.K C m f)(F:ay P w X.K X.mg X.base (km P w) k f fd ps sp)(hr:e8 k X.A)(hb:Binds X.K fd ps ds)(hd:Vals dvs ds)(hL:wL X W)(ha:PA X (e::es) t)(hP:X.prog=P:=by rfl)(hw:X.w=w:=by rfl)
  (cD:cJ (e::es) X.env=(false,eval e X.env)::cJ es X.env:=by rfl) (dE:(backTo pos (cJ es X.env)).any (·.1)=false:=by rfl)
  (ht:eval (.Call (.Attribute o m apos) (e::es) [] pos) X.env=(do
   let ov <-eval o X.env
   standAt apos.atName
   let (f,first) <-holding [ov] (yz ov m pl)
   DE pos f first (backTo pos (cJ (e::es) X.env)) (AR pos (Av [] X.env))):=by rfl) :
  PE X (.Call (.Attribute o m apos) (e::es) [] pos) (ah0 C m sp dvs W ta t):=by
 subst hP hw;intro pins s σ H Q I h;refine PySem.W.methodCall_KW (pl:=pl) (aU (he pins s σ H _ I h) λu s1 ⟨x,H1,I1,rx,a,dx,fs,ex,ea,l,q⟩=>?_) ht;subst ex;obtain rfl:u=ee a:=rx;refine Dh I1 ea c hm l ?_;refine PySem.W.callWith_K (first:=[.ref a]) (h₀:=X.base) I.ok.mod.vm hm.kp (aU (ha pos pins s1 σ H1 _ I1 q) λus s2 ⟨vs,H2,I2,r,q2⟩=>⟨I2.dX,?_⟩) cD dE;exact agn (us:=.ref a::us) (vs:=.ref a::vs) F hr hb hd hL I2 (.cons rfl r) q2
end
structure vg(K:PySem.W.Frag)(x qual:Str)(st:Stmt)(f:Addr)(fd:aV)(c:Addr):Prop where
 ex:∃(oc:Value) (od:Option Addr) (kV doc pm:Value) (an:Option Addr) (ct:Value) (iB:Array (Option Value)),fd=PySem.W.fnOf x qual (lA st) (gr st) (aO st) .none kV doc pm an (.ref c) ct/\K.lookup f=some ⟨oc,od,.func fd,iB⟩/\PySem.W.codeIn K (.ref c) qual=true
 kp:PySem.W.keepIn K (.ref f)=true
theorem ag8{K:PySem.W.Frag}{x qual:Str}{st:Stmt}{f c:Addr}{oc:Value}{od an:Option Addr}{iB:Array (Option Value)}{kV doc pm ct:Value}(l:K.lookup f=some ⟨oc,od,.func (PySem.W.fnOf x qual (lA st) (gr st) (aO st) .none kV doc pm an (.ref c) ct),iB⟩)
  (c1:PySem.W.codeIn K (.ref c) qual=true) (k:PySem.W.keepIn K (.ref f)=true):vg K x qual st f (PySem.W.fnOf x qual (lA st) (gr st) (aO st) .none kV doc pm an (.ref c) ct) c:=⟨⟨oc,od,kV,doc,pm,an,ct,iB,rfl,l,c1⟩,k⟩
section
variable{P:Program}{w:World}{K:PySem.W.Frag}{mg:Str->Option Value}{base:Heap}
theorem vg.ok{x qual:Str}{st:Stmt}{f c:Addr}{fd:aV}{N ps:List Str}{k:Nat}{sp:Sp}(F:vg K x qual st f fd c)(S:bc N ps (aO st))(len:∀vs H Q E,sp vs H Q E->vs.length=ps.length)
  (tx:∀(A:Around) (outer:List Env) (s:Shared) (H:Hp) (vs:List V) (Q:VK) (E:XK),e8 k (A.deeper (envOfC qual (aO st) s.heap.objs.size f (.ref c)))->sp vs H Q E->
   ∃t,eD (lE az P w K mg base N qual (aO st) f (.ref c) A outer s H E).pO (gr st) t/\t { nx:=λ_ H'=>Q .aD H',rt:=Q } (start N vs) H):ay P w K mg base az (k+1) f fd ps sp:=by
 refine vX F.ex λoc od kV doc pm an ct iB aa lk iD=>?_;subst aa;refine uW lk iD S len λA outer s H vs Q E hr pS=>?_;refine ag (tx A outer s H vs Q E hr pS) λt h q=>?_;exact ak t h.pO q
theorem vg.fun{x qual:Str}{st:Stmt}{f c:Addr}{fd:aV}(F:vg K x qual st f fd c):aW K x qual st f fd:=by
 refine vX F.ex λoc od kV doc pm an ct iB e lk iD=>?_;exact⟨⟨oc,od,kV,doc,pm,an,_,ct,iB,e,lk,iD⟩,F.kp⟩
end
end L2
namespace L2
open PySem PySem.Spec PySem.W PyProof.Rows
theorem O3{ps:List (Int×V)}{zs:List V}(h:D' (ps.map (·.2)) (λi=>(ps.map (·.1)).getD i 0) zs):∃qs:List (Int×V),qs.Perm ps/\qs.Pairwise (λa b=>a.1<b.1)/\zs=qs.map (·.2):=by
 obtain⟨p,g,ri,rfl⟩:=h;rw[aN]at g ri;have hlen:=QD g;have gp:=Yy.mp g
 have er:(List.range ps.length).map (λi=>ps.getD i (0,.aD))=ps:=by
  apply OI
  ·simp
  ·intro i h1 h2;simp[h2]
 refine⟨p.toList.map λi=>ps.getD i (0,.aD),?_,?_,?_⟩
 ·have:=gp.map λi=>ps.getD i (0,.aD);simp only[Ox]at this;rw[er]at this;exact this
 ·rw[lP];intro i j hi hj oY;rw[aN]at hi hj;have:=ri i j oY wf;unfold rk at this;have eN:=g.size;simp only[List.getElem_map,Ov];have e:∀k (hk:k<p.size),p.getD k 0=p[k]:=λk hk=>by simp[yv,hk]
  rw[e i om,e j om]at this;have e2:∀k,k<ps.length->(ps.map (·.1)).getD k 0=(ps.getD k (0,.aD)).1:=λk hk=>by simp[hk]
  have lt:∀k (hk:k<p.size),p[k]<ps.length:=λk hk=>by
   have:=g.lt (k:=k) wf;rw[e k hk]at this;exact this
  dsimp only at this;rw[e2 _ (lt i om),e2 _ (lt j om)]at this;exact this
 ·rw[sI];refine Y7 λi hi=>?_
  have hl:i<ps.length:=by
   have:=gp.mem_iff.mp hi;simpa using this
  simp[hl]
section
variable{X:Cx}
theorem abZ(M:Model)(h:Heap)(i:Int)(t:Tok):Looks M h (typeOf (.int i t)) (.type "int"):=Looks.of_pure rfl
def aic(K:W.Frag):List V->Hp->VK->Prop:=λxs H Q=>∃(p:Addr) (ps:List (Int×V)),xs=[.ref p]/\aq K H p (ps.map (·.2))/\ps.length<64/\(∀q∈ps,∃a ys,q.2=.ref a/\aF K H a (.int q.1::ys))/\(ps.map (·.1)).Nodup/\
 ∀l qs,H l=none->gE qs ps->qs.Pairwise (λa b=>a.1<b.1)->Q (.ref l) (upd H l (.lst (qs.map (·.2))))
theorem abu:kc X (.builtin "sorted") (aic X.K):=by
 intro pins s σ H xs us Q I r h;obtain⟨p,ps,rfl,hl,h64,ht,nd,q⟩:=h;obtain⟨u,rfl,rx⟩:=vals1 r;cases rx;obtain⟨au,rv,pl,hz⟩:=I.list hl;have hlen:=rv.length;rw[aN]at hlen;refine Qn (H:=H) (collect_list pl.isList ?_ (by rw[iq];omega))
 have kp:∀b o,s.heap.get? b=some o->((s.heap.push (seqObj "list" #[] 0)).update s.heap.objs.size (jO (· ++ au.toArray))).get? b=some o:=λb o e=>by
  rw[Oy _ _ _ _ (dZ (cg e))];exact bj _ e
 have tup:∀i,i<ps.length->∃a o vs n,au.getD i gq=.ref a/\s.heap.get? a=some o/\o.cls=.type "tuple"/\o.data=.seq vs n/\∃t rest,vs.toList=iW ((ps.map (·.1)).getD i 0) t::rest:=λi hi=>by
  obtain⟨a,ys,e1,e2⟩:=ht _ (GQ hi);obtain⟨vs,rv2,⟨o,eo,co,n,do_⟩,_⟩:=I.tuple e2;obtain⟨u,eu,ru⟩:=rv.get (i:=i) (x:=.ref a) (by simp[hi,e1]);cases ru;cases rv2 with
  | cons ra rr=>
   obtain⟨t,rfl⟩:=ra;exact⟨a,o,_,n,by rw[ug,eu];rfl,eo,co,do_,t,_,by simp[hi];rfl⟩
 refine⟨ps.map (·.2),λi=>(ps.map (·.1)).getD i 0,I.kept kp,rv,⟨om,λi j hi hj e=>?_,λh2=>?_⟩,λl zs hn so=>?_⟩
 ·have sj:i<ps.length:=wg;have xT:j<ps.length:=wg;have e':(ps.map (·.1))[i]'(by simpa using sj)=(ps.map (·.1))[j]'(by simpa using xT):=by simpa[sj,xT]using e
  rcases Ah i j with z | z | z
  ·exact absurd e' (lP.mp nd i j _ _ z)
  ·exact z
  ·exact absurd e'.symm (lP.mp nd j i _ _ z)
 ·refine⟨tuples' true,λA s' k=>?_⟩
  have nL:∀b o,s.heap.get? b=some o->o.cls=.type "tuple"->(∃vs n,o.data=.seq vs n)->b≠X.env.locals:=λb o e _ d z=>by
   obtain⟨m,F⟩:=I.fr;obtain⟨o',es,ep,e',d',_⟩:=F.ns;rw[z,e']at e;cases e;obtain⟨vs,n,d⟩:=d;rw[d']at d;cases d
  have at':∀i,i<ps.length->∃a o vs n,au.getD i gq=.ref a/\s'.heap.get? a=some o/\o.cls=.type "tuple"/\o.data=.seq vs n/\∃t rest,vs.toList=iW ((ps.map (·.1)).getD i 0) t::rest:=λi hi=>by
   obtain⟨a,o,vs,n,e1,e2,e3,e4,e5⟩:=tup i hi;exact⟨a,o,vs,n,e1,k _ _ (nL a o e2 e3 ⟨vs,n,e4⟩) (kp _ _ e2),e3,e4,e5⟩
  constructor
  ·intro Q' hQ
   have kt:∀m,m<=ps.length->∃fs:List Value,fs.length=m/\KatTups s'.heap (au.drop (ps.length-m)) fs/\∀v∈fs,∃i t,v=iW i t:=λm=>by
    induction m with
    | zero=>
     intro _;refine⟨[],rfl,?_,λv hv=>nomatch hv⟩;rw[List.drop_of_length_le om];exact .nil
    | succ m ih=>
     intro hm;obtain⟨fs,h1,h2,h3⟩:=ih om;obtain⟨a,o,vs,n,e1,e2,e3,e4,t,rest,e5⟩:=at' (ps.length-(m+1)) om
     have hd:au.drop (ps.length-(m+1))=.ref a::au.drop (ps.length-m):=by
      rw[List.drop_eq_getElem_cons om,show ps.length-(m+1)+1=ps.length-m by omega]
      congr 1
      rw[<-e1];simp[show ps.length-(m+1)<au.length by omega]
     rw[hd];refine⟨iW ((ps.map (·.1)).getD (ps.length-(m+1)) 0) t::fs,by rw[jv,h1],.cons e2 e3 e4 ?_ h2,λv hv=>?_⟩
     ·have:vs.toList[0]?=some (iW ((ps.map (·.1)).getD (ps.length-(m+1)) 0) t):=by rw[e5];rfl
      rw[z0]at this;exact this
     ·rcases cx.mp hv with z | z
      ·exact⟨_,_,z⟩
      ·exact h3 v z
   obtain⟨fs,h1,h2,h3⟩:=kt ps.length (aH _);rw[Nat.sub_self,List.drop_zero]at h2;refine kat_kind (T:=.type "int") h2 om (λv hv=>?_) qc (by rw[show (jz "int" != jz "tuple")=true by decide];exact hQ);obtain⟨i,t,e⟩:=h3 v hv;rw[e];exact abZ _ _ _ _
  ·intro i j C hi hj ne c;obtain⟨a,o,vs,n,e1,e2,e3,e4,t,rest,e5⟩:=at' i wg;obtain⟨a',o',oS,n',Cu,e2',e3',e4',t',aoM,e5'⟩:=at' j wg;unfold kas_ask;rw[e1,Cu];refine kat_lt e2 e4 e2' e4' ?_;rw[e5,e5'];refine kat_cons (wpAny_eqBool_int ?_)
   have iU:(ps.map (·.1)).getD i 0≠(ps.map (·.1)).getD j 0:=λe=>by
    have sj:i<ps.length:=wg;have xT:j<ps.length:=wg;have e':(ps.map (·.1))[i]'(by simpa using sj)=(ps.map (·.1))[j]'(by simpa using xT):=by simpa[sj,xT]using e
    rcases Zf ne with z | z
    ·exact absurd e' (lP.mp nd i j _ _ z)
    ·exact absurd e'.symm (lP.mp nd j i _ _ z)
   rw[show ((ps.map (·.1)).getD i 0 == (ps.map (·.1)).getD j 0)=false by simpa using iU];exact kat_no (oneLt_int c)
 ·obtain⟨qs,g,pw,rfl⟩:=O3 so;exact q l qs hn g pw
end
def nJ(xs:Array Nat):Prop:=xs.toList.Pairwise (· < ·)
theorem D9{xs:Array Nat}(h:nJ xs){i k:Nat}(Xp:i<k)(hk:k<xs.size):xs[i]<xs[k]:=by
 have:=lP.mp h i k (by simpa using Pe Xp hk) (by simpa using hk) Xp;simpa using this
theorem IX{xs:Array Nat}(h:nJ xs)(j:Nat):∀f lo hi,lo<=hi->hi<=xs.size->hi-lo<=f->(∀i (_:i<xs.size),i<lo->xs[i]<j)->(∀i (_:i<xs.size),hi<=i->j<=xs[i])->
  Gv xs j f lo hi<=xs.size/\(∀i (_:i<xs.size),i<Gv xs j f lo hi->xs[i]<j)/\∀i (_:i<xs.size),Gv xs j f lo hi<=i->j<=xs[i]
 | 0,lo,hi,h1,h2,h3,a,b=>by
  have:lo=hi:=om;subst this;exact cV h2 a b
 | f+1,lo,hi,h1,h2,h3,a,b=>by
  unfold Gv
  by_cases de:lo<hi
  ·rw[if_pos de];have hm:(lo+hi)/2<hi:=om;have xR:lo<=(lo+hi)/2:=om;have Xh:(lo+hi)/2<xs.size:=wh;have eg:xs.getD ((lo+hi)/2) j=xs[(lo+hi)/2]:=by simp[yv,Xh]
   dsimp only;rw[eg]
   by_cases hb:xs[(lo+hi)/2]<j
   ·rw[if_pos hb];refine IX h j f _ _ xf h2 om (λi sj hl=>?_) b
    by_cases z:i=(lo+hi)/2
    ·subst z;exact hb
    ·exact Pe (D9 h om Xh) hb
   ·rw[if_neg hb];refine IX h j f _ _ xR w3 om a λi sj hl=>?_
    by_cases z:i=(lo+hi)/2
    ·subst z;omega
    ·have:=D9 h (i:=(lo+hi)/2) (k:=i) om sj;omega
  ·rw[if_neg de];have:lo=hi:=om;subst this;exact cV h2 a b
theorem HD{xs:Array Nat}(h:nJ xs)(j:Nat):fZ xs j<=xs.size/\(∀i (_:i<xs.size),i<fZ xs j->xs[i]<j)/\∀i (_:i<xs.size),fZ xs j<=i->j<=xs[i]:=
 IX h j xs.size 0 xs.size (bU _) (aH _) (aH _) (λ_ _ z=>absurd z (Nat.not_lt_zero _)) λi hi z=>absurd hi (Nat.not_lt.mpr z)
theorem Qc{xs:Array Nat}(h:nJ xs){i:Nat}(hi:i<xs.size):fZ xs (xs[i]+1)=i+1:=by
 refine iP (HD h (xs[i]+1)) λh1 h2 h3=>?_;rcases Ah (fZ xs (xs[i]+1)) (i+1)with z | z | z
 ·have:=h3 i hi om;omega
 ·exact z
 ·have hs:i+1<xs.size:=wh;have a:=h2 (i+1) hs z;have b:=D9 h (i:=i) (k:=i+1) w1 hs;omega
theorem Qb{xs:Array Nat}(h:nJ xs):fZ xs 0=0:=by
 refine iP (HD h 0) λh1 h2 h3=>?_;rcases Nat.eq_zero_or_pos (fZ xs 0)with z | z
 ·exact z
 ·have:=h2 0 wh z;omega
theorem acI{xs:Array Nat}{j:Nat}(h:nJ xs)(hn:xs[fZ xs j]? ≠ some j):nJ (bw.insertAt xs (fZ xs j) j):=by
 refine iP (HD h j) λh1 h2 h3=>?_;unfold nJ;rw[bw.toList_insertAt]
 have ht:∀x∈xs.toList.take (fZ xs j),x<j:=λx hx=>by
  refine oE (sA hx) λi aa=>?_;refine oE aa λhi e=>?_;rw[gU,lQ]at hi;rw[List.getElem_take,Ov]at e;rw[<-e];exact h2 i om om
 have hd:∀x∈xs.toList.drop (fZ xs j),j<x:=λx hx=>by
  refine oE (sA hx) λi aa=>?_;refine oE aa λhi e=>?_;rw[OH,lQ]at hi;rw[List.getElem_drop,Ov]at e;have de:fZ xs j+i<xs.size:=om;have a:=h3 (fZ xs j+i) de om;rw[<-e];rcases Nat.lt_or_ge j xs[fZ xs j+i]with z | z
  ·exact z
  ·exfalso;have eq:xs[fZ xs j+i]=j:=om
   by_cases i0:i=0
   ·subst i0;exact hn (by rw[YE om];exact congrArg some eq)
   ·have b:=h3 (fZ xs j) om (aH _);have c:=D9 h (i:=fZ xs j) (k:=fZ xs j+i) om de;omega
 refine Y0.mpr (cV (h.sublist (Zv _ _)) (Zh.mpr ⟨hd,h.sublist (List.drop_sublist _ _)⟩) λx hx y hy=>?_);rcases cx.mp hy with z | z
 ·rw[z];exact ht x hx
 ·exact Pe (ht x hx) (hd y z)
structure nv(led:Bool)(t:bw):Prop where
 MT:t.dummies=#[]
 led:t.led=led
 asc:t.plain=true->nJ t.place
theorem acW(led:Bool):nv led (.fresh 0 0 led):=⟨rfl,rfl,λ_=>.nil⟩
theorem C4{led:Bool}{t:bw}(h:nv led t)(n:Nat):nv led (t.standIn n):=⟨rfl,h.led,λz=>by cases z⟩
theorem ahW{led:Bool}{t:bw}(h:nv led t)(n:Nat):nv led (t.orStandIn n):=by
 unfold bw.orStandIn
 split
 ·exact h
 ·exact C4 h n
theorem has_none(j:Nat):Pb #[] j=false:=by simp[Pb]
theorem PH{t:bw}{hash:Nat->Int}{h:Int}(hd:t.dummies=#[])(iU:∀i,(hash i == h)=false):∀f (p:bw.Probe) j d,p.dummy=none->Zs t hash h f p=some (.empty j d)->d=none/\t.slot j=.empty
 | 0,p,j,d,_,e=>by cases e
 | f+1,p,j,d,hp,e=>by
  unfold Zs at e;cases q:t.slot p.j with
  | empty=>
   rw[q]at e;simp only[yb,aoJ]at e;refine oA e λaa aX=>?_;clear e;subst aa;subst aX;exact⟨hp,q⟩
  | dummy=>
   exfalso;unfold aa3 at q;rw[hd,has_none]at q;dsimp only at q
   split at q
   ·cases q
   ·simp at q
  | live i=>
   rw[q]at e;simp only[iU i,pX,if_false]at e;refine PH hd iU f _ j d ?_ e;unfold bw.advance
   split
   ·exact hp
   ·exact hp
theorem af0{led:Bool}{t:bw}{j:Nat}(h:nv led t)(hs:t.slot j=.empty):nv led (t.put j).1:=by
 refine⟨?_,h.led,λz=>?_⟩
 ·show (if Pb t.dummies j then _ else t.dummies)=#[];rw[h.MT,has_none];rfl
 ·refine acI (h.asc z) λe=>?_;unfold aa3 at hs;dsimp only at hs;rw[if_pos (by rw[e];simp)]at hs;cases hs
theorem ab3{led:Bool}{t:bw}(ht:nv led t)(es:Array (Int×Value))(h:Int)(x:Value):nv led (layNew t es h x).2.1:=by
 unfold layNew
 split
 ·rename_i slot wd e
  refine ahW ?_ _;unfold bw.freeSlot at e
  split at e
  ·rename_i j d q
   obtain⟨hd,hs⟩:=PH ht.MT (λi=>by simp;omega) _ _ _ _ rfl q;subst hd;simp only[Option.getD_none,Option.isSome_none,yb,Hi]at e;refine oA e λaa _=>?_;clear e;subst aa;exact af0 ht hs
  ·cases e
 ·exact C4 ht _
theorem afN{mask:Nat}(g:Nat->Option Nat):nJ ((((List.range (mask+1)).filterMap λj=>(g j).map (j,·)).map (·.1)).toArray):=by
 unfold nJ;rw[Ox,List.map_filterMap];refine OZ.filterMap (R:=(· < ·)) _ (λa b hab x hx y hy=>?_) YR;cases ga:g a with
 | none=>rw[ga]at hx;simp at hx
 | some u=>
  cases gb:g b with
  | none=>rw[gb]at hy;simp at hy
  | some v=>
   rw[ga]at hx;rw[gb]at hy;simp at hx hy;omega
theorem acV{led:Bool}{t:bw}(ht:nv led t)(es:Array (Int×Value))(wanted:Nat):nv led (AQ t es wanted).2.1:=by
 unfold AQ
 split
 ·rename_i t' order e
  dsimp only
  split
  ·unfold bw.relaid bw.laid at e;cases o:bw.layClean (bw.sizeAbove wanted-1) (es.map (·.1))with
   | none=>rw[o]at e;cases e
   | some owner=>
    rw[o]at e;simp only[Option.bind_eq_bind,Option.bind_some,Option.pure_def,yb,Hi]at e;refine oA e λaa _=>?_;clear e;subst aa;exact⟨rfl,ht.led,λ_=>afN _⟩
  ·exact C4 ht _
 ·exact C4 ht _
def nH(w:World):Bool:=w.params.followText "set-order"
def oF(P:Program)(w:World)(e:Int×Value)(k:Int):Prop:=e.1=(intKind P w).hash k/\∃t,e.2=.int k t
def jD(P:Program)(w:World)(h:Heap)(a:Addr)(ns:List Int):Prop:=
 ∃o es ep t ks,h.get? a=some o/\o.ExactSet/\o.data=.set es ep t/\Paired (oF P w) es.toList ks/\gE ks ns/\ns.Nodup/\t.fits es.size=true/\nv (!nH w) t
theorem ye{α β:Type}{F:α->β->Prop}:∀{l:List α} {r:List β},Paired F l r->l.length=r.length
 | _,_,.nil=>rfl
 | _,_,.cons _ t=>by simp[ye t]
section
variable{P:Program}{w:World}{A:Around}{E:Value->Shared->Prop}{s:Shared}{a:Addr}{ns:List Int}
theorem RB:∀{l:List (Int×Value)} {ks:List Int},Paired (oF P w) l ks->ElemsOf (intKind P w) l
 | _,_,.nil=>λe he=>nomatch he
 | _,_,.cons ⟨h1,t,h2⟩ r=>λe he=>by
  rcases cx.mp he with z | z
  ·rw[z];exact⟨⟨_,by rw[h2];exact HG _ _ _ _,h1⟩,by rw[h2];rfl⟩
  ·exact RB r e z
theorem akH{k k':Int}{v:Value}{t:Tok}(e:v=.int k' t):(intKind P w).is k v=decide (k=k'):=by
 rw[e];exact KeyKind.is_eq_decide (HG _ _ _ _) k
theorem Ra{k:Int}:∀{l:List (Int×Value)} {ks:List Int},Paired (oF P w) l ks->((l.findIdx? λe=>(intKind P w).is k e.2).isSome=true↔k∈ks)
 | _,_,.nil=>by simp
 | _,_,.cons (a:=e) (b:=k') ⟨h1,t,h2⟩ r=>by
  have ih:=Ra (k:=k) r;rw[List.findIdx?_cons,akH h2]
  by_cases z:k=k'
  ·subst z;simp
  ·rw[decide_eq_false z,if_neg dG,Option.isSome_map,ih,cx];exact⟨.inr,λh=>h.resolve_left z⟩
theorem Hr{l l':List (Int×Value)}{ks:List Int}(p:gE l' l)(h:Paired (oF P w) l ks):∃Nj,gE Nj ks/\Paired (oF P w) l' Nj:=by
 induction p generalizing ks with
 | nil=>cases h;exact⟨[],.nil,.nil⟩
 | cons x _ ih=>
  cases h with
  | cons hx r=>
   refine ag (ih r) λNj q r'=>?_;exact ak _ (q.cons _) (.cons hx r')
 | swap x y l=>
  cases h with
  | cons hx r=>
   cases r with
   | cons hy r=>exact⟨_,.swap _ _ _,.cons hy (.cons hx r)⟩
 | trans _ _ ih1 ih2=>
  refine ag (ih2 h) λk2 q2 r2=>?_;refine ag (ih1 r2) λk1 q1 r1=>?_;exact ak k1 (q1.trans q2) r1
theorem PJ{x:Int×Value}{k:Int}(hx:oF P w x k):∀{l:List (Int×Value)} {ks:List Int},Paired (oF P w) l ks->Paired (oF P w) (l++[x]) (ks++[k])
 | _,_,.nil=>.cons hx .nil
 | _,_,.cons h t=>.cons h (PJ hx t)
theorem PD{o:Obj}{es lO:Array (Int×Value)}{ep:Nat}{t t':bw}{ks:List Int}(q:s.heap.get? a=some o)(x:o.ExactSet)(d:o.data=.set es ep t)(r:Paired (oF P w) lO.toList ks)(p:gE ks ns)(nd:ns.Nodup)(f:t'.fits lO.size=true)(tb:nv (!nH w) t') :
  (s.heap.update a (AD lO t')).get? a=some { o with data:=.set lO (ep+1) t' }/\jD P w (s.heap.update a (AD lO t')) a ns:=by
 have g:(s.heap.update a (AD lO t')).get? a=some { o with data:=.set lO (ep+1) t' }:=by
  have z:=sv (AD lO t') q (by rw[putSet_of lO t' d];rfl);rw[putSet_of lO t' d]at z;exact z
 exact⟨g,⟨_,lO,ep+1,t',ks,g,x,rfl,r,p,nd,f,tb⟩⟩
theorem Qp{g:Bool->Sem Unit}(hg:∀(b:Bool) (s1:Shared) (Q':Unit->Shared->Prop),Q' () s1->wpAny (model P w) A (g b) Q' E s1){o:Obj}{es iF:Array (Int×Value)}{ep:Nat}{t t2:bw}{ks:List Int}{wd:Bool}{R:Option Bool->Shared->Prop}
  (q:s.heap.get? a=some o) (x:o.ExactSet) (d:o.data=.set es ep t) (r:Paired (oF P w) iF.toList ks) (p:gE ks ns) (nd:ns.Nodup) (lb:iF.size<AI) (f:t2.fits iF.size=true) (tb:nv (!nH w) t2)
  (k:∀h',gD a s.heap h'->jD P w h' a ns->R (some true) { s with heap:=h' }) :
  wpAny (model P w) A (do storeSet a iF t2;if (!wd&&t2.tooFull)=true then (do g (AQ t2 iF (yf iF.size)).2.2;storeSet a (AQ t2 iF (yf iF.size)).1 (AQ t2 iF (yf iF.size)).2.1;pure (some true)) else pure (some true)) R E s:=by
 refine oA (PD (s:=s) q x d r p nd f tb) λq1 S1=>?_;have b1:=lh s.heap a (AD iF t2);refine ah (wpAny_storeSet_of q d ?_ (fits_of_scanBound lb))
 split
 ·have rp:=relayAll_perm t2 iF (yf iF.size);have rf:=relayAll_fits t2 iF (yf iF.size);have rt:=acV tb iF (yf iF.size);generalize AQ t2 iF (yf iF.size)=Y at rp rf rt ⊢;obtain⟨es2,t3,gv⟩:=Y;dsimp only at rp rf rt ⊢;refine ag (Hr rp r) λks2 p2 r2=>?_;have zz:es2.size=iF.size:=by rw[<-lQ,rp.length_eq,lQ]
  refine ah (hg _ _ _ (ah (wpAny_storeSet_of q1 rfl ?_ (fits_of_scanBound (by rw[zz];exact lb)))));refine oA (PD (s:={ s with heap:=s.heap.update a (AD iF t2) }) q1 x rfl r2 (p2.trans p) nd rf rt) λ_ S2=>?_;exact aG (k _ (b1.trans (lh _ a _)) S2)
 ·exact aG (k _ b1 S1)
def oC(k:Int)(ns:List Int):List Int:=if k∈ns then ns else ns++[k]
theorem ad6{k:Int}{tk:Tok}{Q:Bool->Shared->Prop}(S:jD P w s.heap a ns)(lb:ns.length+1<AI)(h:∀b h',gD a s.heap h'->jD P w h' a (oC k ns)->Q b { s with heap:=h' }) :
  wpAny (model P w) A (setAddHashed a (.int k tk) ((intKind P w).hash k)) Q E s:=by
 obtain⟨o,es,ep,t,ks,q,x,d,r,p,nd,f,tb⟩:=S;have el:=RB r;have hz:es.size=ns.length:=by rw[<-lQ,ye r,p.length_eq]
 have kk:(intKind P w).is k (.int k tk)=true:=HG _ _ _ _;unfold setAddHashed setAddHashedIn;refine(nW (ah (Af q d f ?_)));dsimp only;rw[byScan_of (knd:=intKind P w) (x:=.int k tk) rfl om el];simp only[↓reduceIte];unfold setAddByScan;refine ah (ah (v3 (ah (wpAny_setScan_of kk q d f el ?_))));have sm:=Ra (k:=k) r;cases sc:List.findIdx? (λe=>(intKind P w).is k e.2) es.toList with
 | some j=>
  dsimp only;have mem:k∈ns:=p.mem_iff.mp (sm.mp (by rw[sc];rfl));refine aG (aG ?_);have e:oC k ns=ns:=if_pos mem;exact h false s.heap (gD.refl a s.heap) (by rw[e];exact⟨o,es,ep,t,ks,q,x,d,r,p,nd,f,tb⟩)
 | none=>
  dsimp only
  have nm:k∉ns:=λz=>by
   have:=sm.mpr (p.mem_iff.mpr z);rw[sc]at this;cases this
  have e:oC k ns=ns++[k]:=if_neg nm;have gw:∀(b:Bool) {s1:Shared} {Q':Unit->Shared->Prop},Q' () s1->wpAny (model P w) A (match b with | true=>rule "set.scan.the-table-gave-way" | false=>pure ()) Q' E s1:=λb s1 Q' z=>by cases b <;> first | exact aG z | exact v3 z
  have lp:=layNew_perm t es ((intKind P w).hash k) (.int k tk);have lf:=layNew_fits t es ((intKind P w).hash k) (.int k tk);have lt:=ab3 tb es ((intKind P w).hash k) (.int k tk);generalize layNew t es ((intKind P w).hash k) (.int k tk)=Y at lp lf lt ⊢;obtain⟨iF,t1,wd,gv⟩:=Y;dsimp only at lp lf lt ⊢;rw[Array.toList_push]at lp;refine ag (Hr lp (PJ (x:=((intKind P w).hash k,.int k tk)) (k:=k) ⟨rfl,tk,rfl⟩ r)) λks1 p1 r1=>?_;have pp:gE ks1 (oC k ns):=by rw[e];exact p1.trans (p.append_right _)
  have nn:(oC k ns).Nodup:=by
   rw[e];refine Zw.mpr (cV nd (by simp) λy hy z hz=>?_);rw[ip.mp hz];intro ez;exact nm (ez ▸ hy)
  have W4:iF.size<AI:=by
   rw[<-lQ,lp.length_eq,eI,lQ,hz];exact lb
  have fin:∀h',gD a s.heap h'->jD P w h' a (oC k ns)->Q true { s with heap:=h' }:=λh'=>h true h';refine ah (gw _ ?_);have WH:∀(b:Bool) (s1:Shared) (Q':Unit->Shared->Prop),Q' () s1->wpAny (model P w) A (match b with | true=>rule "set.scan.the-table-gave-way" | false=>pure ()) Q' E s1:=λb s1 Q' z=>gw b z
  split
  ·refine ah ?_;rw[hashByValue_scannable 8 (x:=.int k tk) rfl];refine aG (Qp WH q x d r1 pp nn W4 ?_ ?_ λh' sb S'=>?_)
   ·split
    ·exact lf
    ·exact bw.fits_plain_off lf
   ·split
    ·exact lt
    ·exact⟨lt.MT,lt.led,λz=>by cases z⟩
   ·dsimp only;exact aG (fin h' sb S')
  ·refine ah (aG ?_);simp only[↓reduceIte];refine Qp WH q x d r1 pp nn W4 lf lt λh' sb S'=>?_;dsimp only;exact aG (fin h' sb S')
end
theorem jD.keep{P:Program}{w:World}{h h':Heap}{a:Addr}{ns:List Int}(S:jD P w h a ns)(k:∀o,h.get? a=some o->h'.get? a=some o):jD P w h' a ns:=
 let ⟨o,es,ep,t,ks,q,r⟩:=S;⟨o,es,ep,t,ks,k o q,r⟩
def nk(ns:List Int):List Int:=ns.foldl (λacc k=>oC k acc) []
def qp(val:Nat->Int)(i:Nat):List Int:=nk ((List.range i).map val)
theorem PK(val:Nat->Int)(i:Nat):qp val (i+1)=oC (val i) (qp val i):=by
 unfold qp nk;rw[uj,iH,List.foldl_append];rfl
theorem afP(k:Int)(ns:List Int):(oC k ns).length<=ns.length+1:=by
 unfold oC
 split
 ·exact lx _
 ·rw[eI,YX];exact aH _
theorem HP(val:Nat->Int):∀i,(qp val i).length<=i
 | 0=>aH _
 | i+1=>by
  rw[PK];have:=afP (val i) (qp val i);have:=HP val i;omega
theorem afO{k x:Int}{ns:List Int}:x∈oC k ns↔x=k\/x∈ns:=by
 unfold oC
 split
 ·rename_i h
  exact⟨.inr,λz=>z.elim (λe=>e ▸ h) id⟩
 ·simp[or_comm]
theorem QK{x:Int}:∀{l acc:List Int},x∈l.foldl (λacc k=>oC k acc) acc↔x∈l\/x∈acc
 | [],acc=>by simp
 | k::l,acc=>by
  rw[List.foldl_cons,QK,afO,cx];constructor
  ·rintro(h | h | h)
   ·exact .inl (.inr h)
   ·exact .inl (.inl h)
   ·exact .inr h
  ·rintro((h | h) | h)
   ·exact .inr (.inl h)
   ·exact .inl h
   ·exact .inr (.inr h)
theorem aej{x:Int}{ns:List Int}:x∈nk ns↔x∈ns:=by
 unfold nk;rw[QK];simp
section
variable{P:Program}{w:World}{A:Around}{E:Value->Shared->Prop}{s:Shared}
theorem ad2{I S:Addr}{fp wr:List Addr}{n:Nat}{Pv:Nat->Value->Prop}{St:Nat->Heap->Prop}{R:Result->Shared->Prop}(W:Walks P w A.in1 I fp wr n Pv St)(F5:S∉fp)(val:Nat->Int)(Mh:∀i v,Pv i v->∃t,v=.int (val i) t)(hb:n+1<AI) :
  ∀(k i:Nat) (s:Shared),n-i=k->i<=n->St i s.heap->jD P w s.heap S (qp val i)->
   (∀h' tk,(∀b o,b∉S::wr->s.heap.get? b=some o->h'.get? b=some o)->jD P w h' S (qp val n)->R (.ok (.ret .none)) { s with heap:=h',toks:=tk })->
   codeAny (model P w) A (.builtin "set.update.loop" ⟨[.ref S,.ref I],[]⟩) R s:=by
 have Xz:S∉wr:=λh=>F5 (W.sub _ h);intro k
 induction k with
 | zero=>
  intro i s hk hi st hS hR;have ei:i=n:=om;subst ei;refine(sG YN (?_:wpAny _ _ _ _ _ s));rw[(ui Om _)];show wpAny _ A.in1 (pyNext (.ref I) >>= _) _ _ s;refine ah (W.done s _ _ st λh' tk kk=>(?_:wpAny _ A.in1 (ret gq) _ _ _));exact aG (hR h' tk (λb o hb e=>kk b o (λz=>hb (eV _ z)) e) (hS.keep λo e=>kk _ _ Xz e))
 | succ k ih=>
  intro i s hk hi st hS hR;refine(sG YN (?_:wpAny _ _ _ _ _ s));rw[(ui Om _)];show wpAny _ A.in1 (pyNext (.ref I) >>= _) _ _ s;refine ah (W.item i s _ _ om st λv h' tk hP rY kk=>?_);refine oE (Mh i v hP) λt aa=>?_;subst aa;have hS1:=hS.keep (h':=h') λo e=>kk _ _ Xz e;refine(ah (nW (?_:wpAny _ A.in1 (setAdd S (.int (val i) t)) _ _ { s with heap:=h',toks:=tk })));unfold setAdd;refine nW (ah ((intKind P w).pyHash (k:=val i) (HG _ _ _ _) ?_));have hl:=HP val i;refine ad6 (s:={ s with heap:=h',toks:=tk+1 }) hS1 om λb h2 sb hS2=>?_;have so:∀b,b≠S->h2.get? b=h'.get? b:=λb z=>sb.2 b z;refine aG ⟨um Om _,ih (i+1) { s with heap:=h2,toks:=tk+1 } om om (W.frame _ _ _ rY λb hb o e=>?_) (by rw[PK];exact hS2) λh3 tk3 k3 hS3=>?_⟩
  ·rw[so b λz=>F5 (z ▸ hb)];exact e
  ·refine hR h3 tk3 (λb o hb e=>k3 b o hb ?_) hS3;rw[so b λz=>hb (z ▸ fX)];exact kk b o (λz=>hb (eV _ z)) e
abbrev qh(w:World):Obj:={ cls:=.type "set",dict:=none,data:=.set #[] 0 (.fresh 0 0 (!nH w)) }
theorem ad5{h:Heap}{a:Addr}(e:h.get? a=some (qh w)):jD P w h a []:=⟨_,#[],0,_,[],e,⟨rfl,rfl,rfl⟩,rfl,.nil,.nil,.nil,rfl,acW _⟩
theorem af6(x:Value){Q:Value->Shared->Prop}(h:Q (.ref s.heap.objs.size) { s with heap:=s.heap.push (qh w) }):codeAny (model P w) A (.call (.builtin "set.__new__") ⟨[.type "set",x],[]⟩) (wants Q E) s:=by
 refine ON (?_:wpAny _ A.in1 (do checkBuiltinCall "set.__new__" ⟨[.type "set",x],[]⟩;again (.builtin "set.__new__" ⟨[.type "set",x],[]⟩)) _ _ s);refine ah (Dc (F.newCall_set_1 x) (aG ⟨um F.plain_set_new _,(sG F.entry_set_new (?_:wpAny _ _ _ _ _ s))⟩));rw[(ui F.plain_set_new _)];unfold Builtin.«set.__new__» Builtin.Frozenset.newClass;have Mj:=sub_set_self;obtain⟨hp,g,d,tk,os⟩:=s;dsimp only
 wp_walk
 refine OG (aG ?_);dsimp only;simp only[newObj];exact ah (wpAny_alloc (aG (aG h)))
set_option maxHeartbeats 6000000 in
theorem ad4{l:Addr}{items:Array Value}{ns:List Int}{Q:Value->Shared->Prop}(hh:A.handled=none)(hl:s.heap.IsList l items)(hi:IntsAre items.toList ns)(hb:items.size+1<AI)
  (h:∀(h':Heap) (tk:Nat),jD P w h' s.heap.objs.size (qp (λi=>ns.getD i 0) items.size)->(∀b o,s.heap.get? b=some o->h'.get? b=some o)->Q (.ref s.heap.objs.size) { s with heap:=h',toks:=tk }) :
  wpAny (model P w) A (call (.type "set") [.ref l]) Q E s:=by
 refine vk vW.mro λc tl apf=>?_;have aoO:=vW.made;have Mj:=vW.sub;refine yt (ON (?_:wpAny _ _ (callAny (.type "set") _) _ _ _));refine aG ⟨OC _ dk,(sG F.entry_type_call (?_:wpAny _ _ _ _ _ s))⟩;rw[Around.under_plain (weight_type_call_type "set" [.ref l] []) rfl];have h1:=vW.notType;have h2:=vW.canCreate;have NS:=F.typeCall_set_1 (.ref l)
 repeat (any_goals (first | assumption | wp_step))
 refine vV (af6 (.ref l) (E:=E) (Q:=λobj s₁=>obj=.ref s.heap.objs.size/\s₁={ s with heap:=s.heap.push (qh w) }) ⟨rfl,rfl⟩) λr s₁ hr=>?_;cases r with
 | error e=>exact hr
 | ok fl=>
  cases fl with
  | ret obj=>
   refine oA hr λaa aX=>?_;clear hr;subst aa;subst aX;have hS:(s.heap.push (qh w)).get? s.heap.objs.size=some (qh w):=eO _ rfl;have hT:OY { s with heap:=s.heap.push (qh w) } (.ref s.heap.objs.size) "set":=⟨_,hS,rfl⟩;have NG:=vW.init.lookup;have hbi:=vW.init.bind (.ref s.heap.objs.size)
   repeat (any_goals (first | assumption | wp_step))
   refine vV (codeAny_call_builtin (R:=wants (λr s₂=>r=.none/\∃h' tk,s₂={ s with heap:=h',toks:=tk }/\jD P w h' s.heap.objs.size (qp (λi=>ns.getD i 0) items.size)/\(∀b o,s.heap.get? b=some o->h'.get? b=some o)) E) vW.init.plain F.entry_set_init (check_set_init_1 hT ?_)) λr₂ s₂ FJ=>?_
   ·refine aJ hl λol xJ nN aa=>?_;refine oE aa λnl NP=>?_;obtain⟨ao7,alz,aoN,ajH⟩:=ol;simp only at nN NP;subst nN;subst NP;have am':(s.heap.push (qh w)).get? l=some { cls:=.type "list",dict:=alz,data:=.seq items nl,slots:=ajH }:=bj _ xJ;have apa:=F.sub_list_set;have apb:=F.sub_list_frozenset;have iU:(jz "list" == jz "dict")=false:=qc;have oX:(s.heap.push (qh w)).IsList l items:=⟨_,am',rfl,nl,rfl⟩;unfold Builtin.«set.__init__» noKeywords Builtin.Frozenset.updateFrom;generalize hPI:pyIter=PI
    wp_walk
    subst hPI;refine(CI oX (ah (wpAny_runValue ?_)));have Xl:l<s.heap.objs.size:=cg xJ;have hh3:A.in1.in1.in1.handled=none:=by simp[hh]
    have z1:(s.heap.push (qh w)).objs.size=s.heap.objs.size+1:=lS _ _;have ane:l≠(s.heap.push (qh w)).objs.size:=by rw[z1];exact dZ (CJ Xl)
    have F5:s.heap.objs.size∉[(s.heap.push (qh w)).objs.size,l]:=by
     rw[z1];simp only[cx,ip,ZJ,or_false,not_or];exact⟨dZ (Ai _),qS Xl⟩
    have Mh:∀(i:Nat) (v:Value),items[i]?=some v->∃t,v=.int ((λi=>ns.getD i 0) i) t:=λi v hv=>OS hi i v (by rw[z0];exact hv);refine ad2 (HI hh3 _ l ane items) F5 (λi=>ns.getD i 0) Mh hb (items.size-0) 0 _ om (bU _) ⟨⟨_,eO _ rfl,rfl,rfl⟩,(oX.push _)⟩ (ad5 (bj _ hS)) λh' tk kk S'=>?_;refine(aG (?_:wpAny _ _ (ret gq) _ _ _));refine aG ⟨rfl,⟨h',tk,rfl,S',λb o e=>kk b o ?_ (bj _ (bj _ e))⟩⟩;have hb:=cg e;rw[z1];simp only[cx,ip,ZJ,or_false,not_or];exact⟨dZ hb,dZ (CJ hb)⟩
   ·cases r₂ with
    | error e=>exact FJ
    | ok fl₂=>
     cases fl₂ with
     | ret r=>
      refine oA FJ λaa aX=>?_;clear FJ;subst aa;refine cF aX λh' tk aa hS' xS=>?_;clear aX;subst aa
      repeat (any_goals (first | assumption | wp_step))
      exact h _ _ hS' xS
     | _=>exact FJ.elim
  | _=>exact hr.elim
end
namespace SF
theorem slot_next:Slot "set_iterator" "__next__" "set_iterator.__next__":=
 .of (owner:="set_iterator") (n:="__next__") (by rw[typeLookup_type,YW];kernel_rfl) dk dk dk (by first | exact .inl dk | exact .inr dk) (by rw[isSubtype_type];kernel_rfl)
theorem entry_next:entryFor table "set_iterator.__next__" = some Builtin.«set_iterator.__next__»:=entryFor_of_tree (by kernel_rfl)
theorem args_next(a:Value):argsOk "set_iterator.__next__" ⟨[a],[]⟩:=by unfold argsOk;kernel_rfl
theorem acE:entryFor table "set.__iter__" = some Builtin.«frozenset.__iter__»:=entryFor_alias (id':="frozenset.__iter__") (by kernel_rfl) rfl dk (by kernel_rfl)
theorem ag3:HF (.type "set") "__len__" = pure (some (.builtin "set.__len__")):=by rw[typeLookup_type,YW];kernel_rfl
end SF
theorem P6{α:Type}{l:List α}{i:Nat}(h:i<l.length):gE (l[i]::l.eraseIdx i) l:=by
 have e:l.take i++l[i]::l.drop (i+1)=l:=by rw[List.getElem_cons_drop,List.take_append_drop]
 rw[List.eraseIdx_eq_take_drop_succ];have p:gE (l[i]::(l.take i++l.drop (i+1))) (l.take i++l[i]::l.drop (i+1)):=ZI.symm;rw[e]at p;exact p
section
variable{M:Model}{A:Around}{E:Value->Shared->Prop}{s:Shared}
theorem acF{src:Source}{n:Nat}{Q:Nat->Shared->Prop}(hn:n≠0)(h:∀i d,i<n->Q i { s with drawn:=d }):wpAny M A (choose src n) Q E s:=
 λΓ p _=>⟨hn,h _ _ (Nat.mod_lt _ (Nat.pos_of_ne_zero hn))⟩
theorem QQ{α:Type}:∀(n:Nat) (xs:List α) (s:Shared) {Q:List α->Shared->Prop},xs.length=n->(∀ys d,gE ys xs->Q ys { s with drawn:=d })->wpAny M A (drawOrder n xs) Q E s
 | 0,xs,s,Q,hl,h=>by
  have e:xs=[]:=nU.mp hl;subst e;exact aG (h [] s.drawn .nil)
 | n+1,[],s,Q,hl,h=>by cases hl
 | n+1,x::xs,s,Q,hl,h=>by
  unfold drawOrder;refine ah (acF (by simp) λi d hi=>?_);have e:(x::xs)[i]?=some ((x::xs)[i]):=aT hi;rw[e];dsimp only;refine ah (QQ n _ _ (by rw[Y1,if_pos hi,hl];rfl) λys d' hp=>aG (h _ d' ?_));exact(hp.cons _).trans (P6 hi)
end
theorem Sl{α:Type}(next:Nat->Nat):∀(n k:Nat) (left:List α) (out:Array α),left.length=n->∃ys,gE ys left/\(Pa next n k left out).toList=out.toList++ys
 | 0,k,left,out,hl=>by
  have e:left=[]:=nU.mp hl;subst e;exact ak ([]) .nil (by unfold Pa;simp)
 | n+1,k,left,out,hl=>by
  have hi:next k%left.length<left.length:=Nat.mod_lt _ om;unfold Pa;rw[aT hi];dsimp only;obtain⟨ys,hp,e⟩:=Sl next n (k+1) (left.eraseIdx (next k%left.length)) (out.push left[next k%left.length]) (by rw[Y1,if_pos hi,hl];rfl);exact ak (left[next k%left.length]::ys) ((hp.cons _).trans (P6 hi)) (by rw[e];simp)
theorem ac6{α:Type}(next:Nat->Nat)(xs:Array α):gE (v7 next xs).toList xs.toList:=by
 refine ag (Sl next xs.size 0 xs.toList #[] (by simp)) λys hp e=>?_;unfold v7;rw[e];simpa using hp
def slotAt(place:Array Nat)(i:Nat):Nat:=if i=0 then 0 else place.getD (i-1) 0+1
def Li(P:Program)(w:World)(h:Heap)(a:Addr)(es:Array (Int×Value))(ep:Nat)(t:bw)(ks ord:List Int)(first:Value)(i:Nat):Prop:=
 (nH w=true/\(∃f u,first=.int f u)/\Paired (oF P w) (v7 (w.params.setOrder a ep) es).toList ord)\/
 (nH w=false/\(!t.plain&&decide (es.size > 1))=false/\nJ t.place/\ord=ks/\first=rawInt (slotAt t.place i))\/
 (nH w=false/\∃(tp:Addr) (pl:List Nat),first=.ref tp/\IsTup h tp (pl.map λj=>rawInt (j:Nat)).toArray/\gE pl (List.range es.size)/\ord=pl.map λj=>ks.getD j 0)
def vt(P:Program)(w:World)(h:Heap)(it a:Addr)(ord:List Int)(i:Nat):Prop:=
 ∃o es ep t ks first,h.get? a=some o/\o.cls=.type "set"/\o.data=.set es ep t/\t.fits es.size=true/\Paired (oF P w) es.toList ks/\t.led=(!nH w)/\ord.length=es.size/\a≠it/\
  h.get? it=some { cls:=.type "set_iterator",data:=.fields #[first,rawInt i,.ref a,rawInt es.size,rawInt ep] }/\Li P w h a es ep t ks ord first i
section
variable{P:Program}{w:World}{A:Around}{E:Value->Shared->Prop}{s:Shared}{it a:Addr}{ord:List Int}{i:Nat}
theorem vt.keep{h h':Heap}(g:vt P w h it a ord i)(k:∀b o,o.cls≠.type "list"->h.get? b=some o->h'.get? b=some o):vt P w h' it a ord i:=by
 refine Au g λo es ep t ks first q c d f aa=>?_;refine nh aa λr l n ne e m=>?_;refine vQ o es ep t ks first (k _ _ (by rw[c];simp) q) c d f r l n ne ⟨k _ _ (by simp) e,?_⟩;rcases m with m | m | ⟨m1,tp,pl,m2,⟨ot,e1,e2,e3⟩,m4⟩
 ·exact .inl m
 ·exact .inr (.inl m)
 ·exact .inr (.inr ⟨m1,⟨tp,pl,m2,⟨ot,k _ _ (by rw[e2];simp) e1,e2,e3⟩,m4⟩⟩)
theorem HN{es:List (Int×Value)}{ks:List Int}(r:Paired (oF P w) es ks){j:Nat}(hj:j<ks.length):∃hh t,es[j]?=some (hh,.int ks[j] t):=by
 induction r generalizing j with
 | nil=>simp at hj
 | cons h _ ih=>
  cases j with
  | zero=>
   refine oA h λh1 aa=>?_;refine oE aa λt h2=>?_
   rename_i e k _ _ _
   obtain⟨e1,e2⟩:=e;simp only at h2;subst h2;exact qD e1 t rfl
  | succ j=>
   refine vk (ih (j:=j) (by simpa using hj)) λhh t e=>?_;exact qD hh t (by simpa using e)
theorem Dp{Q:Bool->Shared->Prop}(h:Q (nH w) s):wpAny (model P w) A setsByText Q E s:=by
 unfold setsByText;exact ah (OG (aG h))
theorem QB{o:Obj}{es:Array (Int×Value)}{ep slot given:Nat}{t:bw}{Q:Option (Value×Nat)->Shared->Prop}(q:s.heap.get? a=some o)(d:o.data=.set es ep t)(f:t.fits es.size=true)(hb:nH w=true)
  (h:Q (((v7 (w.params.setOrder a ep) es)[given]?).map λe=>(e.2,slot)) s):wpAny (model P w) A (setNext a slot given ep) Q E s:=by
 unfold setNext;refine ah (Af q d f (ah (Dp ?_)));dsimp only;rw[hb,if_pos rfl,if_neg (by simp)];unfold setWalk;refine ah (ah (Af q d f (ah (Dp ?_))));rw[hb,if_pos rfl];exact ah (OG (aG (aG h)))
theorem PN{o:Obj}{es:Array (Int×Value)}{ep slot given:Nat}{t:bw}{Q:Option (Value×Nat)->Shared->Prop}(q:s.heap.get? a=some o)(d:o.data=.set es ep t)(f:t.fits es.size=true)(hb:nH w=false)(hl:t.led=true)(hd:(!t.plain&&decide (es.size > 1))=false)
  (h:Q (match es[fZ t.place slot]?,t.place[fZ t.place slot]? with | some (_,x),some j=>some (x,j+1) | _,_=>none) s):wpAny (model P w) A (setNext a slot given ep) Q E s:=by
 unfold setNext;refine ah (Af q d f (ah (Dp ?_)));dsimp only;rw[hb,if_neg dG];show wpAny _ _ (if (!t.plain&&decide (es.size > 1))=true then _ else _) _ _ _;rw[hd,if_neg dG];refine ah (?_:wpAny _ _ (if (!t.led && !es.isEmpty)=true then _ else _) _ _ _);rw[hl];exact aG (aG h)
theorem HX{t:bw}{n:Nat}(f:t.fits n=true):t.place.size=n:=by
 simp only[bw.fits,jc,beq_iff_eq]at f;exact f.1
theorem D4{h:Heap}{vs:Array Value}{j:Nat}{v:Value}(e:h.get? it=some { cls:=.type "set_iterator",data:=.fields vs }):(h.update it (lU (·.setIfInBounds j v))).get? it=some { cls:=.type "set_iterator",data:=.fields (vs.setIfInBounds j v) }:=
 sv _ e rfl
theorem aeQ{Q:Option Value->Shared->Prop}(g:vt P w s.heap it a ord i)(hi:i<ord.length)(k:∀h' t,vt P w h' it a ord (i+1)->gD it s.heap h'->Q (some (.int ord[i] t)) { s with heap:=h' }):wpAny (model P w) A (pyNext (.ref it)) Q E s:=by
 refine Au g λo es ep t ks first q c d f aa=>?_;refine nh aa λr l n ne e m=>?_;have qF:s.TypeIs (.ref it) "set_iterator":=⟨_,e,rfl⟩;have kl:=ye r;rw[lQ]at kl;unfold pyNext;refine ah (CV (vN (name:=qR "__next__") qF SF.slot_next (sE SF.slot_next qF SF.entry_next (?_:wpAny _ _ (fieldsOf (.ref it) >>= _) _ _ s) (SF.args_next _))));unfold fieldsOf;refine ah (ah (HE e (aG ?_)));show wpAny _ _ (setEntries a >>= _) _ _ s;refine ah (Ow q d f ?_);simp only[bne_self_eq_false,pX,if_false,iG]
 have VQ:∀(nx:Nat) (u:Tok),Li P w ((s.heap.update it (lU (·.setIfInBounds 0 (rawInt (nx:Nat))))).update it (lU (·.setIfInBounds 1 (rawInt ((i:Int)+1))))) a es ep t ks ord (rawInt (nx:Nat)) (i+1)->
   wpAny (model P w) A.in1 (do setField (.ref it) 0 (rawInt (nx:Nat));setField (.ref it) 1 (rawInt ((i:Int)+1));ret (.int ord[i] u)) (λfin s'=>∃v,fin=Fin.done (Flow.ret v)/\wpAny (model P w) A (pure (some v)) Q E s') (λe s'=>wpAny (model P w) A (do
     let __do_lift <-yu e (jz "StopIteration")
     if __do_lift=true then pure none else throw e) Q E s') s:=λnx u md=>by
  have e1:=D4 (j:=0) (v:=rawInt (nx:Nat)) e;have e2:=D4 (j:=1) (v:=rawInt ((i:Int)+1)) e1;refine ah (qQ e rfl (by simp) (ah (qQ e1 rfl (by simp) (aG (ak _ rfl (aG (k _ u ?_ ((lh _ it _).trans (lh _ it _)))))))));have sb:=(lh s.heap it (lU (·.setIfInBounds 0 (rawInt (nx:Nat))))).trans (lh _ it (lU (·.setIfInBounds 1 (rawInt ((i:Int)+1)))));exact vQ o es ep t ks _ ((sb.2 a ne).trans q) c d f r l n ne ⟨e2,md⟩
 rcases m with ⟨m1,⟨f0,u0,rfl⟩,m3⟩ | ⟨m1,m2,m3,rfl,rfl⟩ | ⟨m1,tp,pl,rfl,m3,m4,m5⟩
 ·refine vk (HN m3 hi) λhh u eu=>?_;refine ah (QB q d f m1 ?_);have eg:(v7 (w.params.setOrder a ep) es)[i]?=some (hh,.int ord[i] u):=by rw[<-z0];exact eu
  rw[eg];exact VQ _ u (.inl (cV m1 ⟨_,_,rfl⟩ m3))
 ·have ps:=HX f;have hs:i<t.place.size:=om;refine vk (HN r hi) λhh u eu=>?_
  have eb:fZ t.place ((slotAt t.place i:Nat):Int).toNat=i:=by
   rw[iG];unfold slotAt
   by_cases z:i=0
   ·rw[if_pos z,z];exact Qb m3
   ·rw[if_neg z];have:=Qc m3 (i:=i-1) om;rw[show t.place.getD (i-1) 0=t.place[i-1]' om by simp[yv,show i-1<t.place.size by omega],this];omega
  refine ah (PN q d f m1 (by rw[l,m1];rfl) m2 ?_);have eg:es[fZ t.place ((slotAt t.place i:Nat):Int).toNat]?=some (hh,.int ord[i] u):=by rw[eb,<-z0];exact eu
  have zR:t.place[fZ t.place ((slotAt t.place i:Nat):Int).toNat]?=some (t.place[i]):=by rw[eb];exact YE hs
  rw[eg,zR];refine VQ _ u (.inr (.inl (rq m1 m2 m3 rfl ?_)));unfold slotAt;rw[if_neg (Nat.succ_ne_zero _),Nat.add_sub_cancel,show t.place.getD i 0=t.place[i] by simp[yv,hs]]
 ·have Wo:pl.length=es.size:=by have:=m4.length_eq;simpa using this
  have hp:i<pl.length:=om
  have hj:pl[i]<ks.length:=by
   have:=m4.mem_iff.mp (GQ hp);rw[uk]at this;exact wf
  refine aJ (id m3) λot t1 t2 aa=>?_;refine oE aa λn3 t3=>?_;refine ah (qb t1 t3 ?_);have eg:((pl.map λj=>rawInt (j:Nat)).toArray)[i]?=some (rawInt (pl[i]:Nat)):=by simp[hp]
  dsimp only;rw[eg];refine vk (HN r hj) λhh u eu=>?_;show wpAny _ _ (setNextDrawn a ((pl[i]:Nat):Int).toNat ep >>= _) _ _ s;unfold setNextDrawn;refine ah (ah (Af q d f ?_));dsimp only;rw[if_neg (by simp),iG,<-z0,eu]
  have eo:ord[i]=ks[pl[i]]:=by
   subst m5;simp[hj]
  refine aG (ah (qQ e rfl (by simp) (aG (ak _ rfl (aG ?_)))));have e2:=D4 (j:=1) (v:=rawInt ((i:Int)+1)) e;have sb:=lh s.heap it (lU (·.setIfInBounds 1 (rawInt ((i:Int)+1))))
  have ntp:tp≠it:=λz=>by
   rw[z,e]at t1;cases t1;simp at t2
  rw[<-eo];exact k _ u ⟨o,es,ep,t,ks,_,(sb.2 a ne).trans q,c,d,f,r,l,n,ne,e2,.inr (.inr ⟨m1,tp,pl,rfl,⟨ot,(sb.2 tp ntp).trans t1,t2,n3,t3⟩,m4,m5⟩)⟩ sb
end
section
variable{P:Program}{w:World}{A:Around}{E:Value->Shared->Prop}{s:Shared}{it a:Addr}{ord:List Int}{i:Nat}
theorem RL{Q:Option Value->Shared->Prop}{R:PySem.Fin->Shared->Prop}(hh:A.handled=none)(k:∀h',(∀b o,s.heap.get? b=some o->h'.get? b=some o)->Q none { s with heap:=h' }) :
  wpAny (model P w) A.in1 (do let e <-newExc (jz "StopIteration") [];raiseNew e) R (λe s'=>wpAny (model P w) A (do
     let __do_lift <-yu e (jz "StopIteration")
     if __do_lift=true then pure none else throw e) Q E s') s:=by
 refine ah ?_;simp only[newExc,newTuple];refine ah (pY (ah (m:=Hd _ _) (Dc (a:=gq) (by first | rfl | (simp only[Hd];rfl)) (pY ?_ (by size_fits)))) (by size_fits));simp only[raiseNew];refine ah (wpAny_handled ?_);rw[show A.in1.handled=none from hh];refine ah (aG (wpAny_throw ?_));refine(ah (Gz (T:="StopIteration") (b:=true) ⟨_,eO _ rfl,rfl⟩ OR ?_));exact aG (k _ λb o e=>bj _ (bj _ e))
theorem aeR{Q:Option Value->Shared->Prop}(hh:A.handled=none)(g:vt P w s.heap it a ord ord.length)(k:∀h',(∀b o,b≠it->s.heap.get? b=some o->h'.get? b=some o)->Q none { s with heap:=h' }):wpAny (model P w) A (pyNext (.ref it)) Q E s:=by
 refine Au g λo es ep t ks first q c d f aa=>?_;refine nh aa λr l n ne e m=>?_;have qF:s.TypeIs (.ref it) "set_iterator":=⟨_,e,rfl⟩;have kl:=ye r;rw[lQ]at kl;unfold pyNext;refine ah (CV (vN (name:=qR "__next__") qF SF.slot_next (sE SF.slot_next qF SF.entry_next (?_:wpAny _ _ (fieldsOf (.ref it) >>= _) _ _ s) (SF.args_next _))));unfold fieldsOf;refine ah (ah (HE e (aG ?_)));show wpAny _ _ (setEntries a >>= _) _ _ s;refine ah (Ow q d f ?_);simp only[bne_self_eq_false,pX,if_false,iG]
 have VN:wpAny (model P w) A.in1 (do setField (.ref it) 2 gq;let e <-newExc (jz "StopIteration") [];raiseNew e) (λfin s'=>∃v,fin=Fin.done (Flow.ret v)/\wpAny (model P w) A (pure (some v)) Q E s') (λe s'=>wpAny (model P w) A (do
     let __do_lift <-yu e (jz "StopIteration")
     if __do_lift=true then pure none else throw e) Q E s') s:=by
  have sb:=lh s.heap it (lU (·.setIfInBounds 2 gq));exact ah (qQ e rfl (by simp) (RL hh λh' kk=>k h' λb o z y=>kk b o ((sb.2 b z).trans y)))
 rcases m with ⟨m1,⟨f0,u0,rfl⟩,m3⟩ | ⟨m1,m2,m3,rfl,rfl⟩ | ⟨m1,tp,pl,rfl,m3,m4,m5⟩
 ·refine ah (QB q d f m1 ?_);have pl:=ye m3;rw[lQ]at pl;rw[Oq om];exact VN
 ·have ps:=HX f;refine ah (PN q d f m1 (by rw[l,m1];rfl) m2 ?_)
  have eb:fZ t.place (slotAt t.place ord.length)=ord.length:=by
   unfold slotAt
   by_cases z:ord.length=0
   ·rw[if_pos z,z];exact Qb m3
   ·rw[if_neg z];have:=Qc m3 (i:=ord.length-1) om;rw[show t.place.getD (ord.length-1) 0=t.place[ord.length-1]' om by simp[yv,show ord.length-1<t.place.size by omega],this];omega
  have eg:es[fZ t.place (slotAt t.place ord.length)]?=none:=by rw[eb];exact Oq om
  simp only[iG];rw[eg];exact VN
 ·refine aJ (id m3) λot t1 t2 aa=>?_;refine oE aa λn3 t3=>?_;have Wo:pl.length=ord.length:=by rw[m5,aN]
  refine ah (qb t1 t3 ?_);have eg:((pl.map λj=>rawInt (j:Nat)).toArray)[ord.length]?=none:=Oq (by simp[Wo]);dsimp only;rw[eg];have e1:=D4 (j:=0) (v:=rawInt 0) e;have sb:=(lh s.heap it (lU (·.setIfInBounds 0 (rawInt 0)))).trans (lh _ it (lU (·.setIfInBounds 2 gq)));exact ah (qQ e rfl (by simp) (ah (qQ e1 rfl (by simp) (RL hh λh' kk=>k h' λb o z y=>kk b o ((sb.2 b z).trans y)))))
theorem afA{S:Addr}{res:Value}{R:Result->Shared->Prop}(hh:A.handled=none)(XA:S≠it)(hz:ord.length<=aZ):∀(k i:Nat) (s:Shared) (acc:List Value) (c:Nat),ord.length-i=k->i<=ord.length->vt P w s.heap it a ord i->s.heap.get? S=some { cls:=.type "list",data:=.seq acc.toArray c }->IntsAre acc (ord.take i)->
  (∀h' EO c',(∀b o,b≠it->b≠S->s.heap.get? b=some o->h'.get? b=some o)->h'.get? S=some { cls:=.type "list",data:=.seq EO.toArray c' }->IntsAre EO ord->R (.ok (.ret res)) { s with heap:=h' })->
  codeAny (model P w) A (.builtin "list.extend.loop" ⟨[.ref S,.ref it,res],[]⟩) R s:=by
 intro k
 induction k with
 | zero=>
  intro i s acc c hk hi g eS ha hR;have ei:i=ord.length:=om;subst ei;refine(sG Y8 (?_:wpAny _ _ _ _ _ s));rw[(ui Gr _)];refine(ah (aeR (A:=A.in1) hh g λh' kk=>?_):wpAny _ A.in1 (pyNext (.ref it) >>= _) _ _ s);rw[ZH]at ha;exact aG (hR h' acc c (λb o z _ y=>kk b o z y) (kk S _ XA eS) ha)
 | succ k ih=>
  intro i s acc c hk hi g eS ha hR;have de:i<ord.length:=om;refine(sG Y8 (?_:wpAny _ _ _ _ _ s));rw[(ui Gr _)];refine(ah (aeQ (A:=A.in1) g de λh' t g' sb=>?_):wpAny _ A.in1 (pyNext (.ref it) >>= _) _ _ s);have N':h'.get? S=some { cls:=.type "list",data:=.seq acc.toArray c }:=(sb.2 S XA).trans eS;have al:acc.length=i:=by rw[ha.length,gU];exact xk
  have Wc:=lh h' S (jO (·.push (iW ord[i] t)));show wpAny _ A.in1 (Dq S (·.push (iW ord[i] t)) >>= _) _ _ _;refine ah ?_;refine Ak N' rfl (aG ⟨um Gr _,?_⟩) (by rw[dF];omega) (by show (acc.toArray.push (iW ord[i] t)).size<=aZ+1;rw[Array.size_push,dF];omega)
  have Ct:(h'.update S (jO (·.push (iW ord[i] t)))).get? S=some { cls:=.type "list",data:=.seq (acc++[iW ord[i] t]).toArray (c+1) }:=by
   have:=sv (jO (·.push (iW ord[i] t))) N' rfl;rw[this];simp[jO]
  refine ih (i+1) _ (acc++[iW ord[i] t]) (c+1) om xf (g'.keep λb o z y=>(Wc.2 b λw=>?_).trans y) Ct ?_ λh3 EO c' kk e3 a3=>?_
  ·rw[w,N']at y;cases y;exact z rfl
  ·rw[ku,aT de];exact ksk_snoc ha
  ·refine hR h3 EO c' (λb o z1 z2 y=>kk b o z1 z2 ((Wc.2 b z2).trans ((sb.2 b z1).trans y))) e3 a3
end
theorem adS{xs:Array Nat}(h:xs.size<=1):nJ xs:=by
 obtain⟨l⟩:=xs;unfold nJ
 match l,h with
 | [],_=>exact .nil
 | [x],_=>exact YI _ _
 | _::_::_,h=>simp at h
theorem range_getD(ks:List Int):(List.range ks.length).map (λj=>ks.getD j 0)=ks:=by
 apply OI
 ·simp
 ·intro i h1 h2;simp[h2]
section
variable{P:Program}{w:World}{A:Around}{E:Value->Shared->Prop}{s:Shared}{a:Addr}{ns:List Int}
theorem ad3{Q:Value->Shared->Prop}(S:jD P w s.heap a ns)(hz:ns.length<=aZ)(k:∀it ord h' d,gE ord ns->s.heap.objs.size<=it->vt P w h' it a ord 0->(∀b o,s.heap.get? b=some o->h'.get? b=some o)->Q (.ref it) { s with heap:=h',drawn:=d }) :
  wpAny (model P w) A (pyIter (.ref a)) Q E s:=by
 obtain⟨o,es,ep,t,ks,q,x,d,r,p,nd,f,tb⟩:=S;have qF:s.TypeIs (.ref a) "set":=⟨o,q,x.1⟩;have kl:=ye r;rw[lQ]at kl;have la:=cg q
 refine wpAny_pyIter_slot qF F.slot_set_iter (sE F.slot_set_iter qF SF.acE (?_:wpAny _ _ (do
  let n <-YH a
  let first <-if <-setDrawn a then newTuple ((<-drawOrder n (List.range n)).map λ(i:Nat)=>rawInt i) else pure (rawInt 0)
  ret (<-newFields "set_iterator" [first,rawInt 0,.ref a,rawInt n,rawInt (<-setEpoch a)])) _ _ s) (F.args_set_iter_1 _))
 unfold YH setDrawn;refine ah (ah (Ow q d f (aG (ah (ah (Af q d f (ah (Dp (aG ?_)))))))));show wpAny _ _ (if (!nH w&&(!t.plain&&decide (es.size > 1)))=true then _ else _) _ _ _
 have mk:∀(first:Value) (ord:List Int) (h1:Heap) (d1:Drawn),gE ord ks->(∀b o,s.heap.get? b=some o->h1.get? b=some o)->s.heap.objs.size<=h1.objs.size->(∀h2:Heap,(∀b o,h1.get? b=some o->h2.get? b=some o)->Li P w h2 a es ep t ks ord first 0)->
   wpAny (model P w) A.in1 (do ret (<-newFields "set_iterator" [first,rawInt 0,.ref a,rawInt es.size,rawInt (<-setEpoch a)])) (λfin s'=>∃v,fin=Fin.done (Flow.ret v)/\∃T f,s'.TypeIs v T/\HF (.type T) "__next__" = pure (some f)/\Q v s') E { s with heap:=h1,drawn:=d1 }:=λfirst ord h1 d1 po k1 hs md=>by
  refine ah (wpAny_setEpoch_of (k1 _ _ q) d f (ah (pY (aG (ak _ rfl (eL ("set_iterator") _ ⟨_,eO _ rfl,rfl⟩ SF.slot_next.lookup ?_))))));have kp:∀b o,h1.get? b=some o->(h1.push { cls:=.type "set_iterator",data:=.fields [first,rawInt 0,.ref a,rawInt es.size,rawInt ep].toArray }).get? b=some o:=λb o e=>bj _ e;refine k _ ord _ d1 (po.trans p) hs ⟨o,es,ep,t,ks,first,kp _ _ (k1 _ _ q),x.1,d,f,r,tb.led,by rw[po.length_eq,kl],dZ (fu la hs),eO _ rfl,md _ kp⟩ λb o e=>kp b o (k1 b o e)
 by_cases hb:nH w=true
 ·refine ag (Hr (ac6 (w.params.setOrder a ep) es) r) λord p1 r1=>?_;rw[if_neg (by rw[hb];simp)];exact ah (aG (mk (rawInt 0) ord s.heap s.drawn p1 (λ_ _ e=>e) (aH _) λh2 _=>.inl (cV hb ⟨_,_,rfl⟩ r1)))
 ·have tZ:nH w=false:=by simpa using hb
  by_cases hd:(!t.plain&&decide (es.size > 1))=true
  ·rw[if_pos (by rw[tZ,hd];rfl)];refine ah (QQ es.size (List.range es.size) s (by simp) λys d1 hp=>ah (OQ ?_ ?_))
   ·have ht:∀h2:Heap,(∀b o,(s.heap.push { cls:=.type "tuple",data:=.seq (ys.map λ(i:Nat)=>rawInt i).toArray }).get? b=some o->h2.get? b=some o)->IsTup h2 s.heap.objs.size (ys.map λ(i:Nat)=>rawInt (i:Nat)).toArray:=λh2 k2=>⟨_,k2 _ _ (eO _ rfl),rfl,_,rfl⟩;refine mk (.ref s.heap.objs.size) (ys.map λj=>ks.getD j 0) (s.heap.push { cls:=.type "tuple",data:=.seq (ys.map λ(i:Nat)=>rawInt i).toArray }) d1 ?_ (λb o e=>bj _ e) (by rw[lS];exact lx _) λh2 k2=>.inr (.inr ⟨tZ,_,ys,rfl,ht h2 k2,hp,rfl⟩);have:=hp.map λj=>ks.getD j 0;rw[kl,range_getD]at this;exact this
   ·rw[aN,hp.length_eq,vO,kl,p.length_eq];exact hz
  ·have jI:(!t.plain&&decide (es.size > 1))=false:=by simpa using hd
   rw[if_neg (by rw[jI];simp)];refine ah (aG (mk (rawInt 0) ks s.heap s.drawn (gE.refl _) (λ_ _ e=>e) (aH _) λh2 _=>.inr (.inl (rq tZ jI ?_ rfl rfl))));cases hp:t.plain with
   | true=>exact tb.asc hp
   | false=>
    rw[hp]at jI;refine adS ?_;rw[HX f];simpa using jI
theorem abV{Q:List Value->Shared->Prop}(hh:A.handled=none)(S:jD P w s.heap a ns)(hz:ns.length<=aZ)(k:∀vs ord h' d,IntsAre vs ord->gE ord ns->(∀b o,s.heap.get? b=some o->h'.get? b=some o)->Q vs { s with heap:=h',drawn:=d }) :
  wpAny (model P w) A (collect (.ref a)) Q E s:=by
 have la:a<s.heap.objs.size:=by
  refine sQ S λo es ep t ks q _=>?_;exact cg q
 unfold collect;refine ah (wpAny_runValue (sG F.entry_proto_collect (?_:wpAny _ _ _ _ _ s)));rw[(ui F.plain_proto_collect _)];show wpAny _ A.in1 (newList [] >>= λl=>again (.builtin "list.__iadd__" ⟨[l,.ref a],[]⟩)) _ _ s;refine(ah (pY ?_));refine(aG ⟨um F.plain_list_iadd _,(sG F.entry_list_iadd ?_)⟩);rw[(ui F.plain_list_iadd _)];show wpAny _ A.in1 (Yu (.ref s.heap.objs.size) (.ref a) (.ref s.heap.objs.size)) _ _ _;unfold Yu;generalize hH:s.heap.push { cls:=.type "list",data:=.seq ([]:List Value).toArray }=H1;have kp:∀b o,s.heap.get? b=some o->H1.get? b=some o:=λb o e=>by rw[<-hH];exact bj _ e
 have eS:H1.get? s.heap.objs.size=some { cls:=.type "list",data:=.seq ([]:List Value).toArray }:=by rw[<-hH];exact eO _ rfl
 have z1:H1.objs.size=s.heap.objs.size+1:=by rw[<-hH];exact lS _ _
 have S1:jD P w H1 a ns:=S.keep λo e=>kp _ _ e
 have qF:OY { s with heap:=H1 } (.ref a) "set":=by
  obtain⟨o,es,ep,t,ks,q,x,_⟩:=S1;exact ak o q x.1
 refine ah (O8 qF ?_);have g1:YG (.ref s.heap.objs.size) (.ref a)=false:=by simp[YG,qS la]
 have g2:(jz "set" == jz "list")=false:=qc;have g3:(jz "set" == jz "tuple")=false:=qc;simp only[g1,g2,g3,O0,pX,if_false];refine ah (ad3 (s:={ s with heap:=H1 }) S1 hz λit ord h2 d2 po oZ g k2=>ah (nW ?_))
 have Ma:OY { s with heap:=h2,drawn:=d2 } (.ref a) "set":=by
  refine ag qF λo e c=>?_;exact ak o (k2 _ _ e) c
 unfold Builtin.List.listLengthHint;refine ah (wpAny_specialOf Ma SF.ag3 ?_)
 wp_delta
 refine(ah (Gz Ma (b:=true) (by rw[isSubtype_type];kernel_rfl) (?_:wpAny _ A.in1 (typeOf (ee a) >>= _) _ _ _)));refine ah (O8 Ma (aG ?_));rw[if_pos qc];have nS:s.heap.objs.size≠it:=λz=>absurd oZ (by rw[<-z,z1];exact Nat.not_succ_le_self _);have Ct:=k2 _ _ eS;have X1:=sv (jO (·.push gq)) Ct rfl;have eS4:=sv (jO (·.pop)) X1 rfl;have sb:=(lh h2 s.heap.objs.size (jO (·.push gq))).trans (lh _ s.heap.objs.size (jO (·.pop)));refine ah (v3 (ah (?_:wpAny _ A.in1 (Dq s.heap.objs.size (·.push .none) >>= λ_=>Dq s.heap.objs.size (·.pop)) _ _ _)));refine ah (Ak Ct rfl (Ak X1 rfl ?_));refine aG ⟨um Gr _,?_⟩;refine afA (P:=P) (w:=w) (it:=it) (a:=a) (ord:=ord) hh nS (by rw[po.length_eq];exact hz) (ord.length-0) 0 _ [] 2 rfl (bU _) (g.keep λb o z y=>(sb.2 b λw=>?_).trans y) eS4 .nil λh3 acc c k3 e3 a3=>?_
 ·rw[w,Ct]at y;cases y;exact z rfl
 show wpAny _ A (load s.heap.objs.size >>= _) _ _ _;refine(ah (HE e3 (aG ?_)))
 have nb:∀b o,s.heap.get? b=some o->b≠it/\b≠s.heap.objs.size:=λb o e=>by
  have:=cg e;have VH:H1.objs.size<=it:=oZ;rw[z1]at VH;exact⟨dZ (fu this (cH (lx _) VH)),dZ this⟩
 exact k _ ord h3 d2 a3 po λb o e=>k3 b o (nb b o e).1 (nb b o e).2 ((sb.2 b (nb b o e).2).trans (k2 b o (kp b o e)))
end
def wR(P:Program)(w:World)(a:Addr)(ns:List Int):HO:=.ext λh=>jD P w h a ns
theorem af8{P:Program}{w:World}{H:Hp}{h:Heap}{a:Addr}{ns:List Int}(S:jD P w h a ns):h7 P w H h a (wR P w a ns):=by
 refine sQ (id S) λo es ep t ks q _=>?_;exact cV S ⟨o,q⟩ λh1 h2 g k=>g.keep k
theorem Sm(ns:List Int):qp (λi=>ns.getD i 0) ns.length=nk ns:=by
 unfold qp;rw[range_getD]
theorem aek(ns:List Int):(nk ns).length<=ns.length:=by
 rw[<-Sm];exact HP _ _
section
variable{X:Cx}
def Uj(P:Program)(w:World)(K:W.Frag):List V->Hp->VK->Prop:=λxs H Q=>∃(p:Addr) (ns:List Int),xs=[.ref p]/\aq K H p (ns.map V.int)/\ns.length<4000/\∀a,H a=none->Q (.ref a) (upd H a (wR P w a (nk ns)))
theorem adM(hc:X.calm=true):kc X (.type "set") (Uj X.prog X.w X.K):=by
 intro pins s σ H xs us Q I r h;refine jW h λp ns aa hl hz q=>?_;clear h;subst aa;refine ag (vals1 r) λu aa rx=>?_;subst aa;cases rx;refine aJ (I.list hl) λau rv pl pR=>?_;have il:=rv.length;rw[aN]at il;have hs:au.toArray.size=au.length:=dF;refine ad4 (items:=au.toArray) (ns:=ns) (I.ok.hd hc) pl.isList (by rw[Ox];exact intsAre_of rv) (by rw[hs];unfold AI;omega) λh' tk S k=>?_;rw[hs,<-il,Sm]at S;have hn:H s.heap.objs.size=none:=I.aM.fresh (aH _);have f:=I.iu (b:=s.heap.objs.size) (aH _) hn;have J:Inv X pins σ H { s with heap:=h',toks:=tk }:=I.kept k;exact eL (.ref s.heap.objs.size) _ (Inv.adopt (o:=wR X.prog X.w s.heap.objs.size (nk ns)) J hn I.sz f.2.1 f.2.2.2.2.1 f.2.2.2.2.2 (af8 S)) rfl (q _ hn)
def Te(P:Program)(w:World):List V->Hp->VK->Prop:=λxs H Q=>∃(a:Addr) (ns:List Int),xs=[.ref a]/\H a=some (wR P w a ns)/\ns.length<64/\∀l zs,H l=none->gE zs ns->zs.Pairwise (· < ·)->Q (.ref l) (upd H l (.lst (zs.map V.int)))
theorem abv(hc:X.calm=true):kc X (.builtin "sorted") (Te X.prog X.w):=by
 intro pins s σ H xs us Q I r h;refine jW h λa ns aa ha h64 q=>?_;clear h;subst aa;refine ag (vals1 r) λu aa rx=>?_;subst aa;cases rx;have S:jD X.prog X.w s.heap a ns:=(I.aM a _ ha).1
 have nd:ns.Nodup:=by
  obtain⟨o,es,ep,t,ks,_,_,_,_,_,nd,_⟩:=S;exact nd
 refine Qn (H:=H) (abV (I.ok.hd hc) S (by rw[iq];exact w5) λvs ord h' d ia po k=>?_);have ol:=po.length_eq;have vl:=ia.length;have WQ:ord.Nodup:=po.nodup_iff.mpr nd;refine oE I.fr λm F=>?_;have J:Inv X pins σ H { s with heap:=h',drawn:=d }:=Inv.regrown (t':=s.toks) I F.ns (let ⟨o,es,ep,e,rr⟩:=F.ns;⟨o,es,ep,k _ _ e,rr⟩) λb o _ e=>k b o e
 have inj:∀i j,i<vs.length->j<vs.length->ord.getD i 0=ord.getD j 0->i=j:=λi j hi hj e=>by
  have sj:i<ord.length:=wf;have xT:j<ord.length:=wf;have e':ord[i]=ord[j]:=by simpa[sj,xT]using e
  rcases Ah i j with z | z | z
  ·exact absurd e' (lP.mp WQ i j _ _ z)
  ·exact z
  ·exact absurd e'.symm (lP.mp WQ j i _ _ z)
 refine⟨ord.map V.int,⟨λi=>ord.getD i 0,J,HJ ia,⟨om,inj,λh2=>?_⟩,λl zs hn so=>?_⟩⟩
 ·refine⟨oneType',λA s' kk=>⟨λQ' hQ=>?_,λi j C hi hj ne c=>?_⟩⟩
  ·match vs,ia,h2 with
   | v1::v2::rest,ia,_=>rw[keyKind_ints ia];exact aG hQ
  ·unfold kas_ask;refine oE (OS ia i _ (aT hi)) λt1 e1=>?_;refine oE (OS ia j _ (aT hj)) λt2 e2=>?_;have g1:vs.getD i gq=.int (ord.getD i 0) t1:=by rw[<-e1];simp[hi]
   have g2:vs.getD j gq=.int (ord.getD j 0) t2:=by rw[<-e2];simp[hj]
   rw[g1,g2];exact kat_lt_int c
 ·have so':D' ((ord.map λn=>(n,V.int n)).map (·.2)) (λi=>((ord.map λn=>(n,V.int n)).map (·.1)).getD i 0) zs:=by
   rw[sI,sI];have e1:(ord.map ((λx:Int×V=>x.2) ∘ λn=>(n,V.int n)))=ord.map V.int:=rfl
   have e2:(ord.map ((λx:Int×V=>x.1) ∘ λn=>(n,V.int n)))=ord:=by
    show ord.map (λn=>n)=ord;simp
   rw[e1,e2];exact so
  refine aJ (O3 so') λqs g pw aa=>?_;subst aa
  have hq:∀x∈qs,x.2=V.int x.1:=λx hx=>by
   refine ag (lV.mp (g.mem_iff.mp hx)) λn _ e=>?_;rw[<-e]
  have em:qs.map (·.2)=(qs.map (·.1)).map V.int:=by
   rw[sI];exact Y7 λx hx=>hq x hx
  rw[em];refine q l (qs.map (·.1)) hn ?_ ?_
  ·have:=g.map (·.1);rw[sI]at this
   have e2:(ord.map ((λx:Int×V=>x.1) ∘ λn=>(n,V.int n)))=ord:=by
    show ord.map (λn=>n)=ord;simp
   rw[e2]at this;exact this.trans po
  ·exact CK.mpr pw
end
end L2
namespace TL
open PySem PySem.Spec PyProof.Rows L2 L3
variable{P:Program}{w:World}{K:PySem.W.Frag}{mg:Str->Option Value}{base:Heap}
structure Ent where
 (t n num d:Int)
 deriving DecidableEq
def bJ(es:List Ent)(i:Nat):List Ent:=es.filter λe=>decide (e.n=(i:Int))
def jB(H:Hp)(v:V)(e:Ent):Prop:=∃p s,v=.ref p/\H p=some (.tup [.int e.t,.ref s])/\H s=some (.tup [.int e.n,.int e.num,.int e.d])
def E8(H:Hp)(b:Addr)(es:List Ent):Prop:=∃vs,H b=some (.lst vs)/\Paired (jB H) vs es
def SQ:List Str:=["add","latest","fronts","take","is_empty","listed","twin"]
structure i9(tn:Int)(es:List Ent):Prop where
 asc:es.Pairwise λx y=>x.t<y.t
 nm:∀e∈es,0<=e.n/\e.n<12
 lt:∀e∈es,e.t<tn
structure dy(H:Hp)(a C:Addr)(kd:Str)(tn:Int)(es:List Ent)(q:Addr)(qr:List Addr):Prop where
 obj:∃dx fs,H a=some (.ins C dx fs)/\fs.lookup ("kind" : Str)=some (V.str kd)/\fs.lookup ("turn" : Str)=some (V.int tn)/\fs.lookup ("queues" : Str)=some (V.ref q)/\(∀m∈SQ,fs.lookup m=none)/\fs.length<=20
 qs:H q=some (.lst (qr.map V.ref))
 len:qr.length=12
 nd:qr.Nodup
 nq:q∉qr
 kh:∀i b,qr[i]?=some b->E8 H b (bJ es i)
 wf:i9 tn es
structure gK(F:List Addr)(H H':Hp):Prop where
 k:∀b o,b∉F->(∀ps,o≠.fk ps)->H b=some o->H' b=some o
 t:∀b,H' b=none->H b=none
theorem gK.of{F:List Addr}{H H':Hp}(s:af H H'):gK F H H':=⟨λb o _ _ e=>s b o e,λb h=>s.free h⟩
theorem gK.trans{F:List Addr}{H H1 H2:Hp}(a:gK F H H1)(b:gK F H1 H2):gK F H H2:=⟨λc o h1 h2 e=>b.k c o h1 h2 (a.k c o h1 h2 e),λc h=>a.t c (b.t c h)⟩
theorem gK.VZ{P:Addr}{H H':Hp}{ps vv:Array Value}(s:uY P H H')(hP:H P=some (.fk ps))(NY:H' P=some (.fk vv)):gK [] H H':=
 ⟨λb o _ n e=>s b o (λz=>by rw[z,hP]at e;cases e;exact n ps rfl) e,λb h=>by
  cases e:H b with
  | none=>rfl
  | some o=>
   by_cases z:b=P
   ·rw[z,NY]at h;cases h
   ·rw[s b o z e]at h;cases h⟩
theorem Az{P:Addr}{pos:Pos}{qual:Str}{F:List Addr}{H H':Hp}(h:cU P pos qual H)(k:∀b o,b∉F->H b=some o->H' b=some o)(hF:∀b∈F,∀o,H b=some o->(∃C dx fs,o=.ins C dx fs)\/∃xs,o=.lst xs):cU P pos qual H':=by
 refine ag h λps hP hc=>?_
 have nP:P∉F:=λz=>by
  rcases hF P z _ hP with ⟨_,_,_,e⟩ | ⟨_,e⟩ <;> cases e
 refine ak ps (k P _ nP hP) ?_;rcases hc with e | ⟨c,e,hc⟩
 ·exact .inl e
 ·refine .inr (ak c e (k c _ (λz=>?_) hc));rcases hF c z _ hc with ⟨_,_,_,e⟩ | ⟨_,e⟩ <;> cases e
theorem lW{P:Addr}{pos:Pos}{qual:Str}{H H':Hp}(h:cU P pos qual H)(k:af H H'):cU P pos qual H':=Az (F:=[]) h (λb o _ e=>k b o e) λb hb=>nomatch hb
theorem jB.keep{F:List Addr}{H H':Hp}{v:V}{e:Ent}(h:jB H v e)(k:∀b xs,H b=some (.tup xs)->H' b=some (.tup xs)):jB H' v e:=let ⟨p,s,e1,e2,e3⟩:=h;⟨p,s,e1,k _ _ e2,k _ _ e3⟩
theorem wm{α β:Type}{F G:α->β->Prop}(f:∀a b,F a b->G a b):∀{l:List α} {r:List β},Paired F l r->Paired G l r
 | _,_,.nil=>.nil
 | _,_,.cons h t=>.cons (f _ _ h) (wm f t)
theorem E8.keep{H H':Hp}{b:Addr}{es:List Ent}(h:E8 H b es)(kb:∀o,H b=some o->H' b=some o)(k:∀b xs,H b=some (.tup xs)->H' b=some (.tup xs)):E8 H' b es:=let ⟨vs,e,r⟩:=h;⟨vs,kb _ e,wm (λ_ _ z=>z.keep (F:=[]) k) r⟩
theorem dy.keep{H H':Hp}{a C q:Addr}{kd:Str}{tn:Int}{es:List Ent}{qr:List Addr}(T:dy H a C kd tn es q qr)(k:∀b∈a::q::qr,∀o,H b=some o->H' b=some o)(kt:∀b xs,H b=some (.tup xs)->H' b=some (.tup xs)):dy H' a C kd tn es q qr:=by
 obtain⟨⟨dx,fs,e,r⟩,qs,len,nd,nq,kh,wf⟩:=T;exact⟨⟨dx,fs,k a (by simp) _ e,r⟩,k q (by simp) _ qs,len,nd,nq,λi b hb=>(kh i b hb).keep (λo=>k b (by simp[bb hb]) o) kt,wf⟩
theorem dy.akD{F:List Addr}{H H':Hp}{a C q:Addr}{kd:Str}{tn:Int}{es:List Ent}{qr:List Addr}(T:dy H a C kd tn es q qr)(k:gK F H H')(hF:∀b∈F,b∉a::q::qr)(hT:∀b∈F,∀xs,H b≠some (.tup xs)):dy H' a C kd tn es q qr:=by
 refine T.keep (λb hb o e=>k.k b o (λz=>hF b z hb) (λps z=>?_) e) λb xs e=>k.k b _ (λz=>hT b z xs e) (λps z=>by cases z) e;subst z;rcases cx.mp hb with z | z
 ·refine bf T.obj λdx fs e' _=>?_;rw[z,e']at e;cases e
 ·rcases cx.mp z with z | z
  ·rw[z,T.qs]at e;cases e
  ·refine oE (sA z) λi aa=>?_;refine oE aa λhi ez=>?_;obtain⟨vs,e',_⟩:=T.kh i b (by rw[<-ez];exact aT hi);rw[e']at e;cases e
theorem dy.nu{H H':Hp}{a C q:Addr}{kd:Str}{tn:Int}{es:List Ent}{qr:List Addr}(T:dy H a C kd tn es q qr)(k:gK [] H H'):dy H' a C kd tn es q qr:=T.akD k (λb hb=>nomatch hb) λb hb=>nomatch hb
theorem dy.kinds{H:Hp}{a C q:Addr}{kd:Str}{tn:Int}{es:List Ent}{qr:List Addr}(T:dy H a C kd tn es q qr):∀b∈a::q::qr,∀o,H b=some o->(∃C dx fs,o=.ins C dx fs)\/∃xs,o=.lst xs:=λb hb o e=>by
 rcases cx.mp hb with z | z
 ·refine bf T.obj λdx fs e' _=>?_;rw[z,e']at e;cases e;exact .inl (zk _ _ _ rfl)
 ·rcases cx.mp z with z | z
  ·rw[z,T.qs]at e;cases e;exact .inr ⟨_,rfl⟩
  ·refine oE (sA z) λi aa=>?_;refine oE aa λhi ez=>?_;obtain⟨vs,e',_⟩:=T.kh i b (by rw[<-ez];exact aT hi);rw[e']at e;cases e;exact .inr ⟨_,rfl⟩
theorem dy.there{H:Hp}{a C q:Addr}{kd:Str}{tn:Int}{es:List Ent}{qr:List Addr}(T:dy H a C kd tn es q qr):∀b∈a::q::qr,∃o,H b=some o:=λb hb=>by
 rcases cx.mp hb with z | z
 ·refine bf T.obj λdx fs e' _=>?_;exact⟨_,by rw[z];exact e'⟩
 ·rcases cx.mp z with z | z
  ·exact⟨_,by rw[z];exact T.qs⟩
  ·refine oE (sA z) λi aa=>?_;refine oE aa λhi ez=>?_;obtain⟨vs,e',_⟩:=T.kh i b (by rw[<-ez];exact aT hi);exact⟨_,e'⟩
def uI(es:List Ent)(i:Nat):Option Ent:=(bJ es i).getLast?
def jk(es:List Ent):List Int:=((List.range 12).filter λi=>decide (bJ es i≠[])).map λ(i:Nat)=>(i:Int)
def gG(kd:Str)(es:List Ent):List Int:=if kd = "row" then (es.head?.map (·.n)).toList else jk es
def ow(es:List Ent)(n:Int):List Ent:=es.eraseP λe=>decide (e.n=n)
theorem Sh(i:Nat):bJ [] i=[]:=rfl
theorem Jo(es:List Ent)(e:Ent)(i:Nat):bJ (es++[e]) i=if e.n=(i:Int) then bJ es i++[e] else bJ es i:=by
 unfold bJ;rw[OB]
 by_cases h:e.n=(i:Int)
 ·rw[if_pos h];simp[h]
 ·rw[if_neg h];simp[h]
theorem yx{es:List Ent}{n:Int}:n∈jk es↔∃i:Nat,i<12/\n=i/\bJ es i≠[]:=by
 unfold jk;rw[lV];constructor
 ·rintro⟨i,hi,rfl⟩;rw[qa,uk]at hi;exact cO i hi.1 rfl (by simpa using hi.2)
 ·rintro⟨i,h1,rfl,h2⟩;exact ak i (by rw[qa,uk];exact⟨h1,by simpa using h2⟩) rfl
theorem Rw{es:List Ent}{e:Ent}{i:Nat}(h:es.head?=some e)(hi:e.n=(i:Int)):(bJ es i).head?=some e:=by
 cases es with
 | nil=>cases h
 | cons x r=>
  cases h;unfold bJ;rw[vP,if_pos (by simpa using hi)];rfl
theorem ahV{tn:Int}{es:List Ent}{n num d:Int}(w:i9 tn es)(h0:0<=n)(h1:n<12):i9 (tn+1) (es++[⟨tn,n,num,d⟩]):=by
 refine⟨Y0.mpr ⟨w.asc,YI _ _,λx hx y hy=>?_⟩,λe he=>?_,λe he=>?_⟩
 ·rw[ip.mp hy];exact w.lt x hx
 ·rcases jx.mp he with z | z
  ·exact w.nm e z
  ·rw[ip.mp z];exact⟨h0,h1⟩
 ·rcases jx.mp he with z | z
  ·have:=w.lt e z;omega
  ·rw[ip.mp z];show tn<tn+1;omega
theorem afW{tn:Int}{es:List Ent}(w:i9 tn es)(n:Int):i9 tn (ow es n):=by
 have sub:(ow es n).Sublist es:=List.eraseP_sublist;exact⟨w.asc.sublist sub,λe he=>w.nm e (sub.subset he),λe he=>w.lt e (sub.subset he)⟩
theorem aec(es:List Ent)(n:Int)(i:Nat):bJ (ow es n) i=if n=(i:Int) then (bJ es i).tail else bJ es i:=by
 induction es with
 | nil=>unfold ow bJ;simp
 | cons e r ih=>
  unfold ow at ih ⊢;rw[GV]
  by_cases h:e.n=n
  ·rw[decide_eq_true h,cond_true];unfold bJ
   by_cases hi:n=(i:Int)
   ·rw[if_pos hi,vP,if_pos (by simpa using h.trans hi)];rfl
   ·rw[if_neg hi,vP,if_neg (by simpa using λz:e.n=(i:Int)=>hi (h.symm.trans z))]
  ·rw[decide_eq_false h,cond_false];unfold bJ at ih ⊢;rw[vP,vP]
   by_cases he:e.n=(i:Int)
   ·have zJ:¬n=(i:Int):=λz=>h (he.trans z.symm);rw[if_neg zJ]at ih;simp only[decide_eq_true he,if_true];rw[if_neg zJ,ih]
   ·simp only[decide_eq_false he,pX,if_false];rw[ih]
structure BT(mg:Str->Option Value):Prop where
 jF:mg "isinstance" = none
 int:mg "int" = none
 bool:mg "bool" = none
 str:mg "str" = none
 len:mg "len" = none
 all:mg "all" = none
 range:mg "range" = none
 enum:mg "enumerate" = none
 min:mg "min" = none
 sorted:mg "sorted" = none
structure lD(K:W.Frag)(C:Addr):Prop where
 cl:eU K C
 kind:cq K C "kind"
 turn:cq K C "turn"
 uM:cq K C "queues"
def Q0:Sp:=λvs H Q _=>∃v T,vs=[v]/\tyName H v=some T/\Q (.bl (qC v)) H
theorem ad7:bc ["thing"] ["thing"] (aO Je):=bz
theorem ac8{f:Addr}{fd:aV}(F:aW K "is_whole" "is_whole" Je f fd)(B:BT mg):ay P w K mg base az 1 f fd ["thing"] Q0:=by
 refine F.ok ad7 (λvs H Q E h=>?_) λaI A outer s H vs Q E hr h=>?_
 ·refine bf h λv T aa _=>?_;clear h;subst aa;rfl
 ·refine cF h λv T aa ht k=>?_;clear h;subst aa;refine⟨_,aB (a7 (Ba (cj jT rfl B.jF jw (ae (pv 0) (ae (pq (v:=.ty "int") rfl B.int boot_int rfl) ai))) (yS (JY (cj jT rfl B.jF jw (ae (pv 0) (ae (pq (v:=.ty "bool") rfl B.bool boot_bool rfl) ai))))))),?_⟩;have e:=Tz ht;refine ak v rfl (dA _ _ _ _ (hG _ rfl (pM ht) rfl (pJ ht qc) (ak _ rfl (LO (λh1=>?_) λh1=>?_))))
  ·refine ak v rfl (dA _ _ _ _ (hG _ rfl (pM ht) rfl (pJ ht qc) (ak _ rfl ?_)));rw[h1,Ao]at e;rw[e];exact k
  ·rw[h1,Al]at e;rw[e];exact k
def UU(C:Addr):Sp:=λvs H Q _=>∃x dx kd,vs=[.ref x,.str kd]/\H x=some (.ins C dx [])/\∀H' q qr,dy H' x C kd 0 [] q qr->(∀b o,b≠x->H b=some o->H' b=some o)->(∀b∈q::qr,H b=none)->Q .aD H'
theorem al3:bc ["self","kind"] ["self","kind"] (aO EX):=bz
theorem agS:(["name"]:List Str).Nodup:=dk
theorem akC(f:Str)(u:V):(aL f u []).length<1000:=by
 have h1:=jN f u [];have h3:([]:List (Str×V)).length=0:=rfl;exact wb
theorem akB(f g:Str)(u v:V):(aL f u (aL g v [])).length<1000:=by
 have h1:=jN f u (aL g v []);have h2:=jN g v [];have h3:([]:List (Str×V)).length=0:=rfl;exact xi
theorem RK:∀m∈SQ,¬m = "kind"/\¬m = "turn"/\¬m = "queues":=dk
theorem jo(kd:Str)(q:Addr):(aL "queues" (.ref q) (aL "turn" (.int 0) (aL "kind" (.str kd) [])))=[(("kind" : Str),V.str kd),(("turn" : Str),V.int 0),(("queues" : Str),V.ref q)]:=by
 have n1:¬("kind" : Str) = "turn":=dk;have n2:¬("kind" : Str) = "queues":=dk;have n3:¬("turn" : Str) = "queues":=dk;simp only[aL,n1,n2,n3,if_false]
theorem akg{f C:Addr}{fd:aV}(F:aW K "__init__" "Tray.__init__" EX f fd)(B:BT mg)(cT:lD K C)(mN:∃u,mg "NAMES" = some u/\RelV (.int 12) u):ay P w K mg base az 1 f fd ["self","kind"] (UU C):=by
 refine ag mN λuN mN rN=>?_;refine F.ok al3 (λvs H Q E h=>?_) λaI A outer s H vs Q E hr h=>?_
 ·refine gJ h λx dx kd aa _=>?_;clear h;subst aa;rfl
 ·refine ng h λx dx kd aa hx k=>?_;clear h;subst aa
  refine⟨_,aA (gH (pv 0) (pv 1) rfl) (aA (gH (pv 0) aj rfl) (aB (gH (pv 0) (ji (N:=["name"]) (idx:=[]) rfl (eC.of (by kernel_rfl)) (jf (bU _))
   (qe rfl B.range (ae (gF rfl mN rN) ai)) (λ_ _ _ _=>cW (i:=0) agS rfl (aQ rfl) (.inr rfl)) (λ_ _ _ _=>iX) λ_ _ _ _=>eh ai) rfl))),?_⟩
  refine vr rfl (vr rfl (je x C dx ([]) rfl hx cT.cl cT.kind qc ?_));refine ak _ rfl (zk x C dx (kG _ rfl aw cT.cl cT.turn (akC _ _) ?_));rw[oh];refine pD 12 rfl qc qc ?_;generalize xW:upd H x (.ins C dx (aL "turn" (.int 0) (aL "kind" (.str kd) [])))=H1;have jG:H1 x=some (.ins C dx (aL "turn" (.int 0) (aL "kind" (.str kd) []))):=by rw[<-xW];exact aw
  have n1:∀b,H1 b=none->H b=none:=λb e=>by
   rw[<-xW]at e
   by_cases z:b=x
   ·rw[z,aw]at e;cases e
   ·rwa[ar z]at e
  refine ig (n:=12) (λi ys H'=>∃qr:List Addr,ys=qr.map V.ref/\qr.length=i/\qr.Nodup/\(∀b∈qr,H' b=some (.lst [])/\H1 b=none)/\af H1 H') qc ⟨[],rfl,rfl,.nil,(λb hb=>nomatch hb),af.refl _⟩ ?_ ?_ ?_ ?_ ?_
  ·rintro i ys H' ⟨qr,rfl,hl,_⟩;rw[aN,hl];exact aH _
  ·rintro i ys H' hi _;exact hi
  ·rintro ys H' _;exact aH _
  ·rintro i ys H' hi ⟨qr,rfl,hl,nd,hq,sm⟩ y gj ⟨eH,ey⟩;subst eH;dsimp only[iL,jl];rw[if_pos rfl];refine⟨qc,λp hp=>⟨qr++[p],by simp,by simp[hl],?_,λb hb=>?_,aE sm hp⟩⟩
   ·refine Zw.mpr (cV nd (by simp) λb hb c hc=>?_);rw[ip.mp hc];exact b8 (hq b hb).1 hp
   ·rcases jx.mp hb with z | z
    ·exact⟨by rw[ar (b8 (hq b z).1 hp)];exact(hq b z).1,(hq b z).2⟩
    ·rw[ip.mp z];refine⟨aw,?_⟩;cases e:H1 p with
     | none=>rfl
     | some o=>rw[sm _ _ e]at hp;cases hp
  ·rintro ys H' ⟨qr,rfl,hl,nd,hq,sm⟩;refine⟨by rw[aN,hl];decide,λq zH=>?_⟩;have nx:x≠q:=b8 (sm _ _ jG) zH;refine vr rfl (zk x C dx (kG _ rfl (by rw[ar nx];exact sm _ _ jG) cT.cl cT.uM (akB _ _ _ _) ?_));have rQ:q∉qr:=λz=>by rw[(hq q z).1]at zH;cases zH
   have xqr:x∉qr:=λz=>by have:=(hq x z).2;rw[jG]at this;cases this
   refine k _ q qr ⟨⟨dx,_,aw,?_,?_,?_,?_,?_⟩,by rw[ar (fw nx),aw],hl,nd,rQ,λi b hb=>⟨[],?_,by rw[Sh];exact .nil⟩,⟨.nil,(λe he=>nomatch he),(λe he=>nomatch he)⟩⟩ (λb o hb e=>?_) λb hb=>?_
   ·rw[f9,if_neg dk,f9,if_neg dk,f9,if_pos rfl]
   ·rw[f9,if_neg dk,f9,if_pos rfl]
   ·rw[f9,if_pos rfl]
   ·intro m hm;refine iP (RK m hm) λm1 m2 m3=>?_;rw[f9,if_neg m3,f9,if_neg m2,f9,if_neg m1];rfl
   ·rw[jo];show 3<=20;decide
   ·have hm:=bb hb;have nbx:b≠x:=λz=>xqr (z ▸ hm);have nbq:b≠q:=λz=>rQ (z ▸ hm);rw[ar nbx,ar nbq];exact(hq b hm).1
   ·have e1:H1 b=some o:=by rw[<-xW,ar hb];exact e
    have e2:=sm _ _ e1;rw[ar hb,ar (b8 e2 zH)];exact e2
   ·refine n1 b ?_;rcases cx.mp hb with z | z
    ·subst z;cases e:H1 b with
     | none=>rfl
     | some o=>rw[sm _ _ e]at zH;cases zH
    ·exact(hq b z).2
def En(F:List Addr)(H H':Hp):Prop:=∀b o,b∉F->H b=some o->H' b=some o
theorem aiF{n:Nat}(h:n<=20000):n<aZ:=by rw[iq];exact wb
theorem Jn(es:List Ent)(i:Nat):(bJ es i).length<=es.length:=zZ _ _
theorem Hx{α β:Type}{F:α->β->Prop}{a:α}{b:β}:∀{l:List α} {r:List β},Paired F l r->F a b->Paired F (l++[a]) (r++[b])
 | _,_,.nil,h=>.cons h .nil
 | _,_,.cons g t,h=>.cons g (Hx t h)
theorem dy.U0{H:Hp}{a C q:Addr}{kd:Str}{tn:Int}{es:List Ent}{qr:List Addr}(T:dy H a C kd tn es q qr){n:Int}(h0:0<=n)(h1:n<12):∃i:Nat,n=i/\i<12/\∃b,qr[i]?=some b/\jr (qr.map V.ref) n=some (.ref b):=by
 have hl:=T.len;obtain⟨i,rfl⟩:∃i:Nat,n=i:=⟨n.toNat,xm⟩;have hi:i<qr.length:=om;refine cO i rfl om (ak (qr[i]) (aT hi) (cR ?_));rw[gC,aT hi];rfl
theorem Tu{f:Str}{v:V}:∀(fs:List (Str×V)) (u:V),fs.lookup f=some v->(aL f u fs).length=fs.length
 | [],_,e=>by cases e
 | (g,x)::r,u,e=>by
  by_cases h:g=f
  ·simp only[aL,if_pos h,jv]
  ·simp only[aL,if_neg h,jv];rw[Tu r u];have hb:(f == g)=false:=by simpa using λz=>h z.symm
   rw[sF,hb]at e;exact e
def Ud(C:Addr):Sp:=λvs H Q _=>∃a n num d kd tn es q qr,vs=[.ref a,.int n,.int num,.int d]/\dy H a C kd tn es q qr/\0<=n/\n<12/\es.length<=20000/\
 ∀H',dy H' a C kd (tn+1) (es++[⟨tn,n,num,d⟩]) q qr->En (a::q::qr) H H'->Q .aD H'
theorem ah4:bc ["self","name","number","deed"] ["self","name","number","deed"] (aO Kx):=bz
theorem agA{f C:Addr}{fd:aV}(F:aW K "add" "Tray.add" Kx f fd)(cT:lD K C):ay P w K mg base az 1 f fd ["self","name","number","deed"] (Ud C):=by
 refine F.ok ah4 (λvs H Q E h=>?_) λaI A outer s H vs Q E hr h=>?_
 ·refine Ar h λa n num d kd tn es q qr aa _=>?_;subst aa;rfl
 ·obtain⟨a,n,num,d,kd,tn,es,q,qr,aa,T,h0,h1,hz,k⟩:=h;subst aa;refine⟨_,aA (cZ (iY PySem.F.plainAttrs_list PySem.F.slot_list_append PySem.F.type_list_append ky (ax aP (bo (pv 0) rfl) (pv 1)) (ae (fG (ae (bo (pv 0) rfl) (ae (fG (ae (pv 1) (ae (pv 2) (ae (pv 3) ai)))) ai))) ai))) (aB (ac4 (pv 0) aj aiQ)),?_⟩;refine jh (id T.obj) λdx fs ea e1 e2 e3 em el=>?_;refine aJ (T.U0 h0 h1) λi aa hi aX=>?_;subst aa;refine ag aX λb hb hat=>?_;refine ag (T.kh i b hb) λvs eb rb=>?_;have vE:b∈qr:=bb hb;have lv:=Paired.length rb;have lq:=Jn es i;refine vF rfl ea cT.cl cT.uM e3 (vr rfl (rL (v:=.ref b) (aq.of T.qs) (hat) ⟨.inl ⟨rfl,_,aq.of eb⟩,?_⟩));refine vF rfl ea cT.cl cT.turn e2 (ak _ rfl (vr rfl (vr rfl ⟨by show 3<=aZ;decide,(λst cD=>⟨by show 2<=aZ;decide,λp hp=>?_⟩)⟩)));have sf:∀c o,H c=some o->c≠st:=λc o e=>b8 e cD;have np:∀c o,H c=some o->c≠p:=λc o e=>b8 (by rw[ar (sf c o e)];exact e) hp;have nsp:st≠p:=b8 aw hp;have up:∀c o,H c=some o->upd (upd H st (.tup [.int (i:Int),.int num,.int d])) p (.tup [.int tn,.ref st]) c=some o:=λc o e=>by rw[ar (np c o e),ar (sf c o e)];exact e
  have B1:a≠b:=iK ea eb (by intro z;cases z);have Na:q≠b:=λz=>T.nq (z ▸ vE);refine kE b vs (.ref p) rfl rfl (up _ _ eb) (aiF om) ?_;refine ak _ rfl (dA a C dx fs (kG _ rfl (by rw[ar B1];exact up _ _ ea) cT.cl cT.turn e2 ⟨_,_,rfl,rfl,dx,fs,by rw[ar B1];exact up _ _ ea,wb,?_⟩));have pb:p≠b:=fw (np b _ eb);have pa:p≠a:=fw (np a _ ea);have sb:st≠b:=fw (sf b _ eb);have sa:st≠a:=fw (sf a _ ea);generalize Cf:upd (upd (upd (upd H st (.tup [.int (i:Int),.int num,.int d])) p (.tup [.int tn,.ref st])) b (.lst (vs++[.ref p]))) a (.ins C dx (aL "turn" (.int (tn+1)) fs))=H2;have g0:∀c o,c≠a->c≠b->H c=some o->H2 c=some o:=λc o z1 z2 e=>by rw[<-Cf,ar z1,ar z2];exact up c o e
  have ga:H2 a=some (.ins C dx (aL "turn" (.int (tn+1)) fs)):=by rw[<-Cf];exact aw
  have gb:H2 b=some (.lst (vs++[.ref p])):=by rw[<-Cf,ar (fw B1)];exact aw
  have gp:H2 p=some (.tup [.int tn,.ref st]):=by rw[<-Cf,ar pa,ar pb];exact aw
  have gs:H2 st=some (.tup [.int (i:Int),.int num,.int d]):=by rw[<-Cf,ar sa,ar sb,ar nsp];exact aw
  have kt:∀c xs,H c=some (.tup xs)->H2 c=some (.tup xs):=λc xs e=>g0 c _ (iK e ea (by intro z;cases z)) (iK e eb (by intro z;cases z)) e;refine k H2 ⟨⟨dx,_,ga,?_,?_,?_,λm hm=>?_,?_⟩,g0 q _ (iK T.qs ea (by intro z;cases z)) Na T.qs,T.len,T.nd,T.nq,λj c hc=>?_,ahV T.wf h0 h1⟩ λc o hc e=>g0 c o (λz=>hc (by simp[z])) (λz=>hc (by simp[z,vE])) e
  ·rw[f9,if_neg dk];exact e1
  ·rw[f9,if_pos rfl]
  ·rw[f9,if_neg dk];exact e3
  ·rw[f9,if_neg (RK m hm).2.1];exact em m hm
  ·have:=Tu fs (.int (tn+1)) e2;exact w7
  ·rw[Jo]
   by_cases z:j=i
   ·subst z;rw[hb]at hc;cases hc;rw[if_pos rfl];exact ak _ gb (Hx (wm (λ_ _ y=>y.keep (F:=[]) kt) rb) ⟨p,st,rfl,gp,gs⟩)
   ·rw[if_neg λy=>z (by have:(i:Int)=(j:Int):=y;omega)]
    have Nc:c≠b:=λy=>z (by
     subst y;have n1:=eK.mp hc;have n2:=eK.mp hb;refine oE n1 λp1 q1=>?_;refine oE n2 λp2 q2=>?_;rcases Ah j i with y | y | y
     ·exact absurd (q1.trans q2.symm) (lP.mp T.nd j i p1 p2 y)
     ·exact y
     ·exact absurd (q2.trans q1.symm) (lP.mp T.nd i j p2 p1 y))
    refine(T.kh j c hc).keep (λo e=>g0 c o (λy=>?_) Nc e) kt;refine ag (T.kh j c hc) λoS e' _=>?_;rw[y,ea]at e';cases e'
theorem aca{α β:Type}{F:α->β->Prop}{r:List β}(h:Paired F [] r):r=[]:=by cases h;rfl
theorem O5{H:Hp}:∀{vs:List V} {l:List Ent},Paired (jB H) vs l->vs≠[]->∃oS v e,vs=oS++[v]/\l.getLast?=some e/\jB H v e
 | _,_,.nil,h=>absurd rfl h
 | _,_,.cons (a:=v) (b:=e) g .nil,_=>⟨[],v,e,rfl,rfl,g⟩
 | _,_,.cons (a:=v) (b:=e) g (.cons h t),_=>by
  refine ng (O5 (.cons h t) (by simp)) λoS v' e' q1 q2 q3=>?_;exact wD (v::oS) v' e' (by rw[q1];rfl) (by rw[List.getLast?_cons_cons];exact q2) q3
def Q3(C:Addr):Sp:=λvs H Q _=>∃a n kd tn es q qr,vs=[.ref a,.int n]/\dy H a C kd tn es q qr/\0<=n/\n<12/\es.length<=20000/\
 (uI es n.toNat=none->Q .aD H)/\∀e st,uI es n.toNat=some e->H st=some (.tup [.int e.n,.int e.num,.int e.d])->Q (.ref st) H
theorem Qr:bc ["self","name","queue"] ["self","name"] (aO Iw):=bz
theorem ace{f C:Addr}{fd:aV}(F:aW K "latest" "Tray.latest" Iw f fd)(B:BT mg)(cT:lD K C):ay P w K mg base az 1 f fd ["self","name"] (Q3 C):=by
 refine F.ok Qr (λvs H Q E h=>?_) λaI A outer s H vs Q E hr h=>?_
 ·refine AF h λa n kd tn es q qr aa _=>?_;subst aa;rfl
 ·obtain⟨a,n,kd,tn,es,q,qr,aa,T,h0,h1,hz,k0,k1⟩:=h;subst aa;refine⟨_,aA (cy (i:=2) Qr.nd rfl (aQ rfl) (ax aP (bo (pv 0) rfl) (pv 1))) (aB (a7 (Rh (bq dm (cj fv rfl B.len PySem.boot_len (ae (pv 2) ai)) aj (br _)) m9 (ax a8 (ax aP (pv 2) (Bi A1 aj)) aj)))),?_⟩;refine jh (id T.obj) λdx fs ea e1 e2 e3 em el=>?_;refine aJ (T.U0 h0 h1) λi aa hi aX=>?_;subst aa;refine ag aX λb hb hat=>?_;rw[iG]at k0 k1;refine ag (T.kh i b hb) λvs eb rb=>?_;refine vF rfl ea cT.cl cT.uM e3 (vr rfl (rL (v:=.ref b) (aq.of T.qs) (hat) ?_));refine vr rfl ⟨b,⟨_,rfl,.inl (aq.of eb),rfl,_,rfl,bG (λz=>?_) λz=>?_⟩⟩
  ·have hv:vs=[]:=by
    injection z with z
    exact nU.mp om
   subst hv;refine k0 ?_;unfold uI;rw[aca rb];rfl
  ·have hv:vs≠[]:=λy=>z (by rw[y];rfl);refine ng (O5 rb hv) λoS v e q1 q2 aa=>?_;refine cF aa λp st aa q3 q4=>?_;subst aa;subst q1;refine vr rfl (ak _ rfl (rL (v:=.ref p) (aq.of eb) (DC _ _) (rT (v:=.ref st) (aF.of q3) (rfl) (k1 e st q2 q4))))
def Jb(C:Addr):Sp:=λvs H Q _=>∃a kd tn es q qr,vs=[.ref a]/\dy H a C kd tn es q qr/\∀H',af H H'->Q (.bl (decide (es=[]))) H'
theorem ad9:bc ["self"] ["self"] (aO Jg):=bz
theorem aeH:(["queue"]:List Str).Nodup:=dk
theorem acN{tn:Int}{es:List Ent}(w:i9 tn es)(h:∀i,i<12->bJ es i=[]):es=[]:=by
 cases es with
 | nil=>rfl
 | cons e r=>
  refine oA (w.nm e fX) λh0 h1=>?_;have:=h e.n.toNat om;unfold bJ at this;rw[vP,if_pos (by simp;omega)]at this;cases this
theorem all_empty{tn:Int}{es:List Ent}(w:i9 tn es):((List.range 12).map λi=>decide (bJ es i=[])).all id=decide (es=[]):=by
 by_cases h:es=[]
 ·subst h;rfl
 ·rw[decide_eq_false h,Ap];cases e:(List.range 12).all (id ∘ λi=>decide (bJ es i=[]))with
  | false=>rfl
  | true=>
   exfalso;exact h (acN w λi hi=>by simpa using Aj.mp e i (uk.mpr hi))
theorem ade{f C:Addr}{fd:aV}(F:aW K "is_empty" "Tray.is_empty" Jg f fd)(B:BT mg)(cT:lD K C):ay P w K mg base az 1 f fd ["self"] (Jb C):=by
 refine F.ok ad9 (λvs H Q E h=>?_) λaI A outer s H vs Q E hr h=>?_
 ·refine lX h λa kd tn es q qr aa _=>?_;subst aa;rfl
 ·obtain⟨a,kd,tn,es,q,qr,aa,T,k⟩:=h;subst aa
  refine⟨_,aB (a7 (cj (AN rfl) rfl B.all DF (ae (ji (N:=["queue"]) (idx:=[]) rfl (eC.of (by kernel_rfl)) (jf (bU _)) (uH (bo (pv 0) rfl))
   (λ_ _ _ _=>cW (i:=0) aeH rfl (aQ rfl) (.inr rfl)) (λ_ _ _ _=>iX) λ_ _ _ _=>AW dm (cj (len_K K) rfl B.len PySem.boot_len (ae (pv 0) ai)) aj (br _)) ai))),?_⟩
  refine jh (id T.obj) λdx fs ea e1 e2 e3 em el=>?_;refine ak _ rfl (dA a C dx fs (kG _ rfl ea cT.cl cT.uM e3 (cO q rfl ⟨_,aq.of T.qs⟩ ?_)));have hl:=T.len;refine ig (n:=12) (λi ys H'=>H'=H/\ys=(List.range i).map λj=>V.bl (decide (bJ es j=[]))) qc ⟨rfl,rfl⟩ ?_ ?_ ?_ ?_ ?_
  ·rintro i ys H' ⟨_,rfl⟩;rw[aN,vO];exact aH _
  ·rintro i ys H' hi ⟨rfl,_⟩;exact eT _ (V.ref (qr[i]'wg)) (aq.of T.qs) (by rw[gC,aT wg];rfl)
  ·rintro ys H' ⟨rfl,_⟩;exact ak _ (aq.of T.qs) (by rw[aN,hl];exact aH _)
  ·rintro i ys H' hi ⟨rfl,rfl⟩ y gj ⟨eH,hy⟩;subst eH;have tT:=hy _ (aq.of T.qs);rw[gC,aT wg]at tT;cases tT;refine ag (T.kh i _ (aT wg)) λvs eb rb=>?_;dsimp only[iL,jl];rw[if_pos rfl];refine vr rfl ⟨_,⟨_,rfl,.inl (aq.of eb),rfl,rfl,?_⟩⟩;rw[uj,iH]
   congr 1
   have lv:=Paired.length rb;simp only[jd,Pf,List.cons.injEq,V.bl.injEq,and_true];refine decide_eq_decide.mpr ⟨λz=>?_,λz=>?_⟩
   ·injection z with z
    exact nU.mp om
   ·rw[z]at lv;rw[lv];rfl
  ·rintro ys H' ⟨rfl,rfl⟩;refine⟨by rw[aN,vO];decide,λp hp=>?_⟩;refine eL p ((List.range 12).map λj=>decide (bJ es j=[])) rfl (aq.of (by rw[aw,sI];rfl)) ?_;rw[all_empty T.wf];exact k _ (aE (af.refl _) hp)
def uS(es:List Ent)(i:Nat):List Int:=((List.range i).filter λj=>decide (bJ es j≠[])).map λ(j:Nat)=>(j:Int)
theorem Py(es:List Ent)(i:Nat):uS es (i+1)=uS es i++(if bJ es i≠[] then [(i:Int)] else []):=by
 unfold uS;rw[uj,OB,iH]
 congr 1
 by_cases h:bJ es i≠[]
 ·rw[if_pos h,YK (by simpa using h)];rfl
 ·rw[if_neg h,YL (by simpa using h)];rfl
theorem Qe(es:List Ent)(i:Nat):(uS es i).length<=i:=by
 unfold uS;rw[aN];have h:=zZ (λj=>decide (bJ es j≠[])) (List.range i);rw[vO]at h;exact h
def vn(es:List Ent)(n:Int):Int:=((bJ es n.toNat).head?.map (·.t)).getD 0
theorem Ho{tn:Int}{es:List Ent}{e:Ent}(w:i9 tn es)(h:es.head?=some e):e.n∈jk es:=by
 have hm:e∈es:=by
  cases es with
  | nil=>cases h
  | cons x r=>cases h;exact fX
 refine oA (w.nm e hm) λh0 h1=>?_;refine yx.mpr (cO e.n.toNat om xm λz=>?_);have:=Rw (i:=e.n.toNat) h xm;rw[z]at this;cases this
theorem ago{tn:Int}{es:List Ent}{m:Int}(w:i9 tn es)(hm:m∈jk es)(hb:∀n∈jk es,vn es m<=vn es n):(es.head?.map (·.n)).toList=[m]:=by
 refine aJ (yx.mp hm) λi hi aa iU=>?_;subst aa;cases es with
 | nil=>exact absurd rfl iU
 | cons e r=>
  have h1:=hb e.n (Ho w rfl);refine oA (w.nm e fX) λn0 n1=>?_
  have k1:vn (e::r) e.n=e.t:=by
   unfold vn;rw[Rw (i:=e.n.toNat) (e:=e) rfl xm];rfl
  cases q:bJ (e::r) i with
  | nil=>exact absurd q iU
  | cons x l=>
   have k2:vn (e::r) (i:Int)=x.t:=by
    unfold vn;rw[iG,q];rfl
   have hx:x∈bJ (e::r) i:=by rw[q];exact fX
   unfold bJ at hx;refine oA (qa.mp hx) λjG qG=>?_;have hn:x.n=(i:Int):=by simpa using qG
   rcases cx.mp jG with z | z
   ·show [e.n]=[(i:Int)];rw[<-z,hn]
   ·have:=(Zh.mp w.asc).1 x z;rw[k1,k2]at h1;omega
theorem agp{tn:Int}{es:List Ent}(w:i9 tn es)(h:¬1<(jk es).length):(es.head?.map (·.n)).toList=jk es:=by
 cases es with
 | nil=>rfl
 | cons e r=>
  have hm:=Ho (e:=e) w rfl
  match q:jk (e::r)with
  | []=>rw[q]at hm;cases hm
  | [x]=>
   rw[q]at hm;rw[<-ip.mp hm];rfl
  | _::_::_=>
   rw[q]at h;simp at h
abbrev LP:Pos:=⟨183,35,183,71⟩
abbrev LQ:Str:=("Tray.fronts" : Str) ++ ".<locals>." ++ "<lambda>"
def Io(C PT:Addr):Sp:=λvs H Q _=>∃a kd tn es q qr,vs=[.ref a]/\dy H a C kd tn es q qr/\cU PT LP LQ H/\
 ∀H' l,gK [] H H'->cU PT LP LQ H'->H l=none->H' l=some (.lst ((gG kd es).map V.int))->Q (.ref l) H'
theorem Qs:bc ["self","names"] ["self"] (aO Du):=bz
theorem Up:(["name","queue"]:List Str).Nodup:=dk
theorem va{x y:Str}(h:V.str x=V.str y):x=y:=by injection h
theorem ab6{PT:Addr}{H H1 H2:Hp}{ps:Array Value}(s:af H H1){vv:Array Value}(t:uY PT H1 H2)(hP:H1 PT=some (.fk ps))(NY:H2 PT=some (.fk vv)):gK [] H H2:=(gK.of s).trans (gK.VZ t hP NY)
theorem PL{f C PT c:Addr}{fd:aV}(F:vg K "fronts" "Tray.fronts" Du f fd c)(B:BT mg)(cT:lD K C)(hC:W.CodeHd base c PT)(hB:tH mg base):ay P w K mg base az 2 f fd ["self"] (Io C PT):=by
 refine F.ok Qs (λvs H Q E h=>?_) λA outer s H vs Q E hr h=>?_
 ·refine lX h λa kd tn es q qr aa _=>?_;subst aa;rfl
 ·obtain⟨a,kd,tn,es,q,qr,aa,T,rP,k⟩:=h;subst aa;have Xe:=hr.dp
  refine⟨_,aA (Df (i:=1) (N:=["name","queue"]) (idx:=[]) Qs.nd rfl rfl rfl (eC.of (by kernel_rfl)) (Dg (bU _) (bU _)) (AV (b:=true) rfl B.enum (ae (bo (pv 0) rfl) ai))
    (λ_ _ _ _=>sU rfl (jS (cW (i:=0) Up rfl (aQ rfl) (.inr rfl)) (jS (cW (i:=1) Up rfl (aQ rfl) (.inr rfl)) sP)))
    (λ_ _ _ _=>Jp (bq KR (cj (len_K K) rfl B.len PySem.boot_len (ae (pv 1) ai)) aj (br _))) λ_ _ _ _=>pv 0)
   (aA (bZ (PW.pt (pw_and (bq dm (bo (pv 0) rfl) cA (br _)) (pw_and1 (bq KR (cj fv rfl B.len PySem.boot_len (ae (pv 1) ai)) aj (br _))))) (aB (a7 (eh (ae (ac7 (N:=["self","name"]) (idx:=[0]) (k:=1) (px:="name") (P:=PT) rfl (by show A.depth+1+5<_;have h1:A.depth+1+3*1+5<CS:=Xe;omega) rfl B.min (pv 1) (eC.of (by kernel_rfl)) rfl hC hB rfl rfl qc
     (λ_ _ _ _ _ _=>ax (K0 K) (ax (Uy K) (ax (Uy K) (akP K (pv 0) rfl) (pv 1)) aj) aj) λ_ _ _ _ _ _=>rfl) ai)))) cu)
   (aB (a7 (pv 1)))),?_⟩
  refine jh (id T.obj) λdx fs ea e1 e2 e3 em el=>?_;have hl:=T.len;refine vF rfl ea cT.cl cT.uM e3 ⟨q,⟨_,rfl,aq.of T.qs,?_⟩⟩;refine ig (n:=12) (λi ys H'=>af H H'/\ys=(uS es i).map V.int) qc ⟨af.refl _,rfl⟩ ?_ ?_ ?_ ?_ ?_
  ·rintro i ys H' ⟨_,rfl⟩;rw[aN];exact Qe es i
  ·rintro i ys H' hi ⟨sm,_⟩;exact eT _ (V.ref (qr[i]'wg)) (aq.of (sm _ _ T.qs)) (by rw[gC,aT wg];rfl)
  ·rintro ys H' ⟨sm,_⟩;exact ak _ (aq.of (sm _ _ T.qs)) (by rw[aN,hl];exact aH _)
  ·rintro i ys H' hi ⟨sm,rfl⟩ y gj ⟨p,x,hp,ey,eH,hx⟩;subst ey;subst eH;have jG:=hx _ (aq.of (sm _ _ T.qs));rw[gC,aT wg]at jG;cases jG;refine ag (T.kh i _ (aT wg)) λvs eb rb=>?_;have s2:af H (upd H' p (.tup [.int i,.ref qr[i]])):=aE sm hp;have lv:=Paired.length rb;refine⟨p,⟨_,rfl,aF.of aw,rfl,_,_,rfl,_,_,rfl,rfl,?_⟩⟩;refine vr rfl ⟨_,⟨_,rfl,.inl (aq.of (s2 _ _ eb)),_,_,rfl,rfl,_,rfl,bG (λz=>?_) λz=>?_⟩⟩
   ·refine vr rfl ⟨s2,?_⟩;rw[Py,if_pos (λy=>by rw[y]at lv;rw[lv]at z;exact absurd z (by simp)),iH];rfl
   ·refine⟨s2,?_⟩;rw[Py,if_neg λy=>y (nU.mp om),vS]
  ·rintro ys H' ⟨sm,rfl⟩;have wl:=Qe es 12;refine⟨by rw[aN];exact cQ (cY w4),λl1 tX=>?_⟩;have s1:af H (upd H' l1 (.lst ((uS es 12).map V.int))):=aE sm tX;generalize xW:upd H' l1 (.lst ((uS es 12).map V.int))=H1 at s1;have oX:H1 l1=some (.lst ((jk es).map V.int)):=by rw[<-xW];exact aw
   have WL:H l1=none:=by
    cases e:H l1 with
    | none=>rfl
    | some o=>rw[sm _ _ e]at tX;cases tX
   have xg:=lW rP s1;have T1:dy H1 a C kd tn es q qr:=T.nu (gK.of s1);refine jh (id T1.obj) λvK kr Cs f1 f2 f3 _ _=>?_;have done:(jk es).length<=12:=wl;refine ak _ rfl (dA a C vK kr (yD _ rfl Cs cT.cl cT.kind f1 rfl (ak _ rfl ?_)))
   by_cases hk:kd = "row"
   ·rw[decide_eq_true (show V.str kd=V.str "row" by rw[hk])];refine iZ (vr rfl ⟨l1,⟨_,rfl,.inl (aq.of oX),_,_,rfl,rfl,_,rfl,bG (λz=>?_) λz=>?_⟩⟩)
    ·rw[aN]at z;refine ak _ rfl (kE l1 (jk es) (vn es) rfl (aq.of oX) om xg λH2 sp qy=>?_);refine ag (id xg) λps XB _=>?_;refine ag (id qy) λvv VL _=>?_;have kp:=gK.VZ sp XB VL;have T2:dy H2 a C kd tn es q qr:=T1.nu kp;have jH:=kp.k l1 _ (by simp) (λps z=>by cases z) oX;refine cV (aq.of jH) (λm hm=>?_) λm hm hb=>?_
     ·refine aJ (yx.mp hm) λi hi aa iU=>?_;subst aa;refine jh (id T2.obj) λue jJ ea2 g1 g2 g3 _ _=>?_;refine ag (T2.kh i _ (aT wg)) λvs eb rb=>?_;cases M9:bJ es i with
      | nil=>exact absurd M9 iU
      | cons x r=>
       rw[M9]at rb;cases rb with
       | cons hx FK=>
        refine cF hx λp st aa q1 q2=>?_;clear hx;subst aa;refine vF rfl ea2 cT.cl cT.uM g3 (vr rfl (rL (v:=.ref (qr[i]'wg)) (aq.of T2.qs) (?_) (vo (v:=.ref p) (j:=0) eb rfl (rT (v:=.int x.t) (aF.of q1) (cR (j:=0) rfl) ⟨?_,rfl⟩))))
        ·exact cR (by rw[gC,aT wg];rfl)
        ·unfold vn;rw[iG,M9];rfl
     ·refine⟨by show 1<=aZ;decide,λl hn=>?_⟩;refine k _ l ((ab6 s1 sp XB VL).trans (gK.of (aE (af.refl _) hn))) (lW qy (aE (af.refl _) hn)) ?_ ?_
      ·cases e:H l with
       | none=>rfl
       | some o=>
        by_cases zp:l=PT
        ·refine ag qy λps2 h2 _=>?_;rw[zp,h2]at hn;cases hn
        ·rw[sp _ _ zp (s1 _ _ e)]at hn;cases hn
      ·rw[aw];unfold gG;rw[if_pos hk,ago T.wf hm hb];rfl
    ·rw[aN]at z;refine vr rfl (k H1 l1 (gK.of s1) xg WL ?_);rw[oX];unfold gG;rw[if_pos hk,agp T.wf om]
   ·rw[decide_eq_false (show ¬V.str kd=V.str "row" from λz=>hk (va z))];refine eY (eY (vr rfl (k H1 l1 (gK.of s1) xg WL ?_)));rw[oX];unfold gG;rw[if_neg hk]
theorem ag7(n:Int)(ns:List Int):nE (.int n) (ns.map V.int)=decide (n∈ns):=by
 unfold nE
 induction ns with
 | nil=>rfl
 | cons m r ih=>
  rw[jd,yg,ih]
  by_cases h:m=n
  ·subst h;simp[oN]
  ·have:oN (.int m) (.int n)=false:=by simp[oN,h]
   rw[this,Bool.false_or];exact decide_eq_decide.mpr ⟨λz=>eV _ z,λz=>(cx.mp z).resolve_left λy=>h y.symm⟩
theorem adv(ns:List Int):(ns.map V.int).all tj=true:=by
 rw[Ap];exact Aj.mpr λ_ _=>rfl
theorem HV{kd:Str}{tn:Int}{es:List Ent}{n:Int}(w:i9 tn es)(h:n∈gG kd es):∃i:Nat,i<12/\n=i/\∃e r,bJ es i=e::r:=by
 have hw:n∈jk es:=by
  unfold gG at h
  by_cases hk:kd = "row"
  ·rw[if_pos hk]at h;cases es with
   | nil=>cases h
   | cons e r=>
    have e1:n=e.n:=by simpa using h
    rw[e1];exact Ho w rfl
  ·rw[if_neg hk]at h;exact h
 refine aJ (yx.mp hw) λi hi e iU=>?_;refine cO i hi e ?_;cases q:bJ es i with
 | nil=>exact absurd q iU
 | cons x r=>exact⟨x,r,rfl⟩
def SU(C PT iN:Addr):Sp:=λvs H Q E=>∃a n kd tn es q qr,vs=[.ref a,.int n]/\dy H a C kd tn es q qr/\cU PT LP LQ H/\
 (n∈gG kd es->∀H' e st,(bJ es n.toNat).head?=some e->dy H' a C kd tn (ow es n) q qr->gK (a::q::qr) H H'->cU PT LP LQ H'->H' st=some (.tup [.int e.n,.int e.num,.int e.d])->Q (.ref st) H')/\
 (n∉gG kd es->∀H',gK [] H H'->cU PT LP LQ H'->E (.ref iN) none H')
theorem agb:bc ["self","name"] ["self","name"] (aO JL):=bz
theorem aep{f fW fF C PT c iN:Addr}{fd mj mJ:aV}(F:aW K "take" "Tray.take" JL f fd)(B:BT mg)(cT:lD K C)(hC:W.CodeHd base c PT)(hB:tH mg base)
  (FW:aW K "is_whole" "is_whole" Je fW mj) (bW:Binds K mj ["thing"] []) (mW:mg "is_whole" = some (.ref fW)) (FF:vg K "fronts" "Tray.fronts" Du fF mJ c) (bF:Binds K mJ ["self"] []) (mF:Meth K C "fronts" fF)
  (xc:XC K iN) (mM:mg "NoMove" = some (.ref iN)):ay P w K mg base (km P w) 3 f fd ["self","name"] (SU C PT iN):=by
 have GW:ay P w K mg base az 1 fW mj ["thing"] Q0:=ac8 FW B;have GF:ay P w K mg base az 2 fF mJ ["self"] (Io C PT):=PL FF B cT hC hB;refine F.ML agb (λvs H Q E h=>?_) λaI A outer s H vs Q E hr hL hp h=>?_
 ·refine AF h λa n kd tn es q qr aa _=>?_;subst aa;rfl
 ·refine As h λa n kd tn es q qr aa T rP aX=>?_;subst aa;obtain⟨k1,k2⟩:=aX
  refine⟨_,aA (bZ (PW.pt (pw_or (m8 (iJ (dg GW (hr.mono qc) rfl mW FW.kp bW .nil aS (ae (pv 1) ai))))
    (pw_or1 (bq Hn (pv 1) (mV (pv 0) cT.cl mF GF hr bF .nil aS) rfl)))) (aB (ID rfl hL xc rfl mM (ae cA ai))) cu)
   (aB (a7 (ax a8 (iY PySem.F.plainAttrs_list PySem.F.slot_list_pop PySem.F.type_list_pop Rn (ax aP (bo (pv 0) rfl) (pv 1)) (ae aj ai)) aj))),?_⟩
  refine jh (id T.obj) λdx fs ea e1 e2 e3 em el=>?_;refine vr rfl (eL (.int n) ("int") rfl rfl (ak _ rfl ?_));refine eY (vr rfl (vM rfl ea (em "fronts" dk) (⟨a,kd,tn,es,q,qr,rfl,T,rP,(λH1 l kp xg hn hl=>?_)⟩)));refine⟨l,⟨_,rfl,.inl (aq.of hl),rfl,adv _,_,rfl,?_⟩⟩;rw[if_pos rfl,ag7];refine Bo (λz=>?_) λz=>?_
  ·exact⟨qc,k2 (of_decide_eq_false z) H1 kp xg⟩
  ·have fq:=of_decide_eq_true z;have T1:=T.nu kp;refine aJ (HV T.wf fq) λi hi aa aX=>?_;subst aa;refine vk aX λe r he=>?_;refine jh (id T1.obj) λvK kr Cs f1 f2 f3 fm fl=>?_;have api:=T1.len;have hb:qr[i]?=some (qr[i]'wg):=aT wg;refine ag (T1.kh i _ hb) λvs eb rb=>?_;have vE:=bb hb;generalize qr[i]'wg=b at hb eb vE;rw[he]at rb;cases rb with
   | cons hx FK=>
    refine cF hx λp st aa q1 q2=>?_;clear hx;subst aa
    rename_i oS
    refine ak _ rfl (dA a C vK kr (kG _ rfl Cs cT.cl cT.uM f3 (vr rfl (rL (v:=.ref b) (aq.of T1.qs) (cR (by rw[gC,hb];rfl)) ⟨.inl ⟨rfl,_,aq.of eb⟩,?_⟩))));refine⟨b,_,0,0,(.ref p),rfl,rfl,eb,qc,qc,(by simp[Dr]),rfl,?_⟩;have npb:p≠b:=iK q1 eb (by intro z;cases z);have nsb:st≠b:=iK q2 eb (by intro z;cases z);refine rT (v:=.ref st) (aF.of (by rw[ar npb];exact q1)) (cR (j:=1) rfl) ?_
    have ka:En (a::q::qr) H1 (upd H1 b (.lst oS)):=λc o hc ec=>by
     rw[ar λz=>hc (by simp[z,vE])];exact ec
    have kt:∀c xs,H1 c=some (.tup xs)->upd H1 b (.lst oS) c=some (.tup xs):=λc xs ec=>by rw[ar (iK ec eb (by intro z;cases z))];exact ec
    have B1:a≠b:=iK Cs eb (by intro z;cases z);have Na:q≠b:=λz=>T1.nq (z ▸ vE)
    refine k1 fq _ e st (by rw[iG,he];rfl) ⟨⟨vK,kr,by rw[ar B1];exact Cs,f1,f2,f3,fm,fl⟩,by rw[ar Na];exact T1.qs,T1.len,T1.nd,T1.nq,λj c hc=>?_,afW T1.wf _⟩
     ⟨λc o hc ht ec=>ka c o hc (kp.k c o (by simp) ht ec),λc h=>kp.t c (by
      by_cases z:c=b
      ·rw[z,aw]at h;cases h
      ·rwa[ar z]at h)⟩ (Az xg ka T1.kinds) (by rw[ar nsb];exact q2)
    rw[aec]
    by_cases zj:j=i
    ·subst zj;rw[hb]at hc;cases hc;rw[if_pos rfl,he];exact ak oS aw (wm (λ_ _ y=>y.keep (F:=[]) kt) FK)
    ·rw[if_neg λy=>zj (by have:(i:Int)=(j:Int):=y;omega)]
     have Nc:c≠b:=λy=>zj (by
      subst y;refine oE (eK.mp hc) λp1 q1=>?_;refine oE (eK.mp hb) λp2 q2=>?_;rcases Ah j i with y | y | y
      ·exact absurd (q1.trans q2.symm) (lP.mp T1.nd j i p1 p2 y)
      ·exact y
      ·exact absurd (q2.trans q1.symm) (lP.mp T1.nd i j p2 p1 y))
     exact(T1.kh j c hc).keep (λo e=>by rw[ar Nc];exact e) kt
def Q1(C PT wQ:Addr):Sp:=λvs H Q E=>∃v T,vs=[v]/\tyName H v=some T/\
 ((v=.str "row"\/v=.str "name"\/v=.str "none")->∀kd H' x q qr,v=.str kd->dy H' x C kd 0 [] q qr->En [] H H'->(∀b∈x::q::qr,H b=none)->Q (.ref x) H')/\
 (¬(v=.str "row"\/v=.str "name"\/v=.str "none")->E (.ref wQ) none H)
theorem ad8:bc ["kind"] ["kind"] (aO Jf):=bz
theorem Su{H:Hp}{v:V}{T:String}(h:tyName H v=some T):rD T "str" = true↔∃x,v=.str x:=by
 constructor
 ·intro z;cases v with
  | str x=>exact⟨x,rfl⟩
  | aD=>cases h;cases z
  | bl b=>cases h;cases z
  | int i=>cases h;cases z
  | ref a=>
   unfold tyName at h;cases e:H a with
   | none=>simp only[e]at h;cases h
   | some o=>
    cases o with
    | lst xs=>simp only[e]at h;cases h;cases z
    | tup xs=>simp only[e]at h;cases h;cases z
    | _=>simp only[e]at h;cases h
  | _=>cases h
 ·rintro⟨x,rfl⟩;cases h;rfl
theorem QL{e:Ent}{f:Nat->List Ent}:∀n:Nat,((∃k:Nat,k<n/\e.n=(k:Int))->gE ((List.range n).flatMap λ(i:Nat)=>if e.n=(i:Int) then e::f i else f i) (e::(List.range n).flatMap f))/\
  ((¬∃k:Nat,k<n/\e.n=(k:Int))->((List.range n).flatMap λ(i:Nat)=>if e.n=(i:Int) then e::f i else f i)=(List.range n).flatMap f)
 | 0=>⟨λ⟨k,hk,_⟩=>absurd hk (Nat.not_lt_zero _),λ_=>rfl⟩
 | n+1=>by
  refine oA (QL (e:=e) (f:=f) n) λi1 i2=>?_;have eF:∀g:Nat->List Ent,(List.range (n+1)).flatMap g=(List.range n).flatMap g++g n:=λg=>by rw[uj,Ac];simp
  rw[eF,eF];constructor
  ·rintro⟨k,hk,ek⟩
   by_cases h:e.n=(n:Int)
   ·have fg:¬∃k:Nat,k<n/\e.n=(k:Int):=λ⟨j,hj,ej⟩=>om;rw[i2 fg,if_pos h];exact ZI
   ·rw[if_neg h];exact(i1 ⟨k,om,ek⟩).append_right _
  ·intro fg;rw[i2 λ⟨j,hj,ej⟩=>fg ⟨j,om,ej⟩,if_neg λh=>fg ⟨n,w1,h⟩]
theorem Pl:∀{es:List Ent},(∀e∈es,0<=e.n/\e.n<12)->gE ((List.range 12).flatMap (bJ es)) es
 | [],_=>by
  have:(List.range 12).flatMap (bJ [])=[]:=List.flatMap_eq_nil_iff.mpr λi _=>rfl;rw[this]
 | e::r,h=>by
  have hf:(bJ (e::r))=λi=>if e.n=((i:Nat):Int) then e::bJ r i else bJ r i:=by
   funext i
   unfold bJ;rw[vP]
   by_cases z:e.n=(i:Int)
   ·simp only[decide_eq_true z,if_true,if_pos z]
   ·simp only[decide_eq_false z,pX,if_false,if_neg z]
  refine oA (h e fX) λh0 h1=>?_;rw[hf];exact((QL (e:=e) (f:=bJ r) 12).1 ⟨e.n.toNat,om,xm⟩).trans ((Pl λx hx=>h x (eV _ hx)).cons e)
theorem Pn{H:Hp}(qv:Nat->List V)(ql:Nat->List Ent):∀n:Nat,(∀i:Nat,i<n->Paired (jB H) (qv i) (ql i))->Paired (jB H) ((List.range n).flatMap qv) ((List.range n).flatMap ql)
 | 0,_=>.nil
 | n+1,h=>by
  have eF:∀{α:Type} (g:Nat->List α),(List.range (n+1)).flatMap g=(List.range n).flatMap g++g n:=λg=>by rw[uj,Ac];simp
  rw[eF,eF];exact paired_cat (Pn qv ql n λi hi=>h i om) (h n (Ai n))
where
 paired_cat {H:Hp}:∀{l l':List V} {r r':List Ent},Paired (jB H) l r->Paired (jB H) l' r'->Paired (jB H) (l++l') (r++r')
 | _,_,_,_,.nil,h=>h
 | _,_,_,_,.cons g t,h=>.cons g (paired_cat t h)
theorem Qw{α β:Type}{F:α->β->Prop}:∀{l:List α} {r:List β},l.length=r.length->(∀(i:Nat) a b,l[i]?=some a->r[i]?=some b->F a b)->Paired F l r
 | [],[],_,_=>.nil
 | [],_::_,h,_=>by cases h
 | _::_,[],h,_=>by cases h
 | a::l,b::r,h,k=>.cons (k 0 a b rfl rfl) (Qw (by simpa using h) λi x y hx hy=>k (i+1) x y (by simpa using hx) (by simpa using hy))
theorem Hw{H:Hp}:∀{l:List V} {r:List Ent},Paired (jB H) l r->∀q∈(l.zip r).map λz=>(z.2.t,z.1),∃e∈r,q.1=e.t/\jB H q.2 e
 | _,_,.nil,q,h=>by cases h
 | _,_,.cons (a:=v) (b:=e) g t,q,h=>by
  rw[Zg,jd]at h;rcases cx.mp h with z | z
  ·rw[z];exact cO e fX rfl g
  ·refine ag (Hw t q z) λe' h1 h2=>?_;exact ak e' (eV _ h1) h2
theorem zip_parts{H:Hp}:∀{l:List V} {r:List Ent},Paired (jB H) l r->((l.zip r).map λz=>(z.2.t,z.1)).map (·.2)=l/\((l.zip r).map λz=>(z.2.t,z.1)).map (·.1)=r.map (·.t)
 | _,_,.nil=>⟨rfl,rfl⟩
 | _,_,.cons g t=>by
  refine oA (zip_parts t) λh1 h2=>?_;rw[Zg,jd,jd,jd,h1,h2];exact⟨rfl,rfl⟩
theorem abz{H:Hp}{tn:Int}{es:List Ent}{vs:List V}{qs:List (Int×V)}{L:List Ent}(w:i9 tn es)(hL:gE L es)(r:Paired (jB H) vs L)(hp:gE qs ((vs.zip L).map λz=>(z.2.t,z.1)))(ha:qs.Pairwise λa b=>a.1<b.1):Paired (jB H) (qs.map (·.2)) es:=by
 have e1:qs.map (·.1)=es.map (·.t):=by
  refine W.ksm_same ?_ (CK.mpr (ha.imp λh=>Hq h)) (CK.mpr (w.asc.imp λh=>Hq h));have:=hp.map (·.1);rw[(zip_parts r).2]at this;exact this.trans (hL.map _)
 have hl:qs.length=es.length:=by have:=congrArg List.length e1;simpa using this
 refine Qw (by rw[aN,hl]) λi v e hv he=>?_;rw[gC]at hv;refine ag (Gn.mp hv) λq hq aa=>?_;subst aa;refine aJ (Hw r q (hp.mem_iff.mp (bb hq))) λe' he' ht hE=>?_
 have ht2:q.1=e.t:=by
  have:(qs.map (·.1))[i]?=some q.1:=by rw[gC,hq];rfl
  rw[e1,gC,he]at this;exact(gn this).symm
 have he2:e'∈es:=hL.mem_iff.mp he'
 have:e'=e:=by
  refine oE (sA he2) λj aa=>?_;refine oE aa λhj ej=>?_;refine oE (eK.mp he) λhi ei=>?_;have tt:es[j].t=es[i].t:=by rw[ej,ei,<-ht,ht2]
  rcases Ah j i with z | z | z
  ·have:=lP.mp w.asc j i hj hi z;omega
  ·subst z;rw[<-ej,<-ei]
  ·have:=lP.mp w.asc i j hi hj z;omega
 rw[<-this];exact hE
theorem abE{tn:Int}{es L:List Ent}(w:i9 tn es)(hL:gE L es):(L.map (·.t)).Nodup:=by
 refine(hL.map (·.t)).nodup_iff.mpr ?_;exact CK.mpr (w.asc.imp λh=>Ph h)
theorem adb{f fI C wQ aK:Addr}{fd gh:aV}(F:aW K "tray_of" "tray_of" Jf f fd)(B:BT mg)(cT:lD K C)(M:Mk K C fI)(FI:aW K "__init__" "Tray.__init__" EX fI gh)(bI:Binds K gh ["self","kind"] [])(mT:mg "Tray" = some (.ref C))(mN:∃u,mg "NAMES" = some u/\RelV (.int 12) u)
  (mK:mg "KINDS" = some (.ref aK)) (hK:∀H:Hp,aF K H aK [.str "row",.str "name",.str "none"]) (xc:XC K wQ) (mX:mg "NoKind" = some (.ref wQ)) {PT:Addr}:ay P w K mg base (km P w) 3 f fd ["kind"] (Q1 C PT wQ):=by
 have GI:ay P w K mg base az 1 fI gh ["self","kind"] (UU C):=akg FI B cT mN;refine F.ML ad8 (λvs H Q E h=>?_) λaI A outer s H vs Q E hr hL hp h=>?_
 ·refine bf h λv T aa _=>?_;clear h;subst aa;rfl
 ·refine jW h λv T aa ht k1 k2=>?_;clear h;subst aa;refine⟨_,aA (bZ (PW.pt (pw_or (m8 (iJ (cj jT rfl B.jF jw (ae (pv 0) (ae (pq (v:=.ty "str") rfl B.str boot_str rfl) ai))))) (pw_or1 (bq Hn (pv 0) (gF (v:=.ref aK) rfl mK rfl) rfl)))) (aB (ID rfl hL xc rfl mX (ae cA ai))) cu) (aB (a7 (q8 M GI hr rfl mT bI .nil aS (ae (pv 0) ai)))),?_⟩;refine vr rfl (dA _ _ _ _ (hG _ rfl (pM ht) rfl (pJ ht qc) (ak _ rfl ?_)));refine Bo (λz=>?_) λz=>?_
  ·refine iZ ⟨qc,k2 λy=>?_⟩;have:∃x,v=.str x:=by rcases y with y | y | y <;> exact⟨_,y⟩
   rw[(Su ht).mpr this]at z;cases z
  ·refine oE ((Su ht).mp z) λx aa=>?_;subst aa;refine vr rfl ⟨aK,⟨_,rfl,.inr (hK H),rfl,rfl,_,rfl,?_⟩⟩;rw[if_pos rfl]
   have ei:nE (.str x) [.str "row",.str "name",.str "none"]=decide (V.str x=.str "row"\/V.str x=.str "name"\/V.str x=.str "none"):=by
    unfold nE
    have g:∀y:Str,oN (.str y) (.str x)=decide (V.str x=V.str y):=λy=>by
     simp only[oN]
     by_cases q:x=y
     ·subst q;simp
     ·have:¬V.str x=V.str y:=λe=>q (va e);rw[decide_eq_false this];exact beq_eq_false_iff_ne.mpr λe=>q e.symm
    simp only[yg,List.any_nil,g,O0]
    by_cases q1:V.str x=.str "row" <;> by_cases q2:V.str x=.str "name" <;> by_cases q3:V.str x=.str "none" <;> simp[q1,q2,q3]
   rw[ei];refine Bo (λy=>?_) λy=>?_
   ·exact⟨qc,k2 (of_decide_eq_false y)⟩
   ·refine vr rfl λo dx no gA ne=>?_;refine wD o dx x rfl aw λH' q qr T1 kp fr=>⟨rfl,k1 (of_decide_eq_true y) x H' o q qr rfl T1 (λb u _ e=>kp b u (b8 e no) ?_) λb hb=>?_⟩
    ·rw[ar (b8 e no),ar (b8 e gA)];exact e
    ·rcases cx.mp hb with z | z
     ·rw[z];exact no
     ·have:=fr b z;have nbo:b≠o:=λe=>by rw[e,aw]at this;cases this
      rw[ar nbo]at this;have Ft:b≠dx:=λe=>by rw[e,aw]at this;cases this
      rw[ar Ft]at this;exact this
theorem Rz{α:Type}{qv:Nat->List α}{m:Nat}:∀n:Nat,(∀i,i<n->(qv i).length<=m)->((List.range n).flatMap qv).length<=n*m
 | 0,_=>by simp
 | n+1,h=>by
  rw[uj,Ac,eI];have h1:=Rz n λi hi=>h i om;have h2:=h n (Ai n);simp only[Gx,GU,vS];rw[Nat.succ_mul];omega
theorem Aq{α β:Type}{F:α->β->Prop}:∀{l:List α} {r:List β} {i:Nat} {x:α},Paired F l r->l[i]?=some x->∃y,r[i]?=some y/\F x y
 | _,_,_,_,.nil,e=>by simp at e
 | _,_,0,_,.cons h _,e=>by simp at e;subst e;exact⟨_,rfl,h⟩
 | _,_,i+1,x,.cons _ t,e=>by
  refine ag (Aq (i:=i) t (by simpa using e)) λy h1 h2=>?_;exact ak y (by simpa using h1) h2
theorem amo(x y z:V):jC [x,y,z] none (some 2)=[x,y]:=rfl
def uQ(H:Hp)(v:V)(e:Ent):Prop:=∃p,v=.ref p/\H p=some (.tup [.int e.n,.int e.num])
def Q2(C:Addr):Sp:=λvs H Q _=>∃a kd tn es q qr,vs=[.ref a]/\dy H a C kd tn es q qr/\es.length<64/\
 ∀H' l us,af H H'->H l=none->H' l=some (.lst us)->Paired (uQ H') us es->Q (.ref l) H'
theorem HL:bc ["self","waiting","queue"] ["self"] (aO Iv):=bz
theorem Um:(["turn","setting"]:List Str).Nodup:=dk
theorem acd{f C:Addr}{fd:aV}(F:aW K "listed" "Tray.listed" Iv f fd)(B:BT mg)(cT:lD K C):ay P w K mg base az 1 f fd ["self"] (Q2 C):=by
 refine F.ok HL (λvs H Q E h=>?_) λaI A outer s H vs Q E hr h=>?_
 ·refine lX h λa kd tn es q qr aa _=>?_;subst aa;rfl
 ·obtain⟨a,kd,tn,es,q,qr,aa,T,hz,k⟩:=h;subst aa
  refine⟨_,aA (cy (i:=1) HL.nd rfl (aQ rfl) (eh ai)) (aA (pB p0 rfl (uH (bo (pv 0) rfl)) (cW (i:=2) HL.nd rfl (aQ rfl)) (aB (cZ (iY PySem.F.plainAttrs_list PySem.F.slot_list_extend PySem.F.type_list_extend QC (pv 1) (ae (pv 2) ai))))) (aB (a7 (ji (N:=["turn","setting"]) (idx:=[]) rfl (eC.of (by kernel_rfl)) (Dg (bU _) (bU _)) (uH (cj abu rfl B.sorted boot_sorted (ae (pv 1) ai)))
    (λ_ _ _ _=>sU rfl (jS (cW (i:=0) Um rfl (aQ rfl) (.inr rfl)) (jS (cW (i:=1) Um rfl (aQ rfl) (.inr rfl)) sP)))
    (λ_ _ _ _=>iX) λ_ _ _ _=>yA (Ue K) (pv 1) yI (yH aj))))),?_⟩
  refine jh (id T.obj) λdx fs ea e1 e2 e3 em el=>?_;have hl:=T.len
  obtain⟨qv,NB⟩:∃qv:Nat->List V,∀i (hi:i<qr.length),H qr[i]=some (.lst (qv i))/\Paired (jB H) (qv i) (bJ es i):=by
   refine⟨λi=>match H (qr.getD i 0)with | some (.lst vs)=>vs | _=>[],λi hi=>?_⟩;refine ag (T.kh i _ (aT hi)) λvs h1 h2=>?_;have eg:qr.getD i 0=qr[i]:=by simp[hi]
   dsimp only;rw[eg,h1];exact⟨rfl,h2⟩
  refine⟨qc,λlw nw=>?_⟩;have s0:af H (upd H lw (.lst [])):=aE (af.refl _) nw;have naw:a≠lw:=b8 ea nw;have nqw:q≠lw:=b8 T.qs nw;refine ak _ rfl (dA a C dx fs (kG _ rfl (by rw[ar naw];exact ea) cT.cl cT.uM e3 ⟨q,rfl,⟨_,aq.of (by rw[ar nqw];exact T.qs)⟩,?_⟩));refine aeZ (xs:=qr.map V.ref) (λi σ H'=>∃qx,σ=[some (.ref a),some (.ref lw),qx]/\af H H'/\H' lw=some (.lst ((List.range i).flatMap qv))) ⟨none,rfl,s0,by rw[aw];rfl⟩ ?_ ?_ ?_
  ·rintro i σ H' _ ⟨qx,rfl,sm,_⟩;exact aq.of (sm _ _ T.qs)
  ·rintro i x σ H' hx ⟨qx,rfl,sm,hw⟩;rw[gC]at hx;refine ag (Gn.mp hx) λb hb aa=>?_;subst aa;refine oE (eK.mp hb) λhi eb=>?_;refine oA (NB i hi) λh1 h2=>?_;rw[eb]at h1;have lq:=Paired.length h2;have lq2:=Jn es i
   have fl:=Rz (qv:=qv) (m:=64) i λj hj=>by
    have:=Paired.length (NB j om).2;have:=Jn es j;omega
   refine vr rfl ⟨.inl ⟨rfl,_,aq.of hw⟩,⟨_,rfl,lw,b,_,_,rfl,rfl,hw,sm _ _ h1,?_,⟨_,rfl,λc o e=>?_,?_⟩⟩⟩
   ·rw[iq];omega
   ·rw[ar (b8 e nw)];exact sm _ _ e
   ·rw[aw,uj,Ac];simp
  ·rintro σ H' ⟨qx,rfl,sm,hw⟩;rw[aN,hl]at hw;have rp:Paired (jB H) ((List.range 12).flatMap qv) ((List.range 12).flatMap (bJ es)):=Pn qv (bJ es) 12 λi hi=>(NB i wg).2;have hL:=Pl T.wf.nm;have ll:((List.range 12).flatMap (bJ es)).length=es.length:=hL.length_eq;have lr:=Paired.length rp;refine oA (zip_parts rp) λz1 z2=>?_;have Wd:Paired (jB H') ((List.range 12).flatMap qv) ((List.range 12).flatMap (bJ es)):=wm (λ_ _ y=>y.keep (F:=[]) λb xs e=>sm _ _ e) rp;refine vr rfl (II lw ((((List.range 12).flatMap qv).zip ((List.range 12).flatMap (bJ es))).map λz=>(z.2.t,z.1)) rfl (aq.of (by rw[z1];exact hw)) (by rw[aN,List.length_zip];omega) (λy hy=>?_) (by rw[z2];exact abE T.wf hL) λls qs hn hp ha=>?_)
   ·refine aJ (Hw Wd y hy) λe _ et aa=>?_;refine cF aa λp st ep h1 h2=>?_;exact eT p ([.ref st]) ep (aF.of (by rw[et];exact h1))
   ·have rs:=abz T.wf hL Wd hp ha;have s1:af H' (upd H' ls (.lst (qs.map (·.2)))):=aE (af.refl _) hn;generalize xW:upd H' ls (.lst (qs.map (·.2)))=H1 at s1;have oW:H1 ls=some (.lst (qs.map (·.2))):=by rw[<-xW];exact aw
    have lqs:(qs.map (·.2)).length=es.length:=Paired.length rs;refine cO ls rfl ⟨_,aq.of oW⟩ ?_;generalize hW:qs.map (·.2)=us at oW rs lqs;refine ig (n:=es.length) (λi ys H2=>af H1 H2/\Paired (uQ H2) ys (es.take i)) (by rw[iq];exact w5) ⟨af.refl _,by rw[List.take_zero];exact .nil⟩ ?_ ?_ ?_ ?_ ?_
    ·rintro i ys H2 ⟨_,r2⟩;rw[Paired.length r2,gU];exact xl
    ·rintro i ys H2 hi ⟨s2,_⟩;exact eT us (us[i]'wg) (aq.of (s2 _ _ oW)) (aT wg)
    ·rintro ys H2 ⟨s2,_⟩;exact ak us (aq.of (s2 _ _ oW)) om
    ·rintro i ys H2 hi ⟨s2,r2⟩ y H3 ⟨eH,hy⟩;subst eH;have tT:=hy us (aq.of (s2 _ _ oW));refine ag (Aq rs tT) λe he aa=>?_;refine cF aa λp st aa h1 h2=>?_;subst aa;have g1:=s2 _ _ (s1 _ _ h1);have g2:=s2 _ _ (s1 _ _ h2);refine⟨p,⟨_,rfl,aF.of g1,rfl,_,_,rfl,_,_,rfl,rfl,?_⟩⟩;dsimp only[jl];rw[if_pos rfl];refine vr rfl (ak 2 rfl ⟨st,⟨_,rfl,aF.of g2,by show ¬(HT.cb 3 0 none=0/\HT.cb 3 3 (some 2)=3);decide,λr ie=>?_⟩⟩);have s3:af H3 (upd H3 r (.tup (jC [.int e.n,.int e.num,.int e.d] none (some 2)))):=aE (af.refl _) ie;refine⟨s2.trans s3,?_⟩;rw[ku,he];exact Hx (wm (λ_ _ ⟨p,q1,q2⟩=>⟨p,q1,s3 _ _ q2⟩) r2) (ak r rfl (by rw[aw,amo]))
    ·rintro ys H2 ⟨s2,r2⟩;rw[ZH]at r2;have ly:=Paired.length r2;refine⟨by rw[iq];omega,λlr nr=>?_⟩;have s3:af H2 (upd H2 lr (.lst ys)):=aE (af.refl _) nr;refine k _ lr ys (sm.trans (s1.trans (s2.trans s3))) ?_ aw (wm (λ_ _ ⟨p,q1,q2⟩=>⟨p,q1,s3 _ _ q2⟩) r2);cases e:H lr with
     | none=>rfl
     | some o=>rw[s2 _ _ (s1 _ _ (sm _ _ e))]at nr;cases nr
end TL
namespace L4
open PySem PySem.Builtin PySem.Builtin.Str
abbrev Tl:=Str×List Nat
inductive c7 (sz:Nat):Tl->Prop
 | put (r m:Nat):r<4->m<10^60->c7 sz ("put",[r,m])
 | add (r o:Nat):r<4->o<4->c7 sz ("add",[r,o])
 | set (n r:Nat):n<12->r<4->c7 sz ("set",[n,r])
 | look (r n:Nat):r<4->n<12->c7 sz ("look",[r,n])
 | swap (r n:Nat):r<4->n<12->c7 sz ("swap",[r,n])
 | clear:c7 sz ("clear",[])
 | skip (r q:Nat):r<4->q<=sz->q<=120->c7 sz ("skip",[r,q])
theorem afZ:(121:Nat)<=10^60:=dk
theorem c7.len{sz:Nat}{t:Tl}(g:c7 sz t):t.2.length<=2:=by cases g <;> simp
def DT:List Str:=["put","add","set","look","swap","clear","skip"]
theorem c7.word{sz:Nat}{t:Tl}(g:c7 sz t):t.1∈DT:=by
 cases g <;> (unfold DT;simp only[cx,true_or,or_true])
abbrev Pt:=List Tl
structure uZ(ps:List Pt):Prop where
 ne:1<=ps.length
 le:ps.length<=4
 part:∀p∈ps,p.length<=120/\∀t∈p,c7 p.length t
theorem c7.mono{a b:Nat}{t:Tl}(g:c7 a t)(h:a<=b):c7 b t:=by
 cases g with
 | put r m h1 h2=>exact .put r m h1 h2
 | add r m h1 h2=>exact .add r m h1 h2
 | set r m h1 h2=>exact .set r m h1 h2
 | look r m h1 h2=>exact .look r m h1 h2
 | swap r m h1 h2=>exact .swap r m h1 h2
 | clear=>exact .clear
 | skip r q h1 h2 h3=>exact .skip r q h1 (cH h2 h) h3
end L4
namespace L2
open PySem PySem.Spec PyProof.Rows
section
variable{X:Cx}
end
section
variable{X:Cx}{CX:nI}{k:Nat}{E:XK}{m:Str}{pos apos:Pos}{e o:Expr}{es:List Expr}{ta:TE}{t:TA}
end
end L2
namespace TL
open PySem PySem.Spec PyProof.Rows PySem.SeqAt L2 L3 L4
variable{P:Program}{w:World}{K:PySem.W.Frag}{mg:Str->Option Value}{base:Heap}
def tv(t:Tl):List V:=.str t.1::t.2.map λ(n:Nat)=>V.int (n:Int)
def pC(H:Hp)(v:V)(t:Tl):Prop:=∃a,v=.ref a/\H a=some (.tup (tv t))
def IsPart(H:Hp)(v:V)(p:Pt):Prop:=∃a vs,v=.ref a/\H a=some (.tup vs)/\Paired (pC H) vs p
def jj(H:Hp)(v:V)(ps:List Pt):Prop:=∃a vs,v=.ref a/\H a=some (.tup vs)/\Paired (IsPart H) vs ps
theorem pC.keep{H H':Hp}{v:V}{t:Tl}(k:∀b xs,H b=some (.tup xs)->H' b=some (.tup xs))(h:pC H v t):pC H' v t:=by
 refine ag h λa e h=>?_;exact ak a e (k _ _ h)
theorem IsPart.keep{H H':Hp}{v:V}{p:Pt}(k:∀b xs,H b=some (.tup xs)->H' b=some (.tup xs))(h:IsPart H v p):IsPart H' v p:=by
 refine cF h λa vs e h r=>?_;exact eL a vs e (k _ _ h) (Paired.b9 r λ_ _ q=>q.keep k)
theorem jj.keep{H H':Hp}{v:V}{p:List Pt}(k:∀b xs,H b=some (.tup xs)->H' b=some (.tup xs))(h:jj H v p):jj H' v p:=by
 refine cF h λa vs e h r=>?_;exact eL a vs e (k _ _ h) (Paired.b9 r λ_ _ q=>q.keep k)
def LB(b:Bool):Sp:=λvs H Q _=>∃a,vs=[.ref a]/\Q (.bl b) H
theorem agh:bc ["self"] ["self"] (aO DY):=bz
theorem ab5:bc ["self"] ["self"] (aO Dm):=bz
theorem abC:bc ["self"] ["self"] (aO De):=bz
theorem AK{f:Addr}{fd:aV}(F:aW K "empties" "Step.empties" DY f fd):ay P w K mg base az 1 f fd ["self"] (LB false):=by
 refine F.ok agh (λvs H Q E h=>?_) λaI A outer s H vs Q E hr h=>?_
 ·refine ag h λa aa _=>?_;clear h;subst aa;rfl
 ·refine ag h λa aa k=>?_;clear h;subst aa;exact nC (aB (a7 kQ)) k
theorem abD{f:Addr}{fd:aV}(F:aW K "empties" "Swap.empties" Dm f fd):ay P w K mg base az 1 f fd ["self"] (LB true):=by
 refine F.ok ab5 (λvs H Q E h=>?_) λaI A outer s H vs Q E hr h=>?_
 ·refine ag h λa aa _=>?_;clear h;subst aa;rfl
 ·refine ag h λa aa k=>?_;clear h;subst aa;exact nC (aB (a7 kQ)) k
theorem aa8{f:Addr}{fd:aV}(F:aW K "empties" "Clear.empties" De f fd):ay P w K mg base az 1 f fd ["self"] (LB true):=by
 refine F.ok abC (λvs H Q E h=>?_) λaI A outer s H vs Q E hr h=>?_
 ·refine ag h λa aa _=>?_;clear h;subst aa;rfl
 ·refine ag h λa aa k=>?_;clear h;subst aa;exact nC (aB (a7 kQ)) k
structure C6(K:W.Frag)(c:Addr)(t:bg)(MB MD Mz Lx Lv Lw:Bool):Prop where
 cl:W.findIn K (.ref c) "__class__" = some (some (.builtin "object.__class__"))
 mr:W.mroIn K c (.type "object")=some true
 amc:W.kitOne K (.ref c) (.ref t.ma)=some MB
 amd:W.kitOne K (.ref c) (.ref t.mf)=some MD
 amb:W.kitOne K (.ref c) (.ref t.kY)=some Mz
 aki:W.kitOne K (.ref c) (.ref t.lC)=some Lx
 akh:W.kitOne K (.ref c) (.ref t.lB)=some Lv
 Ul:W.kitOne K (.ref c) (.ref t.j')=some Lw
structure mm where
 (zA UA UB:Addr)
 (LR Kh Ki:aV)
structure wW(K:W.Frag)(mg:Str->Option Value)(t:bg)(u:mm):Prop where
 st:s9 K mg t
 Bw:aW K "empties" "Step.empties" DY u.zA u.LR
 xr:Binds K u.LR ["self"] []
 aiT:aW K "empties" "Swap.empties" Dm u.UA u.Kh
 Lg:Binds K u.Kh ["self"] []
 aiX:aW K "empties" "Clear.empties" De u.UB u.Ki
 Lh:Binds K u.Ki ["self"] []
 gt:W.specialIn K (.builtin "object.__class__") "__get__" = some (some (.builtin "getset_descriptor.__get__"))
 tk:W.takesIn K (.builtin "object.__class__")=some true
 akR:Meth K t.ma "empties" u.zA
 akS:Meth K t.mf "empties" u.zA
 akQ:Meth K t.kY "empties" u.zA
 ai9:Meth K t.lC "empties" u.zA
 ai7:Meth K t.lB "empties" u.UA
 ahN:Meth K t.sZ "empties" u.UB
 ai8:Meth K t.j' "empties" u.zA
 LM:C6 K t.ma t true false false false false false
 LN:C6 K t.mf t false true false false false false
 LL:C6 K t.kY t false false true false false false
 KZ:C6 K t.lC t false false false true false false
 KW:C6 K t.lB t false false false false true false
 Kd:C6 K t.sZ t false false false false false false
 KY:C6 K t.j' t false false false false false true
def rA(t:bg)(H:Hp)(v:V)(s:Tl):Prop:=∃z a dx,v=.ref z/\H z=some (.ins (dq t s.1) dx (eQ (.ref a) s.1 (s.2.map λ(n:Nat)=>V.int (n:Int))))
theorem rA.keep{t:bg}{H H':Hp}{v:V}{s:Tl}(k:∀b C dx fs,H b=some (.ins C dx fs)->v=.ref b->H' b=some (.ins C dx fs))(h:rA t H v s):rA t H' v s:=by
 refine gJ h λz a dx e1 h=>?_;exact K1 z a dx e1 (k _ _ _ _ h e1)
theorem AY(m:Str)(h:∀f∈(["number","reg","parts","other","name","place"]:List Str),m≠f)(v:V)(x:Str)(ps:List V):(eQ v x ps).lookup m=none:=by
 have h1:=h "number" (by simp);have h2:=h "reg" (by simp);have h3:=h "parts" (by simp);have h4:=h "other" (by simp);have h5:=h "name" (by simp);have h6:=h "place" (by simp);unfold eQ
 repeat (first | (split;(simp only[f9,if_neg h1,if_neg h2,if_neg h3,if_neg h4,if_neg h5,if_neg h6];rfl)) | (simp only[f9,if_neg h1,if_neg h2,if_neg h3,if_neg h4,if_neg h5,if_neg h6];rfl))
def kU(s:Tl):Bool:=decide (s.1 = "swap")||decide (s.1 = "clear")
theorem Jy(t:bg):dq t "put" = t.ma:=by unfold dq;rw[if_pos rfl]
theorem Rr(ns:List Nat):kU ("put",ns)=false:=by show (decide (("put" : Str) = "swap")||decide (("put" : Str) = "clear"))=_;decide +kernel
theorem Jz(t:bg):dq t "add" = t.mf:=by unfold dq;rw[if_neg dk,if_pos rfl]
theorem Rt(ns:List Nat):kU ("add",ns)=false:=by show (decide (("add" : Str) = "swap")||decide (("add" : Str) = "clear"))=_;decide +kernel
theorem Jx(t:bg):dq t "set" = t.kY:=by unfold dq;rw[if_neg dk,if_neg dk,if_pos rfl]
theorem Rq(ns:List Nat):kU ("set",ns)=false:=by show (decide (("set" : Str) = "swap")||decide (("set" : Str) = "clear"))=_;decide +kernel
theorem IU(t:bg):dq t "look" = t.lC:=by unfold dq;rw[if_neg dk,if_neg dk,if_neg dk,if_pos rfl]
theorem QH(ns:List Nat):kU ("look",ns)=false:=by show (decide (("look" : Str) = "swap")||decide (("look" : Str) = "clear"))=_;decide +kernel
theorem IS(t:bg):dq t "swap" = t.lB:=by unfold dq;rw[if_neg dk,if_neg dk,if_neg dk,if_neg dk,if_pos rfl]
theorem HR(ns:List Nat):kU ("swap",ns)=true:=by show (decide (("swap" : Str) = "swap")||decide (("swap" : Str) = "clear"))=_;decide +kernel
theorem QR(t:bg):dq t "clear" = t.sZ:=by unfold dq;rw[if_neg dk,if_neg dk,if_neg dk,if_neg dk,if_neg dk,if_pos rfl]
theorem PU(ns:List Nat):kU ("clear",ns)=true:=by show (decide (("clear" : Str) = "swap")||decide (("clear" : Str) = "clear"))=_;decide +kernel
theorem IT(t:bg):dq t "skip" = t.j':=by unfold dq;rw[if_neg dk,if_neg dk,if_neg dk,if_neg dk,if_neg dk,if_neg dk]
theorem QG(ns:List Nat):kU ("skip",ns)=false:=by show (decide (("skip" : Str) = "swap")||decide (("skip" : Str) = "clear"))=_;decide +kernel
theorem ai6{t:bg}{u:mm}(T:wW K mg t u){z a dx:Addr}{H:Hp}{s:Tl}{sz:Nat}(g:c7 sz s)(hz:H z=some (.ins (dq t s.1) dx (eQ (.ref a) s.1 (s.2.map λ(n:Nat)=>V.int (n:Int))))) :
  ∃C f fd pn sp,H z=some (.ins C dx (eQ (.ref a) s.1 (s.2.map λ(n:Nat)=>V.int (n:Int))))/\eU K C/\Meth K C "empties" f/\ay P w K mg base az 1 f fd pn sp/\Binds K fd pn []/\∀(Q:VK) (E:XK),Q (.bl (kU s)) H->sp [.ref z] H Q E:=by
 cases g with
 | put r m h1 h2=>
  rw[Rr];have hz:H z=some (.ins (dq t "put") dx _):=hz;rw[Jy]at hz;exact qd _ _ _ _ _ hz T.st.wI T.akR (AK T.Bw) T.xr λQ E q=>⟨z,rfl,q⟩
 | add r m h1 h2=>
  rw[Rt];have hz:H z=some (.ins (dq t "add") dx _):=hz;rw[Jz]at hz;exact qd _ _ _ _ _ hz T.st.uX T.akS (AK T.Bw) T.xr λQ E q=>⟨z,rfl,q⟩
 | set r m h1 h2=>
  rw[Rq];have hz:H z=some (.ins (dq t "set") dx _):=hz;rw[Jx]at hz;exact qd _ _ _ _ _ hz T.st.tm T.akQ (AK T.Bw) T.xr λQ E q=>⟨z,rfl,q⟩
 | look r m h1 h2=>
  rw[QH];have hz:H z=some (.ins (dq t "look") dx _):=hz;rw[IU]at hz;exact qd _ _ _ _ _ hz T.st.sY T.ai9 (AK T.Bw) T.xr λQ E q=>⟨z,rfl,q⟩
 | swap r m h1 h2=>
  rw[HR];have hz:H z=some (.ins (dq t "swap") dx _):=hz;rw[IS]at hz;exact qd _ _ _ _ _ hz T.st.rj T.ai7 (abD T.aiT) T.Lg λQ E q=>⟨z,rfl,q⟩
 | clear=>
  rw[PU];have hz:H z=some (.ins (dq t "clear") dx _):=hz;rw[QR]at hz;exact qd _ _ _ _ _ hz T.st.AZ T.ahN (aa8 T.aiX) T.Lh λQ E q=>⟨z,rfl,q⟩
 | skip r m h1 h2 h3=>
  rw[QG];have hz:H z=some (.ins (dq t "skip") dx _):=hz;rw[IT]at hz;exact qd _ _ _ _ _ hz T.st.uP T.ai8 (AK T.Bw) T.xr λQ E q=>⟨z,rfl,q⟩
theorem Ke{t:bg}{u:mm}(T:wW K mg t u){z a dx:Addr}{H:Hp}{s:Tl}{sz:Nat}(g:c7 sz s)(hz:H z=some (.ins (dq t s.1) dx (eQ (.ref a) s.1 (s.2.map λ(n:Nat)=>V.int (n:Int))))) :
  ∃C:Addr,iw K H (.ref z) (.ref C)/\C6 K C t (decide (s.1 = "put")) (decide (s.1 = "add")) (decide (s.1 = "set")) (decide (s.1 = "look")) (decide (s.1 = "swap")) (decide (s.1 = "skip")):=by
 cases g with
 | put r m h1 h2=>
  have hz:H z=some (.ins (dq t "put") dx _):=hz;rw[Jy]at hz;exact ak _ (iw.ins hz T.st.wI T.LM.cl T.gt T.tk T.LM.mr) T.LM
 | add r m h1 h2=>
  have hz:H z=some (.ins (dq t "add") dx _):=hz;rw[Jz]at hz;exact ak _ (iw.ins hz T.st.uX T.LN.cl T.gt T.tk T.LN.mr) T.LN
 | set r m h1 h2=>
  have hz:H z=some (.ins (dq t "set") dx _):=hz;rw[Jx]at hz;exact ak _ (iw.ins hz T.st.tm T.LL.cl T.gt T.tk T.LL.mr) T.LL
 | look r m h1 h2=>
  have hz:H z=some (.ins (dq t "look") dx _):=hz;rw[IU]at hz;exact ak _ (iw.ins hz T.st.sY T.KZ.cl T.gt T.tk T.KZ.mr) T.KZ
 | swap r m h1 h2=>
  have hz:H z=some (.ins (dq t "swap") dx _):=hz;rw[IS]at hz;exact ak _ (iw.ins hz T.st.rj T.KW.cl T.gt T.tk T.KW.mr) T.KW
 | clear=>
  have hz:H z=some (.ins (dq t "clear") dx _):=hz;rw[QR]at hz;exact ak _ (iw.ins hz T.st.AZ T.Kd.cl T.gt T.tk T.Kd.mr) T.Kd
 | skip r m h1 h2 h3=>
  have hz:H z=some (.ins (dq t "skip") dx _):=hz;rw[IT]at hz;exact ak _ (iw.ins hz T.st.uP T.KY.cl T.gt T.tk T.KY.mr) T.KY
structure Act where
 (k:Str) (c n:Nat) (got gave seen:Option Int)
def oV:Option Int->V
 | none=>.aD
 | some i=>.int i
def amq(a:Act):List V:=[.str a.k,.int (a.c:Nat),.int (a.n:Nat),oV a.got,oV a.gave,oV a.seen]
def tu(H:Hp)(v:V)(a:Act):Prop:=∃p,v=.ref p/\H p=some (.tup (amq a))
structure Ck where
 (pl ct:Nat) (rg:List Int) (tn:Int) (es:List Ent)
structure Mc where
 (kd:Str) (ps:List Pt) (ck:List Ck) (bd:List Int) (ac:List Act) (ov:List (List Int))
structure MA where
 (lt:Addr) (ts:List (Addr×Addr×List Addr)) (pg st pl ct rg:Addr) (rs:List Addr) (ce ac cm:Addr) (cs:List Addr)
def Tt:List Str:=["at_end","may_do","carries","moves","do","do_step","do_set","do_look","do_swap","carry","come","on_board","settle","ended","where","steps_done","registers","waiting","board","deeds","deeds_done","deed_at","over","twin"]
structure vf(fs:List (Str×V))(A:MA)(S:Mc):Prop where
 gI:fs.lookup ("trays" : Str)=some (.ref A.lt)
 program:fs.lookup ("program" : Str)=some (.ref A.pg)
 kind:fs.lookup ("kind" : Str)=some (.str S.kd)
 steps:fs.lookup ("steps" : Str)=some (.ref A.st)
 places:fs.lookup ("places" : Str)=some (.ref A.pl)
 counts:fs.lookup ("counts" : Str)=some (.ref A.ct)
 eR:fs.lookup ("regs" : Str)=some (.ref A.rg)
 cells:fs.lookup ("cells" : Str)=some (.ref A.ce)
 i8:fs.lookup ("acts" : Str)=some (.ref A.ac)
 l0:fs.lookup ("comers" : Str)=some (.ref A.cm)
 ms:∀m∈Tt,fs.lookup m=none
 xp:fs.length<=20
abbrev V2(CT:Addr)(kd:Str)(H:Hp)(x:Addr×Addr×List Addr)(k:Ck):Prop:=dy H x.1 CT kd k.tn k.es x.2.1 x.2.2
def yN(t:bg)(H:Hp)(v:V)(p:Pt):Prop:=∃b us,v=.ref b/\H b=some (.tup us)/\Paired (rA t H) us p
structure a9(t:bg)(C CT:Addr)(H:Hp)(m:Addr)(A:MA)(S:Mc):Prop where
 obj:∃dx fs,H m=some (.ins C dx fs)/\vf fs A S
 lt:H A.lt=some (.lst (A.ts.map λx=>V.ref x.1))
 ts:Paired (V2 CT S.kd H) A.ts S.ck
 pg:jj H (.ref A.pg) S.ps
 st:∃vs,H A.st=some (.tup vs)/\Paired (yN t H) vs S.ps
 pl:H A.pl=some (.lst (S.ck.map λk=>V.int (k.pl:Nat)))
 ct:H A.ct=some (.lst (S.ck.map λk=>V.int (k.ct:Nat)))
 rg:H A.rg=some (.lst (A.rs.map V.ref))
 rs:Paired (λa (k:Ck)=>H a=some (.lst (k.rg.map V.int))) A.rs S.ck
 ce:H A.ce=some (.lst (S.bd.map V.int))
 ac:∃vs,H A.ac=some (.lst vs)/\Paired (tu H) vs S.ac
 cm:H A.cm=some (.lst (A.cs.map V.ref))
 cs:Paired (λa (o:List Int)=>H a=some (.lst (o.map V.int))) A.cs S.ov
structure jm(lab:Addr->Nat)(m:Addr)(A:MA):Prop where
 m:lab m=2
 lt:lab A.lt=4
 pl:lab A.pl=6
 ct:lab A.ct=8
 rg:lab A.rg=10
 ce:lab A.ce=12
 ac:lab A.ac=14
 cm:lab A.cm=16
 rs:∀i a,A.rs[i]?=some a->lab a=24+6*i
 cs:∀i a,A.cs[i]?=some a->lab a=26+6*i
 ts:∀i x,A.ts[i]?=some x->∀b∈x.1::x.2.1::x.2.2,lab b=28+6*i
inductive cX (m:Addr) (A:MA):Addr->Prop
 | m:cX m A m
 | lt:cX m A A.lt
 | pl:cX m A A.pl
 | ct:cX m A A.ct
 | rg:cX m A A.rg
 | ce:cX m A A.ce
 | ac:cX m A A.ac
 | cm:cX m A A.cm
 | rs {a:Addr}:a∈A.rs->cX m A a
 | cs {a:Addr}:a∈A.cs->cX m A a
 | ts {x:Addr×Addr×List Addr} {b:Addr}:x∈A.ts->b∈x.1::x.2.1::x.2.2->cX m A b
structure aR(F:Addr->Prop)(H H':Hp):Prop where
 k:∀b o,¬F b->(∀ps,o≠.fk ps)->H b=some o->H' b=some o
 t:∀b,H' b=none->H b=none
theorem aR.of{F:Addr->Prop}{H H':Hp}(s:af H H'):aR F H H':=⟨λb o _ _ e=>s b o e,λb h=>s.free h⟩
theorem aR.refl{F:Addr->Prop}(H:Hp):aR F H H:=⟨λ_ _ _ _ e=>e,λ_ h=>h⟩
theorem aR.trans{F:Addr->Prop}{H H1 H2:Hp}(a:aR F H H1)(b:aR F H1 H2):aR F H H2:=⟨λc o h1 h2 e=>b.k c o h1 h2 (a.k c o h1 h2 e),λc h=>a.t c (b.t c h)⟩
theorem aR.mono{F G:Addr->Prop}{H H':Hp}(a:aR F H H')(h:∀b,F b->G b):aR G H H':=⟨λc o h1 h2 e=>a.k c o (λz=>h1 (h c z)) h2 e,a.t⟩
theorem aR.MM{F:List Addr}{G:Addr->Prop}{H H':Hp}(a:gK F H H')(h:∀b∈F,G b):aR G H H':=⟨λc o h1 h2 e=>a.k c o (λz=>h1 (h c z)) h2 e,a.t⟩
theorem aR.upd{F:Addr->Prop}{H:Hp}{x:Addr}{o:HO}(h:F x):aR F H (upd H x o):=⟨λb q n _ e=>by rw[ar λz=>n (by rw[z];exact h)];exact e,λb e=>by
 by_cases z:b=x
 ·rw[z,aw]at e;cases e
 ·rwa[ar z]at e⟩
theorem gK.ofA{H H':Hp}{a C q:Addr}{kd:Str}{tn:Int}{es:List Ent}{qr:List Addr}(k:En (a::q::qr) H H')(T:dy H' a C kd tn es q qr):gK (a::q::qr) H H':=
 ⟨λc o h1 _ e=>k c o h1 e,λc h=>by
  by_cases z:c∈a::q::qr
  ·refine oE (T.there c z) λo e=>?_;rw[e]at h;cases h
  ·cases e:H c with
   | none=>rfl
   | some o=>rw[k c o z e]at h;cases h⟩
def iT:Addr->Prop:=λ_=>False
theorem eW{α β:Type}{F:α->β->Prop}{G:α->β->Prop}:∀{l:List α} {r:List β},Paired F l r->(∀(i:Nat) a b,l[i]?=some a->r[i]?=some b->F a b->G a b)->Paired G l r
 | _,_,.nil,_=>.nil
 | _,_,.cons h t,k=>.cons (k 0 _ _ rfl rfl h) (eW t λi a b e1 e2 q=>k (i+1) a b (by simpa using e1) (by simpa using e2) q)
theorem yN.keep{t:bg}{H H':Hp}{v:V}{p:Pt}(kt:∀b xs,H b=some (.tup xs)->H' b=some (.tup xs))(ki:∀b C dx fs,H b=some (.ins C dx fs)->(∃x ps v,C=dq t x/\fs=eQ v x ps)->H' b=some (.ins C dx fs))(h:yN t H v p):yN t H' v p:=by
 refine cF h λb us e h1 h2=>?_;refine eL b us e (kt _ _ h1) (Paired.b9 h2 λv s q=>?_);refine gJ q λz a dx e1 q=>?_;exact K1 z a dx e1 (ki _ _ _ _ q (qD _ _ (ak _ rfl rfl)))
theorem tu.keep{H H':Hp}{v:V}{a:Act}(k:∀b xs,H b=some (.tup xs)->H' b=some (.tup xs))(h:tu H v a):tu H' v a:=by
 refine ag h λp e h=>?_;exact ak p e (k _ _ h)
theorem lj{α β:Type}{F:α->β->Prop}:∀{l:List α} {r:List β} {i:Nat} {y:β},Paired F l r->r[i]?=some y->∃x,l[i]?=some x/\F x y
 | _,_,_,_,.nil,e=>by simp at e
 | _,_,0,_,.cons h _,e=>by simp at e;subst e;exact⟨_,rfl,h⟩
 | _,_,i+1,x,.cons _ t,e=>by
  refine ag (lj (i:=i) t (by simpa using e)) λy h1 h2=>?_;exact ak y (by simpa using h1) h2
theorem C7{α β:Type}{F:α->β->Prop}{l':List α}{r':List β}(h':Paired F l' r'):∀{l:List α} {r:List β},Paired F l r->Paired F (l++l') (r++r')
 | _,_,.nil=>h'
 | _,_,.cons g t=>.cons g (C7 h' t)
theorem mQ{α β:Type}{F:α->β->Prop}:∀{l:List α} {m:List β} {b:α},Paired F l m->b∈l->∃y,y∈m/\F b y
 | _,_,_,.nil,h=>by simp at h
 | _,_,_,.cons h t,e=>by
  rcases cx.mp e with z | z
  ·subst z;exact⟨_,by simp,h⟩
  ·refine ag (mQ t z) λy hy q=>?_;exact ak y (eV _ hy) q
theorem a9.keep{t:bg}{C CT:Addr}{H H':Hp}{m:Addr}{A:MA}{S:Mc}(M:a9 t C CT H m A S)(k:∀b,cX m A b->∀o,H b=some o->H' b=some o)(kt:∀b xs,H b=some (.tup xs)->H' b=some (.tup xs))(ki:∀b C dx fs,H b=some (.ins C dx fs)->H' b=some (.ins C dx fs)):a9 t C CT H' m A S:=by
 obtain⟨⟨dx,fs,h1,h2⟩,lt,ts,pg,⟨vs,s1,s2⟩,pl,ct,rg,rs,ce,⟨us,a1,a2⟩,cm,cs⟩:=M;refine⟨⟨dx,fs,k _ .m _ h1,h2⟩,k _ .lt _ lt,?_,pg.keep kt,⟨vs,kt _ _ s1,Paired.b9 s2 λ_ _ q=>q.keep kt λb C dx fs e _=>ki b C dx fs e⟩,k _ .pl _ pl,k _ .ct _ ct,k _ .rg _ rg,?_,k _ .ce _ ce,⟨us,k _ .ac _ a1,Paired.b9 a2 λ_ _ q=>q.keep kt⟩,k _ .cm _ cm,?_⟩
 ·exact eW ts λi x c hx _ q=>q.keep (λb hb o e=>k b (.ts (bb hx) hb) o e) kt
 ·exact eW rs λi x c hx _ q=>k x (.rs (bb hx)) _ q
 ·exact eW cs λi x c hx _ q=>k x (.cs (bb hx)) _ q
theorem a9.Bn{t:bg}{C CT:Addr}{H H':Hp}{m:Addr}{A:MA}{S:Mc}{F:Addr->Prop}(M:a9 t C CT H m A S)(k:aR F H H')(hF:∀b,F b->¬cX m A b/\∀o,H b=some o->∃xs,o=.lst xs):a9 t C CT H' m A S:=by
 have nt:∀b o,cX m A b->H b=some o->∀ps,o≠.fk ps:=by
  intro b o hb e ps z;subst z;cases hb with
  | m=>obtain⟨dx,fs,h,_⟩:=M.obj;rw[h]at e;cases e
  | lt=>rw[M.lt]at e;cases e
  | pl=>rw[M.pl]at e;cases e
  | ct=>rw[M.ct]at e;cases e
  | rg=>rw[M.rg]at e;cases e
  | ce=>rw[M.ce]at e;cases e
  | ac=>obtain⟨vs,h,_⟩:=M.ac;rw[h]at e;cases e
  | cm=>rw[M.cm]at e;cases e
  | rs h=>
   refine ag (mQ M.rs h) λc _ q=>?_;rw[q]at e;cases e
  | cs h=>
   refine ag (mQ M.cs h) λc _ q=>?_;rw[q]at e;cases e
  | ts h h2=>
   refine ag (mQ M.ts h) λc _ q=>?_;rcases q.kinds _ h2 _ e with ⟨_,_,_,z⟩ | ⟨_,z⟩ <;> cases z
 refine M.keep (λb hb o e=>k.k b o (λz=>(hF b z).1 hb) (nt b o hb e) e) (λb xs e=>k.k b _ (λz=>?_) (λps z=>by cases z) e) λb C dx fs e=>k.k b _ (λz=>?_) (λps z=>by cases z) e
 ·refine oE ((hF b z).2 _ e) λys q=>?_;cases q
 ·refine oE ((hF b z).2 _ e) λys q=>?_;cases q
theorem a9.same{t:bg}{C CT:Addr}{H H':Hp}{m:Addr}{A:MA}{S:Mc}(M:a9 t C CT H m A S)(s:af H H'):a9 t C CT H' m A S:=M.keep (λb _ o e=>s b o e) (λb xs e=>s b _ e) λb C dx fs e=>s b _ e
theorem a9.nu{t:bg}{C CT:Addr}{H H':Hp}{m:Addr}{A:MA}{S:Mc}(M:a9 t C CT H m A S)(k:aR iT H H'):a9 t C CT H' m A S:=M.Bn k λb z=>z.elim
theorem c8{a b c m:Nat}(l:a<b:=by decide):a≠b+m*c:=λh=>kv a (fu l (h ▸ GJ b (m*c)))
theorem jn{a b c m:Nat}(l:a<b:=by decide):b+m*c≠a:=λe=>c8 (l:=l) e.symm
theorem iy{a b i c m:Nat}(l:a%m≠b%m:=by decide):a+m*i≠b+m*c:=λh=>l (by rw[<-Yz a m i,h,Yz])
theorem rQ{a b i c:Nat}(h:i≠c:=by with_reducible assumption):a+(b+1)*i≠a+(b+1)*c:=λe=>h (Nat.eq_of_mul_eq_mul_left (Pd b) (Nat.add_left_cancel e))
theorem dQ{a b:Nat}(n:a≠b:=by decide):a≠b:=n
theorem bV{p q a b:Nat}(e1:p=a)(e2:q=b)(n:a≠b):p≠q:=λh=>n (e1.symm.trans (h.trans e2))
theorem qA{p q a:Nat}(e1:p=a)(n:a≠q):p≠q:=λh=>n (e1.symm.trans h)
theorem bp{lab:Addr->Nat}{a b:Addr}(h:lab a≠lab b):a≠b:=λe=>h (by rw[e])
theorem yi{α β:Type}{f:α->β}{r:List α}{c:Nat}{k k':α}(h:r[c]?=some k)(e:f k'=f k):(r.set c k').map f=r.map f:=by
 rw[yk,e];refine oE (eK.mp h) λhc hk=>?_;rw[<-hk]
 exact List.ext_getElem? λi=>by
  rw[List.getElem?_set]
  split
  ·rename_i hi
   subst hi
   split
   ·rw[gC,aT hc];rfl
   ·rename_i hn;rw[aN]at hn;exact absurd hc hn
  ·rfl
theorem uq{α β:Type}{F:α->β->Prop}{b':β}:∀{l:List α} {r:List β} {c:Nat} {b:β},Paired F l r->r[c]?=some b->(∀a,l[c]?=some a->F a b->F a b')->Paired F l (r.set c b')
 | _,_,_,_,.nil,_,_=>.nil
 | _,_,0,b,.cons h t,e,k=>by
  simp only[List.getElem?_cons_zero,yb]at e;subst e;exact .cons (k _ rfl h) t
 | _,_,c+1,b,.cons h t,e,k=>by
  rw[List.getElem?_cons_succ]at e;exact .cons h (uq t e λa ha=>k a (by simpa using ha))
theorem yl{α β:Type}{F G:α->β->Prop}{b':β}:∀{l:List α} {r:List β} {c:Nat},Paired F l r->(∀i a b,i≠c->l[i]?=some a->r[i]?=some b->F a b->G a b)->(∀a b,l[c]?=some a->r[c]?=some b->F a b->G a b')->Paired G l (r.set c b')
 | _,_,_,.nil,_,_=>.nil
 | _,_,0,.cons h t,k,k'=>by
  refine .cons (k' _ _ rfl rfl h) (eW t λi a b e1 e2 q=>k (i+1) a b om (by simpa using e1) (by simpa using e2) q)
 | _,_,c+1,.cons h t,k,k'=>by
  refine .cons (k 0 _ _ om rfl rfl h) (yl t (λi a b hi e1 e2 q=>k (i+1) a b om (by simpa using e1) (by simpa using e2) q) λa b e1 e2 q=>k' a b (by simpa using e1) (by simpa using e2) q)
theorem nZ{α β:Type}{F:α->β->Prop}{a:α}{b:β}:∀{l:List α} {r:List β},Paired F l r->F a b->Paired F (l++[a]) (r++[b])
 | _,_,.nil,h=>.cons h .nil
 | _,_,.cons g t,h=>.cons g (nZ t h)
section
variable{t:bg}{C CT:Addr}{H:Hp}{m:Addr}{A:MA}{S:Mc}{lab:Addr->Nat}
theorem mZ{x:Addr}{xs:List V}{o:HO}(hx:H x=some (.lst xs)):∀b ys,H b=some (.tup ys)->upd H x o b=some (.tup ys):=λb ys e=>by rw[ar (iK e hx (by intro z;cases z))];exact e
theorem yF{x:Addr}{xs:List V}{o:HO}(hx:H x=some (.lst xs)):∀b C dx fs,H b=some (.ins C dx fs)->upd H x o b=some (.ins C dx fs):=λb C dx fs e=>by rw[ar (iK e hx (by intro z;cases z))];exact e
theorem Ss{PT x:Addr}{pos:Pos}{q:Str}{xs:List V}{o:HO}(hx:H x=some (.lst xs))(h:cU PT pos q H):cU PT pos q (upd H x o):=
 Az (F:=[x]) h (λb o' n e=>by rw[ar λz=>n (by rw[z];exact ip.mpr rfl)];exact e) λb hb o' e=>by rw[ip.mp hb,hx]at e;cases e;exact .inr ⟨_,rfl⟩
theorem ajR(M:a9 t C CT H m A S)(L:jm lab m A){c:Nat}{k:Ck}(hk:S.ck[c]?=some k)(v:Nat):a9 t C CT (upd H A.pl (.lst ((S.ck.map λk=>V.int (k.pl:Nat)).set c (.int (v:Nat))))) m A { S with ck:=S.ck.set c { k with pl:=v } }:=by
 obtain⟨⟨dx,fs,h1,h2⟩,lt,ts,pg,⟨vs,s1,s2⟩,pl,ct,rg,rs,ce,⟨us,a1,a2⟩,cm,cs⟩:=M;have bu:lab A.pl=6:=L.pl;have kt:=mZ (o:=.lst ((S.ck.map λk=>V.int (k.pl:Nat)).set c (.int (v:Nat)))) pl;have ki:=yF (o:=.lst ((S.ck.map λk=>V.int (k.pl:Nat)).set c (.int (v:Nat)))) pl;have h2:vf fs A { S with ck:=S.ck.set c { k with pl:=v } }:=⟨h2.gI,h2.program,h2.kind,h2.steps,h2.places,h2.counts,h2.eR,h2.cells,h2.i8,h2.l0,h2.ms,h2.xp⟩
 exact⟨⟨dx,fs,(ar (bp (lab:=lab) (bV L.m bu dQ))).trans h1,h2⟩,(ar (bp (lab:=lab) (bV L.lt bu dQ))).trans lt,uq (eW ts λi x c hx _ q=>dy.keep q (λb hb o e=>(ar (bp (lab:=lab) (bV (L.ts i x hx b hb) bu jn))).trans e) kt) hk λa _ q=>q,pg.keep kt,⟨vs,kt _ _ s1,Paired.b9 s2 λ_ _ q=>q.keep kt λb C dx fs e _=>ki b C dx fs e⟩,by
   show upd H _ _ A.pl=some (.lst ((S.ck.set c { k with pl:=v }).map λk=>V.int (k.pl:Nat)));rw[aw,yk],by
   show upd H _ _ A.ct=some (.lst ((S.ck.set c { k with pl:=v }).map λk=>V.int (k.ct:Nat)));rw[yi (f:=λk:Ck=>V.int (k.ct:Nat)) (k':={ k with pl:=v }) hk rfl];exact(ar (bp (lab:=lab) (bV L.ct bu dQ))).trans ct,(ar (bp (lab:=lab) (bV L.rg bu dQ))).trans rg,uq (eW rs λi x c hx _ q=>(ar (bp (lab:=lab) (bV (L.rs i x hx) bu jn))).trans q) hk λa _ q=>q,(ar (bp (lab:=lab) (bV L.ce bu dQ))).trans ce,⟨us,(ar (bp (lab:=lab) (bV L.ac bu dQ))).trans a1,Paired.b9 a2 λ_ _ q=>q.keep kt⟩,(ar (bp (lab:=lab) (bV L.cm bu dQ))).trans cm,eW cs λi x c hx _ q=>(ar (bp (lab:=lab) (bV (L.cs i x hx) bu jn))).trans q⟩
theorem ajT(M:a9 t C CT H m A S)(L:jm lab m A){c:Nat}{k:Ck}(hk:S.ck[c]?=some k)(v:Nat):a9 t C CT (upd H A.ct (.lst ((S.ck.map λk=>V.int (k.ct:Nat)).set c (.int (v:Nat))))) m A { S with ck:=S.ck.set c { k with ct:=v } }:=by
 obtain⟨⟨dx,fs,h1,h2⟩,lt,ts,pg,⟨vs,s1,s2⟩,pl,ct,rg,rs,ce,⟨us,a1,a2⟩,cm,cs⟩:=M;have bu:lab A.ct=8:=L.ct;have kt:=mZ (o:=.lst ((S.ck.map λk=>V.int (k.ct:Nat)).set c (.int (v:Nat)))) ct;have ki:=yF (o:=.lst ((S.ck.map λk=>V.int (k.ct:Nat)).set c (.int (v:Nat)))) ct;have h2:vf fs A { S with ck:=S.ck.set c { k with ct:=v } }:=⟨h2.gI,h2.program,h2.kind,h2.steps,h2.places,h2.counts,h2.eR,h2.cells,h2.i8,h2.l0,h2.ms,h2.xp⟩
 exact⟨⟨dx,fs,(ar (bp (lab:=lab) (bV L.m bu dQ))).trans h1,h2⟩,(ar (bp (lab:=lab) (bV L.lt bu dQ))).trans lt,uq (eW ts λi x c hx _ q=>dy.keep q (λb hb o e=>(ar (bp (lab:=lab) (bV (L.ts i x hx b hb) bu jn))).trans e) kt) hk λa _ q=>q,pg.keep kt,⟨vs,kt _ _ s1,Paired.b9 s2 λ_ _ q=>q.keep kt λb C dx fs e _=>ki b C dx fs e⟩,by
   show upd H _ _ A.pl=some (.lst ((S.ck.set c { k with ct:=v }).map λk=>V.int (k.pl:Nat)));rw[yi (f:=λk:Ck=>V.int (k.pl:Nat)) (k':={ k with ct:=v }) hk rfl];exact(ar (bp (lab:=lab) (bV L.pl bu dQ))).trans pl,by
   show upd H _ _ A.ct=some (.lst ((S.ck.set c { k with ct:=v }).map λk=>V.int (k.ct:Nat)));rw[aw,yk],(ar (bp (lab:=lab) (bV L.rg bu dQ))).trans rg,uq (eW rs λi x c hx _ q=>(ar (bp (lab:=lab) (bV (L.rs i x hx) bu jn))).trans q) hk λa _ q=>q,(ar (bp (lab:=lab) (bV L.ce bu dQ))).trans ce,⟨us,(ar (bp (lab:=lab) (bV L.ac bu dQ))).trans a1,Paired.b9 a2 λ_ _ q=>q.keep kt⟩,(ar (bp (lab:=lab) (bV L.cm bu dQ))).trans cm,eW cs λi x c hx _ q=>(ar (bp (lab:=lab) (bV (L.cs i x hx) bu jn))).trans q⟩
theorem Eb(M:a9 t C CT H m A S)(L:jm lab m A){c:Nat}{k:Ck}(hk:S.ck[c]?=some k){a:Addr}(ha:A.rs[c]?=some a)(r:Nat)(v:Int):a9 t C CT (upd H a (.lst ((k.rg.map V.int).set r (.int v)))) m A { S with ck:=S.ck.set c { k with rg:=k.rg.set r v } }:=by
 obtain⟨⟨dx,fs,h1,h2⟩,lt,ts,pg,⟨vs,s1,s2⟩,pl,ct,rg,rs,ce,⟨us,a1,a2⟩,cm,cs⟩:=M
 have jb:H a=some (.lst (k.rg.map V.int)):=by
  refine ag (Aq rs ha) λk2 e2 q=>?_;rw[hk]at e2;cases e2;exact q
 have bu:lab a=24+6*c:=L.rs c a ha;have kt:=mZ (o:=.lst ((k.rg.map V.int).set r (.int v))) jb;have ki:=yF (o:=.lst ((k.rg.map V.int).set r (.int v))) jb;have h2:vf fs A { S with ck:=S.ck.set c { k with rg:=k.rg.set r v } }:=⟨h2.gI,h2.program,h2.kind,h2.steps,h2.places,h2.counts,h2.eR,h2.cells,h2.i8,h2.l0,h2.ms,h2.xp⟩
 exact⟨⟨dx,fs,(ar (bp (lab:=lab) (bV L.m bu c8))).trans h1,h2⟩,(ar (bp (lab:=lab) (bV L.lt bu c8))).trans lt,uq (eW ts λi x c hx _ q=>dy.keep q (λb hb o e=>(ar (bp (lab:=lab) (bV (L.ts i x hx b hb) bu iy))).trans e) kt) hk λa _ q=>q,pg.keep kt,⟨vs,kt _ _ s1,Paired.b9 s2 λ_ _ q=>q.keep kt λb C dx fs e _=>ki b C dx fs e⟩,by
   show upd H _ _ A.pl=some (.lst ((S.ck.set c { k with rg:=k.rg.set r v }).map λk=>V.int (k.pl:Nat)));rw[yi (f:=λk:Ck=>V.int (k.pl:Nat)) (k':={ k with rg:=k.rg.set r v }) hk rfl];exact(ar (bp (lab:=lab) (bV L.pl bu c8))).trans pl,by
   show upd H _ _ A.ct=some (.lst ((S.ck.set c { k with rg:=k.rg.set r v }).map λk=>V.int (k.ct:Nat)));rw[yi (f:=λk:Ck=>V.int (k.ct:Nat)) (k':={ k with rg:=k.rg.set r v }) hk rfl];exact(ar (bp (lab:=lab) (bV L.ct bu c8))).trans ct,(ar (bp (lab:=lab) (bV L.rg bu c8))).trans rg,yl rs (λi x b hi hx _ q=>(ar (bp (lab:=lab) (bV (L.rs i x hx) bu rQ))).trans q) λx b hx hb q=>by
   rw[ha]at hx;cases hx;show upd H a _ a=some (.lst ((k.rg.set r v).map V.int));rw[aw,yk],(ar (bp (lab:=lab) (bV L.ce bu c8))).trans ce,⟨us,(ar (bp (lab:=lab) (bV L.ac bu c8))).trans a1,Paired.b9 a2 λ_ _ q=>q.keep kt⟩,(ar (bp (lab:=lab) (bV L.cm bu c8))).trans cm,eW cs λi x c hx _ q=>(ar (bp (lab:=lab) (bV (L.cs i x hx) bu iy))).trans q⟩
theorem ajU(M:a9 t C CT H m A S)(L:jm lab m A)(n:Nat)(v:Int):a9 t C CT (upd H A.ce (.lst ((S.bd.map V.int).set n (.int v)))) m A { S with bd:=S.bd.set n v }:=by
 obtain⟨⟨dx,fs,h1,h2⟩,lt,ts,pg,⟨vs,s1,s2⟩,pl,ct,rg,rs,ce,⟨us,a1,a2⟩,cm,cs⟩:=M;have bu:lab A.ce=12:=L.ce;have kt:=mZ (o:=.lst ((S.bd.map V.int).set n (.int v))) ce;have ki:=yF (o:=.lst ((S.bd.map V.int).set n (.int v))) ce;have h2:vf fs A { S with bd:=S.bd.set n v }:=⟨h2.gI,h2.program,h2.kind,h2.steps,h2.places,h2.counts,h2.eR,h2.cells,h2.i8,h2.l0,h2.ms,h2.xp⟩
 exact⟨⟨dx,fs,(ar (bp (lab:=lab) (bV L.m bu dQ))).trans h1,h2⟩,(ar (bp (lab:=lab) (bV L.lt bu dQ))).trans lt,eW ts λi x c hx _ q=>dy.keep q (λb hb o e=>(ar (bp (lab:=lab) (bV (L.ts i x hx b hb) bu jn))).trans e) kt,pg.keep kt,⟨vs,kt _ _ s1,Paired.b9 s2 λ_ _ q=>q.keep kt λb C dx fs e _=>ki b C dx fs e⟩,(ar (bp (lab:=lab) (bV L.pl bu dQ))).trans pl,(ar (bp (lab:=lab) (bV L.ct bu dQ))).trans ct,(ar (bp (lab:=lab) (bV L.rg bu dQ))).trans rg,eW rs λi x c hx _ q=>(ar (bp (lab:=lab) (bV (L.rs i x hx) bu jn))).trans q,by
   show upd H _ _ A.ce=some (.lst ((S.bd.set n v).map V.int));rw[aw,yk],⟨us,(ar (bp (lab:=lab) (bV L.ac bu dQ))).trans a1,Paired.b9 a2 λ_ _ q=>q.keep kt⟩,(ar (bp (lab:=lab) (bV L.cm bu dQ))).trans cm,eW cs λi x c hx _ q=>(ar (bp (lab:=lab) (bV (L.cs i x hx) bu jn))).trans q⟩
theorem Kr(M:a9 t C CT H m A S)(L:jm lab m A){ws:List V}(hw:H A.ac=some (.lst ws)){x:V}{a:Act}(hx:tu H x a):a9 t C CT (upd H A.ac (.lst (ws++[x]))) m A { S with ac:=S.ac++[a] }:=by
 obtain⟨⟨dx,fs,h1,h2⟩,lt,ts,pg,⟨vs,s1,s2⟩,pl,ct,rg,rs,ce,⟨us,a1,a2⟩,cm,cs⟩:=M;obtain rfl:ws=us:=by rw[hw]at a1;cases a1;rfl
 have bu:lab A.ac=14:=L.ac;have kt:=mZ (o:=.lst (ws++[x])) hw;have ki:=yF (o:=.lst (ws++[x])) hw;have h2:vf fs A { S with ac:=S.ac++[a] }:=⟨h2.gI,h2.program,h2.kind,h2.steps,h2.places,h2.counts,h2.eR,h2.cells,h2.i8,h2.l0,h2.ms,h2.xp⟩;exact⟨⟨dx,fs,(ar (bp (lab:=lab) (bV L.m bu dQ))).trans h1,h2⟩,(ar (bp (lab:=lab) (bV L.lt bu dQ))).trans lt,eW ts λi x c hx _ q=>dy.keep q (λb hb o e=>(ar (bp (lab:=lab) (bV (L.ts i x hx b hb) bu jn))).trans e) kt,pg.keep kt,⟨vs,kt _ _ s1,Paired.b9 s2 λ_ _ q=>q.keep kt λb C dx fs e _=>ki b C dx fs e⟩,(ar (bp (lab:=lab) (bV L.pl bu dQ))).trans pl,(ar (bp (lab:=lab) (bV L.ct bu dQ))).trans ct,(ar (bp (lab:=lab) (bV L.rg bu dQ))).trans rg,eW rs λi x c hx _ q=>(ar (bp (lab:=lab) (bV (L.rs i x hx) bu jn))).trans q,(ar (bp (lab:=lab) (bV L.ce bu dQ))).trans ce,⟨ws++[x],aw,nZ (Paired.b9 a2 λ_ _ q=>q.keep kt) (hx.keep kt)⟩,(ar (bp (lab:=lab) (bV L.cm bu dQ))).trans cm,eW cs λi x c hx _ q=>(ar (bp (lab:=lab) (bV (L.cs i x hx) bu jn))).trans q⟩
theorem ajS(M:a9 t C CT H m A S)(L:jm lab m A){n:Nat}{ov:List Int}(hn:S.ov[n]?=some ov){a:Addr}(ha:A.cs[n]?=some a)(d:Int):a9 t C CT (upd H a (.lst (ov.map V.int++[.int d]))) m A { S with ov:=S.ov.set n (ov++[d]) }:=by
 obtain⟨⟨dx,fs,h1,h2⟩,lt,ts,pg,⟨vs,s1,s2⟩,pl,ct,rg,rs,ce,⟨us,a1,a2⟩,cm,cs⟩:=M
 have lN:H a=some (.lst (ov.map V.int)):=by
  refine ag (Aq cs ha) λo2 e2 q=>?_;rw[hn]at e2;cases e2;exact q
 have bu:lab a=26+6*n:=L.cs n a ha;have kt:=mZ (o:=.lst (ov.map V.int++[.int d])) lN;have ki:=yF (o:=.lst (ov.map V.int++[.int d])) lN;have h2:vf fs A { S with ov:=S.ov.set n (ov++[d]) }:=⟨h2.gI,h2.program,h2.kind,h2.steps,h2.places,h2.counts,h2.eR,h2.cells,h2.i8,h2.l0,h2.ms,h2.xp⟩
 exact⟨⟨dx,fs,(ar (bp (lab:=lab) (bV L.m bu c8))).trans h1,h2⟩,(ar (bp (lab:=lab) (bV L.lt bu c8))).trans lt,eW ts λi x c hx _ q=>dy.keep q (λb hb o e=>(ar (bp (lab:=lab) (bV (L.ts i x hx b hb) bu iy))).trans e) kt,pg.keep kt,⟨vs,kt _ _ s1,Paired.b9 s2 λ_ _ q=>q.keep kt λb C dx fs e _=>ki b C dx fs e⟩,(ar (bp (lab:=lab) (bV L.pl bu c8))).trans pl,(ar (bp (lab:=lab) (bV L.ct bu c8))).trans ct,(ar (bp (lab:=lab) (bV L.rg bu c8))).trans rg,eW rs λi x c hx _ q=>(ar (bp (lab:=lab) (bV (L.rs i x hx) bu iy))).trans q,(ar (bp (lab:=lab) (bV L.ce bu c8))).trans ce,⟨us,(ar (bp (lab:=lab) (bV L.ac bu c8))).trans a1,Paired.b9 a2 λ_ _ q=>q.keep kt⟩,(ar (bp (lab:=lab) (bV L.cm bu c8))).trans cm,yl cs (λi x b hi hx _ q=>(ar (bp (lab:=lab) (bV (L.cs i x hx) bu rQ))).trans q) λx b hx hb q=>by
   rw[ha]at hx;cases hx;rw[aw,iH];rfl⟩
theorem TX{H':Hp}{c:Nat}{k:Ck}{x:Addr×Addr×List Addr}{tn:Int}{es:List Ent}(M:a9 t C CT H m A S)(L:jm lab m A)(hk:S.ck[c]?=some k)(hx:A.ts[c]?=some x)(kp:gK (x.1::x.2.1::x.2.2) H H')(T:dy H' x.1 CT S.kd tn es x.2.1 x.2.2) :
  a9 t C CT H' m A { S with ck:=S.ck.set c { k with tn:=tn,es:=es } }:=by
 obtain⟨⟨dx,fs,h1,h2⟩,lt,ts,pg,⟨vs,s1,s2⟩,pl,ct,rg,rs,ce,⟨us,a1,a2⟩,cm,cs⟩:=M;refine ag (Aq ts hx) λk0 e0 T0=>?_;rw[hk]at e0;cases e0;have bu:∀b∈x.1::x.2.1::x.2.2,lab b=28+6*c:=L.ts c x hx;have out:∀b o,lab b≠28+6*c->(∀ps,o≠.fk ps)->H b=some o->H' b=some o:=λb o n z e=>kp.k b o (λhb=>n (bu b hb)) z e;have kt:∀b ys,H b=some (.tup ys)->H' b=some (.tup ys):=λb ys e=>kp.k b _ (λhb=>by rcases T0.kinds b hb _ e with ⟨_,_,_,z⟩ | ⟨_,z⟩ <;> cases z) (λps z=>by cases z) e
 have ki:∀b C dx fs,H b=some (.ins C dx fs)->(∃x ps v,C=dq t x/\fs=eQ v x ps)->H' b=some (.ins C dx fs):=λb C dx fs e hs=>kp.k b _ (λhb=>by
  refine gJ hs λx' ps v _ aa=>?_;clear hs;subst aa;rcases cx.mp hb with z | z
  ·refine cF T0.obj λCv nQ e' lL _=>?_;rw[z,e']at e;cases e;rw[AY "kind" dk]at lL;cases lL
  ·rcases cx.mp z with z | z
   ·rw[z,T0.qs]at e;cases e
   ·refine oE (sA z) λi aa=>?_;refine oE aa λhi ez=>?_;obtain⟨oS,e',_⟩:=T0.kh i b (by rw[<-ez];exact aT hi);rw[e']at e;cases e) (λps z=>by cases z) e
 have nl:∀ys:List V,∀ps,HO.lst ys≠.fk ps:=λys ps z=>by cases z
 have h2:vf fs A { S with ck:=S.ck.set c { k with tn:=tn,es:=es } }:=⟨h2.gI,h2.program,h2.kind,h2.steps,h2.places,h2.counts,h2.eR,h2.cells,h2.i8,h2.l0,h2.ms,h2.xp⟩;refine⟨⟨dx,fs,out _ _ (qA L.m c8) (λps z=>by cases z) h1,h2⟩,out _ _ (qA L.lt c8) (nl _) lt,?_,pg.keep kt,⟨vs,kt _ _ s1,Paired.b9 s2 λ_ _ q=>q.keep kt ki⟩,?_,?_,out _ _ (qA L.rg c8) (nl _) rg,?_,out _ _ (qA L.ce c8) (nl _) ce,⟨us,out _ _ (qA L.ac c8) (nl _) a1,Paired.b9 a2 λ_ _ q=>q.keep kt⟩,out _ _ (qA L.cm c8) (nl _) cm,eW cs λi y b hy _ q=>out _ _ (qA (L.cs i y hy) iy) (nl _) q⟩
 ·refine yl ts (λi y b hi hy _ q=>dy.keep q (λb' tZ o e=>out b' o (qA (L.ts i y hy b' tZ) rQ) (λps z=>?_) e) kt) λy b hy hb q=>?_
  ·rcases q.kinds b' tZ _ e with ⟨_,_,_,w⟩ | ⟨_,w⟩ <;> (rw[z]at w;cases w)
  ·rw[hx]at hy;cases hy;exact T
 ·show H' A.pl=some (.lst ((S.ck.set c { k with tn:=tn,es:=es }).map λk=>V.int (k.pl:Nat)));rw[yi (f:=λk:Ck=>V.int (k.pl:Nat)) (k':={ k with tn:=tn,es:=es }) hk rfl];exact out _ _ (qA L.pl c8) (nl _) pl
 ·show H' A.ct=some (.lst ((S.ck.set c { k with tn:=tn,es:=es }).map λk=>V.int (k.ct:Nat)));rw[yi (f:=λk:Ck=>V.int (k.ct:Nat)) (k':={ k with tn:=tn,es:=es }) hk rfl];exact out _ _ (qA L.ct c8) (nl _) ct
 ·exact uq (eW rs λi y b hy _ q=>out _ _ (qA (L.rs i y hy) iy) (nl _) q) hk λa _ q=>q
end
structure ib(K:W.Frag)(C:Addr):Prop where
 cl:eU K C
 gI:cq K C "trays"
 program:cq K C "program"
 kind:cq K C "kind"
 steps:cq K C "steps"
 places:cq K C "places"
 counts:cq K C "counts"
 eR:cq K C "regs"
 cells:cq K C "cells"
 i8:cq K C "acts"
 l0:cq K C "comers"
theorem di{α:Type}{f:α->V}{r:List α}{c:Nat}{k:α}(h:r[c]?=some k):jr (r.map f) (c:Int)=some (f k):=cR (by rw[gC,h];rfl)
theorem Ay{l:List (Addr×Addr×List Addr)}{c:Nat}{x:Addr×Addr×List Addr}(h:l[c]?=some x):jr (l.map λx=>V.ref x.1) (c:Int)=some (.ref x.1):=di (f:=λx:Addr×Addr×List Addr=>V.ref x.1) h
structure kj(S:Mc):Prop where
 good:uZ S.ps
 len:S.ck.length=S.ps.length
 bd:S.bd.length=12
 ov:S.ov.length=12
 rg:∀k∈S.ck,k.rg.length=4
 pl:∀(c:Nat) k p,S.ck[c]?=some k->S.ps[c]?=some p->k.pl<=p.length
 ac:S.ac.length<=15000
 es:∀k∈S.ck,k.es.length<=S.ac.length
section
variable{t:bg}{C CT:Addr}{H:Hp}{m:Addr}{A:MA}{S:Mc}
theorem a9.tD(M:a9 t C CT H m A S){c:Nat}{k:Ck}(h:S.ck[c]?=some k):∃x,A.ts[c]?=some x/\V2 CT S.kd H x k:=lj M.ts h
theorem a9.eR(M:a9 t C CT H m A S){c:Nat}{k:Ck}(h:S.ck[c]?=some k):∃a,A.rs[c]?=some a/\H a=some (.lst (k.rg.map V.int)):=lj (F:=λa (k:Ck)=>H a=some (.lst (k.rg.map V.int))) M.rs h
theorem a9.over(M:a9 t C CT H m A S){n:Nat}{o:List Int}(h:S.ov[n]?=some o):∃a,A.cs[n]?=some a/\H a=some (.lst (o.map V.int)):=lj (F:=λa (o:List Int)=>H a=some (.lst (o.map V.int))) M.cs h
theorem a9.part(M:a9 t C CT H m A S){c:Nat}{p:Pt}(h:S.ps[c]?=some p):∃vs b us,H A.st=some (.tup vs)/\vs[c]?=some (.ref b)/\H b=some (.tup us)/\Paired (rA t H) us p:=by
 refine ag M.st λvs h1 h2=>?_;refine ag (lj h2 h) λv hv aa=>?_;refine cF aa λb us aa h3 h4=>?_;subst aa;exact yL vs b us h1 hv h3 h4
end
section
variable{t:bg}{C CT:Addr}
def Jd(t:bg)(C CT:Addr):Sp:=λvs H Q _=>∃m A S c k p,vs=[.ref m,.int (c:Nat)]/\a9 t C CT H m A S/\S.ck[c]?=some k/\S.ps[c]?=some p/\p.length<=1000/\Q (.bl (decide (k.pl=p.length))) H
theorem agl:bc ["self","clerk"] ["self","clerk"] (aO JV):=bz
theorem DQ(a b:Nat):decide (V.int (a:Int)=V.int (b:Int))=decide (a=b):=decide_eq_decide.mpr ⟨λz=>by injection z with z;omega,λz=>by rw[z]⟩
theorem aeD{f:Addr}{fd:aV}(F:aW K "at_end" "Machine.at_end" JV f fd)(dY:mg "len" = none)(cM:ib K C):ay P w K mg base az 1 f fd ["self","clerk"] (Jd t C CT):=by
 refine F.ok agl (λvs H Q E h=>?_) λaI A outer s H vs Q E hr h=>?_
 ·refine lX h λm A S c k p aa _=>?_;subst aa;rfl
 ·refine vU h λm A S c k p aa M hk hp hl q=>?_;subst aa;refine nC (aB (a7 (AW dm (ax aP (bo (pv 0) rfl) (pv 1)) (cj fv rfl dY PySem.boot_len (ae (ax a8 (bo (pv 0) rfl) (pv 1)) ai)) (br _)))) ?_;refine bf (id M.obj) λdx fs hm G=>?_;refine yJ (M.part hp) λvs b us h1 h2 h3 h4=>?_;refine vF rfl hm cM.cl cM.places G.places (vr rfl (rL (aq.of M.pl) (di (f:=λk:Ck=>V.int (k.pl:Nat)) hk) ?_));refine vF rfl hm cM.cl cM.steps G.steps (vr rfl (rT (v:=.ref b) (aF.of h1) (cR h2) (qk b us rfl (.inr (aF.of h3)) rfl ?_)));rw[Paired.length h4,DQ];exact q
def DI(t:bg)(C CT:Addr)(g:Ck->Nat):Sp:=λvs H Q _=>∃m A S c k,vs=[.ref m,.int (c:Nat)]/\a9 t C CT H m A S/\S.ck[c]?=some k/\Q (.int (g k:Nat)) H
theorem aga:bc ["self","clerk"] ["self","clerk"] (aO JK):=bz
theorem aeo{f:Addr}{fd:aV}(F:aW K "where" "Machine.where" JK f fd)(cM:ib K C):ay P w K mg base az 1 f fd ["self","clerk"] (DI t C CT Ck.pl):=by
 refine F.ok aga (λvs H Q E h=>?_) λaI A outer s H vs Q E hr h=>?_
 ·refine sQ h λm A S c k aa _=>?_;subst aa;rfl
 ·refine v5 h λm A S c k aa M hk q=>?_;subst aa;refine nC (aB (a7 (ax aP (bo (pv 0) rfl) (pv 1)))) ?_;refine bf (id M.obj) λdx fs hm G=>?_;exact vF rfl hm cM.cl cM.places G.places (vr rfl (rL (aq.of M.pl) (di (f:=λk:Ck=>V.int (k.pl:Nat)) hk) q))
theorem abA:bc ["self","clerk"] ["self","clerk"] (aO Ht):=bz
theorem aa6{f:Addr}{fd:aV}(F:aW K "steps_done" "Machine.steps_done" Ht f fd)(cM:ib K C):ay P w K mg base az 1 f fd ["self","clerk"] (DI t C CT Ck.ct):=by
 refine F.ok abA (λvs H Q E h=>?_) λaI A outer s H vs Q E hr h=>?_
 ·refine sQ h λm A S c k aa _=>?_;subst aa;rfl
 ·refine v5 h λm A S c k aa M hk q=>?_;subst aa;refine nC (aB (a7 (ax aP (bo (pv 0) rfl) (pv 1)))) ?_;refine bf (id M.obj) λdx fs hm G=>?_;exact vF rfl hm cM.cl cM.counts G.counts (vr rfl (rL (aq.of M.ct) (di (f:=λk:Ck=>V.int (k.ct:Nat)) hk) q))
def SW(t:bg)(C CT:Addr):Sp:=λvs H Q _=>∃m A S c k,vs=[.ref m,.int (c:Nat)]/\a9 t C CT H m A S/\S.ck[c]?=some k/\∀l,H l=none->Q (.ref l) (upd H l (.lst (k.rg.map V.int)))
theorem abB:bc ["self","clerk"] ["self","clerk"] (aO Hu):=bz
theorem aa7{f:Addr}{fd:aV}(F:aW K "registers" "Machine.registers" Hu f fd)(oW:mg "list" = none)(cM:ib K C):ay P w K mg base az 1 f fd ["self","clerk"] (SW t C CT):=by
 refine F.ok abB (λvs H Q E h=>?_) λaI A outer s H vs Q E hr h=>?_
 ·refine sQ h λm A S c k aa _=>?_;subst aa;rfl
 ·refine v5 h λm A S c k aa M hk q=>?_;subst aa;refine nC (aB (a7 (qX CZ rfl oW Ij (ae (ax aP (bo (pv 0) rfl) (pv 1)) ai)))) ?_;refine bf (id M.obj) λdx fs hm G=>?_;refine ag (M.eR hk) λa ha jb=>?_;exact vF rfl hm cM.cl cM.eR G.eR (vr rfl (rL (v:=.ref a) (aq.of M.rg) (di ha) ⟨a,⟨_,rfl,.inl (aq.of jb),q⟩⟩))
def RW(t:bg)(C CT:Addr):Sp:=λvs H Q _=>∃m A S,vs=[.ref m]/\a9 t C CT H m A S/\∀l,H l=none->Q (.ref l) (upd H l (.lst (S.bd.map V.int)))
theorem agk:bc ["self"] ["self"] (aO JU):=bz
theorem aeC{f:Addr}{fd:aV}(F:aW K "board" "Machine.board" JU f fd)(oW:mg "list" = none)(cM:ib K C):ay P w K mg base az 1 f fd ["self"] (RW t C CT):=by
 refine F.ok agk (λvs H Q E h=>?_) λaI A outer s H vs Q E hr h=>?_
 ·refine gJ h λm A S aa _=>?_;clear h;subst aa;rfl
 ·refine ng h λm A S aa M q=>?_;clear h;subst aa;refine nC (aB (a7 (qX CZ rfl oW Ij (ae (bo (pv 0) rfl) ai)))) ?_;refine bf (id M.obj) λdx fs hm G=>?_;exact vF rfl hm cM.cl cM.cells G.cells ⟨A.ce,⟨_,rfl,.inl (aq.of M.ce),q⟩⟩
def RV(t:bg)(C CT:Addr):Sp:=λvs H Q _=>∃m A S,vs=[.ref m]/\a9 t C CT H m A S/\∀l ws,H l=none->Paired (tu H) ws S.ac->Q (.ref l) (upd H l (.lst ws))
theorem agi:bc ["self"] ["self"] (aO JS):=bz
theorem aeA{f:Addr}{fd:aV}(F:aW K "deeds" "Machine.deeds" JS f fd)(oW:mg "list" = none)(cM:ib K C):ay P w K mg base az 1 f fd ["self"] (RV t C CT):=by
 refine F.ok agi (λvs H Q E h=>?_) λaI A outer s H vs Q E hr h=>?_
 ·refine gJ h λm A S aa _=>?_;clear h;subst aa;rfl
 ·refine ng h λm A S aa M q=>?_;clear h;subst aa;refine nC (aB (a7 (qX CZ rfl oW Ij (ae (bo (pv 0) rfl) ai)))) ?_;refine bf (id M.obj) λdx fs hm G=>?_;refine ag M.ac λws h1 h2=>?_;exact vF rfl hm cM.cl cM.i8 G.i8 ⟨A.ac,⟨_,rfl,.inl (aq.of h1),λl hl=>q l ws hl h2⟩⟩
def SX(t:bg)(C CT:Addr):Sp:=λvs H Q _=>∃m A S n o,vs=[.ref m,.int (n:Nat)]/\a9 t C CT H m A S/\S.ov[n]?=some o/\∀l,H l=none->Q (.ref l) (upd H l (.lst (o.map V.int)))
theorem ah7:bc ["self","name"] ["self","name"] (aO Kz):=bz
theorem agE{f:Addr}{fd:aV}(F:aW K "over" "Machine.over" Kz f fd)(oW:mg "list" = none)(cM:ib K C):ay P w K mg base az 1 f fd ["self","name"] (SX t C CT):=by
 refine F.ok ah7 (λvs H Q E h=>?_) λaI A outer s H vs Q E hr h=>?_
 ·refine sQ h λm A S n o aa _=>?_;subst aa;rfl
 ·refine v5 h λm A S n o aa M hn q=>?_;subst aa;refine nC (aB (a7 (qX CZ rfl oW Ij (ae (ax aP (bo (pv 0) rfl) (pv 1)) ai)))) ?_;refine bf (id M.obj) λdx fs hm G=>?_;refine ag (M.over hn) λa ha lN=>?_;exact vF rfl hm cM.cl cM.l0 G.l0 (vr rfl (rL (v:=.ref a) (aq.of M.cm) (di ha) ⟨a,⟨_,rfl,.inl (aq.of lN),q⟩⟩))
def Qj(t:bg)(C CT:Addr):Sp:=λvs H Q _=>∃m A S c k,vs=[.ref m,.int (c:Nat)]/\a9 t C CT H m A S/\S.ck[c]?=some k/\k.es.length<64/\∀H' l us,af H H'->H l=none->H' l=some (.lst us)->Paired (uQ H') us k.es->Q (.ref l) H'
theorem acZ:bc ["self","clerk"] ["self","clerk"] (aO Iu):=bz
theorem acb{f fL:Addr}{fd vH:aV}(F:aW K "waiting" "Machine.waiting" Iu f fd)(cM:ib K C)(cT:lD K CT)(GL:ay P w K mg base az 1 fL vH ["self"] (Q2 CT))(bL:Binds K vH ["self"] [])(mL:Meth K CT "listed" fL):ay P w K mg base az 2 f fd ["self","clerk"] (Qj t C CT):=by
 refine F.ok acZ (λvs H Q E h=>?_) λaI A outer s H vs Q E hr h=>?_
 ·refine sQ h λm A S c k aa _=>?_;subst aa;rfl
 ·obtain⟨m,A,S,c,k,aa,M,hk,hl,q⟩:=h;subst aa;refine nC (aB (a7 (mV (ax aP (bo (pv 0) rfl) (pv 1)) cT.cl mL GL hr bL .nil aS))) ?_;refine bf (id M.obj) λdx fs hm G=>?_;refine ag (M.tD hk) λx hx T=>?_;refine jh (id T.obj) λue jJ ea e1 e2 e3 em el=>?_;exact vF rfl hm cM.cl cM.gI G.gI (vr rfl (rL (v:=.ref x.1) (aq.of M.lt) (Ay hx) (rM ea (em _ dk) (yY x.1 _ _ _ _ (pD _ rfl T hl q)))))
end
abbrev Mv:=Str×List Int
def fo(mv:Mv):List V:=.str mv.1::mv.2.map V.int
def gg(H:Hp)(v:V)(mv:Mv):Prop:=∃p,v=.ref p/\H p=some (.tup (fo mv))
theorem gg.keep{H H':Hp}{v:V}{mv:Mv}(k:∀b xs,H b=some (.tup xs)->H' b=some (.tup xs))(h:gg H v mv):gg H' v mv:=by
 refine ag h λp e h=>?_;exact ak p e (k _ _ h)
theorem aR.tup{F:Addr->Prop}{H H':Hp}(k:aR F H H')(h:∀b,F b->∀xs,H b≠some (.tup xs)):∀b xs,H b=some (.tup xs)->H' b=some (.tup xs):=λb xs e=>k.k b _ (λz=>h b z xs e) (λps z=>by cases z) e
theorem aR.zd{H H':Hp}(k:aR iT H H'):∀b xs,H b=some (.tup xs)->H' b=some (.tup xs):=k.tup λb z=>z.elim
theorem aR.wV{H H':Hp}(k:aR iT H H'){b:Addr}{xs:List V}(e:H b=some (.lst xs)):H' b=some (.lst xs):=k.k b _ (λz=>z) (λps z=>by cases z) e
def nB(k:Ck)(p:Pt):Bool:=match p[k.pl]? with
 | none=>false
 | some s=>decide (k.es=[]) || !kU s
def wJ(kd:Str)(x:Ck×Nat):List Mv:=(gG kd x.1.es).map λn=>(("carry" : Str),[(x.2:Int),n])
def lF(kd:Str)(l:List (Ck×Nat)):List Mv:=l.flatMap (wJ kd)
def yE(S:Mc):List Mv:=lF S.kd S.ck.zipIdx
def oB(S:Mc)(c:Nat):Bool:=match S.ck[c]?,S.ps[c]? with
 | some k,some p=>nB k p
 | _,_=>false
def kg(S:Mc)(n:Nat):List Mv:=((List.range n).filter (oB S)).map λ(c:Nat)=>(("do" : Str),[(c:Int)])
def gu(S:Mc):List Mv:=kg S S.ck.length++yE S
def rF(S:Mc)(c:Nat):Bool:=match S.ck[c]?,S.ps[c]? with
 | some k,some p=>decide (k.pl=p.length)&&decide (k.es=[])
 | _,_=>false
def wF(S:Mc):Bool:=(List.range S.ck.length).all (rF S)
theorem Hz(kd:Str)(es:List Ent):(gG kd es).length<=12:=by
 unfold gG
 split
 ·cases es.head? <;> simp
 ·unfold jk;rw[aN];exact cH (zZ _ _) (by rw[vO];exact aH _)
theorem DB(kd:Str):∀l:List (Ck×Nat),(lF kd l).length<=12*l.length
 | []=>by simp[lF]
 | x::l=>by
  have h:=DB kd l;unfold lF at h ⊢;rw[Gx,eI,jv];have h2:(wJ kd x).length<=12:=by unfold wJ;rw[aN];exact Hz _ _
  omega
section
variable{t:bg}{C CT:Addr}{u:mm}
def RO(t:bg)(C CT:Addr):Sp:=λvs H Q _=>∃m A S c k p,vs=[.ref m,.int (c:Nat)]/\a9 t C CT H m A S/\S.ck[c]?=some k/\S.ps[c]?=some p/\p.length<=1000/\k.pl<=p.length/\(∀s∈p,∃sz,c7 sz s)/\∀H',af H H'->Q (.bl (nB k p)) H'
theorem Sa:bc ["self","clerk","step"] ["self","clerk"] (aO JO):=bz
theorem aet{f fA fE:Addr}{fd lg Cp:aV}(F:aW K "may_do" "Machine.may_do" JO f fd)(cM:ib K C)(cT:lD K CT)(O:wW K mg t u)
  (GA:ay P w K mg base az 1 fA lg ["self","clerk"] (Jd t C CT)) (bA:Binds K lg ["self","clerk"] []) (mA:Meth K C "at_end" fA)
  (GE:ay P w K mg base az 1 fE Cp ["self"] (Jb CT)) (bE:Binds K Cp ["self"] []) (mE:Meth K CT "is_empty" fE):ay P w K mg base az 2 f fd ["self","clerk"] (RO t C CT):=by
 refine F.ok Sa (λvs H Q E h=>?_) λaI A outer s H vs Q E hr h=>?_
 ·refine lX h λm A S c k p aa _=>?_;subst aa;rfl
 ·obtain⟨m,A,S,c,k,p,aa,M,hk,hp,hl,hle,hg,q⟩:=h;subst aa;refine⟨_,aA (bZ (iJ (gX (pv 0) cM.cl mA GA hr bA .nil aS (ae (pv 1) ai))) (aB (a7 kQ)) cu) (aA (cy (i:=2) Sa.nd rfl (aQ rfl) (ax a8 (ax a8 (bo (pv 0) rfl) (pv 1)) (ax aP (bo (pv 0) rfl) (pv 1)))) (aB (a7 (akb (mV (ax aP (bo (pv 0) rfl) (pv 1)) cT.cl mE GE hr bE .nil aS) (yS (JY (aeh (k:=1) (CX:=az) (E:=E0) (P:=P) (w:=w) (K:=K) (mg:=mg) (base:=base) (pv 2) hr aS))))))),?_⟩;refine bf (id M.obj) λdx fs hm G=>?_;refine ag (M.tD hk) λx hx T=>?_;refine jh (id T.obj) λue jJ ea e1 e2 e3 em el=>?_;refine yJ (M.part hp) λvs b us h1 h2 h3 h4=>?_;refine vM rfl hm (G.ms _ dk) (vr rfl (⟨m,A,S,c,k,p,rfl,M,hk,hp,hl,(tk (bG (λhe=>?_) λhe=>?_))⟩))
  ·have e:nB k p=false:=by unfold nB;rw[CG om]
   have q:=q H (af.refl H);rw[e]at q;exact q
  have de:k.pl<p.length:=om;have hs:p[k.pl]?=some p[k.pl]:=aT de;refine ag (lj h4 hs) λv hv aa=>?_;refine gJ aa λz a dz aa hz=>?_;subst aa;refine oE (hg _ (GQ de)) λsz gs=>?_;refine ak _ rfl (dA m C dx fs (kG _ rfl hm cM.cl cM.steps G.steps (vr rfl (rT (v:=.ref b) (aF.of h1) (cR h2) ?_))));refine vF rfl hm cM.cl cM.places G.places (vr rfl (rL (aq.of M.pl) (di (f:=λk:Ck=>V.int (k.pl:Nat)) hk) (rT (v:=.ref z) (aF.of h3) (cR hv) ?_)));refine ak _ rfl (dA m C dx fs (kG _ rfl hm cM.cl cM.gI G.gI (vr rfl (rL (v:=.ref x.1) (aq.of M.lt) (Ay hx) (rM ea (em _ dk) (yY x.1 _ _ _ _ (cO _ rfl T λH1 s1=>(tk (bG (λhe=>?_) λhe=>?_)))))))))
  ·have e:nB k p=true:=by unfold nB;rw[hs];show (decide (k.es=[])||_)=true;rw[decide_eq_true he];rfl
   have q:=q H1 s1;rw[e]at q;exact q
  ·have e:nB k p=!kU p[k.pl]:=by unfold nB;rw[hs];show (decide (k.es=[])||_)=_;rw[decide_eq_false he];rfl
   have q:=q H1 s1;rw[e]at q;have no:=AY "empties" dk (.ref a) p[k.pl].1 (p[k.pl].2.map λ(n:Nat)=>V.int (n:Int));refine uo (ai6 (P:=P) (w:=w) (base:=base) (mg:=mg) O gs (s1 _ _ hz)) λC1 f1 fd1 pn sp hc cl me G1 bi q1=>?_;exact ak _ rfl (qP z C1 dz _ f1 fd1 pn sp rfl hc no cl me G1 ⟨bi,(q1 _ _ ⟨_,rfl,q⟩)⟩)
def Qm(t:bg)(C CT PT:Addr):Sp:=λvs H Q _=>∃m A S,vs=[.ref m]/\a9 t C CT H m A S/\S.ck.length<=4/\cU PT LP LQ H/\∀H' l vs,aR iT H H'->cU PT LP LQ H'->H l=none->H' l=some (.lst vs)->Paired (gg H') vs (yE S)->Q (.ref l) H'
theorem Dk:bc ["self","found","clerk","tray"] ["self"] (aO IB):=bz
theorem akq:(["clerk","name"]:List Str).Nodup:=dk
theorem aci{f fF PT:Addr}{fd mJ:aV}(F:aW K "carries" "Machine.carries" IB f fd)(cM:ib K C)(cT:lD K CT)(pV:mg "enumerate" = none)
  (GF:ay P w K mg base az 2 fF mJ ["self"] (Io CT PT)) (bF:Binds K mJ ["self"] []) (mF:Meth K CT "fronts" fF):ay P w K mg base az 3 f fd ["self"] (Qm t C CT PT):=by
 refine F.ok Dk (λvs H Q E h=>?_) λaI A outer s H vs Q E hr h=>?_
 ·refine gJ h λm A S aa _=>?_;clear h;subst aa;rfl
 ·refine AL h λm A S aa M h4 hL q=>?_;clear h;subst aa
  refine⟨_,aA (cy (i:=1) Dk.nd rfl (aQ rfl) (eh ai)) (aA (pB p0 rfl (AV (b:=true) rfl pV (ae (bo (pv 0) rfl) ai)) (sU rfl (jS (cW (i:=2) Dk.nd rfl (Bg rfl)) (jS (cW (i:=3) Dk.nd rfl (aQ rfl)) sP))) (aB (cZ (iY PySem.F.plainAttrs_list PySem.F.slot_list_extend PySem.F.type_list_extend QC (pv 1) (ae (ji (N:=["clerk","name"]) (idx:=[2]) rfl (eC.of (by kernel_rfl)) (jf (aH _))
     (uH (mV (pv 3) cT.cl mF GF hr bF .nil aS)) (λ_ _ _ _=>cW (i:=1) akq rfl (aQ rfl) (.inr rfl)) (λ_ _ _ _=>iX) λ_ _ _ _=>fG (ae cA (ae (pv 0) (ae (pv 1) ai)))) ai)))))
   (aB (a7 (pv 1)))),?_⟩
  refine bf (id M.obj) λdx fs hm G=>?_;refine⟨qc,λlw nw=>?_⟩;have s0:af H (upd H lw (.lst [])):=aE (af.refl _) nw;have hlen:A.ts.length=S.ck.length:=Paired.length M.ts;have NF:(A.ts.map λx=>V.ref x.1).length=A.ts.length:=aN _;refine vF rfl (s0 _ _ hm) cM.cl cM.gI G.gI ⟨A.lt,⟨_,rfl,aq.of (s0 _ _ M.lt),?_⟩⟩;refine Kf (n:=A.ts.length) (λi σ H'=>i<=A.ts.length/\∃c y vs,σ=[some (.ref m),some (.ref lw),c,y]/\aR iT H H'/\cU PT LP LQ H'/\H' lw=some (.lst vs)/\Paired (gg H') vs (lF S.kd (S.ck.zipIdx.take i))) ⟨bU _,none,none,[],rfl,aR.of s0,lW hL s0,aw,.nil⟩ ?_ ?_ ?_ ?_
  ·rintro i σ H' hi ⟨_,_,_,_,_,kp,_,_,_⟩;exact eT _ (V.ref A.ts[i].1) (aq.of (kp.wV M.lt)) (by rw[gC,aT hi];rfl)
  ·rintro σ H' ⟨_,_,_,_,_,kp,_,_,_⟩;exact ak _ (aq.of (kp.wV M.lt)) (by rw[NF];exact aH _)
  ·rintro i σ H1 hi ⟨_,c,y,vs,rfl,kp,nO,hw,kn⟩ z H2 ⟨r,x,ie,ez,eH,jG⟩;subst ez;subst eH;have tU:=jG _ (aq.of (kp.wV M.lt));rw[gC,aT hi]at tU;cases tU;have s2:af H1 (upd H1 r (.tup [.int i,.ref A.ts[i].1])):=aE (af.refl _) ie;have Nv:=s2 _ _ hw;have Vp:=Paired.b9 kn λ_ _ q=>gg.keep (λb xs e=>s2 _ _ e) q;have iE:=lW nO s2;have Cb:upd H1 r (.tup [.int i,.ref A.ts[i].1]) r=some (.tup [.int i,.ref A.ts[i].1]):=aw;generalize upd H1 r (.tup [.int i,.ref A.ts[i].1])=H2 at s2 Nv Vp iE Cb ⊢;have jE:aR iT H H2:=kp.trans (aR.of s2);have M2:=M.nu jE;have Ce:i<S.ck.length:=wf;refine ag (M2.tD (aT Ce)) λx' B6 T=>?_;rw[aT hi]at B6;cases B6;refine jh (id T.obj) λue jJ ea e1 e2 e3 em el=>?_;refine⟨r,⟨_,rfl,aF.of Cb,rfl,.int i,[.ref A.ts[i].1],rfl,.ref A.ts[i].1,[],rfl,rfl,?_⟩⟩;refine vr rfl ⟨.inl ⟨rfl,_,aq.of Nv⟩,⟨_,rfl,_,ue,jJ,rfl,ea,em _ dk,_,_,_,_,_,_,rfl,T,iE,λH3 lf k3 qK nf hf=>?_⟩⟩;have Nk:aR iT H2 H3:=aR.MM k3 λb hb=>nomatch hb;refine cO lf rfl ⟨_,aq.of hf⟩ ?_;have hfl:=Hz S.kd S.ck[i].es;refine ig (n:=(gG S.kd S.ck[i].es).length) (λj ys H4=>j<=(gG S.kd S.ck[i].es).length/\af H3 H4/\Paired (gg H4) ys (((gG S.kd S.ck[i].es).take j).map λn=>(("carry" : Str),[(i:Int),n]))) ?_ ?_ ?_ ?_ ?_ ?_ ?_
   ·exact cQ (cY w4)
   ·exact cV (bU _) (af.refl _) .nil
   ·rintro j ys H4 ⟨_,_,e⟩;rw[Paired.length e,aN,gU];exact xl
   ·rintro j ys H4 hj ⟨_,s4,_⟩;exact eT _ (V.int (gG S.kd S.ck[i].es)[j]) (aq.of (s4 _ _ hf)) (by rw[gC,aT hj];rfl)
   ·rintro ys H4 ⟨_,s4,_⟩;exact ak _ (aq.of (s4 _ _ hf)) (by rw[aN];exact aH _)
   ·rintro j ys H4 hj ⟨_,s4,e⟩ v H5 ⟨eH,hv1⟩;subst eH;have hv:=hv1 _ (aq.of (s4 _ _ hf));rw[gC,aT hj]at hv;cases hv;refine ak _ rfl (vr rfl ⟨by show 3<=aZ;decide,(λtp ht=>⟨hj,aE s4 ht,?_⟩)⟩);rw[ku,aT hj,iH];exact nZ (Paired.b9 e λ_ _ q=>q.keep λb xs e=>aE (af.refl _) ht _ _ e) (ak tp rfl aw)
   ·rintro ys H4 ⟨_,s4,e⟩;rw[jK (aH _)]at e;refine⟨by rw[Paired.length e,aN];exact cQ (cY om),λrl jt=>?_⟩;have s5:=aE (o:=.lst ys) s4 jt;have Nu:=s5 _ _ (Nk.wV Nv);have cl:=DB S.kd (S.ck.zipIdx.take i);rw[gU]at cl;have FE:=Paired.length kn;refine⟨lw,rl,vs,ys,rfl,rfl,Nu,aw,?_,hi,(qD _ _ (hG _ rfl ?_ ?_ aw ?_))⟩
    ·rw[FE,Paired.length e,aN];exact cQ (cY om)
    ·have kk:aR iT H2 (upd H4 rl (.lst ys)):=Nk.trans (aR.of s5);refine⟨λb o nb nt eb=>?_,λb eb=>(jE.trans kk).t b ?_⟩
     ·have:b≠lw:=b8 eb nw;rw[ar this];exact(jE.trans kk).k b o nb nt eb
     ·by_cases z:b=lw
      ·rw[z,aw]at eb;cases eb
      ·rwa[ar z]at eb
    ·exact Ss Nu (lW qK s5)
    ·have et:S.ck.zipIdx.take (i+1)=S.ck.zipIdx.take i++[(S.ck[i],i)]:=by
      rw[ku,Y2,aT Ce];simp
     rw[et];unfold lF;rw[Ac,Gx,GU,vS];have W5:∀b xs,upd H4 rl (.lst ys) b=some (.tup xs)->upd (upd H4 rl (.lst ys)) lw (.lst (vs++ys)) b=some (.tup xs):=λb xs e=>by rw[ar (iK e Nu (by intro z;cases z))];exact e
     exact C7 (Paired.b9 e λ_ _ q=>q.keep λb xs e=>W5 b xs (aE (af.refl _) jt _ _ e)) (Paired.b9 Vp λ_ _ q=>(q.keep Nk.zd).keep λb xs e=>W5 b xs (s5 _ _ e))
  ·rintro σ H1 ⟨_,c,y,vs,rfl,kp,nO,hw,kn⟩;rw[jK (by rw[Gu];omega)]at kn;exact vr rfl (q H1 lw vs kp nO nw hw kn)
end
theorem kj.four{S:Mc}(w:kj S):S.ck.length<=4:=by rw[w.len];exact w.good.le
theorem kj.part{S:Mc}(w:kj S){c:Nat}{k:Ck}(h:S.ck[c]?=some k):∃p,S.ps[c]?=some p/\p.length<=120/\k.pl<=p.length/\∀s∈p,c7 p.length s:=by
 refine oE (eK.mp h) λhc _=>?_;have hp:S.ps[c]?=some (S.ps[c]'(by rw[<-w.len];exact hc)):=aT _;refine oA (w.good.part _ (bb hp)) λg1 g2=>?_;exact pD _ hp g1 (w.pl c k _ h hp) g2
theorem AX{S:Mc}{c:Nat}{k:Ck}{p:Pt}(h:S.ck[c]?=some k)(h':S.ps[c]?=some p):oB S c=nB k p:=by unfold oB;rw[h,h']
theorem ahM{S:Mc}{c:Nat}{k:Ck}{p:Pt}(h:S.ck[c]?=some k)(h':S.ps[c]?=some p):rF S c=(decide (k.pl=p.length)&&decide (k.es=[])):=by unfold rF;rw[h,h']
theorem Dx(S:Mc)(n:Nat):(kg S n).length<=n:=by
 unfold kg;rw[aN];exact cH (zZ _ _) (by rw[vO];exact aH _)
theorem Ib(S:Mc)(n:Nat):kg S (n+1)=kg S n++(if oB S n=true then [(("do" : Str),[(n:Int)])] else []):=by
 unfold kg;rw[uj,OB,iH]
 congr 1
 cases h:oB S n with
 | true=>simp[List.filter,h]
 | false=>simp[List.filter,h]
theorem akk:(["self","clerk"]:List Str).Nodup:=dk
theorem To:(["self","clerk","tray"]:List Str).Nodup:=dk
section
variable{t:bg}{C CT:Addr}{u:mm}
def DJ(t:bg)(C CT PT:Addr):Sp:=λvs H Q _=>∃m A S,vs=[.ref m]/\a9 t C CT H m A S/\kj S/\cU PT LP LQ H/\∀H' l vs,aR iT H H'->cU PT LP LQ H'->H l=none->H' l=some (.lst vs)->Paired (gg H') vs (gu S)->Q (.ref l) H'
theorem ad':bc ["self"] ["self"] (aO Ji):=bz
theorem adf{f fY fC PT:Addr}{fd XO nR:aV}(F:aW K "moves" "Machine.moves" Ji f fd)(cM:ib K C)(dY:mg "len" = none)(dB:mg "range" = none)
  (GY:ay P w K mg base az 2 fY XO ["self","clerk"] (RO t C CT)) (bY:Binds K XO ["self","clerk"] []) (mY:Meth K C "may_do" fY)
  (GC:ay P w K mg base az 3 fC nR ["self"] (Qm t C CT PT)) (bC:Binds K nR ["self"] []) (mC:Meth K C "carries" fC):ay P w K mg base az 4 f fd ["self"] (DJ t C CT PT):=by
 refine F.ok ad' (λvs H Q E h=>?_) λaI A outer s H vs Q E hr h=>?_
 ·refine gJ h λm A S aa _=>?_;clear h;subst aa;rfl
 ·refine AL h λm A S aa M W hL q=>?_;clear h;subst aa;have mz:=hr.mono (show 2<=3 by decide)
  refine⟨_,aB (a7 (a6 Bc (ji (N:=["self","clerk"]) (idx:=[0]) rfl (eC.of (by kernel_rfl)) (jf (aH _)) (qe rfl dB (ae (cj fv rfl dY PySem.boot_len (ae (bo (pv 0) rfl) ai)) ai))
   (λ_ _ _ _=>cW (i:=1) akk rfl (aQ rfl) (.inr rfl)) (λ_ _ _ _=>Jp (iJ (gX (pv 0) cM.cl mY GY mz bY .nil aS (ae (pv 1) ai)))) λ_ _ _ _=>fG (ae cA (ae (pv 1) ai)))
   (mV (pv 0) cM.cl mC GC hr bC .nil aS))),?_⟩
  refine bf (id M.obj) λdx fs hm G=>?_;have hlen:A.ts.length=S.ck.length:=Paired.length M.ts;have h4:=W.four;refine vF rfl hm cM.cl cM.gI G.gI ⟨A.lt,⟨_,rfl,.inl (aq.of M.lt),_,rfl,by rw[aN];omega,by rw[aN];omega,?_⟩⟩;have en:(((A.ts.map λx=>V.ref x.1).length:Int)).toNat=S.ck.length:=by rw[aN];omega
  rw[en];refine ig (n:=S.ck.length) (λi ys H'=>i<=S.ck.length/\af H H'/\Paired (gg H') ys (kg S i)) ?_ ?_ ?_ ?_ ?_ ?_ ?_
  ·exact cQ (cY w4)
  ·exact cV (bU _) (af.refl _) .nil
  ·rintro i ys H' ⟨_,_,e⟩;rw[Paired.length e];exact Dx S i
  ·rintro i ys H' hi _;exact hi
  ·rintro ys H' _;exact aH _
  ·rintro i ys H1 hi ⟨_,s1,e⟩ x H2 ⟨eH,ex⟩;subst eH;subst ex;have hk:S.ck[i]?=some S.ck[i]:=aT hi;refine dJ (W.part hk) λp hp du qI tW=>?_;refine vM rfl (s1 _ _ hm) (G.ms _ dk) (vr rfl (⟨m,A,S,i,_,p,?_,(M.same s1),hk,hp,w4,qI,(λs hs=>⟨_,tW s hs⟩),(λH3 s3=>(ak _ rfl ?_))⟩))
   ·show [V.ref m,V.int (0+(i:Int))]=_;rw[qU]
   rw[Ib,AX hk hp];refine LO (λhb=>?_) λhb=>?_
   ·refine vr rfl ⟨by show 2<=aZ;decide,(λtp ht=>⟨hi,s1.trans (aE s3 ht),?_⟩)⟩;rw[hb,if_pos rfl];refine nZ (Paired.b9 e λ_ _ q=>q.keep λb xs e=>aE s3 ht _ _ e) (ak tp rfl ?_);rw[aw];show some (HO.tup [.str "do",V.int (0+(i:Int))])=_;rw[qU];rfl
   ·refine cV hi (s1.trans s3) ?_;rw[hb,if_neg dG,vS];exact Paired.b9 e λ_ _ q=>q.keep λb xs e=>s3 _ _ e
  ·rintro ys H1 ⟨_,s1,e⟩;have hd:=Dx S S.ck.length;refine⟨by rw[Paired.length e];exact cQ (cY om),λr ie=>?_⟩;have s2:=aE (o:=.lst ys) s1 ie;refine vM rfl (s2 _ _ hm) (G.ms _ dk) (kE m A S rfl (M.same s2) h4 (lW hL s2) λH3 lc us k3 qK nc hc ko=>?_);have cl:=DB S.kd S.ck.zipIdx;rw[Gu]at cl;have B9:=Paired.length ko
   have ao':us.length<=48:=by
    rw[B9];unfold yE;omega
   refine je r lc ys us rfl rfl (k3.wV aw) hc ?_ λl3 n3=>?_
   ·rw[Paired.length e];exact cQ (cY om)
   have k4:aR iT H (upd H3 l3 (.lst (ys++us))):=((aR.of s2).trans k3).trans (aR.of (aE (af.refl _) n3));have hn:H l3=none:=((aR.of s2).trans k3).t l3 n3;refine q _ l3 _ k4 (lW qK (aE (af.refl _) n3)) hn aw ?_;unfold gu;have kt:∀b xs,H3 b=some (.tup xs)->upd H3 l3 (.lst (ys++us)) b=some (.tup xs):=λb xs e=>aE (af.refl _) n3 _ _ e;exact C7 (Paired.b9 ko λ_ _ q=>q.keep kt) (Paired.b9 e λ_ _ q=>(q.keep λb xs e=>k3.zd _ _ (aE (af.refl _) ie _ _ e)).keep kt)
end
theorem Kg{P:Program}{w:World}{K:PySem.W.Frag}{mg:Str->Option Value}{base:Heap}{k:Nat}{f:Addr}{fd:aV}{ps:List Str}{sp:Sp}(F:ay P w K mg base (km P w) k f fd ps sp):ay P w K mg base az k f fd ps (λvs H Q _=>sp vs H Q λ_ _ _=>False):=
 ⟨λvs H Q E h=>F.len vs H Q _ h,λA outer s H args us vs Q E hr e0 hb hv hs=>vV (F.run A outer s H args us vs Q (λ_ _ _=>False) hr e0 hb hv hs) λr s' h=>by
  cases r with
  | error e=>
   refine uo h λea c dd T H' _ _ _ _ _ aa=>?_;refine nh aa λ_ _ _ _ _ q=>?_;exact q.elim
  | ok fl=>cases fl <;> exact h⟩
def KL(H H':Hp):Prop:=∀b o,(∀xs,o≠.lst xs)->H b=some o->H' b=some o
theorem KL.trans{H H1 H2:Hp}(a:KL H H1)(b:KL H1 H2):KL H H2:=λc o n e=>b c o n (a c o n e)
theorem KL.of{H H':Hp}(s:af H H'):KL H H':=λb o _ e=>s b o e
theorem KL.upd{H:Hp}{x:Addr}{xs:List V}{o:HO}(hx:H x=some (.lst xs)):KL H (upd H x o):=λb q n e=>by
 rw[ar λz=>?_]
 ·exact e
 ·rw[z,hx]at e;cases e;exact n _ rfl
theorem KL.lam{H H':Hp}(k:KL H H'){PT:Addr}{pos:Pos}{q:Str}(h:cU PT pos q H):cU PT pos q H':=by
 refine ag h λps hP hc=>?_;refine ak ps (k _ _ (λxs z=>by cases z) hP) ?_;rcases hc with e | ⟨c,e,hc⟩
 ·exact .inl e
 ·exact .inr (ak c e (k _ _ (λxs z=>by unfold zB at z;cases z) hc))
theorem KL.tup{H H':Hp}(k:KL H H'):∀b xs,H b=some (.tup xs)->H' b=some (.tup xs):=λb xs e=>k b _ (λys z=>by cases z) e
def jU(S:Mc)(n:Nat)(num d:Int):Mc:={ S with bd:=S.bd.set n num,ov:=S.ov.set n (S.ov.getD n []++[d]) }
def jX(S:Mc)(c n:Nat):Mc:=match S.ck[c]? with
 | none=>S
 | some k=>match (bJ k.es n).head? with
  | none=>S
  | some e=>jU { S with ck:=S.ck.set c { k with es:=ow k.es n } } n e.num e.d
def Be(S:Mc)(n:Nat):List V:=[.int (n:Nat),.int (S.bd.getD n 0),oV (S.ov.getD n []).getLast?]
theorem lz{α:Type}{l:List α}{n:Nat}{x d:α}(h:l[n]?=some x):l.getD n d=x:=by rw[ug,h];rfl
section
variable{t:bg}{C CT:Addr}{u:mm}
def RT(t:bg)(C CT:Addr):Sp:=λvs H Q _=>∃m A S,vs=[.ref m]/\a9 t C CT H m A S/\kj S/\∀H',af H H'->Q (.bl (wF S)) H'
theorem agg:bc ["self"] ["self"] (aO JQ):=bz
theorem aey{f fA fE:Addr}{fd lg Cp:aV}(F:aW K "ended" "Machine.ended" JQ f fd)(cM:ib K C)(cT:lD K CT)(Mw:mg "all" = none)(pV:mg "enumerate" = none)
  (GA:ay P w K mg base az 1 fA lg ["self","clerk"] (Jd t C CT)) (bA:Binds K lg ["self","clerk"] []) (mA:Meth K C "at_end" fA)
  (GE:ay P w K mg base az 1 fE Cp ["self"] (Jb CT)) (bE:Binds K Cp ["self"] []) (mE:Meth K CT "is_empty" fE):ay P w K mg base az 2 f fd ["self"] (RT t C CT):=by
 refine F.ok agg (λvs H Q E h=>?_) λaI A outer s H vs Q E hr h=>?_
 ·refine gJ h λm A S aa _=>?_;clear h;subst aa;rfl
 ·refine yJ h λm A S aa M W q=>?_;clear h;subst aa
  refine⟨_,aB (a7 (cj (AN rfl) rfl Mw DF (ae (ji (N:=["self","clerk","tray"]) (idx:=[0]) rfl (eC.of (by kernel_rfl)) (Dg (aH _) (lx _)) (AV (b:=true) rfl pV (ae (bo (pv 0) rfl) ai))
   (λ_ _ _ _=>sU rfl (jS (cW (i:=1) To rfl (aQ rfl) (.inr rfl)) (jS (cW (i:=2) To rfl (aQ rfl) (.inr rfl)) sP))) (λ_ _ _ _=>iX)
   λ_ _ _ _=>Ba (gX (pv 0) cM.cl mA GA hr bA .nil aS (ae (pv 1) ai)) (yS (mV (pv 2) cT.cl mE GE hr bE .nil aS))) ai))),?_⟩
  refine bf (id M.obj) λdx fs hm G=>?_;have hlen:A.ts.length=S.ck.length:=Paired.length M.ts;have h4:=W.four;have NF:(A.ts.map λx=>V.ref x.1).length=A.ts.length:=aN _;refine vF rfl hm cM.cl cM.gI G.gI ⟨A.lt,⟨_,rfl,aq.of M.lt,?_⟩⟩;refine ig (n:=A.ts.length) (λi ys H'=>i<=A.ts.length/\af H H'/\ys=((List.range i).map (rF S)).map V.bl) ?_ ?_ ?_ ?_ ?_ ?_ ?_
  ·exact cQ (cY w8)
  ·exact cV (bU _) (af.refl _) rfl
  ·rintro i ys H' ⟨_,_,e⟩;rw[e,aN,aN,vO];exact aH _
  ·rintro i ys H' hi ⟨_,s1,_⟩;exact eT _ (V.ref A.ts[i].1) (aq.of (s1 _ _ M.lt)) (by rw[gC,aT hi];rfl)
  ·rintro ys H' ⟨_,s1,_⟩;exact ak _ (aq.of (s1 _ _ M.lt)) (by rw[NF];exact aH _)
  ·rintro i ys H1 hi ⟨_,s1,e⟩ z H2 ⟨r,x,ie,ez,eH,jG⟩;subst ez;subst eH;have tU:=jG _ (aq.of (s1 _ _ M.lt));rw[gC,aT hi]at tU;cases tU;have s2:af H (upd H1 r (.tup [.int i,.ref A.ts[i].1])):=aE s1 ie;have Cb:upd H1 r (.tup [.int i,.ref A.ts[i].1]) r=some (.tup [.int i,.ref A.ts[i].1]):=aw;generalize upd H1 r (.tup [.int i,.ref A.ts[i].1])=H2 at s2 Cb ⊢;have M2:=M.same s2;have Ce:i<S.ck.length:=wf;have hk:S.ck[i]?=some S.ck[i]:=aT Ce;refine dJ (W.part hk) λp hp du qI tW=>?_;refine ag (M2.tD hk) λx' B6 T=>?_;rw[aT hi]at B6;cases B6;refine jh (id T.obj) λue jJ ea e1 e2 e3 em el=>?_
   have fin:∀b,rF S i=b->ys++[V.bl b]=((List.range (i+1)).map (rF S)).map V.bl:=λb hb=>by
    rw[uj,iH,iH,<-e,<-hb];rfl
   have XZ:=ahM hk hp;refine⟨r,⟨_,rfl,aF.of Cb,rfl,.int i,[.ref A.ts[i].1],rfl,.ref A.ts[i].1,[],rfl,rfl,?_⟩⟩;dsimp only[jl];rw[if_pos rfl];refine vM rfl (s2 _ _ hm) (G.ms _ dk) (vr rfl (⟨m,A,S,i,_,p,rfl,M2,hk,hp,w4,(tk (bG (λhe=>?_) λhe=>?_))⟩))
   ·refine vM rfl ea (em _ dk) (yY _ _ _ _ _ (cO _ rfl T λH3 s3=>(cV hi (s2.trans s3) (fin _ ?_))));rw[XZ,decide_eq_true he,Ao]
   ·refine cV hi s2 (fin _ ?_);rw[XZ,decide_eq_false he,Al]
  ·rintro ys H1 ⟨_,s1,e⟩;refine⟨by rw[e,aN,aN,vO];exact cQ (cY w8),λr ie=>?_⟩;refine eL r ((List.range A.ts.length).map (rF S)) rfl (aq.of (by rw[aw,e])) ?_;have q:=q _ (aE (o:=.lst ys) s1 ie);unfold wF at q;rw[Ap,hlen];exact q
def JG(t:bg)(C CT:Addr):Sp:=λvs H Q _=>∃m A S st n num d lab,vs=[.ref m,.ref st]/\a9 t C CT H m A S/\jm lab m A/\H st=some (.tup [.int (n:Nat),.int num,.int d])/\n<12/\S.bd.length=12/\S.ov.length=12/\(∀o∈S.ov,o.length<=16000)/\
 ∀H',a9 t C CT H' m A (jU S n num d)->aR (cX m A) H H'->KL H H'->Q .aD H'
theorem Tc:bc ["self","setting","name"] ["self","setting"] (aO KJ):=bz
theorem ou{n j:Nat}(h:j<n):qB n (j:Int)=some j:=by
 unfold qB
 first | (rw[if_pos om];simp;done) | (simp;exact w0)
theorem agM{f:Addr}{fd:aV}(F:aW K "come" "Machine.come" KJ f fd)(cM:ib K C):ay P w K mg base az 1 f fd ["self","setting"] (JG t C CT):=by
 refine F.ok Tc (λvs H Q E h=>?_) λaI A outer s H vs Q E hr h=>?_
 ·refine Ax h λm A S st n num d lab aa _=>?_;subst aa;rfl
 ·refine vX h λm A S st n num d lab aa M aX=>?_;subst aa;obtain⟨L,cD,hn,hb,ho,ik,q⟩:=aX;refine⟨_,aA (cy (i:=2) Tc.nd rfl (aQ rfl) (ax a8 (pv 1) aj)) (aA (lZ (ax a8 (pv 1) aj) (oj (bo (pv 0) rfl) (pv 2) set_list)) (aB (cZ (iY PySem.F.plainAttrs_list PySem.F.slot_list_append PySem.F.type_list_append ky (ax aP (bo (pv 0) rfl) (pv 2)) (ae (ax a8 (pv 1) aj) ai))))),?_⟩;refine bf (id M.obj) λdx fs hm G=>?_;refine cG (j:=0) rfl cD rfl ?_;refine cG (j:=1) rfl cD rfl ?_;refine vF rfl hm cM.cl cM.cells G.cells (vr rfl (kz A.ce _ _ n rfl rfl M.ce (ou (by rw[aN,hb];exact hn)) ?_));have M1:=ajU M L n num;have k1:aR (cX m A) H (upd H A.ce (.lst ((S.bd.map V.int).set n (.int num)))):=aR.upd .ce;have l1:KL H (upd H A.ce (.lst ((S.bd.map V.int).set n (.int num)))):=KL.upd M.ce;generalize upd H A.ce (.lst ((S.bd.map V.int).set n (.int num)))=H1 at M1 k1 l1 ⊢;refine bf (id M1.obj) λvK kr nM G1=>?_;have fg:S.ov[n]?=some (S.ov[n]'wg):=aT wg;refine ag (M1.over fg) λa ha lN=>?_;refine ak _ rfl (dA m C vK kr (kG _ rfl nM cM.cl cM.l0 G1.l0 (vr rfl (rL (v:=.ref a) (aq.of M1.cm) (di ha) ⟨.inl ⟨rfl,_,aq.of lN⟩,(cG (j:=2) rfl ((l1.tup _ _ cD)) rfl ?_)⟩))));have xJ:=ik _ (bb fg);refine qD a _ (hG _ rfl rfl lN (by rw[aN,iq];exact wb) ?_);have M2:=ajS M1 L fg ha d;refine q _ ?_ (k1.trans (aR.upd (.cs (bb ha)))) (l1.trans (KL.upd lN));unfold jU;rw[lz fg];exact M2
def HK(t:bg)(C CT:Addr):Sp:=λvs H Q _=>∃m A S n,vs=[.ref m,.int (n:Nat)]/\a9 t C CT H m A S/\n<12/\S.bd.length=12/\S.ov.length=12/\∀tp,H tp=none->Q (.ref tp) (upd H tp (.tup (Be S n)))
theorem Qt:bc ["self","name","comers"] ["self","name"] (aO IA):=bz
theorem ach{f:Addr}{fd:aV}(F:aW K "on_board" "Machine.on_board" IA f fd)(cM:ib K C)(dY:mg "len" = none):ay P w K mg base az 1 f fd ["self","name"] (HK t C CT):=by
 refine F.ok Qt (λvs H Q E h=>?_) λaI A outer s H vs Q E hr h=>?_
 ·refine q9 h λm A S n aa _=>?_;clear h;subst aa;rfl
 ·obtain⟨m,A,S,n,aa,M,hn,hb,ho,q⟩:=h;subst aa;refine⟨_,aA (cy (i:=2) Qt.nd rfl (aQ rfl) (ax aP (bo (pv 0) rfl) (pv 1))) (aB (a7 (fG (ae (pv 1) (ae (ax aP (bo (pv 0) rfl) (pv 1)) (ae (Rh (bq dm (cj fv rfl dY PySem.boot_len (ae (pv 2) ai)) aj (br _)) m9 (ax aP (pv 2) (Bi A1 aj))) ai)))))),?_⟩;refine bf (id M.obj) λdx fs hm G=>?_;have fg:S.ov[n]?=some (S.ov[n]'wg):=aT wg;have Cc:S.bd[n]?=some (S.bd[n]'wg):=aT wg;refine ag (M.over fg) λa ha lN=>?_
  have q':∀v,oV (S.ov[n]'wg).getLast?=v->∀tp,H tp=none->Q (.ref tp) (upd H tp (.tup [.int (n:Nat),.int (S.bd[n]'wg),v])):=λv hv tp ht=>by
   have q:=q tp ht;unfold Be at q;rw[lz fg,lz Cc,hv]at q;exact q
  generalize S.ov[n]'wg=o at fg lN q';refine vF rfl hm cM.cl cM.l0 G.l0 (vr rfl (rL (v:=.ref a) (aq.of M.cm) (di ha) ?_));refine ak _ rfl (vF rfl hm cM.cl cM.cells G.cells (vr rfl (rL (aq.of M.ce) (di Cc) ?_)));refine vr rfl ⟨a,⟨_,rfl,.inl (aq.of lN),rfl,_,rfl,bG (λz=>?_) λz=>?_⟩⟩
  ·have e0:o=[]:=by
    have z':V.int ((o.map V.int).length:Int)=V.int 0:=z;injection z' with z'
    rw[aN]at z';exact nU.mp om
   subst e0;exact⟨by show 3<=aZ;decide,q' .aD rfl⟩
  ·have iU:o≠[]:=λe=>z (by rw[e];rfl);obtain⟨o',d,rfl⟩:∃o' d,o=o'++[d]:=⟨o.dropLast,o.getLast iU,(List.dropLast_concat_getLast iU).symm⟩;refine vr rfl (ak _ rfl (rL (v:=.int d) (aq.of lN) (by rw[iH];exact DC _ _) ⟨by show 3<=aZ;decide,(q' (.int d) ?_)⟩));rw[List.getLast?_append];rfl
end
theorem kj.bounds{S:Mc}(w:kj S){c:Nat}{k:Ck}(h:S.ck[c]?=some k):k.es.length<=15000:=cH (w.es k (bb h)) w.ac
def rX(S:Mc):Prop:=∀o∈S.ov,o.length<=16000
theorem PF{es:List Ent}{n:Nat}{e:Ent}(h:(bJ es n).head?=some e):e.n=(n:Int):=by
 have hm:e∈bJ es n:=List.mem_of_mem_head? h;unfold bJ at hm;have:=(qa.mp hm).2;simpa using this
def eZ(S:Mc)(a:Act):Mc:={ S with ac:=S.ac++[a] }
def rG(S:Mc)(c n:Nat)(k:Ck)(g:Int):Mc:={ S with ck:=S.ck.set c { k with tn:=k.tn+1,es:=k.es++[⟨k.tn,n,g,S.ac.length⟩] } }
def setM(S:Mc)(c n r:Nat):Mc:=match S.ck[c]? with
 | none=>S
 | some k=>
  let g:=k.rg.getD r 0
  let S':=eZ (rG S c n k g) ⟨"set",c,n,none,some g,none⟩
  if S.kd = "none" then jX S' c n else S'
def fj(S:Mc)(c r:Nat)(v:Int):Mc:=match S.ck[c]? with
 | none=>S
 | some k=>{ S with ck:=S.ck.set c { k with rg:=k.rg.set r v } }
def bX(S:Mc)(k:Ck)(n:Nat):Int×Option Int:=match uI k.es n with
 | some e=>(e.num,some e.d)
 | none=>(S.bd.getD n 0,(S.ov.getD n []).getLast?)
def l6(S:Mc)(c r n:Nat):Mc:=match S.ck[c]? with
 | none=>S
 | some k=>fj (eZ S ⟨"look",c,n,some (bX S k n).1,none,(bX S k n).2⟩) c r (bX S k n).1
def nj(S:Mc)(c r n:Nat):Mc:=match S.ck[c]? with
 | none=>S
 | some k=>
  let g:=k.rg.getD r 0
  fj (eZ (jU S n g S.ac.length) ⟨"swap",c,n,some (S.bd.getD n 0),some g,(S.ov.getD n []).getLast?⟩) c r (S.bd.getD n 0)
section
variable{t:bg}{C CT:Addr}{u:mm}
def Jc(t:bg)(C CT PT:Addr):Sp:=λvs H Q _=>∃m A S c k n lab,vs=[.ref m,.int (c:Nat),.int (n:Nat)]/\a9 t C CT H m A S/\jm lab m A/\cU PT LP LQ H/\S.ck[c]?=some k/\(n:Int)∈gG S.kd k.es/\n<12/\S.bd.length=12/\S.ov.length=12/\rX S/\
 ∀H',a9 t C CT H' m A (jX S c n)->aR (cX m A) H H'->cU PT LP LQ H'->Q .aD H'
theorem agj:bc ["self","clerk","name"] ["self","clerk","name"] (aO JT):=bz
theorem aeB{f fT fC PT iN:Addr}{fd vG nR:aV}(F:aW K "carry" "Machine.carry" JT f fd)(cM:ib K C)(cT:lD K CT)
  (GT:ay P w K mg base (km P w) 3 fT vG ["self","name"] (SU CT PT iN)) (bT:Binds K vG ["self","name"] []) (mT:Meth K CT "take" fT)
  (GC:ay P w K mg base az 1 fC nR ["self","setting"] (JG t C CT)) (bC:Binds K nR ["self","setting"] []) (mC:Meth K C "come" fC):ay P w K mg base az 4 f fd ["self","clerk","name"] (Jc t C CT PT):=by
 have Oe:=Kg GT;refine F.ok agj (λvs H Q E h=>?_) λaI A outer s H vs Q E hr h=>?_
 ·refine AF h λm A S c k n lab aa _=>?_;subst aa;rfl
 ·refine As h λm A S c k n lab aa M L aX=>?_;subst aa;obtain⟨hL,hk,hf,hn,hb,ho,ik,q⟩:=aX;have eG:=hr.mono (show 1<=3 by decide);refine nC (aB (cZ (gX (pv 0) cM.cl mC GC eG bC .nil aS (ae (gX (ax aP (bo (pv 0) rfl) (pv 1)) cT.cl mT Oe hr bT .nil aS (ae (pv 2) ai)) ai)))) ?_;refine bf (id M.obj) λdx fs hm G=>?_;refine ag (M.tD hk) λx hx T=>?_;refine jh (id T.obj) λue jJ ea e1 e2 e3 em el=>?_;refine vM rfl hm (G.ms _ dk) ?_;refine vF rfl hm cM.cl cM.gI G.gI (vr rfl (rL (v:=.ref x.1) (aq.of M.lt) (Ay hx) (rM ea (em _ dk) (vr rfl (Jt x.1 n _ _ _ _ (hG _ rfl T hL (λ_ H1 e st he T1 k1 nO cD=>?_) λz=>absurd hf z))))));rw[iG]at he;have en:=PF he;rw[en]at cD;have M1:=TX M L hk hx k1 T1;refine qP m A _ st n e.num e.d lab rfl M1 L cD hn hb (cV ho ik λH2 M2 k2 l2=>q H2 ?_ ((aR.MM k1 λb hb=>.ts (bb hx) hb).trans k2) (l2.lam nO));unfold jX;rw[hk];dsimp only;rw[he];exact M2
theorem aha(a:Addr)(n r:Nat):eQ (.ref a) "set" ([n,r].map λ(n:Nat)=>V.int (n:Int))=aL "reg" (.int (r:Nat)) (aL "name" (.int (n:Nat)) (aL "parts" (.ref a) [])):=by
 unfold eQ;rw[if_neg dk,if_neg dk,if_pos rfl];rfl
theorem acO{es:List Ent}{n:Nat}{e:Ent}(hn:n<12)(he:e.n=(n:Int)):(n:Int)∈jk (es++[e]):=by
 refine yx.mpr (cO n hn rfl λz=>?_);rw[Jo,if_pos he]at z;simp at z
def RU(t:bg)(C CT PT:Addr):Sp:=λvs H Q _=>∃m A S c k z dz a n r lab,vs=[.ref m,.int (c:Nat),.ref z]/\a9 t C CT H m A S/\jm lab m A/\kj S/\rX S/\cU PT LP LQ H/\S.ck[c]?=some k/\H z=some (.ins t.kY dz (eQ (.ref a) "set" ([n,r].map λ(n:Nat)=>V.int (n:Int))))/\n<12/\r<4/\
 ∀H',a9 t C CT H' m A (setM S c n r)->aR (cX m A) H H'->cU PT LP LQ H'->Q .aD H'
theorem Sd:bc ["self","clerk","step","gave"] ["self","clerk","step"] (aO JR):=bz
theorem aez{f fA fC PT:Addr}{fd lg nR:aV}(F:aW K "do_set" "Machine.do_set" JR f fd)(cM:ib K C)(cT:lD K CT)(dY:mg "len" = none)(ST:s9 K mg t)
  (GA:ay P w K mg base az 1 fA lg ["self","name","number","deed"] (Ud CT)) (bA:Binds K lg ["self","name","number","deed"] []) (mA:Meth K CT "add" fA)
  (GC:ay P w K mg base az 4 fC nR ["self","clerk","name"] (Jc t C CT PT)) (bC:Binds K nR ["self","clerk","name"] []) (mC:Meth K C "carry" fC):ay P w K mg base az 5 f fd ["self","clerk","step"] (RU t C CT PT):=by
 refine F.ok Sd (λvs H Q E h=>?_) λaI A outer s H vs Q E hr h=>?_
 ·refine lu h λm A S c k z dz a n r aa=>?_;refine ag aa λlab aa _=>?_;subst aa;rfl
 ·refine lu h λm A S c k z dz a n r aa=>?_;refine wC aa λlab aa M L W aX=>?_;subst aa;obtain⟨ik,hL,hk,hz,hn,qH,q⟩:=aX;have eG:=hr.mono (show 1<=4 by decide);refine⟨_,aA (cy (i:=3) Sd.nd rfl (aQ rfl) (ax aP (ax aP (bo (pv 0) rfl) (pv 1)) (bo (pv 2) rfl))) (aA (cZ (gX (ax aP (bo (pv 0) rfl) (pv 1)) cT.cl mA GA eG bA .nil aS (ae (bo (pv 2) rfl) (ae (pv 3) (ae (cj fv rfl dY PySem.boot_len (ae (bo (pv 0) rfl) ai)) ai))))) (aA (cZ (iY PySem.F.plainAttrs_list PySem.F.slot_list_append PySem.F.type_list_append ky (bo (pv 0) rfl) (ae (fG (ae cA (ae (pv 1) (ae (bo (pv 2) rfl) (ae m9 (ae (pv 3) (ae m9 ai))))))) ai))) (aB (bZ (bq dm (bo (pv 0) rfl) cA (br _)) (aB (cZ (gX (pv 0) cM.cl mC GC hr bC .nil aS (ae (pv 1) (ae (bo (pv 2) rfl) ai))))) cu)))),?_⟩;rw[aha]at hz;refine bf (id M.obj) λdx fs hm G=>?_;refine ag (M.eR hk) λra jb jt=>?_;refine ag (M.tD hk) λx hx T=>?_;refine jh (id T.obj) λue jJ ea e1 e2 e3 em el=>?_;refine ag M.ac λws fh eE=>?_;have ja:=Paired.length eE;have EL:=W.ac;have anp:=W.bounds hk;have dB:=W.rg k (bb hk)
  have Ni:∀(nm:Str),(aL "reg" (.int (r:Nat)) (aL "name" (.int (n:Nat)) (aL "parts" (.ref a) []))).lookup nm=if nm = "reg" then some (.int (r:Nat)) else if nm = "name" then some (.int (n:Nat)) else if nm = "parts" then some (.ref a) else none:=λnm=>by
   rw[f9,f9,f9];rfl
  have lr:(aL "reg" (.int (r:Nat)) (aL "name" (.int (n:Nat)) (aL "parts" (.ref a) []))).lookup ("reg" : Str)=some (V.int (r:Nat)):=by rw[Ni,if_pos rfl]
  have ln:(aL "reg" (.int (r:Nat)) (aL "name" (.int (n:Nat)) (aL "parts" (.ref a) []))).lookup ("name" : Str)=some (V.int (n:Nat)):=by rw[Ni,if_neg dk,if_pos rfl]
  have hg:k.rg[r]?=some (k.rg[r]'wg):=aT wg;have eg:k.rg.getD r 0=k.rg[r]'wg:=lz hg;refine vF rfl hm cM.cl cM.eR G.eR (vr rfl (rL (v:=.ref ra) (aq.of M.rg) (di jb) ?_));refine vF rfl hz ST.tm ST.Uq lr (rL (aq.of jt) (di hg) ?_);generalize hgv:k.rg[r]'wg=g at eg;refine ak _ rfl (dA m C dx fs (kG _ rfl hm cM.cl cM.gI G.gI (vr rfl (rL (v:=.ref x.1) (aq.of M.lt) (Ay hx) (rM ea (em _ dk) ?_)))));refine vF rfl hz ST.tm ST.Ej ln (vr rfl (vF rfl hm cM.cl cM.i8 G.i8 (eL A.ac ws rfl (.inl (aq.of fh)) ?_)));refine⟨x.1,n,g,_,_,_,_,_,(kG _ rfl T om om w4 λH1 T1 k1=>?_)⟩;have kf:=gK.ofA k1 T1;have M1:=TX M L hk hx kf T1;have ew:((ws.length:Nat):Int)=((S.ac.length:Nat):Int):=by rw[ja]
  rw[ew]at M1 T1
  have dn:H1 z=some (.ins t.kY dz (aL "reg" (.int (r:Nat)) (aL "name" (.int (n:Nat)) (aL "parts" (.ref a) [])))):=k1 _ _ (λzb=>by
   rcases cx.mp zb with y | y
   ·rw[y,ea]at hz;cases hz;rw[Ni,if_neg dk,if_neg dk,if_neg dk]at e1;cases e1
   ·rcases T.kinds z zb _ hz with ⟨_,_,_,_⟩ | ⟨_,y2⟩
    ·rcases cx.mp y with y | y
     ·rw[y,T.qs]at hz;cases hz
     ·refine oE (sA y) λi aa=>?_;refine oE aa λhi ez=>?_;obtain⟨oS,e',_⟩:=T.kh i z (by rw[<-ez];exact aT hi);rw[e']at hz;cases hz
    ·cases y2) hz
  have nO:cU PT LP LQ H1:=Az hL k1 T.kinds;have EZ:aR (cX m A) H H1:=aR.MM kf λb hb=>.ts (bb hx) hb;refine bf (id M1.obj) λvK kr nM G1=>?_;refine ag M1.ac λFf EM amT=>?_;refine ak _ rfl (dA m C vK kr (yD _ rfl nM cM.cl cM.i8 G1.i8 (.inl ⟨rfl,_,aq.of EM⟩) ?_));refine ak _ rfl (vF rfl dn ST.tm ST.Ej ln (vr rfl ⟨by show 6<=aZ;decide,(λtp ht=>?_)⟩));have s2:=aE (o:=.tup [.str "set",.int (c:Nat),.int (n:Nat),.aD,.int g,.aD]) (af.refl H1) ht;have amV:=Paired.length amT;refine kE A.ac Ff (.ref tp) rfl rfl (s2 _ _ EM) (by rw[amV,iq];show S.ac.length<_;exact wb) ?_;have M2:=Kr (M1.same s2) L (s2 _ _ EM) (x:=.ref tp) (a:=⟨"set",c,n,none,some g,none⟩) ⟨tp,rfl,aw⟩;have jE:aR (cX m A) H (upd (upd H1 tp (.tup [.str "set",.int (c:Nat),.int (n:Nat),.aD,.int g,.aD])) A.ac (.lst (Ff++[.ref tp]))):=EZ.trans ((aR.of s2).trans (aR.upd .ac));have l2:KL H1 (upd (upd H1 tp (.tup [.str "set",.int (c:Nat),.int (n:Nat),.aD,.int g,.aD])) A.ac (.lst (Ff++[.ref tp]))):=(KL.of s2).trans (KL.upd (s2 _ _ EM));have iE:=l2.lam nO;have pR:=l2 _ _ (λxs z=>by cases z) dn;generalize upd (upd H1 tp (.tup [.str "set",.int (c:Nat),.int (n:Nat),.aD,.int g,.aD])) A.ac (.lst (Ff++[.ref tp]))=H2 at M2 jE l2 iE pR ⊢;refine bf (id M2.obj) λx6 jo mG G3=>?_
  have eS:setM S c n r=if S.kd = "none" then jX (eZ (rG S c n k g) ⟨"set",c,n,none,some g,none⟩) c n else eZ (rG S c n k g) ⟨"set",c,n,none,some g,none⟩:=by
   unfold setM;rw[hk];dsimp only;rw[eg]
  rw[eS]at q;refine ak _ rfl (dA m C x6 jo (kG _ rfl mG cM.cl cM.kind G3.kind ⟨rfl,⟨_,rfl,bG (λlL=>?_) λlL=>?_⟩⟩))
  ·have zt:S.kd = "none":=va lL;rw[if_pos zt]at q;have nN:c<S.ck.length:=(eK.mp hk).1;refine vM rfl mG (G3.ms _ dk) (vr rfl (vF rfl pR ST.tm ST.Ej ln ?_));refine GZ m A (eZ (rG S c n k g) ⟨"set",c,n,none,some g,none⟩) c ({ k with tn:=k.tn+1,es:=k.es++[⟨k.tn,n,g,S.ac.length⟩] }) n lab rfl M2 L iE ?_ ?_ hn (ke W.bd W.ov ik λH3 M3 k3 qK=>q H3 M3 (jE.trans k3) qK)
   ·show (S.ck.set c _)[c]?=some _;rw[jL nN]
   ·show (n:Int)∈gG S.kd (k.es++[⟨k.tn,n,g,S.ac.length⟩]);unfold gG;rw[zt,if_neg dk];exact acO hn rfl
  ·have zt:¬S.kd = "none":=λe=>lL (by rw[e]);rw[if_neg zt]at q;exact q H2 M2 jE iE
end
theorem ak1:da "put" = some [4,fQ]:=by unfold da;rw[if_pos rfl]
theorem ak2:da "add" = some [4,4]:=by unfold da;rw[if_neg dk,if_pos rfl]
theorem ak0:da "set" = some [12,4]:=by unfold da;rw[if_neg dk,if_neg dk,if_pos rfl]
theorem aji:da "look" = some [4,12]:=by unfold da;rw[if_neg dk,if_neg dk,if_neg dk,if_pos rfl]
theorem ajg:da "swap" = some [4,12]:=by unfold da;rw[if_neg dk,if_neg dk,if_neg dk,if_neg dk,if_pos rfl]
theorem ahQ:da "clear" = some []:=by unfold da;rw[if_neg dk,if_neg dk,if_neg dk,if_neg dk,if_neg dk,if_pos rfl]
theorem ajh:da "skip" = some [4,121]:=by unfold da;rw[if_neg dk,if_neg dk,if_neg dk,if_neg dk,if_neg dk,if_neg dk,if_pos rfl]
theorem y0{x:Str}{a b:Nat}{u v:Int}(e:da x=some [u,v])(h1:(a:Int)<u)(h2:(b:Int)<v):stepOk [.str x,.int a,.int b]=true:=by
 show (match da x with | none=>false | some bs=>decide ([V.int a,V.int b].length=bs.length)&&([V.int a,V.int b].zip bs).all λp=>oJ p.1 p.2)=true;rw[e];show (decide (2=2)&&((decide (0<=(a:Int))&&decide ((a:Int)<u))&&((decide (0<=(b:Int))&&decide ((b:Int)<v))&&true)))=true;rw[decide_eq_true h1,decide_eq_true h2,decide_eq_true (Zi a),decide_eq_true (Zi b)];rfl
theorem top_lt{m:Nat}(h:m<10^60):(m:Int)<fQ:=by
 have e:((10^60:Nat):Int)=fQ:=dk;rw[<-e];exact Pg.mpr h
theorem QJ{sz:Nat}{t:Tl}(g:c7 sz t):stepOk (tv t)=true:=by
 cases g with
 | put r m h1 h2=>exact y0 ak1 om (top_lt h2)
 | add r m h1 h2=>exact y0 ak2 om om
 | set r m h1 h2=>exact y0 ak0 om om
 | look r m h1 h2=>exact y0 aji om om
 | swap r m h1 h2=>exact y0 ajg om om
 | clear=>
  show (match da "clear" with | none=>false | some bs=>decide (([]:List V).length=bs.length)&&(([]:List V).zip bs).all λp=>oJ p.1 p.2)=true;rw[ahQ];rfl
 | skip r m h1 h2 h3=>exact y0 ajh om om
theorem abx:∀w∈DT,iV w=true:=by unfold DT;decide +kernel
theorem Rx{sz:Nat}{t:Tl}(g:c7 sz t):(t.2.map λ(n:Nat)=>V.int (n:Int)).length<=900:=by
 rw[aN];have:=g.len;exact w4
theorem Sv{H:Hp}(l:List Nat):∀y∈l.map λ(n:Nat)=>V.int (n:Int),∃T,tyName H y=some T:=λy hy=>by
 refine ag (lV.mp hy) λn _ aa=>?_;subst aa;exact⟨_,rfl⟩
theorem adt{sz:Nat}{s:Tl}(g:c7 sz s)(h:s.1 = "skip"):∃r q:Nat,s=(("skip" : Str),[r,q])/\q<=sz:=by
 cases g with
 | skip r q _ h2 _=>exact⟨r,q,rfl,h2⟩
 | put r n _ _=>exact absurd (show ("put" : Str) = "skip" from h) dk
 | add r n _ _=>exact absurd (show ("add" : Str) = "skip" from h) dk
 | set r n _ _=>exact absurd (show ("set" : Str) = "skip" from h) dk
 | look r n _ _=>exact absurd (show ("look" : Str) = "skip" from h) dk
 | swap r n _ _=>exact absurd (show ("swap" : Str) = "skip" from h) dk
 | clear=>exact absurd (show ("clear" : Str) = "skip" from h) dk
theorem akG{X:Cx}(K:PySem.W.Frag)(h:X.K=K:=by rfl):kc X (.builtin "isinstance") (UZ K):=by subst h;exact jT
theorem agR:(["part"]:List Str).Nodup:=dk
theorem pj{α β:Type}{F:α->β->Prop}:∀{l:List α} {r:List β} {i:Nat} {x:α},Paired F l r->l[i]?=some x->∃y,r[i]?=some y/\F x y
 | _,_,_,_,.nil,e=>by simp at e
 | _,_,0,_,.cons h _,e=>by simp at e;subst e;exact⟨_,rfl,h⟩
 | _,_,i+1,x,.cons _ t,e=>by
  refine ag (pj (i:=i) t (by simpa using e)) λy h1 h2=>?_;exact ak y (by simpa using h1) h2
theorem ahS(n:Nat):(dH n true).all id=true:=by
 induction n with
 | zero=>rfl
 | succ n ih=>rw[Ab,yh,ih];rfl
section
variable{t:bg}{u:mm}
def Uc:Sp:=λvs H Q _=>∃v ps,vs=[v]/\jj H v ps/\uZ ps/\∀H',af H H'->Q (.bl true) H'
theorem aj9:bc ["program"] ["program"] (aO LJ):=bz
theorem aio{f:Addr}{fd:aV}(F:aW K "has_clerks" "has_clerks" LJ f fd)(B:Bl mg)(C:∃u,mg "CLERKS" = some u/\RelV (.int 4) u):ay P w K mg base az 1 f fd ["program"] Uc:=by
 refine ag C λuC mC rC=>?_;refine F.ok aj9 (λvs H Q E h=>?_) λaI A outer s H vs Q E hr h=>?_
 ·refine bf h λv ps aa _=>?_;clear h;subst aa;rfl
 ·refine jW h λv ps aa aX g k=>?_;clear h;subst aa;refine cF aX λa xs aa ha hp=>?_;clear aX;subst aa
  refine⟨_,aA (bZ (PW.pt (pw_or (m8 (iJ (cj jT rfl B.jF jw (ae (pv 0) (ae (pq (v:=.ty "tuple") rfl B.tuple ur rfl) ai))))) (pw_or1 (m8 (aed KQ KQ aj (cj fv rfl B.len PySem.boot_len (ae (pv 0) ai)) (gF rfl mC rC))))))
    yw cu)
   (aB (a7 (cj (AN rfl) rfl B.all DF (ae (ji (N:=["part"]) (idx:=[]) rfl (eC.of (by kernel_rfl)) (jf (bU _))
    (sT (pv 0)) (λ_ _ _ _=>cW (i:=0) agR rfl (aQ rfl) (.inr rfl)) (λ_ _ _ _=>iX)
    λ_ _ _ _=>cj (akG K) rfl B.jF jw (ae (pv 0) (ae (pq (v:=.ty "tuple") rfl B.tuple ur rfl) ai))) ai)))),?_⟩
  have hT:tyName H (.ref a)=some "tuple":=Dd ha;have hi:rD "tuple" "tuple" = true:=qc;have hl:=Paired.length hp;have g1:=g.ne;have g2:=g.le;refine vr rfl (dA _ _ _ _ (hG _ rfl (pM hT) rfl (pJ hT qc) (ak _ rfl ?_)));rw[hi];refine eY ?_;refine vr rfl (eL a xs rfl (.inr (aF.of ha)) ⟨_,⟨_,rfl,rfl,_,rfl,bG (λh1=>?_) λh1=>absurd (show (1:Int)<=(xs.length:Int) by omega) h1⟩⟩);refine⟨_,⟨_,rfl,rfl,_,rfl,uU (λh2=>absurd (show (xs.length:Int)<=4 by omega) h2) λh2=>?_⟩⟩;refine ak _ rfl (cO a rfl ⟨xs,aF.of ha⟩ ?_);refine ig (n:=xs.length) (λi ys H'=>i<=xs.length/\af H H'/\ys=(dH i true).map V.bl) ?_ ?_ ?_ ?_ ?_ ?_ ?_
  ·exact cQ (cY w8)
  ·exact cV (bU _) (af.refl _) rfl
  ·rintro i ys H' ⟨_,_,e⟩;rw[e,aN,Gp];exact aH _
  ·rintro i ys H' hi ⟨_,s1,_⟩;exact eT xs (xs[i]) (aF.of (s1 _ _ ha)) (aT hi)
  ·rintro ys H' ⟨_,s1,_⟩;exact ak xs (aF.of (s1 _ _ ha)) (aH _)
  ·rintro i ys H' FX ⟨_,s1,e⟩ x gj ⟨eH,jG⟩;subst eH;have tU:=jG xs (aF.of (s1 _ _ ha));refine ag (pj hp tU) λp _ aa=>?_;refine cF aa λb us aa hb _=>?_;subst aa;have Xy:tyName gj (.ref b)=some "tuple":=Dd (s1 _ _ hb);refine vr rfl (dA _ _ _ _ (yD _ rfl (pM Xy) rfl (pJ Xy qc) FX s1 ?_));rw[hi,e,List.replicate_succ',iH];rfl
  ·rintro ys H' ⟨_,s1,e⟩;refine⟨?_,λr ie=>?_⟩
   ·rw[e,aN,Gp];exact cQ (cY w8)
   refine eL r (dH xs.length true) rfl (aq.of (by rw[aw,e])) ?_;rw[ahS];exact k _ (aE s1 ie)
def S5:Sp:=λvs H Q _=>∃(v:V) (s:Tl) (p n:Nat),vs=[v,.int (p:Nat),.int (n:Nat)]/\pC H v s/\c7 n s/\p<120/\∀H',af H H'->Q (.bl true) H'
theorem Tb:bc ["told","place","length","step"] ["told","place","length"] (aO KG):=bz
theorem agJ{f cN cE:Addr}{fd:aV}(F:aW K "fits" "fits" KG f fd)(O:wW K mg t u)(xN:Kl K cN cE)(mX:mg "NoStep" = some (.ref cN)):ay P w K mg base az 5 f fd ["told","place","length"] S5:=by
 have T:=O.st;have GX:ay P w K mg base az 4 t.fO t.tL ["told"] (Im t):=Qy T;refine ag T.cn.long λuL mL rL=>?_;refine F.ok Tb (λvs H Q E h=>?_) λaI A outer s H vs Q E hr h=>?_
 ·refine q9 h λv s p n aa _=>?_;clear h;subst aa;rfl
 ·obtain⟨v,st,p,n,aa,hI,g,hp,k⟩:=h;subst aa;refine⟨_,aA (ags rfl rfl rfl mX xN.base (λW pn E hL hp=>aB (cy (i:=3) Tb.nd rfl (aQ rfl) (dg GX hr rfl T.mO T.MS.kp T.bO .nil aS (ae (pv 0) ai)))) λea pn=>yw) (aA (bZ (PW.pt (pw_and (iJ (cj jT rfl T.bl.jF jw (ae (pv 3) (ae (gF (v:=.ref t.j') rfl T.J5 rfl) ai)))) (pw_and1 (bq KR (bo (pv 3) rfl) (pv 2) (br _))))) yw cu) (aB (a7 (AW y' (pv 1) (gF rfl mL rL) (br _))))),?_⟩;refine ag hI λa aa ha=>?_;clear hI;subst aa;have anQ:decide ((p:Int)<120)=true:=decide_eq_true om;refine vr rfl (qD a st.1 (hG _ rfl ha (QJ g) ⟨Rx g,Sv st.2⟩ λz dx H1 s1 hz dn=>?_));have kk:=k H1 s1;rw[<-anQ]at kk;refine ag (Ke O g dn) λC ty c6=>?_;refine vr rfl (Hy _ (.ref t.j') (.ref C) (.ref t.j') (decide (st.1 = "skip")) rfl ty rfl c6.Ul (tk (bG (λhx=>?_) λhx=>eY ⟨_,rfl,_,_,rfl,rfl,kk⟩)));refine bf (adt g hx) λr q aa hq=>?_;subst aa;refine vF (v:=.int (q:Nat)) rfl dn T.uP T.J1 rfl (vr rfl ⟨_,⟨_,rfl,rfl,_,rfl,bG (λhq2=>?_) λ_=>⟨_,rfl,_,_,rfl,rfl,kk⟩⟩⟩);exact absurd hq2 (by show ¬((n:Int)<(q:Int));omega)
def S0:Sp:=λvs H Q _=>∃v ps,vs=[v]/\jj H v ps/\uZ ps/\∀H',af H H'->Q .aD H'
theorem A2:bc ["program","clerk","part","place","told"] ["program"] (aO HM):=bz
theorem agG{f fH fF:Addr}{fd XT mJ:aV}(F:aW K "look_over" "look_over" HM f fd)(B:Bl mg)(pV:mg "enumerate" = none)
  (GH:ay P w K mg base az 1 fH XT ["program"] Uc) (kH:PySem.W.keepIn K (.ref fH)=true) (bH:Binds K XT ["program"] []) (mH:mg "has_clerks" = some (.ref fH))
  (GF:ay P w K mg base az 5 fF mJ ["told","place","length"] S5) (kF:PySem.W.keepIn K (.ref fF)=true) (bF:Binds K mJ ["told","place","length"] []) (mF:mg "fits" = some (.ref fF)) :
  ay P w K mg base az 6 f fd ["program"] S0:=by
 refine F.ok A2 (λvs H Q E h=>?_) λaI A outer s H vs Q E hr h=>?_
 ·refine bf h λv ps aa _=>?_;clear h;subst aa;rfl
 ·refine jW h λv ps aa aX g k=>?_;clear h;subst aa;refine cF aX λa xs aa ha hp=>?_;clear aX;subst aa
  refine⟨_,aA (bZ (m8 (iJ (dg GH (hr.mono qc) rfl mH kH bH .nil aS (ae (pv 0) ai)))) yw cu)
   (aB (pB p0 rfl (AV (b:=false) rfl pV (ae (pv 0) ai)) (sU rfl (jS (cW (i:=1) A2.nd rfl (aQ rfl)) (jS (cW (i:=2) A2.nd rfl (aQ rfl)) sP))) (aB (pB p0 rfl (AV (b:=false) rfl pV (ae (pv 2) ai)) (sU rfl (jS (cW (i:=3) A2.nd rfl (aQ rfl)) (jS (cW (i:=4) A2.nd rfl (aQ rfl)) sP))) (aB (bZ (m8 (iJ (dg GF hr rfl mF kF bF .nil aS (ae (pv 4) (ae (pv 3) (ae (cj fv rfl B.len PySem.boot_len (ae (pv 2) ai)) ai)))))) yw cu)))))),?_⟩
  refine vr rfl (qk (.ref a) ps rfl ⟨a,xs,rfl,ha,hp⟩ g λH1 s1=>⟨_,rfl,eY ?_⟩);refine vr rfl (eL a xs rfl (aF.of (s1 _ _ ha)) (Kf (n:=xs.length) (λi σ H'=>∃c q p d,σ=[some (.ref a),c,q,p,d]/\af H H') ⟨none,none,none,none,rfl,s1⟩ ?_ ?_ ?_ ?_))
  ·rintro i σ H' hi ⟨_,_,_,_,_,s2⟩;exact eT xs (xs[i]) (aF.of (s2 _ _ ha)) (aT hi)
  ·rintro σ H' ⟨_,_,_,_,_,s2⟩;exact ak xs (aF.of (s2 _ _ ha)) (aH _)
  ·rintro i σ H2 hi ⟨c,q,p,d,rfl,s2⟩ z H3 ⟨r,x,ie,ez,eH,jG⟩;subst ez;subst eH;have tU:=jG xs (aF.of (s2 _ _ ha));refine ag (pj hp tU) λpt pU aa=>?_;refine cF aa λb us aa xV ko=>?_;subst aa;refine oA (g.part pt (bb pU)) λg3 g4=>?_;have B9:=Paired.length ko;rw[<-B9]at g3 g4;have s3:af H (upd H2 r (.tup [.int i,.ref b])):=aE s2 ie;refine qk r ([.int i,.ref b]) rfl (aF.of aw) rfl (eT (.int i) ([.ref b]) rfl (eL (.ref b) ([]) rfl rfl ?_));refine vr rfl (eL b us rfl (aF.of (s3 _ _ xV)) (Kf (n:=us.length) (λj σ H'=>∃p d,σ=[some (.ref a),some (.int i),some (.ref b),p,d]/\af H H') ⟨p,d,rfl,s3⟩ ?_ ?_ ?_ ?_))
   ·rintro j σ H' hj ⟨_,_,_,s4⟩;exact eT _ (us[j]) (aF.of (s4 _ _ xV)) (aT hj)
   ·rintro σ H' ⟨_,_,_,s4⟩;exact ak _ (aF.of (s4 _ _ xV)) (aH _)
   ·rintro j σ H4 hj ⟨p',d',rfl,s4⟩ z' H5 ⟨r',y,FK,ez',xZ,tT⟩;subst ez';subst xZ;have hyj:=tT _ (aF.of (s4 _ _ xV));refine ag (pj ko hyj) λst cD hI=>?_;have s5:af H (upd H4 r' (.tup [.int j,y])):=aE s4 FK;refine qk r' ([.int j,y]) rfl (aF.of aw) rfl (eT (.int j) ([y]) rfl (eL y ([]) rfl rfl ?_));exact ak _ rfl (vr rfl (vr rfl ⟨b,⟨_,rfl,.inr (aF.of (s5 _ _ xV)),y,st,j,us.length,rfl,hI.keep λb xs e=>s5 _ _ e,g4 st (bb cD),wh,λH6 s6=>⟨_,rfl,eY ⟨_,_,rfl,s5.trans s6⟩⟩⟩⟩))
   ·rintro σ H4 ⟨p',d',rfl,s4⟩;exact zk _ _ _ (ak _ rfl s4)
  ·rintro σ H2 ⟨_,_,_,_,rfl,s2⟩;exact k H2 s2
end
structure Own(H0:Hp)(m:Addr)(H:Hp)(R:Addr->Nat->Prop):Prop where
 l:∃lab:Addr->Nat,∀a v,R a v->lab a=v
 p:∀a v,R a v->H a≠none
 f:∀a v,R a v->a=m\/H0 a=none
 t:∀b,H b=none->H0 b=none
section
variable{H0 H H':Hp}{m:Addr}{R R':Addr->Nat->Prop}
theorem Own.keep(h:Own H0 m H R)(k:∀b,H' b=none->H b=none):Own H0 m H' R:=⟨h.l,λa v r z=>h.p a v r (k a z),h.f,λb z=>h.t b (k b z)⟩
theorem Own.adds(h:Own H0 m H R)(k:∀b,H' b=none->H b=none){B:Addr->Prop}{n:Nat}(hB:∀b,B b->H b=none)(Cg:∀b,B b->H' b≠none):Own H0 m H' λa v=>R a v\/(B a/\v=n):=by
 obtain⟨⟨lab,h1⟩,h2,h3,h4⟩:=h
 classical
 refine⟨⟨λa=>if B a then n else lab a,λa v r=>?_⟩,λa v r=>?_,λa v r=>?_,λb z=>h4 b (k b z)⟩
 ·rcases r with r | ⟨r,rfl⟩
  ·show (if B a then n else lab a)=v;rw[if_neg λz=>h2 a v r (hB a z)];exact h1 a v r
  ·show (if B a then v else lab a)=v;rw[if_pos r]
 ·rcases r with r | ⟨r,rfl⟩
  ·exact λz=>h2 a v r (k a z)
  ·exact Cg a r
 ·rcases r with r | ⟨r,rfl⟩
  ·exact h3 a v r
  ·exact .inr (h4 a (hB a r))
theorem Own.add(h:Own H0 m H R)(k:∀b,H' b=none->H b=none){b:Addr}{n:Nat}(hB:H b=none)(Cg:H' b≠none):Own H0 m H' λa v=>R a v\/(a=b/\v=n):=
 h.adds k (B:=λa=>a=b) (λc z=>by rw[z];exact hB) (λc z=>by rw[z];exact Cg)
theorem oa{H:Hp}{x:Addr}{o:HO}:∀b,upd H x o b=none->H b=none:=λb e=>by
 by_cases z:b=x
 ·rw[z,aw]at e;cases e
 ·rwa[ar z]at e
theorem Own.new(h:Own H0 m H R){b:Addr}{n:Nat}{o:HO}(hB:H b=none):Own H0 m (upd H b o) λa v=>R a v\/(a=b/\v=n):=h.add oa hB (by rw[aw];intro z;cases z)
end
structure cC(m:Addr)(H H':Hp):Prop where
 k:∀b o,b≠m->H b=some o->H' b=some o
 t:∀b,H' b=none->H b=none
theorem cC.of{m:Addr}{H H':Hp}(s:af H H'):cC m H H':=⟨λb o _ e=>s b o e,λb h=>s.free h⟩
theorem cC.trans{m:Addr}{H H1 H2:Hp}(a:cC m H H1)(b:cC m H1 H2):cC m H H2:=⟨λc o n e=>b.k c o n (a.k c o n e),λc h=>a.t c (b.t c h)⟩
theorem cC.upd{m:Addr}{H:Hp}{o:HO}:cC m H (upd H m o):=⟨λb q n e=>by rw[ar n];exact e,oa⟩
section
variable{t:bg}{C CT:Addr}{u:mm}
theorem rA.same{H H':Hp}{v:V}{s:Tl}(s':af H H')(h:rA t H v s):rA t H' v s:=h.keep λb C dx fs e _=>s' _ _ e
def Qk(t:bg):Sp:=λvs H Q _=>∃v p,vs=[v]/\IsPart H v p/\p.length<=120/\(∀s∈p,c7 p.length s)/\∀H' b us,af H H'->H b=none->H' b=some (.tup us)->Paired (rA t H') us p->Q (.ref b) H'
theorem ac0:bc ["part"] ["part"] (aO Iy):=bz
theorem agQ:(["told"]:List Str).Nodup:=dk
theorem Hl{α β:Type}{F:α->β->Prop}{x:α}{y:β}(h:F x y):∀{l:List α} {r:List β},Paired F l r->Paired F (l++[x]) (r++[y])
 | _,_,.nil=>.cons h .nil
 | _,_,.cons g t=>.cons g (Hl h t)
theorem acf{f:Addr}{fd:aV}(F:aW K "steps_of" "steps_of" Iy f fd)(T:s9 K mg t)(lK:mg "tuple" = none):ay P w K mg base az 5 f fd ["part"] (Qk t):=by
 have GX:ay P w K mg base az 4 t.fO t.tL ["told"] (Im t):=Qy T;refine F.ok ac0 (λvs H Q E h=>?_) λaI A outer s H vs Q E hr h=>?_
 ·refine bf h λv p aa _=>?_;clear h;subst aa;rfl
 ·refine jW h λv p aa aX hl tR=>?_;clear h;subst aa;refine cF aX λa vs aa ha hp=>?_;clear aX;subst aa;refine oA tR λhg k=>?_
  refine⟨_,aB (a7 (qX Am rfl lK ur (ae (ji (N:=["told"]) (idx:=[]) rfl (eC.of (by kernel_rfl)) (jf (bU _)) (sT (pv 0))
   (λ_ _ _ _=>cW (i:=0) agQ rfl (aQ rfl) (.inr rfl)) (λ_ _ _ _=>iX) λ_ _ _ _=>dg GX hr rfl T.mO T.MS.kp T.bO .nil aS (ae (pv 0) ai)) ai))),?_⟩
  have hlen:=Paired.length hp;refine ak _ rfl (cO a rfl ⟨_,aF.of ha⟩ ?_);refine ig (n:=vs.length) (λi ys H'=>i<=vs.length/\af H H'/\Paired (rA t H') ys (p.take i)) ?_ ?_ ?_ ?_ ?_ ?_ ?_
  ·exact cQ (cY w8)
  ·exact cV (bU _) (af.refl _) .nil
  ·rintro i ys H' ⟨_,_,e⟩;rw[Paired.length e,gU];exact xl
  ·rintro i ys H' hi ⟨_,s1,_⟩;exact eT _ _ (aF.of (s1 _ _ ha)) (aT hi)
  ·rintro ys H' ⟨_,s1,_⟩;exact ak _ (aF.of (s1 _ _ ha)) (aH _)
  ·rintro i ys H1 hi ⟨_,s1,e⟩ z H2 ⟨eH,dn⟩;subst eH;have hz:=dn _ (aF.of (s1 _ _ ha));refine ag (pj hp hz) λst cD hI=>?_;have XI:=hg st (bb cD);have XH:pC H2 z st:=hI.keep λb xs e=>s1 _ _ e;refine ag XH λb aa hb=>?_;clear XH;subst aa;dsimp only[jl,iL];rw[if_pos rfl];refine vr rfl (qD b st.1 (hG _ rfl hb (QJ XI) ⟨Rx XI,Sv st.2⟩ λz dx H3 s3 FA Fz=>(cV hi (s1.trans s3) ?_)));rw[ku,cD];exact Hl ⟨z,b,dx,rfl,Fz⟩ (Paired.b9 e λ_ _ q=>q.same s3)
  ·rintro ys H1 ⟨_,s1,e⟩;have hle:=Paired.length e;rw[gU]at hle;refine⟨cQ (cY om),λr ie=>⟨r,ys,rfl,.inl ⟨aq.of aw,λl hl=>?_⟩⟩⟩;have s2:=aE (o:=.lst ys) s1 ie;have s3:=aE (o:=.tup ys) s2 hl;rw[jK om]at e;exact k _ l ys s3 (s2.free hl) aw (Paired.b9 e λ_ _ q=>(q.same (aE (af.refl _) ie)).same (aE (af.refl _) hl))
end
structure zm(K:W.Frag)(x qual:Str)(st:Stmt)(f:Addr)(fd:aV)(d:Str):Prop where
 ex:∃(oc:Value) (od:Option Addr) (T:Addr) (kV doc pm:Value) (an:Option Addr) (aI ct:Value) (iB:Array (Option Value)) (c1:Value) (d1:Option Addr) (n1:Nat) (rZ:Array (Option Value)) (tk:Nat),fd=W.fnOf x qual (lA st) (gr st) (aO st) (.ref T) kV doc pm an aI ct/\K.lookup f=some ⟨oc,od,.func fd,iB⟩/\W.codeIn K aI qual=true/\K.lookup T=some ⟨c1,d1,.seq #[.str d tk] n1,rZ⟩
 kp:W.keepIn K (.ref f)=true
def k0:Ck:=⟨0,0,[0,0,0,0],0,[]⟩
def qw(kd:Str)(ps:List Pt):Mc:=⟨kd,ps,ps.map λ_=>k0,dH 12 0,[],dH 12 []⟩
theorem CY{α β γ:Type}{F:α->β->Prop}{y:β}:∀{l:List α} {r:List γ},l.length=r.length->(∀x∈l,F x y)->Paired F l (r.map λ_=>y)
 | [],[],_,_=>.nil
 | [],_::_,h,_=>by cases h
 | _::_,[],h,_=>by cases h
 | x::l,z::r,h,g=>.cons (g x (by simp)) (CY (by simpa using h) λx hx=>g x (eV _ hx))
theorem Hv{α β:Type}{F:α->β->Prop}{y:β}:∀{l:List α} {n:Nat},l.length=n->(∀x∈l,F x y)->Paired F l (dH n y)
 | [],0,_,_=>.nil
 | [],_+1,h,_=>by cases h
 | _::_,0,h,_=>by cases h
 | x::l,n+1,h,g=>.cons (g x (by simp)) (Hv (by simpa using h) λx hx=>g x (eV _ hx))
theorem akp:(["kind","part"]:List Str).Nodup:=dk
theorem Ei:(["part"]:List Str).Nodup:=dk
theorem akm:(["name"]:List Str).Nodup:=dk
theorem AJ{α:Type}{l:List α}{x y:α}{i:Nat}(h:(l++[x])[i]?=some y):l[i]?=some y\/(i=l.length/\y=x):=by
 by_cases hi:i<l.length
 ·left;rwa[Oj hi]at h
 ·right
  rw[CF om]at h
  by_cases e:i-l.length=0
  ·rw[e]at h;simp at h;exact⟨om,h.symm⟩
  ·rw[CG (by simp;omega)]at h;cases h
theorem Own.nx{H0 H:Hp}{m b:Addr}{R:Addr->Nat->Prop}{o:HO}(n:Nat)(h:Own H0 m H R)(hB:H b=none):∃R',Own H0 m (upd H b o) R'/\(∀a v,R a v->R' a v)/\R' b n:=⟨_,h.new (n:=n) hB,λa v z=>.inl z,.inr ⟨rfl,rfl⟩⟩
theorem Own.nxs{H0 H H':Hp}{m:Addr}{R:Addr->Nat->Prop}(n:Nat)(B:Addr->Prop)(h:Own H0 m H R)(k:∀b,H' b=none->H b=none)(hB:∀b,B b->H b=none)(Cg:∀b,B b->H' b≠none):∃R',Own H0 m H' R'/\(∀a v,R a v->R' a v)/\∀b,B b->R' b n:=⟨_,h.adds (n:=n) k hB Cg,λa v z=>.inl z,λb z=>.inr ⟨z,rfl⟩⟩
theorem cC.tup{m C dx:Addr}{fs:List (Str×V)}{H H':Hp}(k:cC m H H')(hm:H m=some (.ins C dx fs)):∀b xs,H b=some (.tup xs)->H' b=some (.tup xs):=λb xs e=>k.k b _ (λz=>by rw[z,hm]at e;cases e) e
theorem cC.lst{m C dx:Addr}{fs:List (Str×V)}{H H':Hp}(k:cC m H H')(hm:H m=some (.ins C dx fs)){b:Addr}{xs:List V}(e:H b=some (.lst xs)):H' b=some (.lst xs):=k.k b _ (λz=>by rw[z,hm]at e;cases e) e
theorem qj{x:Str}{v:V}{fs nQ:List (Str×V)}(e:nQ=aL x v fs):nQ.lookup x=some v:=by rw[e,f9,if_pos rfl]
theorem cw{x y:Str}{v:V}{r:Option V}{fs nQ:List (Str×V)}(h:fs.lookup y=r)(e:nQ=aL x v fs)(n:y≠x):nQ.lookup y=r:=by rw[e,f9,if_neg n];exact h
section
variable{t:bg}{C CT:Addr}{u:mm}
theorem zm.ok{x qual d:Str}{st:Stmt}{f:Addr}{fd:aV}{N ps:List Str}{k:Nat}{sp:Sp}(F:zm K x qual st f fd d)(S:bc N ps (aO st))(len:∀vs H Q E,sp vs H Q E->vs.length=ps.length)
  (tx:∀(aI:Value) (A:Around) (outer:List Env) (s:Shared) (H:Hp) (vs:List V) (Q:VK) (E:XK),e8 k (A.deeper (envOfC qual (aO st) s.heap.objs.size f aI))->sp vs H Q E->
   ∃t,eD (lE az P w K mg base N qual (aO st) f aI A outer s H E).pO (gr st) t/\t { nx:=λ_ H'=>Q .aD H',rt:=Q } (start N vs) H):ay P w K mg base az (k+1) f fd ps sp:=by
 refine lu F.ex λoc od T kV doc pm an aI ct iB aa=>?_;refine v5 aa λc1 d1 n1 rZ tk aa lk iD _=>?_;subst aa;refine uW lk iD S len λA outer s H vs Q E hr pS=>?_;refine ag (tx aI A outer s H vs Q E hr pS) λt h q=>?_;exact ak t h.pO q
theorem ag0{f:Addr}{fd:aV}(F:zm K "__init__" "Machine.__init__" A7 f fd "row"):Binds K fd ["self","program","kind"] []:=by
 refine lu F.ex λoc od T kV doc pm an aI ct iB aa=>?_;refine v5 aa λc1 d1 n1 rZ tk aa lk iD lT=>?_;subst aa;intro s us hK hl
 match us,hl with
 | [a,b,c],_=>exact W.binds_K hK rfl lT rfl rfl rfl
theorem ag1{f:Addr}{fd:aV}(F:zm K "__init__" "Machine.__init__" A7 f fd "row"):∃tk,Binds K fd ["self","program","kind"] [.str "row" tk]:=by
 refine lu F.ex λoc od T kV doc pm an aI ct iB aa=>?_;refine v5 aa λc1 d1 n1 rZ tk aa lk iD lT=>?_;subst aa;refine⟨tk,λs us hK hl=>?_⟩
 have jH:us.length=2:=by
  rw[eI]at hl;exact Nat.add_right_cancel hl
 match us,jH with
 | [a,b],_=>exact W.binds_K hK rfl lT rfl rfl rfl
def RP(t:bg)(C CT:Addr):Sp:=λvs H Q _=>∃m dx v ps kd,vs=[.ref m,v,.str kd]/\H m=some (.ins C dx [])/\jj H v ps/\uZ ps/\(kd = "row"\/kd = "name"\/kd = "none")/\
 ∀H' A lab,a9 t C CT H' m A (qw kd ps)->jm lab m A->v=.ref A.pg->cC m H H'->(∀b,cX m A b->b=m\/H b=none)->Q .aD H'
theorem age:bc ["self","program","kind"] ["self","program","kind"] (aO A7):=bz
theorem aeu{f fK fT fS PT wQ:Addr}{fd XS vG oK:aV}(F:zm K "__init__" "Machine.__init__" A7 f fd "row")(cM:ib K C)(T:s9 K mg t)(lK:mg "tuple" = none)(dB:mg "range" = none)
  (GK:ay P w K mg base az 6 fK XS ["program"] S0) (kK:W.keepIn K (.ref fK)=true) (bK:Binds K XS ["program"] []) (mK:mg "look_over" = some (.ref fK))
  (GT:ay P w K mg base (km P w) 3 fT vG ["kind"] (Q1 CT PT wQ)) (kT:W.keepIn K (.ref fT)=true) (bT:Binds K vG ["kind"] []) (mT:mg "tray_of" = some (.ref fT))
  (GS:ay P w K mg base az 5 fS oK ["part"] (Qk t)) (kS:W.keepIn K (.ref fS)=true) (bS:Binds K oK ["part"] []) (mS:mg "steps_of" = some (.ref fS)) :
  ay P w K mg base az 7 f fd ["self","program","kind"] (RP t C CT):=by
 have Oe:=Kg GT;refine ag T.cn.names λuN mN rN=>?_;refine ag T.cn.eR λuR mR rR=>?_;refine F.ok age (λvs H Q E h=>?_) λaI A outer s H vs Q E hr h=>?_
 ·refine sQ h λm dx v ps kd aa _=>?_;subst aa;rfl
 ·refine uo h λm dx v ps kd aa hm hP g lL q=>?_;subst aa;have NA:=hr.mono (show 3<=6 by decide);have sh:=hr.mono (show 5<=6 by decide)
  refine⟨_,aA (cZ (dg GK hr rfl mK kK bK .nil aS (ae (pv 1) ai))) (aA (gH (pv 0) (ji (N:=["kind","part"]) (idx:=[2]) rfl (eC.of (by kernel_rfl)) (jf (aH _)) (sT (pv 1)) (λ_ _ _ _=>cW (i:=1) akp rfl (aQ rfl) (.inr rfl)) (λ_ _ _ _=>iX)
     λ_ _ _ _=>dg Oe NA rfl mT kT bT .nil aS (ae (pv 0) ai)) rfl)
   (aA (gH (pv 0) (pv 1) rfl) (aA (gH (pv 0) (pv 2) rfl) (aA (gH (pv 0) (qX Am rfl lK ur (ae (ji (N:=["part"]) (idx:=[]) rfl (eC.of (by kernel_rfl)) (jf (bU _)) (sT (pv 1)) (λ_ _ _ _=>cW (i:=0) Ei rfl (aQ rfl) (.inr rfl)) (λ_ _ _ _=>iX)
     λ_ _ _ _=>dg GS sh rfl mS kS bS .nil aS (ae (pv 0) ai)) ai)) rfl)
   (aA (gH (pv 0) (ji (N:=["part"]) (idx:=[]) rfl (eC.of (by kernel_rfl)) (jf (bU _)) (sT (pv 1)) (λ_ _ _ _=>cW (i:=0) Ei rfl (aQ rfl) (.inr rfl)) (λ_ _ _ _=>iX) λ_ _ _ _=>aj) rfl)
   (aA (gH (pv 0) (ji (N:=["part"]) (idx:=[]) rfl (eC.of (by kernel_rfl)) (jf (bU _)) (sT (pv 1)) (λ_ _ _ _=>cW (i:=0) Ei rfl (aQ rfl) (.inr rfl)) (λ_ _ _ _=>iX) λ_ _ _ _=>aj) rfl)
   (aA (gH (pv 0) (ji (N:=["part"]) (idx:=[]) rfl (eC.of (by kernel_rfl)) (jf (bU _)) (sT (pv 1)) (λ_ _ _ _=>cW (i:=0) Ei rfl (aQ rfl) (.inr rfl)) (λ_ _ _ _=>iX) λ_ _ _ _=>a6 JZ (eh (ae aj ai)) (gF rfl mR rR)) rfl)
   (aA (gH (pv 0) (a6 JZ (eh (ae aj ai)) (gF rfl mN rN)) rfl) (aA (gH (pv 0) (eh ai) rfl) (aB (gH (pv 0) (ji (N:=["name"]) (idx:=[]) rfl (eC.of (by kernel_rfl)) (jf (bU _)) (qe rfl dB (ae (gF rfl mN rN) ai)) (λ_ _ _ _=>cW (i:=0) akm rfl (aQ rfl) (.inr rfl)) (λ_ _ _ _=>iX) λ_ _ _ _=>eh ai) rfl))))))))))),?_⟩
  refine cF (id hP) λpg dr aa fV k8=>?_;subst aa;refine vr rfl (qk (.ref pg) ps rfl hP g λH1 s1=>?_);have dE:dr.length=ps.length:=Paired.length k8;have hle:=g.le;have npm:pg≠m:=iK fV hm (by intro z;cases z);have nM:=s1 _ _ hm;obtain⟨R0,o0,r0⟩:∃R,Own H m H1 R/\R m 2:=⟨λa v=>a=m/\v=2,⟨⟨λ_=>2,λa v z=>z.2.symm⟩,λa v z e=>(by rw[z.1,nM]at e;cases e),λa v z=>.inl z.1,λb z=>s1.free z⟩,rfl,rfl⟩
  have zt:V.str kd=.str "row"\/V.str kd=.str "name"\/V.str kd=.str "none":=by
   rcases lL with e | e | e
   ·exact .inl (by rw[e])
   ·exact .inr (.inl (by rw[e]))
   ·exact .inr (.inr (by rw[e]))
  refine ak _ rfl (cO pg rfl ⟨_,aF.of (s1 _ _ fV)⟩ ?_);refine ig (n:=dr.length) (λi ys H'=>i<=dr.length/\∃ts:List (Addr×Addr×List Addr),ys=(ts.map λx=>V.ref x.1)/\ts.length=i/\af H1 H'/\(∀x∈ts,dy H' x.1 CT kd 0 [] x.2.1 x.2.2)/\∃R,Own H m H' R/\(∀a v,R0 a v->R a v)/\∀j x,ts[j]?=some x->∀b∈x.1::x.2.1::x.2.2,R b (28+6*j)) ?_ ?_ ?_ ?_ ?_ ?_ ?_
  ·exact cQ (cY (by exact w8))
  ·exact⟨bU _,⟨[],rfl,rfl,af.refl _,λx hx=>(by cases hx),R0,o0,λ_ _ z=>z,λj x z=>(by simp at z)⟩⟩
  ·rintro i ys H' ⟨_,ts,rfl,rfl,_⟩;rw[aN];exact aH _
  ·rintro i ys H' hi ⟨_,ts,_,_,s2,_⟩;exact eT _ _ (aF.of ((s1.trans s2) _ _ fV)) (aT hi)
  ·rintro ys H' ⟨_,ts,_,_,s2,_⟩;exact ak _ (aF.of ((s1.trans s2) _ _ fV)) (aH _)
  ·rintro i ys H2 hi ⟨_,ts,rfl,rfl,s2,ht,R,o2,r2,r3⟩ z H3 ⟨eH,dn⟩;subst eH;dsimp only[jl,iL];rw[if_pos rfl];refine vr rfl (qk (.str kd) ("str") rfl rfl (λ_ kd' H4 x q' qr e T4 k4 gQ=>?_) λy=>y zt);injection e with e
   subst e;have s4:af H3 H4:=λb o e=>k4 b o (by simp) e
   obtain⟨R',o4,i4,n4⟩:=o2.nxs (28+6*ts.length) (λb=>b∈x::q'::qr) (λb z=>s4.free z) gQ (λb hb y=>by
    refine oE (T4.there b hb) λo e=>?_;rw[e]at y;cases y)
   refine⟨hi,⟨ts++[(x,q',qr)],by rw[iH];rfl,by rw[eI];rfl,s2.trans s4,λy hy=>?_,R',o4,λa v z=>i4 a v (r2 a v z),λj y hy b hb=>?_⟩⟩
   ·rcases jx.mp hy with hy | hy
    ·exact(ht y hy).keep (λb _ o e=>s4 b o e) λb xs e=>s4 b _ e
    ·rw[ip.mp hy];exact T4
   ·rcases AJ hy with hy | ⟨e1,e2⟩
    ·exact i4 _ _ (r3 j y hy b hb)
    ·subst e1;subst e2;exact n4 b hb
  rintro ys H2 ⟨_,ts,rfl,xE,s2,ht,R1,o2,i1,r1⟩;refine⟨by rw[aN];exact cQ (cY (by exact wu)),λlt WK=>?_⟩;have s3:af H2 (upd H2 lt (.lst (ts.map λx=>V.ref x.1))):=aE (af.refl _) WK;have de:upd H2 lt (.lst (ts.map λx=>V.ref x.1)) lt=some (.lst (ts.map λx=>V.ref x.1)):=aw;refine aJ (o2.nx (o:=.lst (ts.map λx=>V.ref x.1)) 4 WK) λR2 o3 i2 r2=>?_;generalize upd H2 lt (.lst (ts.map λx=>V.ref x.1))=H3 at s3 de o3 ⊢;have mG:=s3 _ _ (s2 _ _ nM);have T3:∀x∈ts,dy H3 x.1 CT kd 0 [] x.2.1 x.2.2:=λx hx=>(ht x hx).keep (λb _ o e=>s3 b o e) λb xs e=>s3 b _ e;have K3:cC m H H3:=cC.of (s1.trans (s2.trans s3));refine vr rfl (je m C dx ([]) rfl mG cM.cl cM.gI qc ?_);obtain⟨kr,Cq⟩:∃f,f=aL "trays" (V.ref lt) []:=⟨_,rfl⟩
  have hf1:kr.length<=1:=by
   have:=jN "trays" (V.ref lt) [];rw[Cq];exact this
  rw[<-Cq];have k4:cC m H3 (upd H3 m (.ins C dx kr)):=cC.upd;have zL:upd H3 m (.ins C dx kr) m=some (.ins C dx kr):=aw;have o4:=o3.keep (oa (H:=H3) (x:=m) (o:=.ins C dx kr));generalize upd H3 m (.ins C dx kr)=H4 at k4 zL o4 ⊢;have K4:=K3.trans k4;refine ak _ rfl ?_;refine vr rfl (je m C dx kr rfl zL cM.cl cM.program (by exact wb) ?_);obtain⟨jJ,zS⟩:∃f,f=aL "program" (V.ref pg) kr:=⟨_,rfl⟩
  have hf2:jJ.length<=2:=by
   have:=jN "program" (V.ref pg) kr;rw[zS];exact xh
  rw[<-zS];have k5:cC m H4 (upd H4 m (.ins C dx jJ)):=cC.upd;have FR:upd H4 m (.ins C dx jJ) m=some (.ins C dx jJ):=aw;have o5:=o4.keep (oa (H:=H4) (x:=m) (o:=.ins C dx jJ));generalize upd H4 m (.ins C dx jJ)=H5 at k5 FR o5 ⊢;have K5:=K4.trans k5;refine ak _ rfl ?_;refine vr rfl (je m C dx jJ rfl FR cM.cl cM.kind (by exact wb) ?_);obtain⟨jo,xY⟩:∃f,f=aL "kind" (V.str kd) jJ:=⟨_,rfl⟩
  have hf3:jo.length<=3:=by
   have:=jN "kind" (V.str kd) jJ;rw[xY];exact xh
  rw[<-xY];have k6:cC m H5 (upd H5 m (.ins C dx jo)):=cC.upd;have Xj:upd H5 m (.ins C dx jo) m=some (.ins C dx jo):=aw;have o6:=o5.keep (oa (H:=H5) (x:=m) (o:=.ins C dx jo));generalize upd H5 m (.ins C dx jo)=H6 at k6 Xj o6 ⊢;have K6:=K5.trans k6;have EJ:=K6.tup hm _ _ fV;refine ak _ rfl (cO pg rfl ⟨_,aF.of EJ⟩ ?_);refine ig (n:=dr.length) (λi ys H'=>i<=dr.length/\af H6 H'/\Paired (yN t H') ys (ps.take i)) ?_ ?_ ?_ ?_ ?_ ?_ ?_
  ·exact cQ (cY (by exact w8))
  ·exact cV (bU _) (af.refl _) .nil
  ·rintro i ys H' ⟨_,_,e⟩;rw[Paired.length e,gU];exact xl
  ·rintro i ys H' hi ⟨_,s,_⟩;exact eT _ _ (aF.of (s _ _ EJ)) (aT hi)
  ·rintro ys H' ⟨_,s,_⟩;exact ak _ (aF.of (s _ _ EJ)) (aH _)
  ·rintro i ys H' hi ⟨_,s7,e⟩ z gj ⟨eH,dn⟩;subst eH;have hz:=dn _ (aF.of (s7 _ _ EJ));refine ag (pj k8 hz) λp hp hI=>?_;refine oA (g.part p (bb hp)) λg1 g2=>?_;dsimp only[jl,iL];rw[if_pos rfl];refine vr rfl (DO z p rfl ((hI.keep (K6.tup hm)).keep λb xs e=>s7 _ _ e) g1 g2 λH8 b us s8 nb hb ko=>⟨hi,s7.trans s8,?_⟩);rw[ku,hp];exact Hl ⟨b,us,rfl,hb,ko⟩ (Paired.b9 e λ_ _ q=>q.keep (λb xs e=>s8 _ _ e) λb C dx fs e _=>s8 _ _ e)
  rintro ys H7 ⟨_,s7,e7⟩;have ani:=Paired.length e7;rw[gU]at ani;rw[jK om]at e7;refine⟨cQ (cY om),λr7 nr7=>⟨r7,ys,rfl,.inl ⟨aq.of aw,λst sf=>?_⟩⟩⟩;have s8:af H7 (upd (upd H7 r7 (.lst ys)) st (.tup ys)):=aE (aE (af.refl _) nr7) sf;have cD:upd (upd H7 r7 (.lst ys)) st (.tup ys) st=some (.tup ys):=aw;generalize upd (upd H7 r7 (.lst ys)) st (.tup ys)=H8 at s8 cD ⊢;have hs8:Paired (yN t H8) ys ps:=Paired.b9 e7 λ_ _ q=>q.keep (λb xs e=>s8 _ _ e) λb C dx fs e _=>s8 _ _ e;have Fj:=s7.trans s8;have FQ:=Fj _ _ Xj;have o8:=o6.keep (λb z=>Fj.free z);have K8:=K6.trans (cC.of Fj);refine vr rfl (je m C dx jo rfl FQ cM.cl cM.steps (by exact wb) ?_);obtain⟨qL,xX⟩:∃f,f=aL "steps" (V.ref st) jo:=⟨_,rfl⟩
  have hf4:qL.length<=4:=by
   have:=jN "steps" (V.ref st) jo;rw[xX];exact xh
  rw[<-xX];have k9:cC m H8 (upd H8 m (.ins C dx qL)):=cC.upd;have Xi:upd H8 m (.ins C dx qL) m=some (.ins C dx qL):=aw;have o9:=o8.keep (oa (H:=H8) (x:=m) (o:=.ins C dx qL));generalize upd H8 m (.ins C dx qL)=H9 at k9 Xi o9 ⊢;have K9:=K8.trans k9;have Mo:=K9.tup hm _ _ fV;refine ak _ rfl (cO pg rfl ⟨_,aF.of Mo⟩ ?_);refine ig (n:=dr.length) (λi ys H'=>i<=dr.length/\H'=H9/\ys=(ps.take i).map λ_=>V.int 0) ?_ ?_ ?_ ?_ ?_ ?_ ?_
  ·exact cQ (cY (by exact w8))
  ·exact cV (bU _) rfl rfl
  ·rintro i ys H' ⟨_,_,e⟩;rw[e,aN,gU];exact xl
  ·rintro i ys H' hi ⟨_,rfl,_⟩;exact eT _ _ (aF.of Mo) (aT hi)
  ·rintro ys H' ⟨_,rfl,_⟩;exact ak _ (aF.of Mo) (aH _)
  ·rintro i ys H' hi ⟨_,rfl,e⟩ z gj ⟨eH,dn⟩;subst eH;dsimp only[jl,iL];rw[if_pos rfl];refine cV hi rfl ?_;rw[ku,aT (show i<ps.length by exact wf),iH,<-e];rfl
  rintro ys H' ⟨_,xZ,e⟩;subst xZ;rw[jK om]at e;subst e;refine⟨by rw[aN];exact cQ (cY (by exact w4)),λpl WE=>?_⟩;have Fn:af H' (upd H' pl (.lst (ps.map λ_=>V.int 0))):=aE (af.refl _) WE;have dE:upd H' pl (.lst (ps.map λ_=>V.int 0)) pl=some (.lst (ps.map λ_=>V.int 0)):=aw;refine aJ (o9.nx (o:=.lst (ps.map λ_=>V.int 0)) 6 WE) λR3 WB i10 Wn=>?_;generalize upd H' pl (.lst (ps.map λ_=>V.int 0))=CB at Fn dE WB ⊢;have VF:=Fn _ _ Xi;have K10:=K9.trans (cC.of Fn);refine vr rfl (je m C dx qL rfl VF cM.cl cM.places (by exact wb) ?_);obtain⟨sq,vJ⟩:∃f,f=aL "places" (V.ref pl) qL:=⟨_,rfl⟩
  have hf5:sq.length<=5:=by
   have:=jN "places" (V.ref pl) qL;rw[vJ];exact xh
  rw[<-vJ];have Nq:cC m CB (upd CB m (.ins C dx sq)):=cC.upd;have VE:upd CB m (.ins C dx sq) m=some (.ins C dx sq):=aw;have WA:=WB.keep (oa (H:=CB) (x:=m) (o:=.ins C dx sq));generalize upd CB m (.ins C dx sq)=H11 at Nq VE WA ⊢;have Yg:=K10.trans Nq;have Lp:=Yg.tup hm _ _ fV;refine ak _ rfl (cO pg rfl ⟨_,aF.of Lp⟩ ?_);refine ig (n:=dr.length) (λi ys H'=>i<=dr.length/\H'=H11/\ys=(ps.take i).map λ_=>V.int 0) ?_ ?_ ?_ ?_ ?_ ?_ ?_
  ·exact cQ (cY (by exact w8))
  ·exact cV (bU _) rfl rfl
  ·rintro i ys H' ⟨_,_,e⟩;rw[e,aN,gU];exact xl
  ·rintro i ys H' hi ⟨_,rfl,_⟩;exact eT _ _ (aF.of Lp) (aT hi)
  ·rintro ys H' ⟨_,rfl,_⟩;exact ak _ (aF.of Lp) (aH _)
  ·rintro i ys H' hi ⟨_,rfl,e⟩ z gj ⟨eH,dn⟩;subst eH;dsimp only[jl,iL];rw[if_pos rfl];refine cV hi rfl ?_;rw[ku,aT (show i<ps.length by exact wf),iH,<-e];rfl
  rintro ys H' ⟨_,xZ,e⟩;subst xZ;rw[jK om]at e;subst e;refine⟨by rw[aN];exact cQ (cY (by exact w4)),λct WR=>?_⟩;have mq:af H' (upd H' ct (.lst (ps.map λ_=>V.int 0))):=aE (af.refl _) WR;have NS:upd H' ct (.lst (ps.map λ_=>V.int 0)) ct=some (.lst (ps.map λ_=>V.int 0)):=aw;refine aJ (WA.nx (o:=.lst (ps.map λ_=>V.int 0)) 8 WR) λR4 Wz i12 Wm=>?_;generalize upd H' ct (.lst (ps.map λ_=>V.int 0))=CA at mq NS Wz ⊢;have VD:=mq _ _ VE;have K12:=Yg.trans (cC.of mq);refine vr rfl (je m C dx sq rfl VD cM.cl cM.counts (by exact wb) ?_);obtain⟨uc,ud⟩:∃f,f=aL "counts" (V.ref ct) sq:=⟨_,rfl⟩
  have hf6:uc.length<=6:=by
   have:=jN "counts" (V.ref ct) sq;rw[ud];exact xh
  rw[<-ud];have Np:cC m CA (upd CA m (.ins C dx uc)):=cC.upd;have VC:upd CA m (.ins C dx uc) m=some (.ins C dx uc):=aw;have Wy:=Wz.keep (oa (H:=CA) (x:=m) (o:=.ins C dx uc));generalize upd CA m (.ins C dx uc)=H13 at Np VC Wy ⊢;have Ye:=K12.trans Np;have Lo:=Ye.tup hm _ _ fV;refine ak _ rfl (cO pg rfl ⟨_,aF.of Lo⟩ ?_);refine ig (n:=dr.length) (λi ys H'=>i<=dr.length/\∃rs:List Addr,ys=rs.map V.ref/\rs.length=i/\af H13 H'/\(∀a∈rs,H' a=some (.lst (([0,0,0,0]:List Int).map V.int)))/\∃R,Own H m H' R/\(∀a v,R4 a v->R a v)/\∀(j:Nat) a,rs[j]?=some a->R a (24+6*j)) ?_ ?_ ?_ ?_ ?_ ?_ ?_
  ·exact cQ (cY (by exact w8))
  ·exact⟨bU _,⟨[],rfl,rfl,af.refl _,λx hx=>(by cases hx),R4,Wy,λ_ _ z=>z,λj x z=>(by simp at z)⟩⟩
  ·rintro i ys H' ⟨_,rs,rfl,rfl,_⟩;rw[aN];exact aH _
  ·rintro i ys H' hi ⟨_,rs,_,_,s,_⟩;exact eT _ _ (aF.of (s _ _ Lo)) (aT hi)
  ·rintro ys H' ⟨_,rs,_,_,s,_⟩;exact ak _ (aF.of (s _ _ Lo)) (aH _)
  ·rintro i ys H' hi ⟨_,rs,rfl,rfl,s,xG,R,oR,iR,BY⟩ z gj ⟨eH,dn⟩;subst eH;dsimp only[jl,iL];rw[if_pos rfl];refine⟨qc,λy ny=>⟨y,4,_,rfl,rfl,aw,qc,qc,qc,λx nx=>?_⟩⟩;have sy:af gj (upd gj y (.lst [.int 0])):=aE (af.refl _) ny;have oy:=oR.keep (λb z=>sy.free z);refine aJ (oy.nx (o:=.lst (([0,0,0,0]:List Int).map V.int)) (24+6*rs.length) nx) λR' o' i' r'=>?_;have sx:af gj (upd (upd gj y (.lst [.int 0])) x (.lst (([0,0,0,0]:List Int).map V.int))):=aE sy nx;have hx:upd (upd gj y (.lst [.int 0])) x (.lst (([0,0,0,0]:List Int).map V.int)) x=some (.lst (([0,0,0,0]:List Int).map V.int)):=aw;refine⟨hi,⟨rs++[x],by rw[iH];rfl,by rw[eI];rfl,s.trans sx,λy hy=>?_,R',o',λa v z=>i' a v (iR a v z),λj y hy=>?_⟩⟩
   ·rcases jx.mp hy with hy | hy
    ·exact sx _ _ (xG y hy)
    ·rw[ip.mp hy];exact hx
   ·rcases AJ hy with hy | ⟨e1,e2⟩
    ·exact i' _ _ (BY j y hy)
    ·subst e1;subst e2;exact r'
  rintro ys Gf ⟨_,rs,rfl,apg,se,xG,R5,o14,i14,Wl⟩;refine⟨by rw[aN];exact cQ (cY (by exact wu)),λrg WC=>?_⟩;have BW:af Gf (upd Gf rg (.lst (rs.map V.ref))):=aE (af.refl _) WC;have dB:upd Gf rg (.lst (rs.map V.ref)) rg=some (.lst (rs.map V.ref)):=aw;refine aJ (o14.nx (o:=.lst (rs.map V.ref)) 10 WC) λR6 Wx i15 Wk=>?_;generalize upd Gf rg (.lst (rs.map V.ref))=zW at BW dB Wx ⊢;have Mr:=BW _ _ (se _ _ VC);have am2:∀a∈rs,zW a=some (.lst (([0,0,0,0]:List Int).map V.int)):=λa ha=>BW _ _ (xG a ha);have K15:=Ye.trans (cC.of (se.trans BW));refine vr rfl (je m C dx uc rfl Mr cM.cl cM.eR (by exact wb) ?_);obtain⟨ub,sr⟩:∃f,f=aL "regs" (V.ref rg) uc:=⟨_,rfl⟩
  have hf7:ub.length<=7:=by
   have:=jN "regs" (V.ref rg) uc;rw[sr];exact xh
  rw[<-sr];have Nn:cC m zW (upd zW m (.ins C dx ub)):=cC.upd;have VB:upd zW m (.ins C dx ub) m=some (.ins C dx ub):=aw;have Ww:=Wx.keep (oa (H:=zW) (x:=m) (o:=.ins C dx ub));generalize upd zW m (.ins C dx ub)=zV at Nn VB Ww ⊢;have K16:=K15.trans Nn;refine⟨qc,λy ny=>⟨y,12,_,rfl,rfl,aw,qc,qc,qc,λce WU=>?_⟩⟩;have sy:af zV (upd zV y (.lst [.int 0])):=aE (af.refl _) ny;have oy:=Ww.keep (λb z=>sy.free z);refine aJ (oy.nx (o:=.lst ((dH 12 (0:Int)).map V.int)) 12 WU) λR7 Wv i17 Wj=>?_;have Fm:af zV (upd (upd zV y (.lst [.int 0])) ce (.lst ((dH 12 (0:Int)).map V.int))):=aE sy WU;have vD:upd (upd zV y (.lst [.int 0])) ce (.lst ((dH 12 (0:Int)).map V.int)) ce=some (.lst ((dH 12 (0:Int)).map V.int)):=aw;rw[show (dH (12:Int).toNat [V.int 0]).flatten=(dH 12 (0:Int)).map V.int from rfl];generalize upd (upd zV y (.lst [.int 0])) ce (.lst ((dH 12 (0:Int)).map V.int))=Cz at Fm vD Wv ⊢;have VA:=Fm _ _ VB;have K17:=K16.trans (cC.of Fm);refine vr rfl (je m C dx ub rfl VA cM.cl cM.cells (by exact wb) ?_);obtain⟨ua,qM⟩:∃f,f=aL "cells" (V.ref ce) ub:=⟨_,rfl⟩
  have hf8:ua.length<=8:=by
   have:=jN "cells" (V.ref ce) ub;rw[qM];exact xh
  rw[<-qM];have Nm:cC m Cz (upd Cz m (.ins C dx ua)):=cC.upd;have Vz:upd Cz m (.ins C dx ua) m=some (.ins C dx ua):=aw;have Wu:=Wv.keep (oa (H:=Cz) (x:=m) (o:=.ins C dx ua));generalize upd Cz m (.ins C dx ua)=Ge at Nm Vz Wu ⊢;have K18:=K17.trans Nm;refine⟨qc,λac B0=>?_⟩;have Fl:af Ge (upd Ge ac (.lst [])):=aE (af.refl _) B0;have fh:upd Ge ac (.lst []) ac=some (.lst []):=aw;refine aJ (Wu.nx (o:=.lst []) 14 B0) λR8 Wt i19 Wi=>?_;generalize upd Ge ac (.lst [])=Cy at Fl fh Wt ⊢;have Vy:=Fl _ _ Vz;have K19:=K18.trans (cC.of Fl);refine vr rfl (je m C dx ua rfl Vy cM.cl cM.i8 (by exact wb) ?_);obtain⟨t9,pW⟩:∃f,f=aL "acts" (V.ref ac) ua:=⟨_,rfl⟩
  have hf9:t9.length<=9:=by
   have:=jN "acts" (V.ref ac) ua;rw[pW];exact xh
  rw[<-pW];have Nl:cC m Cy (upd Cy m (.ins C dx t9)):=cC.upd;have Vx:upd Cy m (.ins C dx t9) m=some (.ins C dx t9):=aw;have Ws:=Wt.keep (oa (H:=Cy) (x:=m) (o:=.ins C dx t9));generalize upd Cy m (.ins C dx t9)=H20 at Nl Vx Ws ⊢;have K20:=K19.trans Nl;refine pD 12 rfl qc qc ?_;rw[show (12:Int).toNat=12 from rfl];refine ig (n:=12) (λi ys H'=>i<=12/\∃rs:List Addr,ys=rs.map V.ref/\rs.length=i/\af H20 H'/\(∀a∈rs,H' a=some (.lst (([]:List Int).map V.int)))/\∃R,Own H m H' R/\(∀a v,R8 a v->R a v)/\∀(j:Nat) a,rs[j]?=some a->R a (26+6*j)) ?_ ?_ ?_ ?_ ?_ ?_ ?_
  ·exact cQ (cY om)
  ·exact⟨bU _,⟨[],rfl,rfl,af.refl _,λx hx=>(by cases hx),R8,Ws,λ_ _ z=>z,λj x z=>(by simp at z)⟩⟩
  ·rintro i ys H' ⟨_,rs,rfl,rfl,_⟩;rw[aN];exact aH _
  ·rintro i ys H' hi ⟨_,rs,_,_,s,_⟩;exact hi
  ·rintro ys H' ⟨_,rs,_,_,s,_⟩;exact aH _
  ·rintro i ys H' hi ⟨_,rs,rfl,rfl,s,xG,R,oR,iR,BY⟩ z gj ⟨eH,dn⟩;subst eH;dsimp only[jl,iL];rw[if_pos rfl];refine⟨qc,λx nx=>?_⟩;refine aJ (oR.nx (o:=.lst (([]:List Int).map V.int)) (26+6*rs.length) nx) λR' o' i' r'=>?_;have sx:af gj (upd gj x (.lst (([]:List Int).map V.int))):=aE (af.refl _) nx;have hx:upd gj x (.lst (([]:List Int).map V.int)) x=some (.lst (([]:List Int).map V.int)):=aw;refine⟨hi,⟨rs++[x],by rw[iH];rfl,by rw[eI];rfl,s.trans sx,λy hy=>?_,R',o',λa v z=>i' a v (iR a v z),λj y hy=>?_⟩⟩
   ·rcases jx.mp hy with hy | hy
    ·exact sx _ _ (xG y hy)
    ·rw[ip.mp hy];exact hx
   ·rcases AJ hy with hy | ⟨e1,e2⟩
    ·exact i' _ _ (BY j y hy)
    ·subst e1;subst e2;exact r'
  rintro ys Gd ⟨_,cs,rfl,anj,M7,FZ,R9,o21,i21,Wh⟩;refine⟨by rw[aN];exact cQ (cY (by exact w6)),λcm WS=>?_⟩;have BV:af Gd (upd Gd cm (.lst (cs.map V.ref))):=aE (af.refl _) WS;have Xr:upd Gd cm (.lst (cs.map V.ref)) cm=some (.lst (cs.map V.ref)):=aw;refine aJ (o21.nx (o:=.lst (cs.map V.ref)) 16 WS) λuf Wq i22 Wg=>?_;generalize upd Gd cm (.lst (cs.map V.ref))=zU at BV Xr Wq ⊢;have Mq:=BV _ _ (M7 _ _ Vx);have anr:∀a∈cs,zU a=some (.lst (([]:List Int).map V.int)):=λa ha=>BV _ _ (FZ a ha);have K22:=K20.trans (cC.of (M7.trans BV));refine vr rfl (je m C dx t9 rfl Mq cM.cl cM.l0 (by exact wb) ?_);obtain⟨vh,oG⟩:∃f,f=aL "comers" (V.ref cm) t9:=⟨_,rfl⟩
  have apk:vh.length<=10:=by
   have:=jN "comers" (V.ref cm) t9;rw[oG];exact xh
  rw[<-oG];have B4:cC m zU (upd zU m (.ins C dx vh)):=cC.upd;have Vw:upd zU m (.ins C dx vh) m=some (.ins C dx vh):=aw;have pQ:=Wq.keep (oa (H:=zU) (x:=m) (o:=.ins C dx vh));generalize upd zU m (.ins C dx vh)=Gb at B4 Vw pQ ⊢;have Yd:=K22.trans B4;have n20:=(cC.of (m:=m) (M7.trans BV)).trans B4;have WV:=Nl.trans n20;have n18:=(cC.of (m:=m) Fl).trans WV;have WW:=Nm.trans n18;have n16:=(cC.of (m:=m) Fm).trans WW;have B2:=Nn.trans n16;have n13:=(cC.of (m:=m) (se.trans BW)).trans B2;have WY:=Np.trans n13;have n11:=(cC.of (m:=m) mq).trans WY;have WZ:=Nq.trans n11;have n9:=(cC.of (m:=m) Fn).trans WZ;have n8:=k9.trans n9;have n6:=(cC.of (m:=m) Fj).trans n8;have n3:=k4.trans (k5.trans (k6.trans n6));have j9:=i22;have j8:∀a v,R8 a v->uf a v:=λa v z=>j9 _ _ (i21 _ _ z);have j7:∀a v,R7 a v->uf a v:=λa v z=>j8 _ _ (i19 _ _ z);have j6:∀a v,R6 a v->uf a v:=λa v z=>j7 _ _ (i17 _ _ z);have j5:∀a v,R5 a v->uf a v:=λa v z=>j6 _ _ (i15 _ _ z);have j4:∀a v,R4 a v->uf a v:=λa v z=>j5 _ _ (i14 _ _ z);have j3:∀a v,R3 a v->uf a v:=λa v z=>j4 _ _ (i12 _ _ z);have j2:∀a v,R2 a v->uf a v:=λa v z=>j3 _ _ (i10 _ _ z);have j1:∀a v,R1 a v->uf a v:=λa v z=>j2 _ _ (i2 _ _ z);have j0:∀a v,R0 a v->uf a v:=λa v z=>j1 _ _ (i1 _ _ z);refine oE pQ.l λlab iO=>?_;have lm:=iO _ _ (j0 _ _ r0);have tk:jo.lookup ("trays" : Str)=some (V.ref lt):=cw (cw (qj Cq) zS dk) xY dk;have amZ:ts.length=ps.length:=by exact wo
  have jt:rs.length=ps.length:=by exact wo
  have no:∀x∈Tt,vh.lookup x=none:=by
   intro x hx
   have n:∀y∈(["trays","program","kind","steps","places","counts","regs","cells","acts","comers"]:List Str),x≠y:=by
    intro y hy e;subst e
    revert hx
    revert x
    decide +kernel
   have hn:([]:List (Str×V)).lookup x=none:=rfl;exact cw (cw (cw (cw (cw (cw (cw (cw (cw (cw hn Cq (n _ (by simp))) zS (n _ (by simp))) xY (n _ (by simp))) xX (n _ (by simp))) vJ (n _ (by simp))) ud (n _ (by simp))) sr (n _ (by simp))) qM (n _ (by simp))) pW (n _ (by simp))) oG (n _ (by simp))
  have M:a9 t C CT Gb m ⟨lt,ts,pg,st,pl,ct,rg,rs,ce,ac,cm,cs⟩ (qw kd ps):=by
   refine⟨⟨dx,vh,Vw,?_⟩,n3.lst mG de,?_,hP.keep (Yd.tup hm),⟨ys,n8.tup FQ _ _ cD,?_⟩,?_,?_,B2.lst Mr dB,?_,WW.lst VA vD,⟨[],WV.lst Vy fh,.nil⟩,B4.lst Mq Xr,?_⟩
   ·exact⟨cw (cw (cw (cw (cw (cw (cw (cw (cw (qj Cq) zS dk) xY dk) xX dk) vJ dk) ud dk) sr dk) qM dk) pW dk) oG dk,cw (cw (cw (cw (cw (cw (cw (cw (qj zS) xY dk) xX dk) vJ dk) ud dk) sr dk) qM dk) pW dk) oG dk,cw (cw (cw (cw (cw (cw (cw (qj xY) xX dk) vJ dk) ud dk) sr dk) qM dk) pW dk) oG dk,cw (cw (cw (cw (cw (cw (qj xX) vJ dk) ud dk) sr dk) qM dk) pW dk) oG dk,cw (cw (cw (cw (cw (qj vJ) ud dk) sr dk) qM dk) pW dk) oG dk,cw (cw (cw (cw (qj ud) sr dk) qM dk) pW dk) oG dk,cw (cw (cw (qj sr) qM dk) pW dk) oG dk,cw (cw (qj qM) pW dk) oG dk,cw (qj pW) oG dk,qj oG,no,by exact w4⟩
   ·refine CY amZ λx hx=>(T3 x hx).keep (λb hb o e=>n3.k b o (λz=>?_) e) (n3.tup mG);refine oE (uh hx) λj hj=>?_;have:=iO _ _ (j1 _ _ (r1 j x hj b hb));rw[z,lm]at this;exact wk
   ·refine Paired.b9 hs8 λ_ _ q=>q.keep (n8.tup FQ) λb C' Cv nQ e h=>n8.k b _ (λz=>?_) e;refine gJ h λx us v e1 e2=>?_;rw[z,FQ]at e;cases e;rw[e2,AY "trays" dk]at tk;cases tk
   ·have h:=WZ.lst VF dE;rw[h];show _=some (HO.lst ((ps.map λ_=>k0).map λk=>V.int (k.pl:Nat)));rw[sI];rfl
   ·have h:=WY.lst VD NS;rw[h];show _=some (HO.lst ((ps.map λ_=>k0).map λk=>V.int (k.ct:Nat)));rw[sI];rfl
   ·exact CY (F:=λa (k:Ck)=>Gb a=some (.lst (k.rg.map V.int))) (y:=k0) jt λa ha=>B2.lst Mr (am2 a ha)
   ·exact Hv (F:=λa (o:List Int)=>Gb a=some (.lst (o.map V.int))) (y:=[]) anj λa ha=>B4.lst Mq (anr a ha)
  have L:jm lab m ⟨lt,ts,pg,st,pl,ct,rg,rs,ce,ac,cm,cs⟩:=⟨lm,iO _ _ (j2 _ _ r2),iO _ _ (j3 _ _ Wn),iO _ _ (j4 _ _ Wm),iO _ _ (j6 _ _ Wk),iO _ _ (j7 _ _ Wj),iO _ _ (j8 _ _ Wi),iO _ _ Wg,λi a z=>iO _ _ (j5 _ _ (Wl i a z)),λi a z=>iO _ _ (j9 _ _ (Wh i a z)),λi x z b hb=>iO _ _ (j1 _ _ (r1 i x z b hb))⟩;refine q Gb _ lab M L rfl Yd λb hb=>?_;cases hb with
  | m=>exact .inl rfl
  | lt=>exact pQ.f _ _ (j2 _ _ r2)
  | pl=>exact pQ.f _ _ (j3 _ _ Wn)
  | ct=>exact pQ.f _ _ (j4 _ _ Wm)
  | rg=>exact pQ.f _ _ (j6 _ _ Wk)
  | ce=>exact pQ.f _ _ (j7 _ _ Wj)
  | ac=>exact pQ.f _ _ (j8 _ _ Wi)
  | cm=>exact pQ.f _ _ Wg
  | rs h=>
   refine oE (uh h) λj hj=>?_;exact pQ.f _ _ (j5 _ _ (Wl j _ hj))
  | cs h=>
   refine oE (uh h) λj hj=>?_;exact pQ.f _ _ (j9 _ _ (Wh j _ hj))
  | ts h h2=>
   refine oE (uh h) λj hj=>?_;exact pQ.f _ _ (j1 _ _ (r1 j _ hj _ h2))
end
structure SA where
 (cl bd ac ov:Addr) (ks:List (Addr×Addr×Addr)) (os:List Addr)
def wK(H:Hp)(v:V)(e:Ent):Prop:=∃p,v=.ref p/\H p=some (.tup [.int e.n,.int e.num,.int e.d])
theorem wK.keep{H H':Hp}{v:V}{e:Ent}(k:∀b xs,H b=some (.tup xs)->H' b=some (.tup xs))(h:wK H v e):wK H' v e:=by
 refine ag h λp e h=>?_;exact ak p e (k _ _ h)
structure rK(H:Hp)(x:Addr×Addr×Addr)(k:Ck):Prop where
 st:H x.1=some (.lst [.int (k.pl:Nat),.int (k.ct:Nat),.ref x.2.1,.ref x.2.2])
 rg:H x.2.1=some (.lst (k.rg.map V.int))
 es:∃vs,H x.2.2=some (.lst vs)/\Paired (wK H) vs k.es
structure cI(H:Hp)(s:Addr)(B:SA)(S:Mc):Prop where
 st:H s=some (.lst [.ref B.cl,.ref B.bd,.ref B.ac,.ref B.ov])
 cl:H B.cl=some (.lst (B.ks.map λx=>V.ref x.1))
 ks:Paired (rK H) B.ks S.ck
 bd:H B.bd=some (.lst (S.bd.map V.int))
 ac:∃vs,H B.ac=some (.lst vs)/\Paired (tu H) vs S.ac
 ov:H B.ov=some (.lst (B.os.map V.ref))
 os:Paired (λa (o:List Int)=>H a=some (.lst (o.map V.int))) B.os S.ov
structure lH(lab:Addr->Nat)(s:Addr)(B:SA):Prop where
 s:lab s=1
 cl:lab B.cl=3
 bd:lab B.bd=5
 ac:lab B.ac=7
 ov:lab B.ov=9
 k1:∀i x,B.ks[i]?=some x->lab x.1=21+8*i
 k2:∀i x,B.ks[i]?=some x->lab x.2.1=23+8*i
 k3:∀i x,B.ks[i]?=some x->lab x.2.2=25+8*i
 os:∀i a,B.os[i]?=some a->lab a=27+8*i
inductive k7 (s:Addr) (B:SA):Addr->Prop
 | s:k7 s B s
 | cl:k7 s B B.cl
 | bd:k7 s B B.bd
 | ac:k7 s B B.ac
 | ov:k7 s B B.ov
 | k1 {x:Addr×Addr×Addr}:x∈B.ks->k7 s B x.1
 | k2 {x:Addr×Addr×Addr}:x∈B.ks->k7 s B x.2.1
 | k3 {x:Addr×Addr×Addr}:x∈B.ks->k7 s B x.2.2
 | os {a:Addr}:a∈B.os->k7 s B a
section
variable{H H':Hp}{s:Addr}{B:SA}{S:Mc}{lab:Addr->Nat}
theorem rK.keep{x:Addr×Addr×Addr}{k:Ck}(h:rK H x k)(h1:∀o,H x.1=some o->H' x.1=some o)(h2:∀o,H x.2.1=some o->H' x.2.1=some o)(h3:∀o,H x.2.2=some o->H' x.2.2=some o)(kt:∀b xs,H b=some (.tup xs)->H' b=some (.tup xs)):rK H' x k:=by
 refine ag h.es λvs e1 e2=>?_;exact⟨h1 _ h.st,h2 _ h.rg,vs,h3 _ e1,Paired.b9 e2 λ_ _ q=>q.keep kt⟩
theorem cI.keep(M:cI H s B S)(k:∀b,k7 s B b->∀o,H b=some o->H' b=some o)(kt:∀b xs,H b=some (.tup xs)->H' b=some (.tup xs)):cI H' s B S:=by
 refine ag M.ac λus a1 a2=>?_;exact⟨k _ .s _ M.st,k _ .cl _ M.cl,eW M.ks λi x c hx _ q=>q.keep (k _ (.k1 (bb hx))) (k _ (.k2 (bb hx))) (k _ (.k3 (bb hx))) kt,k _ .bd _ M.bd,⟨us,k _ .ac _ a1,Paired.b9 a2 λ_ _ q=>q.keep kt⟩,k _ .ov _ M.ov,eW M.os λi x c hx _ q=>k x (.os (bb hx)) _ q⟩
theorem cI.same(M:cI H s B S)(k:af H H'):cI H' s B S:=M.keep (λb _ o e=>k b o e) λb xs e=>k b _ e
theorem cI.lists(M:cI H s B S){b:Addr}(h:k7 s B b):∃xs,H b=some (.lst xs):=by
 cases h with
 | s=>exact⟨_,M.st⟩
 | cl=>exact⟨_,M.cl⟩
 | bd=>exact⟨_,M.bd⟩
 | ac=>obtain⟨vs,h,_⟩:=M.ac;exact⟨_,h⟩
 | ov=>exact⟨_,M.ov⟩
 | k1 h=>obtain⟨c,_,q⟩:=mQ M.ks h;exact⟨_,q.st⟩
 | k2 h=>obtain⟨c,_,q⟩:=mQ M.ks h;exact⟨_,q.rg⟩
 | k3 h=>obtain⟨c,_,q⟩:=mQ M.ks h;obtain⟨vs,e,_⟩:=q.es;exact⟨_,e⟩
 | os h=>obtain⟨c,_,q⟩:=mQ M.os h;exact⟨_,q⟩
theorem cI.Bn{F:Addr->Prop}(M:cI H s B S)(k:aR F H H')(hF:∀b,F b->¬k7 s B b/\∀xs,H b≠some (.tup xs)):cI H' s B S:=by
 refine M.keep (λb hb o e=>?_) (k.tup λb z=>(hF b z).2);refine oE (M.lists hb) λxs e'=>?_;rw[e']at e;cases e;exact k.k b _ (λz=>(hF b z).1 hb) (λps z=>by cases z) e'
theorem Kt(M:cI H s B S)(L:lH lab s B){c:Nat}{k k':Ck}{x:Addr×Addr×Addr}(hk:S.ck[c]?=some k)(hx:B.ks[c]?=some x){a:Addr}{xs:List V}{o:HO}(ha:H a=some (.lst xs))(hl:lab a=21+8*c\/lab a=23+8*c\/lab a=25+8*c)(hc:rK (upd H a o) x k'):cI (upd H a o) s B { S with ck:=S.ck.set c k' }:=by
 have kt:=mZ (o:=o) ha
 have ne:∀b v,lab b=v->v≠21+8*c->v≠23+8*c->v≠25+8*c->∀q,H b=some q->upd H a o b=some q:=λb v e h1 h2 h3 q hq=>by
  rw[ar (bp (lab:=lab) (by rcases hl with z | z | z <;> rw[z,e] <;> assumption))];exact hq
 refine ag M.ac λus a1 a2=>?_;refine⟨ne _ _ L.s c8 c8 c8 _ M.st,ne _ _ L.cl c8 c8 c8 _ M.cl,?_,ne _ _ L.bd c8 c8 c8 _ M.bd,⟨us,ne _ _ L.ac c8 c8 c8 _ a1,Paired.b9 a2 λ_ _ q=>q.keep kt⟩,ne _ _ L.ov c8 c8 c8 _ M.ov,eW M.os λi y c hy _ q=>ne _ _ (L.os i y hy) iy iy iy _ q⟩;refine yl M.ks (λi y b hi hy _ q=>q.keep (ne _ _ (L.k1 i y hy) rQ iy iy) (ne _ _ (L.k2 i y hy) iy rQ iy) (ne _ _ (L.k3 i y hy) iy iy rQ) kt) λy b hy hb q=>?_;rw[hx]at hy;cases hy;exact hc
theorem cI.oz(M:cI H s B S){c:Nat}{k:Ck}(h:S.ck[c]?=some k):∃x,B.ks[c]?=some x/\rK H x k:=lj M.ks h
theorem T6(M:cI H s B S)(L:lH lab s B){c:Nat}{k:Ck}{x:Addr×Addr×Addr}(hk:S.ck[c]?=some k)(hx:B.ks[c]?=some x)(q:rK H x k)(pl ct:Nat):cI (upd H x.1 (.lst [.int (pl:Nat),.int (ct:Nat),.ref x.2.1,.ref x.2.2])) s B { S with ck:=S.ck.set c { k with pl:=pl,ct:=ct } }:=by
 refine Kt M L hk hx q.st (.inl (L.k1 c x hx)) ⟨aw,?_,?_⟩
 ·rw[ar (bp (lab:=lab) (by rw[L.k1 c x hx,L.k2 c x hx];omega))];exact q.rg
 ·refine ag q.es λvs e1 e2=>?_;refine ak vs ?_ (Paired.b9 e2 λ_ _ y=>y.keep (mZ q.st));rw[ar (bp (lab:=lab) (by rw[L.k1 c x hx,L.k3 c x hx];omega))];exact e1
theorem Ec(M:cI H s B S)(L:lH lab s B){c:Nat}{k:Ck}{x:Addr×Addr×Addr}(hk:S.ck[c]?=some k)(hx:B.ks[c]?=some x)(q:rK H x k)(r:Nat)(v:Int):cI (upd H x.2.1 (.lst ((k.rg.map V.int).set r (.int v)))) s B { S with ck:=S.ck.set c { k with rg:=k.rg.set r v } }:=by
 refine Kt M L hk hx q.rg (.inr (.inl (L.k2 c x hx))) ⟨?_,?_,?_⟩
 ·rw[ar (bp (lab:=lab) (bV (L.k1 c x hx) (L.k2 c x hx) iy))];exact q.st
 ·rw[aw,yk]
 ·refine ag q.es λvs e1 e2=>?_;refine ak vs ?_ (Paired.b9 e2 λ_ _ y=>y.keep (mZ q.rg));rw[ar (bp (lab:=lab) (by rw[L.k2 c x hx,L.k3 c x hx];omega))];exact e1
theorem T7(M:cI H s B S)(L:lH lab s B){c:Nat}{k:Ck}{x:Addr×Addr×Addr}(hk:S.ck[c]?=some k)(hx:B.ks[c]?=some x)(q:rK H x k){ws vs:List V}(hw:H x.2.2=some (.lst ws)){es:List Ent}(tn:Int)(he:Paired (wK H) vs es):cI (upd H x.2.2 (.lst vs)) s B { S with ck:=S.ck.set c { k with tn:=tn,es:=es } }:=by
 refine Kt M L hk hx hw (.inr (.inr (L.k3 c x hx))) ⟨?_,?_,vs,aw,Paired.b9 he λ_ _ y=>y.keep (mZ hw)⟩
 ·rw[ar (bp (lab:=lab) (bV (L.k1 c x hx) (L.k3 c x hx) iy))];exact q.st
 ·rw[ar (bp (lab:=lab) (bV (L.k2 c x hx) (L.k3 c x hx) iy))];exact q.rg
theorem JE(M:cI H s B S)(L:lH lab s B){a:Addr}{xs:List V}{o:HO}{l:Nat}(ha:H a=some (.lst xs))(hl:lab a=l):(∀b v,lab b=v->v≠l->∀q,H b=some q->upd H a o b=some q)/\∀b ys,H b=some (.tup ys)->upd H a o b=some (.tup ys):=
 ⟨λb v e h q hq=>by rw[ar (bp (lab:=lab) (by rw[hl,e];exact h))];exact hq,mZ ha⟩
theorem aj7(M:cI H s B S)(L:lH lab s B)(n:Nat)(v:Int):cI (upd H B.bd (.lst ((S.bd.map V.int).set n (.int v)))) s B { S with bd:=S.bd.set n v }:=by
 refine oA (JE (o:=.lst ((S.bd.map V.int).set n (.int v))) M L M.bd L.bd) λne kt=>?_;refine ag M.ac λus a1 a2=>?_;refine⟨ne _ _ L.s dQ _ M.st,ne _ _ L.cl dQ _ M.cl,eW M.ks λi y b hy _ q=>q.keep (ne _ _ (L.k1 i y hy) jn) (ne _ _ (L.k2 i y hy) jn) (ne _ _ (L.k3 i y hy) jn) kt,?_,⟨us,ne _ _ L.ac dQ _ a1,Paired.b9 a2 λ_ _ q=>q.keep kt⟩,ne _ _ L.ov dQ _ M.ov,eW M.os λi y c hy _ q=>ne _ _ (L.os i y hy) jn _ q⟩;rw[aw,yk]
theorem Ku(M:cI H s B S)(L:lH lab s B){ws:List V}(hw:H B.ac=some (.lst ws)){x:V}{a:Act}(hx:tu H x a):cI (upd H B.ac (.lst (ws++[x]))) s B { S with ac:=S.ac++[a] }:=by
 refine oA (JE (o:=.lst (ws++[x])) M L hw L.ac) λne kt=>?_;refine ag M.ac λus a1 a2=>?_;have e:us=ws:=by rw[hw]at a1;cases a1;rfl
 subst e;exact⟨ne _ _ L.s dQ _ M.st,ne _ _ L.cl dQ _ M.cl,eW M.ks λi y b hy _ q=>q.keep (ne _ _ (L.k1 i y hy) jn) (ne _ _ (L.k2 i y hy) jn) (ne _ _ (L.k3 i y hy) jn) kt,ne _ _ L.bd dQ _ M.bd,⟨_,aw,nZ (Paired.b9 a2 λ_ _ q=>q.keep kt) (hx.keep kt)⟩,ne _ _ L.ov dQ _ M.ov,eW M.os λi y c hy _ q=>ne _ _ (L.os i y hy) jn _ q⟩
theorem aj6(M:cI H s B S)(L:lH lab s B){n:Nat}{ov:List Int}(hn:S.ov[n]?=some ov){a:Addr}(ha:B.os[n]?=some a)(d:Int):cI (upd H a (.lst (ov.map V.int++[.int d]))) s B { S with ov:=S.ov.set n (ov++[d]) }:=by
 refine ag (lj M.os hn) λa' Xw q=>?_;have e:a'=a:=by rw[ha]at Xw;exact(gn Xw).symm
 subst e;refine oA (JE (o:=.lst (ov.map V.int++[.int d])) M L q (L.os n a' ha)) λne kt=>?_;refine ag M.ac λus a1 a2=>?_;refine⟨ne _ _ L.s c8 _ M.st,ne _ _ L.cl c8 _ M.cl,eW M.ks λi y b hy _ q=>q.keep (ne _ _ (L.k1 i y hy) iy) (ne _ _ (L.k2 i y hy) iy) (ne _ _ (L.k3 i y hy) iy) kt,ne _ _ L.bd c8 _ M.bd,⟨us,ne _ _ L.ac c8 _ a1,Paired.b9 a2 λ_ _ q=>q.keep kt⟩,ne _ _ L.ov c8 _ M.ov,?_⟩;refine yl M.os (λi y b hi hy _ q=>ne _ _ (L.os i y hy) rQ _ q) λy b hy hb q=>?_;rw[ha]at hy;cases hy;show upd H a' _ a'=some (.lst ((ov++[d]).map V.int));rw[aw,iH];rfl
end
structure FS(s:Addr)(B:SA)(H H':Hp):Prop where
 p:aR (k7 s B) H H'
 l:KL H H'
theorem FS.trans{s:Addr}{B:SA}{H H1 H2:Hp}(a:FS s B H H1)(b:FS s B H1 H2):FS s B H H2:=⟨a.p.trans b.p,a.l.trans b.l⟩
theorem FS.of{s:Addr}{B:SA}{H H':Hp}(k:af H H'):FS s B H H':=⟨aR.of k,KL.of k⟩
theorem FS.upd{s:Addr}{B:SA}{H:Hp}{a:Addr}{xs:List V}{o:HO}(h:k7 s B a)(e:H a=some (.lst xs)):FS s B H (upd H a o):=⟨aR.upd h,KL.upd e⟩
theorem FS.tup{s:Addr}{B:SA}{H H':Hp}(k:FS s B H H'){b:Addr}{xs:List V}(e:H b=some (.tup xs)):H' b=some (.tup xs):=k.l.tup _ _ e
def Ed:Sp:=λvs H Q _=>∃s B S p n v d lab,vs=[.ref s,.ref p]/\cI H s B S/\lH lab s B/\H p=some (.tup [.int ((n:Nat):Int),.int v,.int d])/\n<12/\S.bd.length=12/\S.ov.length=12/\rX S/\
 ∀H',cI H' s B (jU S n v d)->FS s B H H'->Q .aD H'
theorem aj':bc zLj zLj (aO IC):=bz
theorem aip{f:Addr}{fd:aV}(F:aW K "_law_arrives" "_law_arrives" IC f fd):ay P w K mg base az 1 f fd zLj Ed:=by
 refine F.ok aj' (λvs H Q E h=>?_) λaI A outer s H vs Q E hr h=>?_
 ·refine Ax h λs B S p n v d lab aa _=>?_;subst aa;rfl
 ·refine vX h λs B S p n v d lab aa M aX=>?_;subst aa;obtain⟨L,hp,hn,hb,ho,ik,q⟩:=aX;refine⟨_,aA (lZ (ax a8 (pv 1) aj) (oj (ax aP (pv 0) aj) (ax a8 (pv 1) aj) set_list)) (aB (cZ (iY PySem.F.plainAttrs_list PySem.F.slot_list_append PySem.F.type_list_append ky (ax aP (ax aP (pv 0) aj) (ax a8 (pv 1) aj)) (ae (ax a8 (pv 1) aj) ai)))),?_⟩;refine cG (j:=1) rfl hp rfl (fb (j:=1) rfl M.st rfl (cG (j:=0) rfl hp rfl (kz B.bd _ _ n rfl rfl M.bd (ou (by rw[aN,hb];exact hn)) ?_)));have M1:=aj7 M L n v;have f1:FS s B H (upd H B.bd (.lst ((S.bd.map V.int).set n (.int v)))):=FS.upd .bd M.bd;generalize upd H B.bd (.lst ((S.bd.map V.int).set n (.int v)))=H1 at M1 f1 ⊢;have du:=f1.tup hp;have BB:S.ov[n]?=some (S.ov[n]'wg):=aT wg;refine ag (lj M1.os BB) λa ha FT=>?_;have vz:(S.ov[n]'wg).length<=16000:=ik _ (bb BB);have eo:S.ov.getD n []=S.ov[n]'wg:=lz BB;have M2:=aj6 M1 L BB ha d;generalize S.ov[n]'wg=o at BB FT vz eo M2;refine fb (j:=3) rfl M1.st rfl (cG (j:=0) rfl du rfl (rL (v:=.ref a) (aq.of M1.ov) (di ha) ⟨.inl ⟨rfl,_,aq.of FT⟩,?_⟩));refine cG (j:=2) rfl du rfl (kE a _ (.int d) rfl rfl FT (by rw[aN,iq];exact wb) ?_);refine q _ ?_ (f1.trans (FS.upd (.os (bb ha)) FT));unfold jU;rw[eo];exact M2
def RS:Sp:=λvs H Q _=>∃a ws es,∃n:Int,vs=[.ref a,.int n]/\H a=some (.lst ws)/\Paired (wK H) ws es/\ws.length<=1000/\(∃e∈es,e.n=n)/\Q (.int ((es.findIdx λe=>decide (e.n=n):Nat):Int)) H
theorem Sb:bc ["_law_rows","_law_name","_law_k"] zLA (aO JP):=bz
theorem aex{f:Addr}{fd:aV}(F:aW K "_law_first" "_law_first" JP f fd)(dY:mg "len" = none)(dB:mg "range" = none):ay P w K mg base az 1 f fd zLA RS:=by
 refine F.ok Sb (λvs H Q E h=>?_) λaI A outer s H vs Q E hr h=>?_
 ·refine q9 h λa ws es n aa _=>?_;clear h;subst aa;rfl
 ·obtain⟨a,ws,es,n,aa,ha,hp,hl,hex,q⟩:=h;subst aa;refine⟨_,aA (pB p0 rfl (qe rfl dB (ae (cj fv rfl dY PySem.boot_len (ae (pv 0) ai)) ai)) (cW (i:=2) Sb.nd rfl (aQ rfl)) (aB (bZ (bq dm (ax a8 (ax aP (pv 0) (pv 2)) aj) (pv 1) (br _)) (aB (a7 (pv 2))) cu))) (aB (a7 m9)),?_⟩;have hlen:=Paired.length hp;have hb:=cY hl;have F8:=rh;refine vr rfl ⟨a,⟨_,rfl,.inl (aq.of ha),_,rfl,om,om,?_⟩⟩;rw[show ((ws.length:Int)).toNat=ws.length by omega];refine uy (n:=ws.length) (λi σ H'=>i<=ws.length/\(∃k,σ=[some (.ref a),some (.int n),k])/\H'=H/\∀e∈es.take i,¬e.n=n) ⟨bU _,⟨none,rfl⟩,rfl,λe he=>by simp at he⟩ ?_ ?_
  ·rintro i σ H' hi ⟨_,⟨k,rfl⟩,rfl,fg⟩;have B7:ws[i]?=some (ws[i]'hi):=aT hi;refine ag (pj hp B7) λe he aa=>?_;refine ag aa λp ep k8=>?_;refine vr rfl (vr rfl (rL (v:=.ref p) (aq.of ha) (?_) (MU (v:=.int e.n) (j:=0) k8 rfl (vr rfl ⟨rfl,⟨_,rfl,bG (λh=>?_) λh=>?_⟩⟩))))
   ·rw[qU];exact cR (by rw[B7,ep])
   ·injection h with h
    have ei:(es.findIdx λe=>decide (e.n=n))=i:=by
     have FX:i<es.length:=wf;rw[List.findIdx_eq FX];refine⟨?_,λj hj=>?_⟩
     ·have:es[i]=e:=by rw[aT FX]at he;exact gn he
      rw[this];exact decide_eq_true h
     ·refine decide_eq_false (fg _ ?_);rw[List.mem_take_iff_getElem];exact⟨j,om,rfl⟩
    rw[ei]at q;refine vr rfl ?_;show Q (V.int (0+(i:Int))) H';rw[qU];exact q
   ·refine ke hi ⟨_,rfl⟩ rfl λx hx=>?_;rw[ku,he]at hx;rcases jx.mp hx with hx | hx
    ·exact fg x hx
    ·have:x=e:=by simpa using hx
     rw[this];exact λz=>h (by rw[z])
  ·rintro σ H' ⟨_,⟨k,rfl⟩,rfl,fg⟩;refine ag hex λe he hn=>?_;rw[jK om]at fg;exact absurd hn (fg e he)
theorem akl:(["_law_name","_law_row"]:List Str).Nodup:=dk
def setG(S:Mc)(c n:Nat)(k:Ck)(g:Int):Mc:=if S.kd = "none" then jX (eZ (rG S c n k g) ⟨"set",c,n,none,some g,none⟩) c n else eZ (rG S c n k g) ⟨"set",c,n,none,some g,none⟩
theorem JI{S:Mc}{c n r:Nat}{k:Ck}(hk:S.ck[c]?=some k):setM S c n r=setG S c n k (k.rg.getD r 0):=by
 unfold setM setG;rw[hk]
theorem cI.tn{H:Hp}{s:Addr}{B:SA}{S:Mc}{c:Nat}{k:Ck}(M:cI H s B S)(hk:S.ck[c]?=some k)(t:Int):cI H s B { S with ck:=S.ck.set c { k with tn:=t } }:=
 ⟨M.st,M.cl,uq M.ks hk λa _ q=>⟨q.st,q.rg,q.es⟩,M.bd,M.ac,M.ov,M.os⟩
theorem Qq{S:Mc}{c n:Nat}{k:Ck}{g:Int}(hk:S.ck[c]?=some k)(hd:S.kd = "none")(he:k.es=[]):setG S c n k g={ jU (eZ S ⟨"set",c,n,none,some g,none⟩) n g S.ac.length with ck:=S.ck.set c { k with tn:=k.tn+1 } }:=by
 have hc:c<S.ck.length:=(eK.mp hk).1;unfold setG;rw[if_pos hd];unfold jX;rw[show (eZ (rG S c n k g) ⟨"set",c,n,none,some g,none⟩).ck[c]?=some { k with tn:=k.tn+1,es:=k.es++[⟨k.tn,n,g,S.ac.length⟩] } from jL hc];dsimp only
 have e1:(bJ (k.es++[⟨k.tn,n,g,S.ac.length⟩]) n).head?=some ⟨k.tn,n,g,S.ac.length⟩:=by
  rw[he,G7];unfold bJ;rw[vP,if_pos (by simp)];rfl
 have e2:ow (k.es++[⟨k.tn,n,g,S.ac.length⟩]) n=k.es:=by
  rw[he,G7];unfold ow
  first | exact List.eraseP_cons_of_pos (decide_eq_true rfl) | (rw[GV,decide_eq_true rfl];rfl)
 rw[e1];dsimp only;rw[e2];unfold jU eZ rG;dsimp only;rw[yj]
def SV:Sp:=λvs H Q _=>∃s B S c k n,vs=[.ref s,.int ((c:Nat):Int),.int ((n:Nat):Int)]/\cI H s B S/\S.ck[c]?=some k/\n<12/\S.bd.length=12/\S.ov.length=12/\rX S/\k.es.length<=900/\
 ∀H' p,af H H'->H' p=some (.tup [.int (bX S k n).1,oV (bX S k n).2])->Q (.ref p) H'
theorem S9:bc ["_law_stand","_law_clerk","_law_name","_law_waits"] zLp (aO Ky):=bz
theorem agC{f:Addr}{fd:aV}(F:aW K "_law_seen" "_law_seen" Ky f fd)(dY:mg "len" = none)(hmx:mg "max" = none):ay P w K mg base az 1 f fd zLp SV:=by
 refine F.ok S9 (λvs H Q E h=>?_) λaI A outer s H vs Q E hr h=>?_
 ·refine lX h λs B S c k n aa _=>?_;subst aa;rfl
 ·obtain⟨s,B,S,c,k,n,aa,M,hk,hn,hb,ho,ik,NM,q⟩:=h;subst aa;have hu:=hr.units
  refine⟨_,aA (Df (i:=3) (N:=["_law_name","_law_row"]) (idx:=[2]) S9.nd rfl rfl rfl (eC.of (by kernel_rfl)) (jf (aH _)) (uH (ax aP (ax aP (ax aP (pv 0) aj) (pv 1)) aj)) (λ_ _ _ _=>cW (i:=1) akl rfl (aQ rfl) (.inr rfl))
    (λ_ _ _ _=>Jp (bq dm (ax (K0 K) (pv 1) aj) (pv 0) (br _))) λ_ _ _ _=>pv 1)
   (aA (bZ (bq (Rj hu) (pv 3) (eh ai) (br _)) (aB (a7 (fG (ae (ax a8 (ax aP (pv 3) (Bi A1 aj)) aj) (ae (ax a8 (ax aP (pv 3) (Bi A1 aj)) aj) ai))))) cu) (aB (a7 (fG (ae (ax aP (ax aP (pv 0) aj) (pv 2)) (ae (ax aP (a6 Bc (ax aP (ax aP (pv 0) aj) (pv 2)) (eh (ae m9 ai))) (cj (adO rfl) rfl hmx boot_max (ae aj (ae (a6 yT (cj fv rfl dY PySem.boot_len (ae (ax aP (ax aP (pv 0) aj) (pv 2)) ai)) aj) ai))) λ_ _=>rfl) ai)))))),?_⟩
  refine ag (M.oz hk) λx hx C=>?_;refine ag C.es λws hw eE=>?_;have hlen:=Paired.length eE;refine fb (j:=0) rfl M.st rfl (vr rfl (rL (v:=.ref x.1) (aq.of M.cl) (di hx) (vo (v:=.ref x.2.2) (j:=3) C.st rfl (cO x.2.2 rfl ⟨_,aq.of hw⟩ ?_))));refine ig (n:=ws.length) (λi ys H'=>i<=ws.length/\H'=H/\Paired (wK H) ys (bJ (k.es.take i) n)) ?_ ?_ ?_ ?_ ?_ ?_ ?_
  ·exact cQ (cY w8)
  ·exact cV (bU _) rfl .nil
  ·rintro i ys H' ⟨_,_,e⟩;rw[Paired.length e];unfold bJ;exact cH (zZ _ _) (by rw[gU];exact xl)
  ·rintro i ys H' hi ⟨_,rfl,_⟩;exact eT _ _ (aq.of hw) (aT hi)
  ·rintro ys H' ⟨_,rfl,_⟩;exact ak _ (aq.of hw) (aH _)
  ·rintro i ys H' hi ⟨_,rfl,e⟩ z gj ⟨eH,dn⟩;subst eH;have hz:=dn _ (aq.of hw);refine ag (pj eE hz) λen pV aa=>?_;refine ag aa λp aa hp=>?_;subst aa;have et:k.es.take (i+1)=k.es.take i++[en]:=by rw[ku,pV];rfl
   rw[et,Jo];refine cG (v:=.int en.n) (j:=0) rfl hp rfl (vr rfl ⟨rfl,⟨_,rfl,bG (λh=>?_) λh=>?_⟩⟩)
   ·have h':en.n=(n:Int):=by injection h
    rw[if_pos h'];exact vr rfl (cV hi rfl (nZ e (ak p rfl hp)))
   ·have h':¬en.n=(n:Int):=λz=>h (by rw[z]);rw[if_neg h'];exact cV hi rfl e
  rintro ys H' ⟨_,rfl,e⟩;rw[jK om]at e;have zF:=Paired.length e;have hql:(bJ k.es n).length<=k.es.length:=by unfold bJ;exact zZ _ _
  refine⟨cQ (cY om),λr ie=>?_⟩;have s1:af H' (upd H' r (.lst ys)):=aE (af.refl _) ie;have eG:upd H' r (.lst ys) r=some (.lst ys):=aw;generalize upd H' r (.lst ys)=H1 at s1 eG ⊢;refine cO _ rfl qc λl hl=>?_;have s2:af H1 (upd H1 l (.lst [])):=aE (af.refl _) hl;have oX:upd H1 l (.lst []) l=some (.lst []):=aw;generalize upd H1 l (.lst [])=H2 at s2 oX ⊢;have BX:=s1.trans s2;have mz:=s2 _ _ eG;refine kE r l ys rfl rfl mz oX (ak _ rfl ?_);cases hq:uI k.es n with
  | none=>
   have eq0:bJ k.es n=[]:=by unfold uI at hq;exact YB.mp hq
   rw[eq0]at e;cases e;refine eY ?_;have es:bX S k n=(S.bd.getD n 0,(S.ov.getD n []).getLast?):=by unfold bX;rw[hq]
   rw[es]at q;have M2:=M.same BX;have fg:S.ov[n]?=some (S.ov[n]'wg):=aT wg;have Cc:S.bd[n]?=some (S.bd[n]'wg):=aT wg;refine ag (lj M2.os fg) λa ha lN=>?_;have vz:(S.ov[n]'wg).length<=16000:=ik _ (bb fg);rw[lz fg,lz Cc]at q;generalize S.ov[n]'wg=o at fg lN vz q;have eN:=iq;refine fb (j:=1) rfl M2.st rfl (vr rfl (rL (aq.of M2.bd) (di Cc) ?_));refine fb (j:=3) rfl M2.st rfl (vr rfl (rL (v:=.ref a) (aq.of M2.ov) (di ha) ⟨qc,(λl3 si=>?_)⟩));have s3:af H2 (upd H2 l3 (.lst [.aD])):=aE (af.refl _) si;have h3:upd H2 l3 (.lst [.aD]) l3=some (.lst [.aD]):=aw;generalize upd H2 l3 (.lst [.aD])=H3 at s3 h3 ⊢;refine zk a l3 _ (kG _ rfl rfl (s3 _ _ lN) h3 (by rw[aN,eN];show o.length+1<=_;exact wb) λl4 hl4=>?_);have s4:af H3 (upd H3 l4 (.lst (o.map V.int++[.aD]))):=aE (af.refl _) hl4;have h4:upd H3 l4 (.lst (o.map V.int++[.aD])) l4=some (.lst (o.map V.int++[.aD])):=aw;generalize upd H3 l4 (.lst (o.map V.int++[.aD]))=H4 at s4 h4 ⊢;have M4:=M2.same (s3.trans s4);refine fb (j:=3) rfl M4.st rfl (vr rfl (rL (v:=.ref a) (aq.of M4.ov) (di ha) ⟨a,⟨_,rfl,.inl (aq.of (s4 _ _ (s3 _ _ lN))),_,_,rfl,rfl,_,_,rfl,?_⟩⟩));have fin:∀v,oV o.getLast?=v->∀tp,H4 tp=none->Q (.ref tp) (upd H4 tp (.tup [.int (S.bd[n]'wg),v])):=λv hv tp ht=>q _ tp ((BX.trans (s3.trans s4)).trans (aE (af.refl _) ht)) (by rw[aw,hv]);rw[aN];cases wO:o.getLast? with
   | none=>
    have o0:o=[]:=YB.mp wO;subst o0;exact rL (v:=.aD) (aq.of h4) (rfl) ⟨by show 2<=aZ;decide,(fin .aD (by rw[wO];rfl))⟩
   | some d=>
    refine oE (YA.mp wO) λo' aa=>?_;subst aa;refine je l4 _ (o'.length:Nat) (.int d) rfl ?_ (aq.of h4) (cR ?_) (by show 2<=aZ;decide) (fin (.int d) (by rw[wO];rfl))
    ·rw[eI];show V.int (if (((o'.length+1:Nat):Int)-1) > 0 then (((o'.length+1:Nat):Int)-1) else 0)=_
     congr 1
     split <;> omega
    ·rw[iH,OE,CF (by simp)];simp
  | some en=>
   have es:bX S k n=(en.num,some en.d):=by unfold bX;rw[hq]
   rw[es]at q;obtain⟨qs,eq1⟩:∃qs,bJ k.es n=qs++[en]:=by unfold uI at hq;exact YA.mp hq
   rw[eq1]at e
   have wO:∃oQ p,ys=oQ++[.ref p]/\H' p=some (.tup [.int en.n,.int en.num,.int en.d]):=by
    have jH:ys.length=qs.length+1:=by rw[zF,eq1,eI];rfl
    have h0:ys[qs.length]?=some (ys[qs.length]' om):=aT om;refine ag (pj e h0) λy hy aa=>?_;refine ag aa λp ep hp=>?_;have:y=en:=by rw[CF (aH _)]at hy;simpa using hy.symm
    subst this;refine eT (ys.take qs.length) p ?_ hp;have tt:=ku (l:=ys) (i:=qs.length);rw[h0,jK om,ep]at tt;exact tt
   refine bf wO λoQ p aa hp=>?_;clear wO;subst aa;have ne:¬(oQ++[V.ref p]=[]):=by simp
   rw[decide_eq_false ne];refine iZ ?_;refine ak _ rfl (ak _ rfl (rL (v:=.ref p) (aq.of mz) (DC _ _) (MU (j:=1) ((BX _ _ hp)) rfl ?_)));refine vr rfl (ak _ rfl (rL (v:=.ref p) (aq.of mz) (DC _ _) (MU (j:=2) ((BX _ _ hp)) rfl ⟨by show 2<=aZ;decide,(λtp ht=>?_)⟩)));exact q _ tp (BX.trans (aE (af.refl _) ht)) aw
end TL
namespace L2
open PySem PySem.Spec PyProof.Rows PySem.SeqAt
theorem aeV{X:Cx}:Vb X (λx y H Q=>∃p xs,∃i:Nat,∃v,x=.ref p/\y=.int (i:Nat)/\H p=some (.lst xs)/\xs[i]?=some v/\Q v H):=by
 intro pins s σ H o i ov iv Q I r1 r2 h;refine q9 h λp xs j z aa aX=>?_;clear h;subst aa;refine tE aX λaa hq he q=>?_;clear aX;subst aa;cases r1;refine oE r2 λt aa=>?_;clear r2;subst aa;refine aJ (I.list (aq.of hq)) λau r pl hz=>?_;refine ag (r.get he) λw ew mw=>?_;have hl:=r.length;have hn:=rh;have hj:j<xs.length:=(eK.mp he).1;exact wpAny_getItem_list pl.isList om om (by rw[iG];simpa using ew) ⟨z,H,I,mw,q⟩
end L2
namespace TL
open PySem PySem.Spec PyProof.Rows PySem.SeqAt L2 L3 L4
theorem ahb(a:Addr)(r n:Nat):eQ (.ref a) "put" ([r,n].map λ(n:Nat)=>V.int (n:Int))=aL "number" (.int (n:Nat)) (aL "reg" (.int (r:Nat)) (aL "parts" (.ref a) [])):=by
 unfold eQ;rw[if_pos rfl];rfl
theorem ahc(a:Addr)(r n:Nat):eQ (.ref a) "add" ([r,n].map λ(n:Nat)=>V.int (n:Int))=aL "other" (.int (n:Nat)) (aL "reg" (.int (r:Nat)) (aL "parts" (.ref a) [])):=by
 unfold eQ;rw[if_neg dk,if_pos rfl];rfl
theorem ae1(a:Addr)(r n:Nat):eQ (.ref a) "skip" ([r,n].map λ(n:Nat)=>V.int (n:Int))=aL "place" (.int (n:Nat)) (aL "reg" (.int (r:Nat)) (aL "parts" (.ref a) [])):=by
 unfold eQ;rw[if_neg dk,if_neg dk,if_neg dk,if_neg dk,if_neg dk,if_neg dk];rfl
theorem J7{x y:Str}{v u:V}{a:Addr}:(aL x v (aL y u (aL "parts" (.ref a) []))).lookup x=some v:=by rw[f9,if_pos rfl]
theorem D3{x y:Str}{v u:V}{a:Addr}(h:y≠x):(aL x v (aL y u (aL "parts" (.ref a) []))).lookup y=some u:=by rw[f9,if_neg h,f9,if_pos rfl]
def c9(s:Tl)(rg:List Int)(pl:Nat):Nat:=if s.1 = "skip"/\rg.getD (s.2.getD 0 0) 0=0 then s.2.getD 1 0 else pl+1
def aY(S:Mc)(c:Nat)(s:Tl):Mc:=
 if s.1 = "put" then fj S c (s.2.getD 0 0) (s.2.getD 1 0:Nat)
 else if s.1 = "add" then (match S.ck[c]? with
  | none=>S
  | some k=>fj S c (s.2.getD 0 0) ((k.rg.getD (s.2.getD 0 0) 0+k.rg.getD (s.2.getD 1 0) 0)%fQ))
 else if s.1 = "set" then setM S c (s.2.getD 0 0) (s.2.getD 1 0)
 else if s.1 = "look" then l6 S c (s.2.getD 0 0) (s.2.getD 1 0)
 else if s.1 = "swap" then nj S c (s.2.getD 0 0) (s.2.getD 1 0)
 else S
def pK(S:Mc)(c:Nat)(s:Tl):Mc:=match S.ck[c]? with
 | none=>S
 | some k=>{ S with ck:=S.ck.set c { k with pl:=c9 s k.rg k.pl,ct:=k.ct+1 } }
def nG(S:Mc)(c:Nat):Mc:=match S.ck[c]?,S.ps[c]? with
 | some k,some p=>(match p[k.pl]? with
  | some s=>pK (aY S c s) c s
  | none=>S)
 | _,_=>S
section
variable{t:bg}{C CT:Addr}{H:Hp}{m:Addr}{A:MA}{S:Mc}
theorem a9.af3(M:a9 t C CT H m A S){z cz dz a:Addr}{x:Str}{ps:List V}(hz:H z=some (.ins cz dz (eQ (.ref a) x ps))):¬cX m A z:=by
 intro hb;cases hb with
 | m=>
  refine bf M.obj λdx fs h G=>?_;rw[h]at hz;cases hz;have e:=G.gI;rw[AY "trays" dk]at e;cases e
 | lt=>rw[M.lt]at hz;cases hz
 | pl=>rw[M.pl]at hz;cases hz
 | ct=>rw[M.ct]at hz;cases hz
 | rg=>rw[M.rg]at hz;cases hz
 | ce=>rw[M.ce]at hz;cases hz
 | ac=>obtain⟨vs,h,_⟩:=M.ac;rw[h]at hz;cases hz
 | cm=>rw[M.cm]at hz;cases hz
 | rs h=>
  refine ag (mQ M.rs h) λc _ q=>?_;rw[q]at hz;cases hz
 | cs h=>
  refine ag (mQ M.cs h) λc _ q=>?_;rw[q]at hz;cases hz
 | ts h h2=>
  refine ag (mQ M.ts h) λc _ T=>?_;refine jh (id T.obj) λue jJ ea e1 e2 e3 em el=>?_;rcases cx.mp h2 with y | y
  ·rw[y,ea]at hz;cases hz;rw[AY _ dk]at e1;cases e1
  ·rcases cx.mp y with y | y
   ·rw[y,T.qs]at hz;cases hz
   ·refine oE (sA y) λi aa=>?_;refine oE aa λhi ez=>?_;obtain⟨oS,e',_⟩:=T.kh i z (by rw[<-ez];exact aT hi);rw[e']at hz;cases hz
end
section
variable{P:Program}{w:World}{K:W.Frag}{mg:Str->Option Value}{base:Heap}{t:bg}{C CT:Addr}{u:mm}
def OT(t:bg):Sp:=λvs H Q _=>∃z a dz s sz ra rg,∃pl:Nat,vs=[.ref z,.int (pl:Nat),.ref ra]/\H z=some (.ins (dq t s.1) dz (eQ (.ref a) s.1 (s.2.map λ(n:Nat)=>V.int (n:Int))))/\c7 sz s/\H ra=some (.lst (rg.map V.int))/\rg.length=4/\Q (.int (c9 s rg pl:Nat)) H
theorem aat:bc ["step","place","regs"] ["step","place","regs"] (aO Hj):=bz
theorem Z3{f:Addr}{fd:aV}(F:aW K "place_behind" "place_behind" Hj f fd)(O:wW K mg t u):ay P w K mg base az 1 f fd ["step","place","regs"] (OT t):=by
 refine F.ok aat (λvs H Q E h=>?_) λaI A outer s H vs Q E hr h=>?_
 ·refine Ax h λz a dz s sz ra rg pl aa _=>?_;subst aa;rfl
 ·obtain⟨z,a,dz,s,sz,ra,rg,pl,aa,hz,g,jb,jt,q⟩:=h;subst aa;refine⟨_,aA (bZ (PW.pt (pw_and (iJ (cj jT rfl O.st.bl.jF jw (ae (pv 0) (ae (gF (v:=.ref t.j') rfl O.st.J5 rfl) ai)))) (pw_and1 (bq dm (ax aP (pv 2) (bo (pv 0) rfl)) aj (br _))))) (aB (a7 (bo (pv 0) rfl))) cu) (aB (a7 (a6 jV (pv 1) aj))),?_⟩;refine ag (Ke O g hz) λD ty c6=>?_;refine vr rfl (dA _ (.ref t.j') _ (.ref t.j') (hG _ rfl ty rfl c6.Ul (tk (bG (λhs=>?_) λhs=>?_))))
  ·cases g with
   | skip r p h1 h2 h3=>
    have hz:H z=some (.ins (dq t "skip") dz (eQ (.ref a) "skip" ([r,p].map λ(n:Nat)=>V.int (n:Int)))):=hz;rw[IT,ae1]at hz;have hg:rg[r]?=some (rg[r]'wg):=aT wg;have eg:rg.getD r 0=rg[r]'wg:=lz hg;refine vr rfl (vF rfl hz O.st.uP O.st.Tp (D3 dk) (rL (aq.of jb) (di hg) ⟨rfl,⟨_,rfl,bG (λh0=>?_) λh0=>?_⟩⟩))
    ·have e:c9 ("skip",[r,p]) rg pl=p:=by
      unfold c9;rw[if_pos ⟨rfl,by show rg.getD r 0=0;rw[eg];injection h0⟩];rfl
     rw[e]at q;exact vF rfl hz O.st.uP O.st.J1 J7 q
    ·have e:c9 ("skip",[r,p]) rg pl=pl+1:=by
      unfold c9;rw[if_neg λh=>h0 (by have:=h.2;rw[<-show rg.getD r 0=rg[r]'wg from eg];show V.int (rg.getD r 0)=_;rw[show rg.getD r 0=0 from this])]
     rw[e]at q;exact ak _ rfl ⟨_,⟨_,rfl,rfl,q⟩⟩
   | put=>exact absurd (show ("put" : Str) = "skip" from hs) dk
   | add=>exact absurd (show ("add" : Str) = "skip" from hs) dk
   | set=>exact absurd (show ("set" : Str) = "skip" from hs) dk
   | look=>exact absurd (show ("look" : Str) = "skip" from hs) dk
   | swap=>exact absurd (show ("swap" : Str) = "skip" from hs) dk
   | clear=>exact absurd (show ("clear" : Str) = "skip" from hs) dk
  ·have e:c9 s rg pl=pl+1:=by
    unfold c9;rw[if_neg λh=>hs h.1]
   rw[e]at q;exact ak _ rfl ⟨_,⟨_,rfl,rfl,q⟩⟩
end
end TL
namespace L2
open PySem PySem.Spec PyProof.Rows
theorem eD.zh{X:Cx}{ss:List Stmt}{t t':TS}(h:eD X ss t)(hi:∀D σ H,t' D σ H->t D σ H):eD X ss t':=λpins s σ H D I q=>h pins s σ H D I (hi D σ H q)
end L2
namespace TL
open PySem PySem.Spec PyProof.Rows PySem.SeqAt L2 L3 L4
variable{P:Program}{w:World}{K:PySem.W.Frag}{mg:Str->Option Value}{base:Heap}
theorem Ry(a:Addr)(r n:Nat):eQ (.ref a) "look" ([r,n].map λ(n:Nat)=>V.int (n:Int))=aL "name" (.int (n:Nat)) (aL "reg" (.int (r:Nat)) (aL "parts" (.ref a) [])):=by
 unfold eQ;rw[if_neg dk,if_neg dk,if_neg dk,if_pos rfl];rfl
theorem ae0(a:Addr)(r n:Nat):eQ (.ref a) "swap" ([r,n].map λ(n:Nat)=>V.int (n:Int))=aL "name" (.int (n:Nat)) (aL "reg" (.int (r:Nat)) (aL "parts" (.ref a) [])):=by
 unfold eQ;rw[if_neg dk,if_neg dk,if_neg dk,if_neg dk,if_pos rfl];rfl
theorem yK(n r:Nat)(a:Addr):(aL "name" (.int (n:Nat)) (aL "reg" (.int (r:Nat)) (aL "parts" (.ref a) []))).lookup ("name" : Str)=some (V.int (n:Nat)):=by rw[f9,if_pos rfl]
theorem J8(n r:Nat)(a:Addr):(aL "name" (.int (n:Nat)) (aL "reg" (.int (r:Nat)) (aL "parts" (.ref a) []))).lookup ("reg" : Str)=some (V.int (r:Nat)):=by rw[f9,if_neg dk,f9,if_pos rfl]
section
variable{t:bg}{C CT:Addr}{u:mm}
def Q8(t:bg)(C CT:Addr):Sp:=λvs H Q _=>∃m A S c k z dz a r n lab,vs=[.ref m,.int (c:Nat),.ref z]/\a9 t C CT H m A S/\jm lab m A/\kj S/\S.ck[c]?=some k/\H z=some (.ins t.lC dz (eQ (.ref a) "look" ([r,n].map λ(n:Nat)=>V.int (n:Int))))/\r<4/\n<12/\
 ∀H',a9 t C CT H' m A (l6 S c r n)->aR (cX m A) H H'->KL H H'->Q .aD H'
theorem Ir:bc ["self","clerk","step","setting"] ["self","clerk","step"] (aO Jl):=bz
theorem adj{f fL fB:Addr}{fd vH oM:aV}(F:aW K "do_look" "Machine.do_look" Jl f fd)(cM:ib K C)(cT:lD K CT)(ST:s9 K mg t)
  (GL:ay P w K mg base az 1 fL vH ["self","name"] (Q3 CT)) (bL:Binds K vH ["self","name"] []) (mL:Meth K CT "latest" fL)
  (GB:ay P w K mg base az 1 fB oM ["self","name"] (HK t C CT)) (bB:Binds K oM ["self","name"] []) (mB:Meth K C "on_board" fB):ay P w K mg base az 2 f fd ["self","clerk","step"] (Q8 t C CT):=by
 refine F.ok Ir (λvs H Q E h=>?_) λaI A outer s H vs Q E hr h=>?_
 ·refine lu h λm A S c k z dz a r n aa=>?_;refine ag aa λlab aa _=>?_;subst aa;rfl
 ·refine lu h λm A S c k z dz a r n aa=>?_;obtain⟨lab,aa,M,L,W,hk,hz,qH,hn,q⟩:=aa;subst aa;refine⟨_,aA (cy (i:=3) Ir.nd rfl (aQ rfl) (gX (ax aP (bo (pv 0) rfl) (pv 1)) cT.cl mL GL hr bL .nil aS (ae (bo (pv 2) rfl) ai))) (aA (bZ (bq Ti (pv 3) m9 (br _)) (aB (cy (i:=3) Ir.nd rfl (aQ rfl) (gX (pv 0) cM.cl mB GB hr bB .nil aS (ae (bo (pv 2) rfl) ai)))) cu) (eD.zh (t':=λD σ H1=>∃st x,σ=[some (.ref m),some (.int (c:Nat)),some (.ref z),some (.ref st)]/\H1 st=some (.tup [x,.int (bX S k n).1,oV (bX S k n).2])/\af H H1/\∀σ' H',a9 t C CT H' m A (l6 S c r n)->aR (cX m A) H H'->KL H H'->D.nx σ' H') (aA (cZ (iY PySem.F.plainAttrs_list PySem.F.slot_list_append PySem.F.type_list_append ky (bo (pv 0) rfl) (ae (fG (ae cA (ae (pv 1) (ae (bo (pv 2) rfl) (ae (ax a8 (pv 3) aj) (ae m9 (ae (ax a8 (pv 3) aj) ai))))))) ai))) (aB (lZ (ax a8 (pv 3) aj) (oj (ax aP (bo (pv 0) rfl) (pv 1)) (bo (pv 2) rfl) set_list)))) ?tl)),?_⟩
  case tl=>
   rintro D σ H1 ⟨st,x,rfl,cD,s1,q⟩;rw[Ry]at hz;have M1:=M.same s1;refine bf (id M1.obj) λdx fs hm G=>?_;refine ag M1.ac λws fh eE=>?_;have dn:=s1 _ _ hz;refine vF rfl hm cM.cl cM.i8 G.i8 ⟨.inl ⟨rfl,_,aq.of fh⟩,?_⟩;refine ak _ rfl (vF rfl dn ST.sY ST.D2 (yK n r a) (cG (j:=1) rfl cD rfl ?_));refine cG (j:=2) rfl cD rfl ⟨by show 6<=aZ;decide,(λtp ht=>?_)⟩;have s2:=aE (o:=.tup [.str "look",.int (c:Nat),.int (n:Nat),.int (bX S k n).1,.aD,oV (bX S k n).2]) (af.refl H1) ht;have ja:=Paired.length eE;have EL:=W.ac;refine kE A.ac ws (.ref tp) rfl rfl (s2 _ _ fh) (by rw[ja,iq];exact wb) ?_;have M2:=Kr (M1.same s2) L (s2 _ _ fh) (x:=.ref tp) (a:=⟨"look",c,n,some (bX S k n).1,none,(bX S k n).2⟩) ⟨tp,rfl,aw⟩;have jE:aR (cX m A) H (upd (upd H1 tp (.tup [.str "look",.int (c:Nat),.int (n:Nat),.int (bX S k n).1,.aD,oV (bX S k n).2])) A.ac (.lst (ws++[.ref tp]))):=(aR.of s1).trans ((aR.of s2).trans (aR.upd .ac));have l2:KL H1 (upd (upd H1 tp (.tup [.str "look",.int (c:Nat),.int (n:Nat),.int (bX S k n).1,.aD,oV (bX S k n).2])) A.ac (.lst (ws++[.ref tp]))):=(KL.of s2).trans (KL.upd (s2 _ _ fh));have pR:=l2 _ _ (λxs z=>by cases z) dn;have zq:=l2.tup _ _ cD;generalize upd (upd H1 tp (.tup [.str "look",.int (c:Nat),.int (n:Nat),.int (bX S k n).1,.aD,oV (bX S k n).2])) A.ac (.lst (ws++[.ref tp]))=H2 at M2 jE l2 pR zq ⊢;refine bf (id M2.obj) λx6 jo mG G3=>?_;refine ag (M2.eR (k:=k) hk) λra jb jt=>?_;have dB:=W.rg k (bb hk);refine cG (j:=1) rfl zq rfl ?_;refine vF rfl mG cM.cl cM.eR G3.eR (vr rfl (rL (v:=.ref ra) (aq.of M2.rg) (di jb) ?_));refine vF rfl pR ST.sY ST.Tq (J8 n r a) (kz ra _ _ r rfl rfl jt (ou (by rw[aN,dB];exact qH)) ?_);have M3:=Eb M2 L (k:=k) hk jb r (bX S k n).1;refine q _ _ ?_ (jE.trans (aR.upd (.rs (bb jb)))) ((KL.of s1).trans (l2.trans (KL.upd jt)))
   have e:l6 S c r n={ (eZ S ⟨"look",c,n,some (bX S k n).1,none,(bX S k n).2⟩)with ck:=S.ck.set c { k with rg:=k.rg.set r (bX S k n).1 } }:=by
    unfold l6;rw[hk];dsimp only;unfold fj;rw[show (eZ S ⟨"look",c,n,some (bX S k n).1,none,(bX S k n).2⟩).ck[c]?=some k from hk];rfl
   rw[e];exact M3
  refine bf (id M.obj) λdx fs hm G=>?_;refine ag (M.tD hk) λx hx T=>?_;refine jh (id T.obj) λue jJ ea e1 e2 e3 em el=>?_;have anp:=W.bounds hk;have FA:=hz;rw[Ry]at FA;refine vF rfl hm cM.cl cM.gI G.gI (vr rfl (rL (v:=.ref x.1) (aq.of M.lt) (Ay hx) (rM ea (em _ dk) ?_)));refine vF rfl FA ST.sY ST.D2 (yK n r a) (Jt x.1 n _ _ _ _ (yD _ rfl T om om w4 (λfg=>?_) λe st he cD=>?_))
  ·rw[iG]at fg;refine ak _ rfl ⟨rfl,⟨_,rfl,bG (λ_=>?_) λy=>absurd rfl y⟩⟩;refine vM rfl hm (G.ms _ dk) (vF rfl FA ST.sY ST.D2 (yK n r a) (je m A S n rfl M hn W.bd W.ov λtp ht=>?_));have es:bX S k n=(S.bd.getD n 0,(S.ov.getD n []).getLast?):=by unfold bX;rw[fg]
   refine qk tp (.int (n:Nat)) rfl ?_ (aE (af.refl H) ht) λσ' H' h1 h2 h3=>q H' h1 h2 h3;rw[aw,es];rfl
  ·rw[iG]at he;refine ak _ rfl ⟨rfl,⟨_,rfl,bG (λy=>by cases y) λ_=>?_⟩⟩;have es:bX S k n=(e.num,some e.d):=by unfold bX;rw[he]
   exact qk st (.int e.n) rfl (by rw[es];exact cD) (af.refl H) λσ' H' h1 h2 h3=>q H' h1 h2 h3
def Q6(t:bg)(C CT:Addr):Sp:=λvs H Q _=>∃m A S c k z dz a r n lab,vs=[.ref m,.int (c:Nat),.ref z]/\a9 t C CT H m A S/\jm lab m A/\kj S/\rX S/\S.ck[c]?=some k/\H z=some (.ins t.lB dz (eQ (.ref a) "swap" ([r,n].map λ(n:Nat)=>V.int (n:Int))))/\r<4/\n<12/\
 ∀H',a9 t C CT H' m A (nj S c r n)->aR (cX m A) H H'->KL H H'->Q .aD H'
theorem Ip:bc ["self","clerk","step","gave","setting"] ["self","clerk","step"] (aO Jj):=bz
theorem adh{f fB fC:Addr}{fd oM nR:aV}(F:aW K "do_swap" "Machine.do_swap" Jj f fd)(cM:ib K C)(ST:s9 K mg t)(dY:mg "len" = none)
  (GB:ay P w K mg base az 1 fB oM ["self","name"] (HK t C CT)) (bB:Binds K oM ["self","name"] []) (mB:Meth K C "on_board" fB)
  (GC:ay P w K mg base az 1 fC nR ["self","setting"] (JG t C CT)) (bC:Binds K nR ["self","setting"] []) (mC:Meth K C "come" fC):ay P w K mg base az 2 f fd ["self","clerk","step"] (Q6 t C CT):=by
 refine F.ok Ip (λvs H Q E h=>?_) λaI A outer s H vs Q E hr h=>?_
 ·refine lu h λm A S c k z dz a r n aa=>?_;refine ag aa λlab aa _=>?_;subst aa;rfl
 ·refine lu h λm A S c k z dz a r n aa=>?_;obtain⟨lab,aa,M,L,W,ik,hk,hz,qH,hn,q⟩:=aa;subst aa;refine⟨_,aA (cy (i:=3) Ip.nd rfl (aQ rfl) (ax aP (ax aP (bo (pv 0) rfl) (pv 1)) (bo (pv 2) rfl))) (aA (cy (i:=4) Ip.nd rfl (aQ rfl) (gX (pv 0) cM.cl mB GB hr bB .nil aS (ae (bo (pv 2) rfl) ai))) (aA (cZ (gX (pv 0) cM.cl mC GC hr bC .nil aS (ae (fG (ae (bo (pv 2) rfl) (ae (pv 3) (ae (cj fv rfl dY PySem.boot_len (ae (bo (pv 0) rfl) ai)) ai)))) ai))) (aA (cZ (iY PySem.F.plainAttrs_list PySem.F.slot_list_append PySem.F.type_list_append ky (bo (pv 0) rfl) (ae (fG (ae cA (ae (pv 1) (ae (bo (pv 2) rfl) (ae (ax a8 (pv 4) aj) (ae (pv 3) (ae (ax a8 (pv 4) aj) ai))))))) ai))) (aB (lZ (ax a8 (pv 4) aj) (oj (ax aP (bo (pv 0) rfl) (pv 1)) (bo (pv 2) rfl) set_list)))))),?_⟩;rw[ae0]at hz;refine bf (id M.obj) λdx fs hm G=>?_;refine ag (M.eR hk) λra jb jt=>?_;have dB:=W.rg k (bb hk);have hg:k.rg[r]?=some (k.rg[r]'wg):=aT wg;have eg:k.rg.getD r 0=k.rg[r]'wg:=lz hg;refine vF rfl hm cM.cl cM.eR G.eR (vr rfl (rL (v:=.ref ra) (aq.of M.rg) (di jb) ?_));refine vF rfl hz ST.rj ST.J3 (J8 n r a) (rL (aq.of jt) (di hg) ?_);generalize k.rg[r]'wg=g at eg;refine vM rfl hm (G.ms _ dk) (vF rfl hz ST.rj ST.D1 (yK n r a) (je m A S n rfl M hn W.bd W.ov λst am1=>?_));have s1:=aE (o:=.tup (Be S n)) (af.refl H) am1;have cD:upd H st (.tup (Be S n)) st=some (.tup [.int (n:Nat),.int (S.bd.getD n 0),oV (S.ov.getD n []).getLast?]):=aw;have M1:=M.same s1;generalize upd H st (.tup (Be S n))=H1 at s1 cD M1 ⊢;refine ag M1.ac λws fh eE=>?_;have ja:=Paired.length eE;have EL:=W.ac;refine vM rfl (s1 _ _ hm) (G.ms _ dk) ?_;refine vF rfl (s1 _ _ hz) ST.rj ST.D1 (yK n r a) (vr rfl (vF rfl (s1 _ _ hm) cM.cl cM.i8 G.i8 (qk A.ac ws rfl (.inl (aq.of fh)) (by show 3<=aZ;decide) λtp ht=>?_)));have s2:=aE (o:=.tup [.int (n:Nat),.int g,.int (ws.length:Nat)]) (af.refl H1) ht;refine qP m A S tp n g (ws.length:Nat) lab rfl (M1.same s2) L aw hn W.bd (cV W.ov ik λH2 M2 k2 l2=>?_);have B3:KL H1 H2:=(KL.of s2).trans l2;have pR:=B3 _ _ (λxs z=>by cases z) (s1 _ _ hz);have zq:=B3.tup _ _ cD;refine bf (id M2.obj) λx6 jo mG G3=>?_;refine ag M2.ac λBP kZ amS=>?_;have amU:BP.length=S.ac.length:=Paired.length amS;refine ak _ rfl (dA m C x6 jo (yD _ rfl mG cM.cl cM.i8 G3.i8 (.inl ⟨rfl,_,aq.of kZ⟩) ?_));refine ak _ rfl (vF rfl pR ST.rj ST.D1 (yK n r a) (cG (j:=1) rfl zq rfl ?_));refine vr rfl (cG (j:=2) rfl zq rfl ⟨by show 6<=aZ;decide,(λtq hq=>?_)⟩);have s3:=aE (o:=.tup [.str "swap",.int (c:Nat),.int (n:Nat),.int (S.bd.getD n 0),.int g,oV (S.ov.getD n []).getLast?]) (af.refl H2) hq;refine kE A.ac BP (.ref tq) rfl rfl (s3 _ _ kZ) (by rw[amU,iq];exact wb) ?_;have M3:=Kr (M2.same s3) L (s3 _ _ kZ) (x:=.ref tq) (a:=⟨"swap",c,n,some (S.bd.getD n 0),some g,(S.ov.getD n []).getLast?⟩) ⟨tq,rfl,aw⟩;have mi:aR (cX m A) H (upd (upd H2 tq (.tup [.str "swap",.int (c:Nat),.int (n:Nat),.int (S.bd.getD n 0),.int g,oV (S.ov.getD n []).getLast?])) A.ac (.lst (BP++[.ref tq]))):=((aR.of s1).trans ((aR.of s2).trans k2)).trans ((aR.of s3).trans (aR.upd .ac));have l3:KL H2 (upd (upd H2 tq (.tup [.str "swap",.int (c:Nat),.int (n:Nat),.int (S.bd.getD n 0),.int g,oV (S.ov.getD n []).getLast?])) A.ac (.lst (BP++[.ref tq]))):=(KL.of s3).trans (KL.upd (s3 _ _ kZ));have Fz:=l3 _ _ (λxs z=>by cases z) pR;have Vq:=l3.tup _ _ zq;generalize upd (upd H2 tq (.tup [.str "swap",.int (c:Nat),.int (n:Nat),.int (S.bd.getD n 0),.int g,oV (S.ov.getD n []).getLast?])) A.ac (.lst (BP++[.ref tq]))=H3 at M3 mi l3 Fz Vq ⊢;refine bf (id M3.obj) λF9 qL zL G4=>?_;refine ag (M3.eR (k:=k) hk) λWe Mm Vs=>?_;refine cG (j:=1) rfl Vq rfl ?_;refine vF rfl zL cM.cl cM.eR G4.eR (vr rfl (rL (v:=.ref We) (aq.of M3.rg) (di Mm) ?_));refine vF rfl Fz ST.rj ST.J3 (J8 n r a) (kz We _ _ r rfl rfl Vs (ou (by rw[aN,dB];exact qH)) ?_);have M4:=Eb M3 L (k:=k) hk Mm r (S.bd.getD n 0);refine q _ ?_ (mi.trans (aR.upd (.rs (bb Mm)))) ((KL.of s1).trans (B3.trans (l3.trans (KL.upd Vs))))
  have e:nj S c r n={ (eZ (jU S n g (ws.length:Nat)) ⟨"swap",c,n,some (S.bd.getD n 0),some g,(S.ov.getD n []).getLast?⟩)with ck:=S.ck.set c { k with rg:=k.rg.set r (S.bd.getD n 0) } }:=by
   unfold nj;rw[hk];dsimp only;rw[eg,ja];unfold fj;rw[show (eZ (jU S n g (S.ac.length:Nat)) ⟨"swap",c,n,some (S.bd.getD n 0),some g,(S.ov.getD n []).getLast?⟩).ck[c]?=some k from hk];rfl
  rw[e];exact M4
end
section
variable{S:Mc}{c:Nat}{k:Ck}
structure Vd(S S':Mc)(c:Nat)(k k':Ck):Prop where
 at':S'.ck[c]?=some k'
 pl:k'.pl=k.pl
 ct:k'.ct=k.ct
 rg:k'.rg.length=k.rg.length
theorem DL{r:Nat}{v:Int}(hk:S.ck[c]?=some k):Vd S (fj S c r v) c k { k with rg:=k.rg.set r v }:=by
 have e:fj S c r v={ S with ck:=S.ck.set c { k with rg:=k.rg.set r v } }:=by unfold fj;rw[hk]
 rw[e];exact⟨jL (eK.mp hk).1,rfl,rfl,lR⟩
theorem ai'{sz:Nat}{s:Tl}(g:c7 sz s)(hk:S.ck[c]?=some k):∃k',Vd S (aY S c s) c k k':=by
 have hc:c<S.ck.length:=(eK.mp hk).1;cases g with
 | put r n h1 h2=>exact⟨_,DL hk⟩
 | add r o h1 h2=>
  have e:aY S c ("add",[r,o])=fj S c r ((k.rg.getD r 0+k.rg.getD o 0)%fQ):=by
   unfold aY;rw[if_neg (show ¬("add" : Str) = "put" from dk),if_pos rfl,hk];rfl
  rw[e];exact⟨_,DL hk⟩
 | set n r h1 h2=>
  have e:aY S c ("set",[n,r])=setM S c n r:=by
   unfold aY;rw[if_neg (show ¬("set" : Str) = "put" from dk),if_neg (show ¬("set" : Str) = "add" from dk),if_pos rfl];rfl
  rw[e];unfold setM;rw[hk];dsimp only
  split
  ·unfold jX;rw[show (eZ (rG S c n k (k.rg.getD r 0)) ⟨"set",c,n,none,some (k.rg.getD r 0),none⟩).ck[c]?=some { k with tn:=k.tn+1,es:=k.es++[⟨k.tn,n,k.rg.getD r 0,S.ac.length⟩] } from jL hc];dsimp only
   split
   ·exact⟨_,⟨jL hc,rfl,rfl,rfl⟩⟩
   ·exact⟨{ k with tn:=k.tn+1,es:=ow (k.es++[⟨k.tn,n,k.rg.getD r 0,S.ac.length⟩]) n },⟨jL (by show c<(S.ck.set c _).length;rw[lR];exact hc),rfl,rfl,rfl⟩⟩
  ·exact⟨_,⟨jL hc,rfl,rfl,rfl⟩⟩
 | look r n h1 h2=>
  have e:aY S c ("look",[r,n])=fj (eZ S ⟨"look",c,n,some (bX S k n).1,none,(bX S k n).2⟩) c r (bX S k n).1:=by
   unfold aY;rw[if_neg (show ¬("look" : Str) = "put" from dk),if_neg (show ¬("look" : Str) = "add" from dk),if_neg (show ¬("look" : Str) = "set" from dk),if_pos rfl];show l6 S c r n=_;unfold l6;rw[hk]
  rw[e];have r:=DL (S:=eZ S ⟨"look",c,n,some (bX S k n).1,none,(bX S k n).2⟩) (r:=r) (v:=(bX S k n).1) hk;exact⟨_,⟨r.at',r.pl,r.ct,r.rg⟩⟩
 | swap r n h1 h2=>
  have e:aY S c ("swap",[r,n])=fj (eZ (jU S n (k.rg.getD r 0) S.ac.length) ⟨"swap",c,n,some (S.bd.getD n 0),some (k.rg.getD r 0),(S.ov.getD n []).getLast?⟩) c r (S.bd.getD n 0):=by
   unfold aY;rw[if_neg (show ¬("swap" : Str) = "put" from dk),if_neg (show ¬("swap" : Str) = "add" from dk),if_neg (show ¬("swap" : Str) = "set" from dk),if_neg (show ¬("swap" : Str) = "look" from dk),if_pos rfl];show nj S c r n=_;unfold nj;rw[hk]
  rw[e];have r:=DL (S:=eZ (jU S n (k.rg.getD r 0) S.ac.length) ⟨"swap",c,n,some (S.bd.getD n 0),some (k.rg.getD r 0),(S.ov.getD n []).getLast?⟩) (r:=r) (v:=(S.bd.getD n 0)) hk;exact⟨_,⟨r.at',r.pl,r.ct,r.rg⟩⟩
 | clear=>
  have e:aY S c ("clear",[])=S:=by
   unfold aY;rw[if_neg (show ¬("clear" : Str) = "put" from dk),if_neg (show ¬("clear" : Str) = "add" from dk),if_neg (show ¬("clear" : Str) = "set" from dk),if_neg (show ¬("clear" : Str) = "look" from dk),if_neg (show ¬("clear" : Str) = "swap" from dk)]
  rw[e];exact⟨k,⟨hk,rfl,rfl,rfl⟩⟩
 | skip r q h1 h2 h3=>
  have e:aY S c ("skip",[r,q])=S:=by
   unfold aY;rw[if_neg (show ¬("skip" : Str) = "put" from dk),if_neg (show ¬("skip" : Str) = "add" from dk),if_neg (show ¬("skip" : Str) = "set" from dk),if_neg (show ¬("skip" : Str) = "look" from dk),if_neg (show ¬("skip" : Str) = "swap" from dk)]
  rw[e];exact⟨k,⟨hk,rfl,rfl,rfl⟩⟩
end
section
variable{t:bg}{C CT:Addr}{u:mm}
def Q7(t:bg)(C CT PT:Addr):Sp:=λvs H Q _=>∃m A S c k p s sz lab,vs=[.ref m,.int (c:Nat)]/\a9 t C CT H m A S/\jm lab m A/\kj S/\rX S/\cU PT LP LQ H/\S.ck[c]?=some k/\S.ps[c]?=some p/\p[k.pl]?=some s/\c7 sz s/\
 ∀H',a9 t C CT H' m A (nG S c)->aR (cX m A) H H'->cU PT LP LQ H'->Q .aD H'
theorem Iq:bc ["self","clerk","step","regs"] ["self","clerk"] (aO Jk):=bz
theorem qi{S:Mc}{c r:Nat}{k:Ck}{v:Int}(hk:S.ck[c]?=some k):fj S c r v={ S with ck:=S.ck.set c { k with rg:=k.rg.set r v } }:=by unfold fj;rw[hk]
theorem adi{f fP fS fL fW PT:Addr}{fd XQ oK vH mj:aV}(F:aW K "do_step" "Machine.do_step" Jk f fd)(cM:ib K C)(O:wW K mg t u)
  (GP:ay P w K mg base az 1 fP XQ ["step","place","regs"] (OT t)) (kP:PySem.W.keepIn K (.ref fP)=true) (bP:Binds K XQ ["step","place","regs"] []) (mP:mg "place_behind" = some (.ref fP))
  (GS:ay P w K mg base az 5 fS oK ["self","clerk","step"] (RU t C CT PT)) (bS:Binds K oK ["self","clerk","step"] []) (mS:Meth K C "do_set" fS)
  (GL:ay P w K mg base az 2 fL vH ["self","clerk","step"] (Q8 t C CT)) (bL:Binds K vH ["self","clerk","step"] []) (mL:Meth K C "do_look" fL)
  (GW:ay P w K mg base az 2 fW mj ["self","clerk","step"] (Q6 t C CT)) (bW:Binds K mj ["self","clerk","step"] []) (mW:Meth K C "do_swap" fW):ay P w K mg base az 6 f fd ["self","clerk"] (Q7 t C CT PT):=by
 refine ag O.st.cn.top λuT mT rT=>?_;refine F.ok Iq (λvs H Q E h=>?_) λaI A outer s H vs Q E hr h=>?_
 ·refine Ar h λm A S c k p s sz lab aa _=>?_;subst aa;rfl
 ·refine Ar h λm A S c k p st sz lab aa aX=>?_;subst aa;obtain⟨M,L,W,ik,hL,hk,hp,hs,g,q⟩:=aX;have eG:=hr.mono (show 1<=5 by decide);have mz:=hr.mono (show 2<=5 by decide);refine ag (M.eR hk) λra jb jt=>?_;have dB:=W.rg k (bb hk);refine yJ (M.part hp) λvs b us h1 h2 h3 h4=>?_;refine ag (lj h4 hs) λv hv aa=>?_;refine gJ aa λz a dz aa hz=>?_;subst aa;have am8:¬cX m A z:=M.af3 hz
  have NO:nG S c=pK (aY S c st) c st:=by
   unfold nG;rw[hk,hp];dsimp only;rw[hs]
  refine⟨_,aA (cy (i:=2) Iq.nd rfl (aQ rfl) (ax a8 (ax a8 (bo (pv 0) rfl) (pv 1)) (ax aP (bo (pv 0) rfl) (pv 1)))) (aA (cy (i:=3) Iq.nd rfl (aQ rfl) (ax aP (bo (pv 0) rfl) (pv 1))) (aA (bZ (iJ (cj jT rfl O.st.bl.jF jw (ae (pv 2) (ae (gF (v:=.ref t.ma) rfl O.st.Uv rfl) ai)))) (aB (lZ (bo (pv 2) rfl) (oj (pv 3) (bo (pv 2) rfl) set_list))) (aB (bZ (iJ (cj jT rfl O.st.bl.jF jw (ae (pv 2) (ae (gF (v:=.ref t.mf) rfl O.st.Uw rfl) ai)))) (aB (lZ (a6 ij (a6 jV (ax aP (pv 3) (bo (pv 2) rfl)) (ax aP (pv 3) (bo (pv 2) rfl))) (gF rfl mT rT)) (oj (pv 3) (bo (pv 2) rfl) set_list))) (aB (bZ (iJ (cj jT rfl O.st.bl.jF jw (ae (pv 2) (ae (gF (v:=.ref t.kY) rfl O.st.Uu rfl) ai)))) (aB (cZ (gX (pv 0) cM.cl mS GS hr bS .nil aS (ae (pv 1) (ae (pv 2) ai))))) (aB (bZ (iJ (cj jT rfl O.st.bl.jF jw (ae (pv 2) (ae (gF (v:=.ref t.lC) rfl O.st.Ts rfl) ai)))) (aB (cZ (gX (pv 0) cM.cl mL GL mz bL .nil aS (ae (pv 1) (ae (pv 2) ai))))) (aB (bZ (iJ (cj jT rfl O.st.bl.jF jw (ae (pv 2) (ae (gF (v:=.ref t.lB) rfl O.st.Tr rfl) ai)))) (aB (cZ (gX (pv 0) cM.cl mW GW mz bW .nil aS (ae (pv 1) (ae (pv 2) ai)))))
         cu)))))))))
   (eD.zh (t':=λD σ H1=>σ=[some (.ref m),some (.int (c:Nat)),some (.ref z),some (.ref ra)]/\a9 t C CT H1 m A (aY S c st)/\aR (cX m A) H H1/\cU PT LP LQ H1/\∀σ' H',a9 t C CT H' m A (nG S c)->aR (cX m A) H H'->cU PT LP LQ H'->D.nx σ' H') (aA (lZ (dg GP eG rfl mP kP bP .nil aS (ae (pv 2) (ae (ax aP (bo (pv 0) rfl) (pv 1)) (ae (pv 3) ai)))) (oj (bo (pv 0) rfl) (pv 1) set_list)) (aB (agt (bo (pv 0) rfl) (pv 1) aeV aj aiP set_list))) ?tl))),?_⟩
  case tl=>
   rintro D σ H1 ⟨rfl,M1,k1,nO,q⟩;refine oE (ai' g hk) λk' ef=>?_;refine bf (id M1.obj) λdx fs hm G=>?_;have dn:=k1.k z _ am8 (λps y=>by cases y) hz;refine ag (M1.eR ef.at') λWf Vt am4=>?_;have era:Wf=ra:=by rw[jb]at Vt;exact(gn Vt).symm
   subst era;have hc:c<(aY S c st).ck.length:=(eK.mp ef.at').1;refine vr rfl (vF rfl hm cM.cl cM.places G.places (vr rfl (rL (aq.of M1.pl) (di (f:=λk:Ck=>V.int (k.pl:Nat)) ef.at') (vr rfl ?_))));refine⟨z,a,dz,st,sz,Wf,k'.rg,k'.pl,rfl,dn,g,am4,(by rw[ef.rg];exact dB),?_⟩;refine vF rfl hm cM.cl cM.places G.places (vr rfl (kz A.pl _ _ c rfl rfl M1.pl (ou (by rw[aN];exact hc)) ?_));have M2:=ajR M1 L ef.at' (c9 st k'.rg k'.pl);have k2:aR (cX m A) H1 (upd H1 A.pl (.lst (((aY S c st).ck.map λk=>V.int (k.pl:Nat)).set c (.int (c9 st k'.rg k'.pl:Nat))))):=aR.upd .pl;have l2:KL H1 (upd H1 A.pl (.lst (((aY S c st).ck.map λk=>V.int (k.pl:Nat)).set c (.int (c9 st k'.rg k'.pl:Nat))))):=KL.upd M1.pl;generalize upd H1 A.pl (.lst (((aY S c st).ck.map λk=>V.int (k.pl:Nat)).set c (.int (c9 st k'.rg k'.pl:Nat))))=H2 at M2 k2 l2 ⊢;refine bf (id M2.obj) λx6 jo mG G3=>?_;have e2:((aY S c st).ck.set c { k' with pl:=c9 st k'.rg k'.pl })[c]?=some { k' with pl:=c9 st k'.rg k'.pl }:=jL hc;refine ak _ rfl (dA m C x6 jo (kG _ rfl mG cM.cl cM.counts G3.counts (vr rfl (kz A.ct _ c (.int (k'.ct:Nat)) rfl rfl M2.ct (by rw[gC,e2];rfl) ⟨_,_,rfl,rfl,A.ct,_,_,c,rfl,rfl,M2.ct,ou (by rw[aN,lR];exact hc),?_⟩))));have M3:=ajT M2 L e2 (k'.ct+1);refine q _ _ ?_ ((k1.trans k2).trans (aR.upd .ct)) ((l2.trans (KL.upd M2.ct)).lam nO);rw[NO]
   have e:pK (aY S c st) c st={ (aY S c st)with ck:=((aY S c st).ck.set c { k' with pl:=c9 st k'.rg k'.pl }).set c { k' with pl:=c9 st k'.rg k'.pl,ct:=k'.ct+1 } }:=by
    unfold pK;rw[ef.at',yj]
   rw[e];exact M3
  refine bf (id M.obj) λdx fs hm G=>?_;refine vF rfl hm cM.cl cM.steps G.steps (vr rfl (kz A.st _ _ (.ref b) rfl rfl (aF.of h1) (cR h2) ?_));refine vF rfl hm cM.cl cM.places G.places (vr rfl (rL (aq.of M.pl) (di (f:=λk:Ck=>V.int (k.pl:Nat)) hk) (kz b _ _ (.ref z) rfl rfl (aF.of h3) (cR hv) ?_)));refine ak _ rfl (dA m C dx fs (kG _ rfl hm cM.cl cM.eR G.eR (vr rfl (rL (v:=.ref ra) (aq.of M.rg) (di jb) ?_))));refine ag (Ke O g hz) λD ty c6=>?_;refine vr rfl (dA _ (.ref t.ma) _ (.ref t.ma) (hG _ rfl ty rfl c6.amc (tk (bG (λh=>?_) λn1=>?_))))
  ·cases g with
   | put r n g1 g2=>
    have hz:H z=some (.ins (dq t "put") dz (eQ (.ref a) "put" ([r,n].map λ(n:Nat)=>V.int (n:Int)))):=hz;rw[Jy,ahb]at hz;refine vF rfl hz O.st.wI O.st.Ur J7 (vr rfl (vF rfl hz O.st.wI O.st.Ut (D3 dk) (kz ra _ _ r rfl rfl jt (ou (by rw[aN,dB];exact g1)) ?_)));refine rq rfl ?_ (aR.upd (.rs (bb jb))) ((KL.upd jt).lam hL) λσ' H' h1 h2 h3=>q H' h1 h2 h3;have e:aY S c ("put",[r,n])=fj S c r (n:Nat):=rfl;rw[e,qi hk];exact Eb M L hk jb r (n:Nat)
   | add=>exact absurd (show ("add" : Str) = "put" from h) dk
   | set=>exact absurd (show ("set" : Str) = "put" from h) dk
   | look=>exact absurd (show ("look" : Str) = "put" from h) dk
   | swap=>exact absurd (show ("swap" : Str) = "put" from h) dk
   | clear=>exact absurd (show ("clear" : Str) = "put" from h) dk
   | skip=>exact absurd (show ("skip" : Str) = "put" from h) dk
  refine vr rfl (dA _ (.ref t.mf) _ (.ref t.mf) (hG _ rfl ty rfl c6.amd (tk (bG (λh=>?_) λn2=>?_))))
  ·cases g with
   | add r o g1 g2=>
    have hz:H z=some (.ins (dq t "add") dz (eQ (.ref a) "add" ([r,o].map λ(n:Nat)=>V.int (n:Int)))):=hz;rw[Jz,ahc]at hz;have sk:k.rg[r]?=some (k.rg[r]'wg):=aT wg;have zM:k.rg[o]?=some (k.rg[o]'wg):=aT wg;have eg1:k.rg.getD r 0=k.rg[r]'wg:=lz sk;have eg2:k.rg.getD o 0=k.rg[o]'wg:=lz zM;refine vr rfl (vF rfl hz O.st.uX O.st.KU (D3 dk) (rL (aq.of jt) (di sk) ?_));refine vr rfl (vF rfl hz O.st.uX O.st.Us J7 (rL (aq.of jt) (di zM) ⟨_,⟨_,rfl,rfl,_,_,rfl,rfl,by show (0:Int)<fQ;decide +kernel,?_⟩⟩));refine vr rfl (vF rfl hz O.st.uX O.st.KU (D3 dk) (kz ra _ _ r rfl rfl jt (ou (by rw[aN,dB];exact g1)) ?_));refine rq rfl ?_ (aR.upd (.rs (bb jb))) ((KL.upd jt).lam hL) λσ' H' h1 h2 h3=>q H' h1 h2 h3
    have e:aY S c ("add",[r,o])=fj S c r ((k.rg[r]'wg+k.rg[o]'wg)%fQ):=by
     unfold aY;rw[if_neg (show ¬("add" : Str) = "put" from dk),if_pos rfl,hk];show fj S c r ((k.rg.getD r 0+k.rg.getD o 0)%fQ)=_;rw[eg1,eg2]
    rw[e,qi hk];exact Eb M L hk jb r _
   | put=>exact absurd (show ("put" : Str) = "add" from h) dk
   | set=>exact absurd (show ("set" : Str) = "add" from h) dk
   | look=>exact absurd (show ("look" : Str) = "add" from h) dk
   | swap=>exact absurd (show ("swap" : Str) = "add" from h) dk
   | clear=>exact absurd (show ("clear" : Str) = "add" from h) dk
   | skip=>exact absurd (show ("skip" : Str) = "add" from h) dk
  refine vr rfl (dA _ (.ref t.kY) _ (.ref t.kY) (hG _ rfl ty rfl c6.amb (tk (bG (λh=>?_) λn3=>?_))))
  ·cases g with
   | set n r g1 g2=>
    have hz:H z=some (.ins (dq t "set") dz (eQ (.ref a) "set" ([n,r].map λ(n:Nat)=>V.int (n:Int)))):=hz;rw[Jx]at hz;refine vM rfl hm (G.ms _ dk) (vr rfl (vr rfl ⟨m,⟨A,S,c,k,z,dz,a,n,r,lab,rfl,M,L,W,ik,hL,hk,hz,g1,g2,λH1 M1 k1 nO=>?_⟩⟩));refine rq rfl ?_ k1 nO λσ' H' h1 h2 h3=>q H' h1 h2 h3
    have e:aY S c ("set",[n,r])=setM S c n r:=by
     unfold aY;rw[if_neg (show ¬("set" : Str) = "put" from dk),if_neg (show ¬("set" : Str) = "add" from dk),if_pos rfl];rfl
    rw[e];exact M1
   | put=>exact absurd (show ("put" : Str) = "set" from h) dk
   | add=>exact absurd (show ("add" : Str) = "set" from h) dk
   | look=>exact absurd (show ("look" : Str) = "set" from h) dk
   | swap=>exact absurd (show ("swap" : Str) = "set" from h) dk
   | clear=>exact absurd (show ("clear" : Str) = "set" from h) dk
   | skip=>exact absurd (show ("skip" : Str) = "set" from h) dk
  refine vr rfl (dA _ (.ref t.lC) _ (.ref t.lC) (hG _ rfl ty rfl c6.aki (tk (bG (λh=>?_) λn4=>?_))))
  ·cases g with
   | look r n g1 g2=>
    have hz:H z=some (.ins (dq t "look") dz (eQ (.ref a) "look" ([r,n].map λ(n:Nat)=>V.int (n:Int)))):=hz;rw[IU]at hz;refine vM rfl hm (G.ms _ dk) (vr rfl (vr rfl ⟨m,⟨A,S,c,k,z,dz,a,r,n,lab,rfl,M,L,W,hk,hz,g1,g2,λH1 M1 k1 l1=>?_⟩⟩));refine rq rfl ?_ k1 (l1.lam hL) λσ' H' h1 h2 h3=>q H' h1 h2 h3
    have e:aY S c ("look",[r,n])=l6 S c r n:=by
     unfold aY;rw[if_neg (show ¬("look" : Str) = "put" from dk),if_neg (show ¬("look" : Str) = "add" from dk),if_neg (show ¬("look" : Str) = "set" from dk),if_pos rfl];rfl
    rw[e];exact M1
   | put=>exact absurd (show ("put" : Str) = "look" from h) dk
   | add=>exact absurd (show ("add" : Str) = "look" from h) dk
   | set=>exact absurd (show ("set" : Str) = "look" from h) dk
   | swap=>exact absurd (show ("swap" : Str) = "look" from h) dk
   | clear=>exact absurd (show ("clear" : Str) = "look" from h) dk
   | skip=>exact absurd (show ("skip" : Str) = "look" from h) dk
  refine vr rfl (dA _ (.ref t.lB) _ (.ref t.lB) (hG _ rfl ty rfl c6.akh (tk (bG (λh=>?_) λn5=>?_))))
  ·cases g with
   | swap r n g1 g2=>
    have hz:H z=some (.ins (dq t "swap") dz (eQ (.ref a) "swap" ([r,n].map λ(n:Nat)=>V.int (n:Int)))):=hz;rw[IS]at hz;refine vM rfl hm (G.ms _ dk) (vr rfl (vr rfl ⟨m,⟨A,S,c,k,z,dz,a,r,n,lab,rfl,M,L,W,ik,hk,hz,g1,g2,λH1 M1 k1 l1=>?_⟩⟩));refine rq rfl ?_ k1 (l1.lam hL) λσ' H' h1 h2 h3=>q H' h1 h2 h3
    have e:aY S c ("swap",[r,n])=nj S c r n:=by
     unfold aY;rw[if_neg (show ¬("swap" : Str) = "put" from dk),if_neg (show ¬("swap" : Str) = "add" from dk),if_neg (show ¬("swap" : Str) = "set" from dk),if_neg (show ¬("swap" : Str) = "look" from dk),if_pos rfl];rfl
    rw[e];exact M1
   | put=>exact absurd (show ("put" : Str) = "swap" from h) dk
   | add=>exact absurd (show ("add" : Str) = "swap" from h) dk
   | set=>exact absurd (show ("set" : Str) = "swap" from h) dk
   | look=>exact absurd (show ("look" : Str) = "swap" from h) dk
   | clear=>exact absurd (show ("clear" : Str) = "swap" from h) dk
   | skip=>exact absurd (show ("skip" : Str) = "swap" from h) dk
  have e:aY S c st=S:=by
   unfold aY;rw[if_neg n1,if_neg n2,if_neg n3,if_neg n4,if_neg n5]
  exact rq rfl (by rw[e];exact M) (aR.refl H) hL λσ' H' h1 h2 h3=>q H' h1 h2 h3
end
def Bp:List V->Bool
 | .str _::r=>r.all qC
 | _=>false
theorem Rv:∀{r:List V},r.all qC=true->∃is:List Int,r=is.map V.int
 | [],_=>⟨[],rfl⟩
 | x::r,h=>by
  rw[yh,jc]at h;refine oE (Rv h.2) λis aa=>?_;subst aa;cases x with
  | int i=>exact⟨i::is,rfl⟩
  | _=>cases h.1
theorem SI:∀is:List Int,(is.map V.int).all qC=true
 | []=>rfl
 | i::is=>by rw[jd,yh,SI is];rfl
theorem ag9{xs:List V}(h:Bp xs=true):∃mv,xs=fo mv:=by
 cases xs with
 | nil=>cases h
 | cons x r=>
  cases x with
  | str x=>
   refine oE (Rv (show r.all qC=true from h)) λis aa=>?_;subst aa;exact⟨(x,is),rfl⟩
  | _=>cases h
theorem agU(mv:Mv):Bp (fo mv)=true:=SI mv.2
theorem DM{a b:Mv}(h:fo a=fo b):a=b:=by
 obtain⟨x,is⟩:=a;obtain⟨y,js⟩:=b;unfold fo at h;injection h with h1 h2
 injection h1 with h1
 have e:∀(is js:List Int),is.map V.int=js.map V.int->is=js:=by
  intro is
  induction is with
  | nil=>intro js h;cases js with
   | nil=>rfl
   | cons _ _=>cases h
  | cons i is ih=>intro js h;cases js with
   | nil=>cases h
   | cons j js=>
    rw[jd,jd]at h;injection h with h1 h2
    injection h1 with h1
    rw[h1,ih js h2]
 rw[show x=y from h1,e is js h2]
def mh(mv:Mv):PyData:=.tuple (.str mv.1::mv.2.map mU)
theorem RA:∀l m:List Int,An (l.map mU) (m.map mU)=decide (l=m)
 | [],[]=>by simp[An]
 | [],_::_=>by simp[An]
 | _::_,[]=>by simp[An]
 | a::l,b::m=>by
  rw[jd,jd];simp only[An,qW];rw[RA l m]
  by_cases h1:a=b
  ·subst h1
   by_cases h2:l=m
   ·subst h2;simp
   ·simp[h2]
  ·simp[h1]
theorem ai4(a b:Mv):qW (mh a) (mh b)=decide (a=b):=by
 obtain⟨x,is⟩:=a;obtain⟨y,js⟩:=b;unfold mh;simp only[qW,An];rw[RA]
 by_cases h1:x=y
 ·subst h1
  by_cases h2:is=js
  ·subst h2;simp
  ·simp[h2]
 ·simp[h1]
theorem TN(l:List Mv)(b:Mv):(l.map mh).any (λd=>qW d (mh b))=decide (b∈l):=by
 induction l with
 | nil=>simp
 | cons a l ih=>
  rw[jd,yg,ih,ai4]
  by_cases h:a=b
  ·subst h;simp
  ·have h':¬b=a:=λz=>h z.symm;simp[h,h']
theorem AG{mv:Mv}(h:iV mv.1=true):shaped (mh mv)=true:=by
 unfold mh shaped;rw[jc];refine⟨?_,decide_eq_true ?_⟩
 ·simp only[nV,qN];rw[h,Ao];exact vZ λa _=>rfl
 ·have h:=uz (f:=mU) (k:=1) (l:=mv.2) (λa _=>by simp[jM]);simp only[jM,pZ];omega
theorem HB{K:W.Frag}{H:Hp}:∀is:List Int,kX K H (is.map V.int) (is.map mU)
 | []=>.nil
 | i::is=>.cons (.int i) (HB is)
theorem J4{K:W.Frag}{H:Hp}{p:Addr}{mv:Mv}(h:H p=some (.tup (fo mv))):gy K H (.ref p) (mh mv):=.tup (aF.of h) (.cons (.str mv.1) (HB mv.2))
section
variable{t:bg}{C CT:Addr}{u:mm}
def S4:Sp:=λvs H Q _=>∃p xs,vs=[.ref p]/\H p=some (.tup xs)/\(∀x∈xs,∃T,tyName H x=some T)/\xs.length<=1000/\∀H',af H H'->Q (.bl (Bp xs)) H'
theorem ah9:bc ["move"] ["move"] (aO KD):=bz
theorem aeI:(["part"]:List Str).Nodup:=dk
theorem agI{f:Addr}{fd:aV}(F:aW K "has_form_of_move" "has_form_of_move" KD f fd)(T:s9 K mg t):ay P w K mg base az 2 f fd ["move"] S4:=by
 have GW:ay P w K mg base az 1 t.fW t.mj ["thing"] Ja:=Rl T.MR T.bl;refine F.ok ah9 (λvs H Q E h=>?_) λaI A outer s H vs Q E hr h=>?_
 ·refine bf h λp xs aa _=>?_;clear h;subst aa;rfl
 ·obtain⟨a,xs,aa,ha,my,hl,k⟩:=h;subst aa;have B:=T.bl
  refine⟨_,aA (bZ (PW.pt (pw_or (m8 (iJ (cj jT rfl B.jF jw (ae (pv 0) (ae (pq (v:=.ty "tuple") rfl B.tuple ur rfl) ai))))) (pw_or (bq dm (cj fv rfl B.len PySem.boot_len (ae (pv 0) ai)) aj (br _)) (pw_or1 (m8 (iJ (cj jT rfl B.jF jw (ae (ax a8 (pv 0) aj) (ae (pq (v:=.ty "str") rfl B.str boot_str rfl) ai))))))))) (aB (a7 kQ)) cu) (aB (a7 (cj (AN rfl) rfl B.all DF (ae (ji (N:=["part"]) (idx:=[]) rfl (eC.of (by kernel_rfl)) (jf (bU _))
    (sT (yA JH (pv 0) (yH aj) yI))
    (λ_ _ _ _=>cW (i:=0) aeI rfl (aQ rfl) (.inr rfl))
    (λ_ _ _ _=>iX)
    λ_ _ _ _=>dg GW hr rfl T.mW T.MR.kp T.bW .nil aS (ae (pv 0) ai)) ai)))),?_⟩
  have hT:=Dd ha;refine vr rfl (dA _ _ _ _ (hG _ rfl (pM hT) rfl (pJ hT qc) (ak _ rfl (eY ?_))));cases xs with
  | nil=>
   refine vr rfl (eL a ([]) rfl (.inr (aF.of ha)) ⟨rfl,⟨_,rfl,bG (λe=>?_) λn0=>absurd rfl n0⟩⟩);exact iZ (k H (af.refl H))
  | cons y ps=>
   refine vr rfl (eL a (y::ps) rfl (.inr (aF.of ha)) ⟨rfl,⟨_,rfl,bG (λe=>?_) λn0=>?_⟩⟩)
   ·injection e with e
    exact absurd e (by simp only[jv];omega)
   refine oE (my y fX) λTy hy=>?_;refine cG (v:=y) (j:=0) rfl ha rfl (dA _ _ _ _ (hG _ rfl (pM hy) rfl (pJ hy qc) (ak _ rfl ?_)));refine Bo (λh1=>?_) λh1=>?_
   ·have e:Bp (y::ps)=false:=by
     cases y with
     | str x=>exact absurd ((D5 hy).mpr ⟨x,rfl⟩) (by rw[h1];exact dG)
     | _=>rfl
    have q:=k H (af.refl H);rw[e]at q;exact q
   refine oE ((D5 hy).mp h1) λx0 e0=>?_;subst e0;have k:∀H',af H H'->Q (.bl (ps.all qC)) H':=k;refine ak _ rfl (ak 1 rfl ⟨a,⟨_,rfl,aF.of ha,?_,λq hq=>?_⟩⟩)
   ·intro z;have z1:=z.1;rw[LH]at z1;cases z1
   rw[U9];have s2:af H (upd H q (.tup ps)):=aE (af.refl H) hq;have tV:upd H q (.tup ps) q=some (.tup ps):=aw;generalize upd H q (.tup ps)=H3 at s2 tV ⊢;have jH:ps.length<=1000:=by rw[jv]at hl;omega
   refine cO q rfl ⟨_,aF.of tV⟩ ?_;refine ig (n:=ps.length) (λi ys H'=>i<=ps.length/\H'=H3/\ys=(ps.take i).map λz=>V.bl (qC z)) ?_ ?_ ?_ ?_ ?_ ?_ ?_
   ·exact cQ (cY w0)
   ·exact cV (bU _) rfl rfl
   ·rintro i ys H' ⟨_,_,e⟩;rw[e,aN,gU];exact xl
   ·rintro i ys H' hi ⟨_,rfl,_⟩;exact eT _ _ (aF.of tV) (aT hi)
   ·rintro ys H' ⟨_,rfl,_⟩;exact ak _ (aF.of tV) (aH _)
   ·rintro i ys H' hi ⟨_,rfl,e⟩ z gj ⟨eH,dn⟩;subst eH;have hz:=dn _ (aF.of tV);refine oE (my z (eV _ (bb hz))) λTx NV=>?_;have Mx:=Pk s2 NV;dsimp only[jl,iL];rw[if_pos rfl];refine vr rfl (DO z Tx rfl Mx hi rfl ?_);rw[ku,hz,iH,<-e];rfl
   ·rintro ys H' ⟨_,rfl,e⟩;refine⟨?_,λr ie=>?_⟩
    ·rw[e,aN,gU];have:=cY (n:=ps.length) w0;omega
    have ey:ys=(ps.map qC).map V.bl:=by
     rw[e,jK (aH _),sI];rfl
    refine eL r (ps.map qC) rfl (aq.of (by rw[aw,ey])) ?_;rw[Ap];exact k _ (aE s2 ie)
end
def ir(S:Mc)(mv:Mv):Mc:=if mv.1 = "do" then nG S (mv.2.getD 0 0).toNat else jX S (mv.2.getD 0 0).toNat (mv.2.getD 1 0).toNat
theorem sL{S:Mc}{mv:Mv}(h:mv∈gu S):(∃c:Nat,mv=(("do" : Str),[(c:Int)])/\c<S.ck.length/\oB S c=true)\/(∃(c:Nat) (k:Ck) (n:Int),mv=(("carry" : Str),[(c:Int),n])/\S.ck[c]?=some k/\n∈gG S.kd k.es):=by
 unfold gu at h;rcases jx.mp h with h | h
 ·left
  unfold kg at h;refine ag (lV.mp h) λc hc aa=>?_;subst aa;refine oA (qa.mp hc) λh1 h2=>?_;exact cO c rfl (uk.mp h1) h2
 ·right
  unfold yE lF at h;refine ag (ZK.mp h) λaa hx hm=>?_;obtain⟨k,c⟩:=aa;unfold wJ at hm;refine ag (lV.mp hm) λn hn aa=>?_;subst aa;have hc:S.ck[c]?=some k:=Yr.mp hx;exact wD c k n rfl hc hn
theorem Dn{S:Mc}{mv:Mv}(h:mv∈gu S):iV mv.1=true:=by
 rcases sL h with ⟨c,rfl,_,_⟩ | ⟨c,k,n,rfl,_,_⟩
 ·show iV "do" = true;decide +kernel
 ·show iV "carry" = true;decide +kernel
theorem v9{S:Mc}{c:Nat}(W:kj S)(hc:c<S.ck.length)(h:oB S c=true):∃k p s sz,S.ck[c]?=some k/\S.ps[c]?=some p/\p[k.pl]?=some s/\c7 sz s:=by
 have hk:S.ck[c]?=some S.ck[c]:=aT hc;refine dJ (W.part hk) λp hp _ _ hg=>?_;rw[AX hk hp]at h;unfold nB at h;cases e:p[S.ck[c].pl]? with
 | none=>rw[e]at h;cases h
 | some s=>exact⟨_,p,s,_,hk,hp,e,hg s (bb e)⟩
section
variable{t:bg}{C CT:Addr}{u:mm}
def LA(t:bg)(C CT PT iN:Addr):Sp:=λvs H Q E=>∃m A S p xs lab,vs=[.ref m,.ref p]/\a9 t C CT H m A S/\jm lab m A/\kj S/\rX S/\cU PT LP LQ H/\H p=some (.tup xs)/\(∀x∈xs,∃T,tyName H x=some T)/\xs.length<=1000/\(∀mv,xs=fo mv->iV mv.1=true)/\
 (∀mv,xs=fo mv->mv∈gu S->∀H',a9 t C CT H' m A (ir S mv)->aR (cX m A) H H'->cU PT LP LQ H'->Q .aD H')/\
 ((∀mv,xs=fo mv->mv∉gu S)->∀H',aR iT H H'->cU PT LP LQ H'->E (.ref iN) none H')
theorem aj8:bc ["self","move"] ["self","move"] (aO LG):=bz
theorem RI{k:Nat}{A:Around}(r:e8 k A):A.units+65<cLine:=by have:=r.un;omega
theorem Dy{K:PySem.W.Frag}{H:Hp}{vs:List V}{l:List Mv}(h:Paired (gg H) vs l):kX K H vs (l.map mh):=sM (F:=gg H) (λv a q=>by
 obtain⟨p,rfl,q⟩:=q;exact J4 q) h
theorem ain{f fF fM fS fC PT iN:Addr}{fd mJ Co oK nR:aV}(F:aW K "do" "Machine.do" LG f fd)(cM:ib K C)
  (GF:ay P w K mg base az 2 fF mJ ["move"] S4) (kF:PySem.W.keepIn K (.ref fF)=true) (bF:Binds K mJ ["move"] []) (mF:mg "has_form_of_move" = some (.ref fF))
  (GM:ay P w K mg base az 4 fM Co ["self"] (DJ t C CT PT)) (bM:Binds K Co ["self"] []) (mM:Meth K C "moves" fM)
  (GS:ay P w K mg base az 6 fS oK ["self","clerk"] (Q7 t C CT PT)) (bS:Binds K oK ["self","clerk"] []) (mS:Meth K C "do_step" fS)
  (GC:ay P w K mg base az 4 fC nR ["self","clerk","name"] (Jc t C CT PT)) (bC:Binds K nR ["self","clerk","name"] []) (mC:Meth K C "carry" fC)
  (xc:XC K iN) (mX:mg "NoMove" = some (.ref iN)):ay P w K mg base (km P w) 7 f fd ["self","move"] (LA t C CT PT iN):=by
 refine F.ML aj8 (λvs H Q E h=>?_) λaI A outer s H vs Q E hr hL hp h=>?_
 ·refine lX h λm A S p xs lab aa _=>?_;subst aa;rfl
 ·refine Au h λm A S p xs lab aa M L W aX=>?_;subst aa;obtain⟨ik,rP,zG,my,hl,Ml,q1,q2⟩:=aX;have mz:=hr.mono (show 2<=6 by decide);have qH:=hr.mono (show 4<=6 by decide);refine⟨_,aA (bZ (PW.pt (pw_or (m8 (iJ (dg GF mz rfl mF kF bF .nil aS (ae (pv 1) ai)))) (pw_or1 (bq (Qx (RI hr)) (pv 1) (mV (pv 0) cM.cl mM GM qH bM .nil aS) rfl)))) (aB (ID rfl hL xc rfl mX (ae cA ai))) cu) (aB (bZ (bq dm (ax a8 (pv 1) aj) cA (br _)) (aB (cZ (gX (pv 0) cM.cl mS GS hr bS .nil aS (ae (ax a8 (pv 1) aj) ai)))) (aB (cZ (gX (pv 0) cM.cl mC GC qH bC .nil aS (ae (ax a8 (pv 1) aj) (ae (ax a8 (pv 1) aj) ai))))))),?_⟩;refine vr rfl (DO p xs rfl zG my hl λH1 s1=>(ak _ rfl ?_));cases hf:Bp xs with
  | false=>exact iZ (iZ ⟨qc,q2 (λmv e=>by rw[e,agU]at hf;cases hf) H1 (aR.of s1) (lW rP s1)⟩)
  | true=>
  refine oE (ag9 hf) λmv aa=>?_;subst aa;have M1:=M.same s1;refine bf (id M1.obj) λdx fs hm G=>?_;refine eY (vr rfl (vM rfl hm (G.ms _ dk) (kE m A S rfl M1 W (lW rP s1) λH2 l vs k2 iE hn jH kn=>?_)));have qG:=k2.zd _ _ (s1 _ _ zG);refine zk l vs _ (yD _ rfl (aq.of jH) (Dy kn) (J4 qG) (AG (Ml mv rfl)) (λd hd=>?_) (ak _ rfl ?_))
  ·refine ag (lV.mp hd) λa ha aa=>?_;subst aa;exact AG (Dn ha)
  rw[if_pos rfl,TN];have W6:aR iT H H2:=(aR.of s1).trans k2
  by_cases fq:mv∈gu S
  ·rw[decide_eq_true fq];refine eY ?_;have q:=q1 mv rfl fq;have M2:=M1.nu k2;refine bf (id M2.obj) λx6 jo mG G3=>?_;have kk:∀H',aR (cX m A) H2 H'->aR (cX m A) H H':=λH' k=>(W6.mono λb z=>z.elim).trans k;rcases sL fq with ⟨c,rfl,hc,gL⟩ | ⟨c,k,n,rfl,hk,gQ⟩
   ·refine uB (v9 W hc gL) λk pt st sz hk pU cD g=>?_;refine cG (j:=0) rfl qG rfl ⟨rfl,⟨_,rfl,bG (λ_=>?_) λy=>absurd rfl y⟩⟩;refine vM rfl mG (G3.ms _ dk) (cG (j:=1) rfl qG rfl ?_);exact⟨m,A,S,c,k,pt,st,sz,lab,rfl,M2,L,W,ik,(⟨iE,hk,pU,cD,g,(λH3 M3 k3 qK=>q H3 M3 (kk _ k3) qK)⟩)⟩
   ·refine ag (M.tD hk) λx hx T=>?_;refine aJ (HV T.wf gQ) λi hi aa _=>?_;subst aa;refine cG (j:=0) rfl qG rfl ⟨rfl,⟨_,rfl,bG (λy=>absurd (show ("carry" : Str) = "do" from va y) dk) λ_=>?_⟩⟩;refine vM rfl mG (G3.ms _ dk) (cG (j:=1) rfl qG rfl ?_);refine cG (j:=2) rfl qG rfl ?_;exact GZ m A S c k i lab rfl M2 L iE hk gQ hi (ke W.bd W.ov ik λH3 M3 k3 qK=>q H3 M3 (kk _ k3) qK)
  ·rw[decide_eq_false fq];exact iZ ⟨qc,q2 (λNh e z=>fq (by rw[DM e];exact z)) H2 W6 iE⟩
end
structure iA(n:Nat)(S:Mc):Prop where
 wf:kj S
 ac:S.ac.length<=n
 ov:∀o∈S.ov,o.length<=n
theorem iA.vj{n:Nat}{S:Mc}(W:iA n S)(h:n<=16000):rX S:=λo ho=>cH (W.ov o ho) h
structure oO(n:Nat)(S S':Mc)(c:Nat)(k k':Ck):Prop where
 ck:S'.ck=S.ck.set c k'
 ps:S'.ps=S.ps
 kd:S'.kd=S.kd
 rg:k'.rg.length=k.rg.length
 bd:S'.bd.length=S.bd.length
 BD:S'.ov.length=S.ov.length
 BJ:S.ac.length<=S'.ac.length
 BI:S'.ac.length<=S.ac.length+1
 es:k'.es.length<=S'.ac.length
 ov:∀o∈S'.ov,o.length<=n+1
theorem agv{S:Mc}{n:Nat}(W:iA n S)(i:Nat):(S.ov.getD i []).length<=n:=by
 cases h:S.ov[i]? with
 | none=>rw[ug,h];exact bU _
 | some o=>rw[ug,h];exact W.ov o (bb h)
theorem Th{S:Mc}{n i:Nat}{d:Int}(W:iA n S):∀o∈S.ov.set i (S.ov.getD i []++[d]),o.length<=n+1:=by
 intro o ho;rcases zX ho with h | h
 ·exact yc (W.ov o h)
 ·rw[h,eI];exact CL (agv W i)
theorem KP{S:Mc}{n:Nat}(W:iA n S):∀o∈S.ov,o.length<=n+1:=λo ho=>yc (W.ov o ho)
theorem afF(es:List Ent)(n:Int):(ow es n).length<=es.length:=List.length_eraseP_le
theorem Qo{α:Type}{l:List α}{c:Nat}{k:α}(h:l[c]?=some k):l.set c k=l:=by
 refine oE (eK.mp h) λhc e=>?_;rw[<-e];exact List.set_getElem_self hc
section
variable{S:Mc}{n c:Nat}{k:Ck}
theorem Dw(W:iA n S)(hk:S.ck[c]?=some k):oO n S S c k k:=⟨(Qo hk).symm,rfl,rfl,rfl,rfl,rfl,aH _,lx _,W.wf.es k (bb hk),KP W⟩
theorem yM{S':Mc}{k':Ck}(h:oO n S S' c k k')(hc:c<S.ck.length)(r:Nat)(v:Int):oO n S (fj S' c r v) c k { k' with rg:=k'.rg.set r v }:=by
 have e:S'.ck[c]?=some k':=by rw[h.ck];exact jL hc
 rw[qi e];exact⟨by show S'.ck.set c _=_;rw[h.ck,yj],h.ps,h.kd,by show (k'.rg.set r v).length=_;rw[lR];exact h.rg,h.bd,h.BD,h.BJ,h.BI,h.es,h.ov⟩
theorem HW{S':Mc}{k':Ck}(W:iA n S)(h:oO n S S' c k k')(ik:S'.ov=S.ov)(hc:c<S.ck.length)(i:Nat):∃xD,oO n S (jX S' c i) c k xD/\xD.pl=k'.pl/\xD.ct=k'.ct:=by
 have e:S'.ck[c]?=some k':=by rw[h.ck];exact jL hc
 unfold jX;rw[e];dsimp only;cases (bJ k'.es i).head? with
 | none=>exact⟨k',h,rfl,rfl⟩
 | some x=>
  refine cO ({ k' with es:=ow k'.es i }) ⟨by show S'.ck.set c _=_;rw[h.ck,yj],h.ps,h.kd,h.rg,?_,?_,h.BJ,h.BI,cH (afF _ _) h.es,?_⟩ rfl rfl
  ·show (S'.bd.set i x.num).length=_;rw[lR];exact h.bd
  ·show (S'.ov.set i (S'.ov.getD i []++[x.d])).length=_;rw[lR];exact h.BD
  ·show ∀o∈S'.ov.set i (S'.ov.getD i []++[x.d]),o.length<=n+1;rw[ik];exact Th W
theorem Jw{sz:Nat}{s:Tl}(W:iA n S)(g:c7 sz s)(hk:S.ck[c]?=some k):∃k',oO n S (aY S c s) c k k'/\k'.pl=k.pl/\k'.ct=k.ct:=by
 have hc:c<S.ck.length:=(eK.mp hk).1;have f0:=Dw W hk;cases g with
 | put r m h1 h2=>exact⟨_,yM f0 hc _ _,rfl,rfl⟩
 | add r o h1 h2=>
  have e:aY S c ("add",[r,o])=fj S c r ((k.rg.getD r 0+k.rg.getD o 0)%fQ):=by
   unfold aY;rw[if_neg (show ¬("add" : Str) = "put" from dk),if_pos rfl,hk];rfl
  rw[e];exact cO _ (yM f0 hc _ _) rfl rfl
 | set i r h1 h2=>
  have e:aY S c ("set",[i,r])=setM S c i r:=by
   unfold aY;rw[if_neg (show ¬("set" : Str) = "put" from dk),if_neg (show ¬("set" : Str) = "add" from dk),if_pos rfl];rfl
  rw[e];unfold setM;rw[hk];dsimp only
  have f1:oO n S (eZ (rG S c i k (k.rg.getD r 0)) ⟨"set",c,i,none,some (k.rg.getD r 0),none⟩) c k { k with tn:=k.tn+1,es:=k.es++[⟨k.tn,i,k.rg.getD r 0,S.ac.length⟩] }:=by
   refine⟨rfl,rfl,rfl,rfl,rfl,rfl,?_,?_,?_,λo ho=>KP W o ho⟩
   ·show S.ac.length<=(S.ac++[_]).length;rw[eI];exact GJ _ _
   ·show (S.ac++[_]).length<=_;rw[eI];exact aH _
   ·show (k.es++[_]).length<=(S.ac++[_]).length;rw[eI,eI];exact CL (W.wf.es k (bb hk))
  split
  ·refine aJ (HW W f1 rfl hc i) λxD f2 e1 e2=>?_;exact cO xD f2 e1 e2
  ·exact cO _ f1 rfl rfl
 | look r i h1 h2=>
  have e:aY S c ("look",[r,i])=fj (eZ S ⟨"look",c,i,some (bX S k i).1,none,(bX S k i).2⟩) c r (bX S k i).1:=by
   unfold aY;rw[if_neg (show ¬("look" : Str) = "put" from dk),if_neg (show ¬("look" : Str) = "add" from dk),if_neg (show ¬("look" : Str) = "set" from dk),if_pos rfl];show l6 S c r i=_;unfold l6;rw[hk]
  rw[e]
  have f1:oO n S (eZ S ⟨"look",c,i,some (bX S k i).1,none,(bX S k i).2⟩) c k k:=by
   refine⟨f0.ck,rfl,rfl,rfl,rfl,rfl,?_,?_,?_,λo ho=>KP W o ho⟩
   ·show S.ac.length<=(S.ac++[_]).length;rw[eI];exact GJ _ _
   ·show (S.ac++[_]).length<=_;rw[eI];exact aH _
   ·show k.es.length<=(S.ac++[_]).length;rw[eI];exact yc (W.wf.es k (bb hk))
  exact cO _ (yM f1 hc _ _) rfl rfl
 | swap r i h1 h2=>
  have e:aY S c ("swap",[r,i])=fj (eZ (jU S i (k.rg.getD r 0) S.ac.length) ⟨"swap",c,i,some (S.bd.getD i 0),some (k.rg.getD r 0),(S.ov.getD i []).getLast?⟩) c r (S.bd.getD i 0):=by
   unfold aY;rw[if_neg (show ¬("swap" : Str) = "put" from dk),if_neg (show ¬("swap" : Str) = "add" from dk),if_neg (show ¬("swap" : Str) = "set" from dk),if_neg (show ¬("swap" : Str) = "look" from dk),if_pos rfl];show nj S c r i=_;unfold nj;rw[hk]
  rw[e]
  have f1:oO n S (eZ (jU S i (k.rg.getD r 0) S.ac.length) ⟨"swap",c,i,some (S.bd.getD i 0),some (k.rg.getD r 0),(S.ov.getD i []).getLast?⟩) c k k:=by
   refine⟨f0.ck,rfl,rfl,rfl,?_,?_,?_,?_,?_,?_⟩
   ·show (S.bd.set i _).length=_;rw[lR]
   ·show (S.ov.set i _).length=_;rw[lR]
   ·show S.ac.length<=(S.ac++[_]).length;rw[eI];exact GJ _ _
   ·show (S.ac++[_]).length<=_;rw[eI];exact aH _
   ·show k.es.length<=(S.ac++[_]).length;rw[eI];exact yc (W.wf.es k (bb hk))
   ·exact Th W
  exact cO _ (yM f1 hc _ _) rfl rfl
 | clear=>
  have e:aY S c ("clear",[])=S:=by
   unfold aY;rw[if_neg (show ¬("clear" : Str) = "put" from dk),if_neg (show ¬("clear" : Str) = "add" from dk),if_neg (show ¬("clear" : Str) = "set" from dk),if_neg (show ¬("clear" : Str) = "look" from dk),if_neg (show ¬("clear" : Str) = "swap" from dk)]
  rw[e];exact cO k f0 rfl rfl
 | skip r q h1 h2 h3=>
  have e:aY S c ("skip",[r,q])=S:=by
   unfold aY;rw[if_neg (show ¬("skip" : Str) = "put" from dk),if_neg (show ¬("skip" : Str) = "add" from dk),if_neg (show ¬("skip" : Str) = "set" from dk),if_neg (show ¬("skip" : Str) = "look" from dk),if_neg (show ¬("skip" : Str) = "swap" from dk)]
  rw[e];exact cO k f0 rfl rfl
theorem TC{S':Mc}{k':Ck}(W:iA n S)(hn:n<15000)(h:oO n S S' c k k')(hk:S.ck[c]?=some k)(dE:∀p,S.ps[c]?=some p->k'.pl<=p.length):iA (n+1) S':=by
 have fh:=W.ac;have h2:=h.BI;have h1:=h.BJ;have hc:c<S.ck.length:=(eK.mp hk).1;refine⟨⟨by rw[h.ps];exact W.wf.good,by rw[h.ck,lR,h.ps];exact W.wf.len,by rw[h.bd];exact W.wf.bd,by rw[h.BD];exact W.wf.ov,?_,?_,om,?_⟩,om,h.ov⟩
 ·intro x hx;rw[h.ck]at hx;rcases zX hx with y | y
  ·exact W.wf.rg x y
  ·rw[y,h.rg];exact W.wf.rg k (bb hk)
 ·intro i x p hx hp;rw[h.ps]at hp;rw[h.ck]at hx
  by_cases e:c=i
  ·subst e;rw[jL hc]at hx;cases hx;exact dE p hp
  ·rw[Aa e]at hx;exact W.wf.pl i x p hx hp
 ·intro x hx;rw[h.ck]at hx;rcases zX hx with y | y
  ·exact cH (W.wf.es x y) h1
  ·rw[y];exact h.es
theorem adR{s:Tl}{rg:List Int}{pl:Nat}{p:Pt}(g:c7 p.length s)(h:pl<p.length):c9 s rg pl<=p.length:=by
 unfold c9
 split
 ·rename_i hs
  cases g with
  | skip r q h1 h2 h3=>exact h2
  | put=>exact absurd (show ("put" : Str) = "skip" from hs.1) dk
  | add=>exact absurd (show ("add" : Str) = "skip" from hs.1) dk
  | set=>exact absurd (show ("set" : Str) = "skip" from hs.1) dk
  | look=>exact absurd (show ("look" : Str) = "skip" from hs.1) dk
  | swap=>exact absurd (show ("swap" : Str) = "skip" from hs.1) dk
  | clear=>exact absurd (show ("clear" : Str) = "skip" from hs.1) dk
 ·exact h
theorem agY{mv:Mv}(W:iA n S)(hn:n<15000)(h:mv∈gu S):iA (n+1) (ir S mv):=by
 rcases sL h with ⟨c,rfl,hc,gL⟩ | ⟨c,k,i,rfl,hk,gQ⟩
 ·refine uB (v9 W.wf hc gL) λk p s _ hk hp hs _=>?_;refine dJ (W.wf.part hk) λp' ju _ _ hg=>?_;have ep:p'=p:=by rw[hp]at ju;exact(gn ju).symm
  subst ep;have g:=hg s (bb hs);refine aJ (Jw W g hk) λk' f e1 e2=>?_
  have e:ir S ("do",[(c:Int)])=pK (aY S c s) c s:=by
   unfold ir;rw[if_pos rfl];show nG S ((c:Int)).toNat=_;rw[iG];unfold nG;rw[hk,hp];dsimp only;rw[hs]
  rw[e];have ec:(aY S c s).ck[c]?=some k':=by rw[f.ck];exact jL hc
  have dE:k.pl<p'.length:=(eK.mp hs).1;refine TC (k':={ k' with pl:=c9 s k'.rg k'.pl,ct:=k'.ct+1 }) W hn ?_ hk λq hq=>?_
  ·unfold pK;rw[ec];exact⟨by show (aY S c s).ck.set c _=_;rw[f.ck,yj],f.ps,f.kd,f.rg,f.bd,f.BD,f.BJ,f.BI,f.es,f.ov⟩
  ·rw[hp]at hq;cases hq;exact adR g (by rw[e1];exact dE)
 ·have hc:c<S.ck.length:=(eK.mp hk).1
  have e:ir S ("carry",[(c:Int),i])=jX S c i.toNat:=by
   unfold ir;rw[if_neg (show ¬("carry" : Str) = "do" from dk)];show jX S ((c:Int)).toNat _=_;rw[iG];rfl
  rw[e];refine aJ (HW W (Dw W hk) rfl hc i.toNat) λxD f e1 e2=>?_;exact TC W hn f hk λp hp=>by rw[e1];exact W.wf.pl c k p hk hp
end
theorem ais{kd:Str}{ps:List Pt}(g:uZ ps):iA 0 (qw kd ps):=by
 refine⟨⟨g,by show (ps.map _).length=_;rw[aN];rfl,by show (dH 12 (0:Int)).length=12;rfl,by show (dH 12 ([]:List Int)).length=12;rfl,?_,?_,bU _,?_⟩,aH _,?_⟩
 ·intro k hk;refine ag (lV.mp hk) λ_ _ aa=>?_;subst aa;rfl
 ·intro c k p hk hp;have:k∈(ps.map λ_=>k0):=bb hk;refine ag (lV.mp this) λ_ _ aa=>?_;subst aa;exact bU _
 ·intro k hk;refine ag (lV.mp hk) λ_ _ aa=>?_;subst aa;exact aH _
 ·intro o ho;rw[List.eq_of_mem_replicate ho];exact aH _
structure MW(S:Mc):Prop where
 bd:S.bd.length=12
 ov:S.ov.length=12
 ac:S.ac.length<=800
 es:∀k∈S.ck,k.es.length<=S.ac.length
 vj:rX S
 rg:∀k∈S.ck,k.rg.length=4
def T8:Sp:=λvs H Q _=>∃s B S c k n g lab,vs=[.ref s,.str S.kd,.int ((c:Nat):Int),.int ((n:Nat):Int),.int g]/\cI H s B S/\lH lab s B/\MW S/\S.ck[c]?=some k/\n<12/\(S.kd = "none"->k.es=[])/\
 ∀H',cI H' s B (setG S c n k g)->FS s B H H'->Q .aD H'
theorem Ug:bc ["_law_stand","_law_kind","_law_clerk","_law_name","_law_number","_law_row"] zLg (aO LC):=bz
theorem aik{f fA:Addr}{fd lg:aV}(F:aW K "_law_set" "_law_set" LC f fd)(dY:mg "len" = none)(GA:ay P w K mg base az 1 fA lg zLj Ed)(kA:PySem.W.keepIn K (.ref fA)=true)(bA:Binds K lg zLj [])(mA:mg "_law_arrives" = some (.ref fA)) :
  ay P w K mg base az 2 f fd zLg T8:=by
 refine F.ok Ug (λvs H Q E h=>?_) λaI A outer s H vs Q E hr h=>?_
 ·refine Ax h λs B S c k n g lab aa _=>?_;subst aa;rfl
 ·refine vX h λs B S c k n g lab aa M aX=>?_;subst aa;refine nh aX λL W hk hn wN q=>?_;refine⟨_,aA (cy (i:=5) Ug.nd rfl (aQ rfl) (fG (ae (pv 3) (ae (pv 4) (ae (cj fv rfl dY PySem.boot_len (ae (ax aP (pv 0) aj) ai)) ai))))) (aA (cZ (iY PySem.F.plainAttrs_list PySem.F.slot_list_append PySem.F.type_list_append ky (ax aP (pv 0) aj) (ae (fG (ae cA (ae (pv 2) (ae (pv 3) (ae m9 (ae (pv 4) (ae m9 ai))))))) ai))) (aB (bZ (bq dm (pv 1) cA (br _)) (aB (cZ (dg GA hr rfl mA kA bA .nil aS (ae (pv 0) (ae (pv 5) ai))))) (aB (cZ (iY PySem.F.plainAttrs_list PySem.F.slot_list_append PySem.F.type_list_append ky (ax aP (ax aP (ax aP (pv 0) aj) (pv 2)) aj) (ae (pv 5) ai))))))),?_⟩;refine ag M.ac λws fh eE=>?_;have ja:=Paired.length eE;have EL:=W.ac;have eN:=iq;have zP:=W.es k (bb hk);refine ak _ rfl (vr rfl (fb (j:=2) rfl M.st rfl ⟨B.ac,⟨_,rfl,.inl (aq.of fh),by show 3<=aZ;decide,λmw nrw=>?_⟩⟩));have s1:af H (upd H mw (.tup [.int (n:Nat),.int g,.int (ws.length:Nat)])):=aE (af.refl _) nrw;have Xd:upd H mw (.tup [.int (n:Nat),.int g,.int (ws.length:Nat)]) mw=some (.tup [.int (n:Nat),.int g,.int (ws.length:Nat)]):=aw;generalize upd H mw (.tup [.int (n:Nat),.int g,.int (ws.length:Nat)])=H1 at s1 Xd ⊢;have M1:=M.same s1;refine fb (j:=2) rfl M1.st rfl ⟨.inl ⟨rfl,_,aq.of (s1 _ _ fh)⟩,?_⟩;refine ak _ rfl (vr rfl (vr rfl ⟨by show 6<=aZ;decide,(λtp ht=>?_)⟩));have s2:af H1 (upd H1 tp (.tup [.str "set",.int (c:Nat),.int (n:Nat),.aD,.int g,.aD])):=aE (af.refl _) ht;have lK:upd H1 tp (.tup [.str "set",.int (c:Nat),.int (n:Nat),.aD,.int g,.aD]) tp=some (.tup [.str "set",.int (c:Nat),.int (n:Nat),.aD,.int g,.aD]):=aw;generalize upd H1 tp (.tup [.str "set",.int (c:Nat),.int (n:Nat),.aD,.int g,.aD])=H2 at s2 lK ⊢;have kZ:=s2 _ _ (s1 _ _ fh);refine kE B.ac ws (.ref tp) rfl rfl kZ (by rw[ja,eN];exact wb) ?_;have M3:=Ku (M1.same s2) L kZ (x:=.ref tp) (a:=⟨"set",c,n,none,some g,none⟩) ⟨tp,rfl,lK⟩;have f3:FS s B H (upd H2 B.ac (.lst (ws++[.ref tp]))):=(FS.of (s1.trans s2)).trans (FS.upd .ac kZ);have XX:FS s B H2 (upd H2 B.ac (.lst (ws++[.ref tp]))):=FS.upd .ac kZ;generalize upd H2 B.ac (.lst (ws++[.ref tp]))=H3 at M3 f3 XX ⊢;have Vr:=XX.tup (s2 _ _ Xd);refine ak _ rfl ⟨rfl,⟨_,rfl,bG (λhd=>?_) λhd=>?_⟩⟩
  ·have jI:S.kd = "none":=va hd;refine vr rfl (vr rfl (qP s B _ mw n g _ lab rfl M3 L Vr hn W.bd (cV W.ov W.vj λH4 M4 f4=>q H4 ?_ (f3.trans f4))));rw[Qq hk jI (wN jI),<-ja];exact M4.tn (c:=c) (k:=k) hk (k.tn+1)
  ·have jI:¬S.kd = "none":=λe=>hd (by rw[e]);refine ag (M3.oz (k:=k) hk) λx hx C=>?_;refine ag C.es λvs hv kn=>?_;have FE:=Paired.length kn;refine fb (j:=0) rfl M3.st rfl (vr rfl (rL (v:=.ref x.1) (aq.of M3.cl) (di hx) (vo (v:=.ref x.2.2) (j:=3) C.st rfl ⟨.inl ⟨rfl,_,aq.of hv⟩,?_⟩)));refine vr rfl (kE x.2.2 vs (.ref mw) rfl rfl hv (by rw[FE,eN];exact wy) ?_);have M4:=T7 M3 L (k:=k) hk hx C hv (k.tn+1) (nZ (b:=(⟨k.tn,n,g,S.ac.length⟩:Ent)) kn ⟨mw,rfl,by rw[<-ja];exact Vr⟩);refine q _ ?_ (f3.trans (FS.upd (.k3 (bb hx)) hv));unfold setG;rw[if_neg jI];exact M4
def ox(S:Mc)(c:Nat)(st:Tl):Mc:=if st.1 = "put" then S else if st.1 = "add" then S else aY S c st
theorem Jv(S:Mc)(c n r:Nat):aY S c ("set",[n,r])=setM S c n r:=by
 unfold aY;rw[if_neg (show ¬("set" : Str) = "put" from dk),if_neg (show ¬("set" : Str) = "add" from dk),if_pos rfl];rfl
theorem IQ(S:Mc)(c r n:Nat):aY S c ("look",[r,n])=l6 S c r n:=by
 unfold aY;rw[if_neg (show ¬("look" : Str) = "put" from dk),if_neg (show ¬("look" : Str) = "add" from dk),if_neg (show ¬("look" : Str) = "set" from dk),if_pos rfl];rfl
theorem IP(S:Mc)(c r n:Nat):aY S c ("swap",[r,n])=nj S c r n:=by
 unfold aY;rw[if_neg (show ¬("swap" : Str) = "put" from dk),if_neg (show ¬("swap" : Str) = "add" from dk),if_neg (show ¬("swap" : Str) = "set" from dk),if_neg (show ¬("swap" : Str) = "look" from dk),if_pos rfl];rfl
theorem afG(S:Mc)(c:Nat)(ns:List Nat):ox S c ("put",ns)=S:=by unfold ox;rw[if_pos rfl]
theorem afI(S:Mc)(c:Nat)(ns:List Nat):ox S c ("add",ns)=S:=by unfold ox;rw[if_neg (show ¬("add" : Str) = "put" from dk),if_pos rfl]
theorem HA(S:Mc)(c:Nat):ox S c ("clear",[])=S:=by
 unfold ox aY;rw[if_neg (show ¬("clear" : Str) = "put" from dk),if_neg (show ¬("clear" : Str) = "add" from dk),if_neg (show ¬("clear" : Str) = "put" from dk),if_neg (show ¬("clear" : Str) = "add" from dk),if_neg (show ¬("clear" : Str) = "set" from dk),if_neg (show ¬("clear" : Str) = "look" from dk),if_neg (show ¬("clear" : Str) = "swap" from dk)]
theorem Ic(S:Mc)(c:Nat)(ns:List Nat):ox S c ("skip",ns)=S:=by
 unfold ox aY;rw[if_neg (show ¬("skip" : Str) = "put" from dk),if_neg (show ¬("skip" : Str) = "add" from dk),if_neg (show ¬("skip" : Str) = "put" from dk),if_neg (show ¬("skip" : Str) = "add" from dk),if_neg (show ¬("skip" : Str) = "set" from dk),if_neg (show ¬("skip" : Str) = "look" from dk),if_neg (show ¬("skip" : Str) = "swap" from dk)]
theorem we(S:Mc)(c:Nat){st:Tl}(h1:st.1 ≠ "put")(h2:st.1 ≠ "add"):ox S c st=aY S c st:=by unfold ox;rw[if_neg h1,if_neg h2]
def S7:Sp:=λvs H Q _=>∃s B S c k p st sz lab,vs=[.ref s,.str S.kd,.int ((c:Nat):Int),.ref p]/\cI H s B S/\lH lab s B/\MW S/\S.ck[c]?=some k/\H p=some (.tup (tv st))/\c7 sz st/\(S.kd = "none"->k.es=[])/\(kU st=true->k.es=[])/\
 ∀H',cI H' s B (ox S c st)->FS s B H H'->Q .aD H'
theorem yP:bc ["_law_stand","_law_kind","_law_clerk","_law_step","_law_registers","_law_number","_law_seen_here"] zLk (aO KI):=bz
theorem agL{f fA fN fT:Addr}{fd lg XR vG:aV}(F:aW K "_law_deed" "_law_deed" KI f fd)(dY:mg "len" = none)
  (GA:ay P w K mg base az 1 fA lg zLj Ed) (kA:PySem.W.keepIn K (.ref fA)=true) (bA:Binds K lg zLj []) (mA:mg "_law_arrives" = some (.ref fA))
  (GN:ay P w K mg base az 1 fN XR zLp SV) (kN:PySem.W.keepIn K (.ref fN)=true) (bN:Binds K XR zLp []) (mN:mg "_law_seen" = some (.ref fN))
  (GT:ay P w K mg base az 2 fT vG zLg T8) (kT:PySem.W.keepIn K (.ref fT)=true) (bT:Binds K vG zLg []) (mT:mg "_law_set" = some (.ref fT)) :
  ay P w K mg base az 3 f fd zLk S7:=by
 refine F.ok yP (λvs H Q E h=>?_) λaI A outer s H vs Q E hr h=>?_
 ·refine Ar h λs B S c k p st sz lab aa _=>?_;subst aa;rfl
 ·refine Ar h λs B S c k p st sz lab aa aX=>?_;subst aa;obtain⟨M,L,W,hk,hp,g,wN,Ls,q⟩:=aX;have eG:=hr.mono (show 1<=2 by decide);refine⟨_,aA (cy (i:=4) yP.nd rfl (aQ rfl) (ax aP (ax aP (ax aP (pv 0) aj) (pv 2)) aj)) (aA (bZ (bq dm (ax a8 (pv 3) aj) cA (br _)) (aB (cZ (dg GT hr rfl mT kT bT .nil aS (ae (pv 0) (ae (pv 1) (ae (pv 2) (ae (ax a8 (pv 3) aj) (ae (ax aP (pv 4) (ax a8 (pv 3) aj)) ai)))))))) cu) (aA (bZ (bq dm (ax a8 (pv 3) aj) cA (br _)) (aA (lZ (dg GN eG rfl mN kN bN .nil aS (ae (pv 0) (ae (pv 2) (ae (ax a8 (pv 3) aj) ai)))) (sU rfl (jS (cW (i:=5) yP.nd rfl (aQ rfl)) (jS (cW (i:=6) yP.nd rfl (aQ rfl)) sP)))) (aA (cZ (iY PySem.F.plainAttrs_list PySem.F.slot_list_append PySem.F.type_list_append ky (ax aP (pv 0) aj) (ae (fG (ae cA (ae (pv 2) (ae (ax a8 (pv 3) aj) (ae (pv 5) (ae m9 (ae (pv 6) ai))))))) ai))) (aB (lZ (pv 5) (oj (pv 4) (ax a8 (pv 3) aj) set_list))))) cu) (aB (bZ (bq dm (ax a8 (pv 3) aj) cA (br _)) (aA (lZ (dg GN eG rfl mN kN bN .nil aS (ae (pv 0) (ae (pv 2) (ae (ax a8 (pv 3) aj) ai)))) (sU rfl (jS (cW (i:=5) yP.nd rfl (aQ rfl)) (jS (cW (i:=6) yP.nd rfl (aQ rfl)) sP)))) (aA (cZ (iY PySem.F.plainAttrs_list PySem.F.slot_list_append PySem.F.type_list_append ky (ax aP (pv 0) aj) (ae (fG (ae cA (ae (pv 2) (ae (ax a8 (pv 3) aj) (ae (pv 5) (ae (ax aP (pv 4) (ax a8 (pv 3) aj)) (ae (pv 6) ai))))))) ai))) (aA (cZ (dg GA eG rfl mA kA bA .nil aS (ae (pv 0) (ae (fG (ae (ax a8 (pv 3) aj) (ae (ax aP (pv 4) (ax a8 (pv 3) aj)) (ae (a6 yT (cj fv rfl dY PySem.boot_len (ae (ax aP (pv 0) aj) ai)) aj) ai)))) ai)))) (aB (lZ (pv 5) (oj (pv 4) (ax a8 (pv 3) aj) set_list)))))) cu)))),?_⟩;refine ag (M.oz hk) λx hx C=>?_;have dB:=W.rg k (bb hk);have EL:=W.ac;have eN:=iq;have zP:=W.es k (bb hk);refine fb (j:=0) rfl M.st rfl (vr rfl (rL (v:=.ref x.1) (aq.of M.cl) (di hx) (vo (v:=.ref x.2.1) (j:=2) C.st rfl ?_)));cases g with
  | put r n g1 g2=>
   have hp:H p=some (.tup [.str "put",.int (r:Nat),.int (n:Nat)]):=hp;rw[afG]at q;refine dO rfl hp rfl dk ?_;refine dO rfl hp rfl dk ?_;exact dO rfl hp rfl dk (q H M (FS.of (af.refl H)))
  | add r n g1 g2=>
   have hp:H p=some (.tup [.str "add",.int (r:Nat),.int (n:Nat)]):=hp;rw[afI]at q;refine dO rfl hp rfl dk ?_;refine dO rfl hp rfl dk ?_;exact dO rfl hp rfl dk (q H M (FS.of (af.refl H)))
  | clear=>
   have hp:H p=some (.tup [.str "clear"]):=hp;rw[HA]at q;refine dO rfl hp rfl dk ?_;refine dO rfl hp rfl dk ?_;exact dO rfl hp rfl dk (q H M (FS.of (af.refl H)))
  | skip r n g1 g2 g3=>
   have hp:H p=some (.tup [.str "skip",.int (r:Nat),.int (n:Nat)]):=hp;rw[Ic]at q;refine dO rfl hp rfl dk ?_;refine dO rfl hp rfl dk ?_;exact dO rfl hp rfl dk (q H M (FS.of (af.refl H)))
  | set n r g1 g2=>
   have hp:H p=some (.tup [.str "set",.int (n:Nat),.int (r:Nat)]):=hp;rw[we S c (show ("set" : Str) ≠ "put" from dk) (show ("set" : Str) ≠ "add" from dk),Jv,JI hk]at q;have hg:k.rg[r]?=some (k.rg[r]'wg):=aT wg;rw[lz hg]at q;refine cG (j:=0) rfl hp rfl ⟨rfl,⟨_,rfl,bG (λ_=>?_) λy=>absurd rfl y⟩⟩;refine vr rfl (vr rfl (vr rfl (cG (j:=1) rfl hp rfl (vr rfl (cG (j:=2) rfl hp rfl (rL (aq.of C.rg) (di hg) ?_))))));refine qP s B S c k n _ lab rfl M L W hk g1 ⟨wN,(λH1 M1 f1=>?_)⟩;have du:=f1.tup hp;refine dO rfl du rfl dk ?_;exact dO rfl du rfl dk (q H1 M1 f1)
  | look r n g1 g2=>
   have hp:H p=some (.tup [.str "look",.int (r:Nat),.int (n:Nat)]):=hp
   have el:l6 S c r n={ (eZ S ⟨"look",c,n,some (bX S k n).1,none,(bX S k n).2⟩)with ck:=S.ck.set c { k with rg:=k.rg.set r (bX S k n).1 } }:=by
    unfold l6;rw[hk];dsimp only;exact qi (S:=eZ S ⟨"look",c,n,some (bX S k n).1,none,(bX S k n).2⟩) hk
   rw[we S c (show ("look" : Str) ≠ "put" from dk) (show ("look" : Str) ≠ "add" from dk),IQ,el]at q;refine dO rfl hp rfl dk ?_;refine cG (j:=0) rfl hp rfl ⟨rfl,⟨_,rfl,bG (λ_=>?_) λy=>absurd rfl y⟩⟩;refine vr rfl (vr rfl (cG (j:=2) rfl hp rfl (vQ s B S c k n rfl M hk g2 W.bd W.ov W.vj wx λH1 tp s1 lK=>?_)));refine⟨tp,⟨_,rfl,aF.of lK,rfl,_,_,rfl,_,_,rfl,rfl,?_⟩⟩;have M1:=M.same s1;refine ag M1.ac λws fh eE=>?_;have ja:=Paired.length eE;have du:=s1 _ _ hp;refine fb (j:=2) rfl M1.st rfl ⟨.inl ⟨rfl,_,aq.of fh⟩,?_⟩;refine ak _ rfl (cG (j:=2) rfl du rfl (vr rfl (vr rfl ⟨by show 6<=aZ;decide,(λtq hq=>?_)⟩)));have s2:af H1 (upd H1 tq (.tup [.str "look",.int (c:Nat),.int (n:Nat),.int (bX S k n).1,.aD,oV (bX S k n).2])):=aE (af.refl _) hq;have Ca:upd H1 tq (.tup [.str "look",.int (c:Nat),.int (n:Nat),.int (bX S k n).1,.aD,oV (bX S k n).2]) tq=some (.tup [.str "look",.int (c:Nat),.int (n:Nat),.int (bX S k n).1,.aD,oV (bX S k n).2]):=aw;generalize upd H1 tq (.tup [.str "look",.int (c:Nat),.int (n:Nat),.int (bX S k n).1,.aD,oV (bX S k n).2])=H2 at s2 Ca ⊢;have kZ:=s2 _ _ fh;refine kE B.ac ws (.ref tq) rfl rfl kZ (by rw[ja,eN];exact wb) ?_;have M3:=Ku (M1.same s2) L kZ (x:=.ref tq) (a:=⟨"look",c,n,some (bX S k n).1,none,(bX S k n).2⟩) ⟨tq,rfl,Ca⟩;have f3:FS s B H (upd H2 B.ac (.lst (ws++[.ref tq]))):=(FS.of (s1.trans s2)).trans (FS.upd .ac kZ);generalize upd H2 B.ac (.lst (ws++[.ref tq]))=H3 at M3 f3 ⊢;have tW:=f3.tup hp;refine ag (M3.oz (k:=k) hk) λx3 vx C3=>?_;have ex:x3=x:=by rw[hx]at vx;exact(gn vx).symm
   subst ex;refine ak _ rfl (vr rfl (cG (j:=1) rfl tW rfl (kz x3.2.1 _ _ r rfl rfl C3.rg (ou (by rw[aN,dB];exact g1)) ?_)));have M4:=Ec M3 L (k:=k) hk hx C3 r (bX S k n).1;have f4:=f3.trans (FS.upd (.k2 (bb hx)) C3.rg (o:=.lst ((k.rg.map V.int).set r (.int (bX S k n).1))));have FP:=f4.tup hp;exact dO rfl FP rfl dk (q _ M4 f4)
  | swap r n g1 g2=>
   have hp:H p=some (.tup [.str "swap",.int (r:Nat),.int (n:Nat)]):=hp;have anq:k.es=[]:=Ls (HR _);have hg:k.rg[r]?=some (k.rg[r]'wg):=aT wg;have eg:k.rg.getD r 0=k.rg[r]'wg:=lz hg
   have esn:bX S k n=(S.bd.getD n 0,(S.ov.getD n []).getLast?):=by
    unfold bX uI;rw[anq];rfl
   generalize k.rg[r]'wg=gv at hg eg
   have el:nj S c r n={ (jU (eZ S ⟨"swap",c,n,some (S.bd.getD n 0),some gv,(S.ov.getD n []).getLast?⟩) n gv S.ac.length)with ck:=S.ck.set c { k with rg:=k.rg.set r (S.bd.getD n 0) } }:=by
    unfold nj;rw[hk];dsimp only;rw[eg];exact qi (S:=eZ (jU S n gv S.ac.length) ⟨"swap",c,n,some (S.bd.getD n 0),some gv,(S.ov.getD n []).getLast?⟩) hk
   rw[we S c (show ("swap" : Str) ≠ "put" from dk) (show ("swap" : Str) ≠ "add" from dk),IP,el]at q;refine dO rfl hp rfl dk ?_;refine dO rfl hp rfl dk ?_;refine cG (j:=0) rfl hp rfl ⟨rfl,⟨_,rfl,bG (λ_=>?_) λy=>absurd rfl y⟩⟩;refine vr rfl (vr rfl (cG (j:=2) rfl hp rfl (vQ s B S c k n rfl M hk g2 W.bd W.ov W.vj wx λH1 tp s1 lK=>?_)));rw[esn]at lK;refine⟨tp,⟨_,rfl,aF.of lK,rfl,_,_,rfl,_,_,rfl,rfl,?_⟩⟩;have M1:=M.same s1;refine ag M1.ac λws fh eE=>?_;have ja:=Paired.length eE;have du:=s1 _ _ hp;refine fb (j:=2) rfl M1.st rfl ⟨.inl ⟨rfl,_,aq.of fh⟩,?_⟩;refine ak _ rfl (cG (j:=2) rfl du rfl (vr rfl (vr rfl (cG (j:=1) rfl du rfl (rL (aq.of (s1 _ _ C.rg)) (di hg) (vr rfl ⟨by show 6<=aZ;decide,(λtq hq=>?_)⟩))))));have s2:af H1 (upd H1 tq (.tup [.str "swap",.int (c:Nat),.int (n:Nat),.int (S.bd.getD n 0),.int gv,oV (S.ov.getD n []).getLast?])):=aE (af.refl _) hq;have Ca:upd H1 tq (.tup [.str "swap",.int (c:Nat),.int (n:Nat),.int (S.bd.getD n 0),.int gv,oV (S.ov.getD n []).getLast?]) tq=some (.tup [.str "swap",.int (c:Nat),.int (n:Nat),.int (S.bd.getD n 0),.int gv,oV (S.ov.getD n []).getLast?]):=aw;generalize upd H1 tq (.tup [.str "swap",.int (c:Nat),.int (n:Nat),.int (S.bd.getD n 0),.int gv,oV (S.ov.getD n []).getLast?])=H2 at s2 Ca ⊢;have kZ:=s2 _ _ fh;refine kE B.ac ws (.ref tq) rfl rfl kZ (by rw[ja,eN];exact wb) ?_;have M3:=Ku (M1.same s2) L kZ (x:=.ref tq) (a:=⟨"swap",c,n,some (S.bd.getD n 0),some gv,(S.ov.getD n []).getLast?⟩) ⟨tq,rfl,Ca⟩;have f3:FS s B H (upd H2 B.ac (.lst (ws++[.ref tq]))):=(FS.of (s1.trans s2)).trans (FS.upd .ac kZ);have VJ:upd H2 B.ac (.lst (ws++[.ref tq])) B.ac=some (.lst (ws++[.ref tq])):=aw;generalize upd H2 B.ac (.lst (ws++[.ref tq]))=H3 at M3 f3 VJ ⊢;have tW:=f3.tup hp;refine ag (M3.oz (k:=k) hk) λx3 vx C3=>?_;have ex:x3=x:=by rw[hx]at vx;exact(gn vx).symm
   subst ex;refine ak _ rfl (cG (j:=2) rfl tW rfl (vr rfl (cG (j:=1) rfl tW rfl (rL (aq.of C3.rg) (di hg) ?_))));refine fb (j:=2) rfl M3.st rfl ⟨B.ac,⟨_,rfl,.inl (aq.of VJ),_,_,rfl,rfl,by show 3<=aZ;decide,λtr hrr=>?_⟩⟩
   have ed:(((ws++[V.ref tq]).length:Nat):Int)-1=((S.ac.length:Nat):Int):=by
    have amW:ws.length=S.ac.length:=ja;rw[eI,amW];show ((S.ac.length+1:Nat):Int)-1=_;omega
   dsimp only;rw[ed];have s4:af H3 (upd H3 tr (.tup [.int (n:Nat),.int gv,.int (S.ac.length:Nat)])):=aE (af.refl _) hrr;have W':upd H3 tr (.tup [.int (n:Nat),.int gv,.int (S.ac.length:Nat)]) tr=some (.tup [.int (n:Nat),.int gv,.int (S.ac.length:Nat)]):=aw;generalize upd H3 tr (.tup [.int (n:Nat),.int gv,.int (S.ac.length:Nat)])=H4 at s4 W' ⊢;refine qP s B _ tr n gv _ lab rfl (M3.same s4) L W' g2 W.bd (cV W.ov W.vj λH5 M5 f5=>?_);have XY:=(f3.trans (FS.of s4)).trans f5;have hp5:=XY.tup hp;refine ag (M5.oz (k:=k) hk) λx5 W8 C5=>?_;have ex:x5=x3:=by rw[hx]at W8;exact(gn W8).symm
   subst ex;refine vr rfl (vr rfl (cG (j:=1) rfl hp5 rfl (kz x5.2.1 _ _ r rfl rfl C5.rg (ou (by rw[aN,dB];exact g1)) ?_)));have M6:=Ec M5 L (k:=k) hk hx C5 r (S.bd.getD n 0);exact q _ M6 (XY.trans (FS.upd (.k2 (bb hx)) C5.rg))
theorem ajV:(10:Int)^(60:Int).toNat=fQ:=dk
def nA(S:Mc)(c:Nat)(st:Tl):Mc:=if st.1 = "put" then aY S c st else if st.1 = "add" then aY S c st else S
theorem Sj(S:Mc)(c r n:Nat):nA S c ("put",[r,n])=fj S c r (n:Nat):=by unfold nA;rw[if_pos rfl];rfl
theorem Sk{S:Mc}{c r o:Nat}{k:Ck}(hk:S.ck[c]?=some k):nA S c ("add",[r,o])=fj S c r ((k.rg.getD r 0+k.rg.getD o 0)%fQ):=by
 unfold nA;rw[if_neg (show ¬("add" : Str) = "put" from dk),if_pos rfl];unfold aY;rw[if_neg (show ¬("add" : Str) = "put" from dk),if_pos rfl,hk];rfl
theorem yQ{S:Mc}{c:Nat}{st:Tl}(h1:st.1 ≠ "put")(h2:st.1 ≠ "add"):nA S c st=S:=by unfold nA;rw[if_neg h1,if_neg h2]
theorem afH(S:Mc)(c:Nat)(st:Tl):ox (nA S c st) c st=aY S c st:=by
 unfold ox nA
 by_cases h1:st.1 = "put"
 ·rw[if_pos h1,if_pos h1]
 ·rw[if_neg h1,if_neg h1]
  by_cases h2:st.1 = "add"
  ·rw[if_pos h2,if_pos h2]
  ·rw[if_neg h2,if_neg h2]
theorem Tf(S:Mc)(c:Nat)(st:Tl):(nA S c st).kd=S.kd:=by
 unfold nA aY fj
 split
 ·split <;> rfl
 ·split
  ·cases S.ck[c]? <;> rfl
  ·rfl
section
variable{S:Mc}{n c:Nat}{k:Ck}
theorem agu{sz:Nat}{s:Tl}(W:iA n S)(g:c7 sz s)(hk:S.ck[c]?=some k):∃k',oO n S (nA S c s) c k k'/\k'.pl=k.pl/\k'.ct=k.ct/\k'.es=k.es:=by
 have hc:c<S.ck.length:=(eK.mp hk).1;have f0:=Dw W hk
 by_cases h1:s.1 = "put"
 ·cases g with
  | put r m _ _=>rw[Sj];exact⟨_,yM f0 hc _ _,rfl,rfl,rfl⟩
  | add=>exact absurd (show ("add" : Str) = "put" from h1) dk
  | set=>exact absurd (show ("set" : Str) = "put" from h1) dk
  | look=>exact absurd (show ("look" : Str) = "put" from h1) dk
  | swap=>exact absurd (show ("swap" : Str) = "put" from h1) dk
  | clear=>exact absurd (show ("clear" : Str) = "put" from h1) dk
  | skip=>exact absurd (show ("skip" : Str) = "put" from h1) dk
 ·by_cases h2:s.1 = "add"
  ·cases g with
   | add r m _ _=>rw[Sk hk];exact⟨_,yM f0 hc _ _,rfl,rfl,rfl⟩
   | put=>exact absurd (show ("put" : Str) = "add" from h2) dk
   | set=>exact absurd (show ("set" : Str) = "add" from h2) dk
   | look=>exact absurd (show ("look" : Str) = "add" from h2) dk
   | swap=>exact absurd (show ("swap" : Str) = "add" from h2) dk
   | clear=>exact absurd (show ("clear" : Str) = "add" from h2) dk
   | skip=>exact absurd (show ("skip" : Str) = "add" from h2) dk
  ·rw[yQ h1 h2];exact pD k f0 rfl rfl rfl
theorem ag'{S':Mc}{k':Ck}(W:iA n S)(hn:n<800)(h:oO n S S' c k k')(hk:S.ck[c]?=some k):MW S':=by
 have fh:=W.ac;have h2:=h.BI;have h1:=h.BJ;refine⟨by rw[h.bd];exact W.wf.bd,by rw[h.BD];exact W.wf.ov,om,?_,λo ho=>cH (h.ov o ho) wa,?_⟩
 ·intro x hx;rw[h.ck]at hx;rcases zX hx with y | y
  ·exact cH (W.wf.es x y) h1
  ·rw[y];exact h.es
 ·intro x hx;rw[h.ck]at hx;rcases zX hx with y | y
  ·exact W.wf.rg x y
  ·rw[y,h.rg];exact W.wf.rg k (bb hk)
theorem yZ{S':Mc}{k':Ck}(h:oO n S S' c k k')(hk:S.ck[c]?=some k):S'.ck[c]?=some k':=by rw[h.ck];exact jL (eK.mp hk).1
theorem acH{sz:Nat}{s:Tl}{k':Ck}(g:c7 sz s)(hk:S.ck[c]?=some k)(h:(aY S c s).ck[c]?=some k')(e:k'.pl=k.pl):c9 s k'.rg k'.pl=c9 s k.rg k.pl:=by
 by_cases hs:s.1 = "skip"
 ·have e1:aY S c s=S:=by
   unfold aY;rw[hs,if_neg (show ¬("skip" : Str) = "put" from dk),if_neg (show ¬("skip" : Str) = "add" from dk),if_neg (show ¬("skip" : Str) = "set" from dk),if_neg (show ¬("skip" : Str) = "look" from dk),if_neg (show ¬("skip" : Str) = "swap" from dk)]
  rw[e1,hk]at h;cases h;rfl
 ·unfold c9;rw[if_neg λz=>hs z.1,if_neg λz=>hs z.1,e]
end
def S6:Sp:=λvs H Q _=>∃s B S c k v pt st sz lab n,vs=[.ref s,v,.str S.kd,.int ((c:Nat):Int)]/\cI H s B S/\lH lab s B/\iA n S/\n<800/\S.ck[c]?=some k/\jj H v S.ps/\S.ps[c]?=some pt/\pt[k.pl]?=some st/\c7 sz st/\(S.kd = "none"->k.es=[])/\(kU st=true->k.es=[])/\
 ∀H',cI H' s B (nG S c)->FS s B H H'->Q .aD H'
theorem A3:bc ["_law_stand","_law_program_here","_law_kind","_law_clerk","_law_state","_law_step","_law_after"] zLh (aO KH):=bz
theorem agK{f fD:Addr}{fd vI:aV}(F:aW K "_law_does" "_law_does" KH f fd)
  (GD:ay P w K mg base az 3 fD vI zLk S7) (kD:PySem.W.keepIn K (.ref fD)=true) (bD:Binds K vI zLk []) (mD:mg "_law_deed" = some (.ref fD)) :
  ay P w K mg base az 4 f fd zLh S6:=by
 refine F.ok A3 (λvs H Q E h=>?_) λaI A outer s H vs Q E hr h=>?_
 ·refine lu h λs B S c k v pt st sz lab aa=>?_;refine ag aa λn aa _=>?_;subst aa;rfl
 ·refine lu h λs B S c k v pt st sz lab aa=>?_;refine wC aa λn aa M L W aX=>?_;subst aa;obtain⟨hn,hk,hP,pU,cD,g,wN,Ls,q⟩:=aX;refine ag (M.oz hk) λx hx C=>?_;refine cF (id hP) λpg dr aa fV k8=>?_;subst aa;refine ag (lj k8 pU) λpv' FL aa=>?_;refine cF aa λpa us aa FN ko=>?_;subst aa;refine ag (lj ko cD) λuv Nw aa=>?_;refine ag aa λp aa hp=>?_;subst aa;have dB:=W.wf.rg k (bb hk);have hc:c<S.ck.length:=(eK.mp hk).1;refine aJ (Jw W g hk) λk' ef e1 e2=>?_;refine dJ (agu W g hk) λk1 pf p1 p2 p3=>?_
  have NO:nG S c={ (aY S c st)with ck:=(aY S c st).ck.set c { k' with pl:=c9 st k.rg k.pl,ct:=k'.ct+1 } }:=by
   unfold nG;rw[hk,pU];dsimp only;rw[cD];dsimp only;unfold pK;rw[yZ ef hk];dsimp only;rw[acH g hk (yZ ef hk) e1]
  refine⟨_,aA (cy (i:=4) A3.nd rfl (aQ rfl) (ax aP (ax aP (pv 0) aj) (pv 3))) (aA (cy (i:=5) A3.nd rfl (aQ rfl) (ax a8 (ax a8 (pv 1) (pv 3)) (ax aP (pv 4) aj))) (aA (cy (i:=6) A3.nd rfl (aQ rfl) (a6 jV (ax aP (pv 4) aj) aj)) (aA (bZ (bq dm (ax a8 (pv 5) aj) cA (br _)) (aB (lZ (ax a8 (pv 5) aj) (oj (ax aP (pv 4) aj) (ax a8 (pv 5) aj) set_list))) cu) (aA (bZ (bq dm (ax a8 (pv 5) aj) cA (br _)) (aB (lZ (a6 ij (a6 jV (ax aP (ax aP (pv 4) aj) (ax a8 (pv 5) aj)) (ax aP (ax aP (pv 4) aj) (ax a8 (pv 5) aj))) (a6 Bb aj aj)) (oj (ax aP (pv 4) aj) (ax a8 (pv 5) aj) set_list))) cu) (aA (bZ (PW.pt (pw_and (bq dm (ax a8 (pv 5) aj) cA (br _)) (pw_and1 (bq dm (ax aP (ax aP (pv 4) aj) (ax a8 (pv 5) aj)) aj (br _))))) (aB (cy (i:=6) A3.nd rfl (aQ rfl) (ax a8 (pv 5) aj))) cu) (eD.zh (t':=λD σ H1=>σ=[some (.ref s),some (.ref pg),some (.str S.kd),some (.int (c:Nat)),some (.ref x.1),some (.ref p),some (.int (c9 st k.rg k.pl:Nat))]/\cI H1 s B (nA S c st)/\FS s B H H1/\∀σ' H',cI H' s B (nG S c)->FS s B H H'->D.nx σ' H') (aA (cZ (dg GD hr rfl mD kD bD .nil aS (ae (pv 0) (ae (pv 2) (ae (pv 3) (ae (pv 5) ai)))))) (aA (lZ (pv 6) (oj (pv 4) aj set_list)) (aB (lZ (a6 jV (ax aP (pv 4) aj) aj) (oj (pv 4) aj set_list))))) ?tl)))))),?_⟩
  case tl=>
   rintro D σ H1 ⟨rfl,M1,f1,q⟩;refine vr rfl (vr rfl (vr rfl (vr rfl (⟨s,B,(nA S c st),c,k1,p,st,sz,lab,(by rw[Tf];rfl),M1,L,(ag' W hn pf hk),(yZ pf hk),⟨f1.tup hp,g,λz=>by rw[p3];exact wN (by rw[<-Tf S c st];exact z),λz=>by rw[p3];exact Ls z,λH2 M2 f2=>?_⟩⟩))));rw[afH]at M2;refine ag (M2.oz (yZ ef hk)) λx2 qG C2=>?_;have ex:x2=x:=by rw[hx]at qG;exact(gn qG).symm
   subst ex;refine ak _ rfl (vr rfl (kz x2.1 _ 0 0 rfl rfl C2.st rfl ?_));have M3:=T6 M2 L (yZ ef hk) hx C2 (c9 st k.rg k.pl) k'.ct;have f3:FS s B H2 (upd H2 x2.1 (.lst [.int (c9 st k.rg k.pl:Nat),.int (k'.ct:Nat),.ref x2.2.1,.ref x2.2.2])):=FS.upd (.k1 (bb hx)) C2.st;have h3:upd H2 x2.1 (.lst [.int (c9 st k.rg k.pl:Nat),.int (k'.ct:Nat),.ref x2.2.1,.ref x2.2.2]) x2.1=some (.lst [.int (c9 st k.rg k.pl:Nat),.int (k'.ct:Nat),.ref x2.2.1,.ref x2.2.2]):=aw;rw[show ([V.int (k'.pl:Nat),V.int (k'.ct:Nat),V.ref x2.2.1,V.ref x2.2.2].set 0 (V.int (c9 st k.rg k.pl:Nat)))=[V.int (c9 st k.rg k.pl:Nat),V.int (k'.ct:Nat),V.ref x2.2.1,V.ref x2.2.2] from rfl];generalize upd H2 x2.1 (.lst [.int (c9 st k.rg k.pl:Nat),.int (k'.ct:Nat),.ref x2.2.1,.ref x2.2.2])=H3 at M3 f3 h3 ⊢;refine fb (j:=1) rfl h3 rfl ⟨_,⟨_,rfl,rfl,_,rfl,x2.1,_,1,1,rfl,rfl,h3,rfl,?_⟩⟩;have Ce:(aY S c st).ck.length=S.ck.length:=by rw[ef.ck,lR]
   have e3:((aY S c st).ck.set c { k' with pl:=c9 st k.rg k.pl,ct:=k'.ct })[c]?=some { k' with pl:=c9 st k.rg k.pl,ct:=k'.ct }:=jL wg;refine ag (M3.oz e3) λx3 vx C3=>?_;have ex:x3=x2:=by rw[hx]at vx;exact(gn vx).symm
   subst ex;have M4:=T6 M3 L e3 hx C3 (c9 st k.rg k.pl) (k'.ct+1);refine q _ _ ?_ (f1.trans (f2.trans (f3.trans (FS.upd (.k1 (bb hx)) h3))));rw[NO];have e:{ (aY S c st)with ck:=((aY S c st).ck.set c { k' with pl:=c9 st k.rg k.pl,ct:=k'.ct }).set c { k' with pl:=c9 st k.rg k.pl,ct:=k'.ct+1 } }={ (aY S c st)with ck:=(aY S c st).ck.set c { k' with pl:=c9 st k.rg k.pl,ct:=k'.ct+1 } }:=by rw[yj]
   rw[<-e];exact M4
  refine fb (j:=0) rfl M.st rfl (vr rfl (rL (v:=.ref x.1) (aq.of M.cl) (di hx) ?_));refine ak _ rfl (vr rfl (rT (aF.of fV) (cR FL) (fb (j:=0) rfl C.st rfl (rT (v:=.ref p) (aF.of FN) (cR Nw) ?_))));refine fb (j:=0) rfl C.st rfl ⟨_,⟨_,rfl,rfl,?_⟩⟩;have q':∀σ' H',cI H' s B (nG S c)->FS s B H H'->(λ(_:L2.St) H'=>Q .aD H') σ' H':=λσ' H' a b=>q H' a b
  have eb:st.1 ≠ "skip"->((k.pl:Int)+1)=((c9 st k.rg k.pl:Nat):Int):=λh=>by
   unfold c9;rw[if_neg λz=>h z.1];rfl
  cases g with
  | clear=>
   have ju:H p=some (.tup [.str "clear"]):=hp;have eb:=eb (show ("clear" : Str) ≠ "skip" from dk);refine dO rfl ju rfl dk ?_;refine dO rfl ju rfl dk ?_;refine dO rfl ju rfl dk ?_;exact ke (by rw[<-eb];rfl) (by rw[yQ (show ("clear" : Str) ≠ "put" from dk) (show ("clear" : Str) ≠ "add" from dk)];exact M) (FS.of (af.refl H)) q'
  | set n' r g1 g2=>
   have ju:H p=some (.tup [.str "set",.int (n':Nat),.int (r:Nat)]):=hp;have eb:=eb (show ("set" : Str) ≠ "skip" from dk);refine dO rfl ju rfl dk ?_;refine dO rfl ju rfl dk ?_;refine dO rfl ju rfl dk ?_;exact ke (by rw[<-eb];rfl) (by rw[yQ (show ("set" : Str) ≠ "put" from dk) (show ("set" : Str) ≠ "add" from dk)];exact M) (FS.of (af.refl H)) q'
  | look r n' g1 g2=>
   have ju:H p=some (.tup [.str "look",.int (r:Nat),.int (n':Nat)]):=hp;have eb:=eb (show ("look" : Str) ≠ "skip" from dk);refine dO rfl ju rfl dk ?_;refine dO rfl ju rfl dk ?_;refine dO rfl ju rfl dk ?_;exact ke (by rw[<-eb];rfl) (by rw[yQ (show ("look" : Str) ≠ "put" from dk) (show ("look" : Str) ≠ "add" from dk)];exact M) (FS.of (af.refl H)) q'
  | swap r n' g1 g2=>
   have ju:H p=some (.tup [.str "swap",.int (r:Nat),.int (n':Nat)]):=hp;have eb:=eb (show ("swap" : Str) ≠ "skip" from dk);refine dO rfl ju rfl dk ?_;refine dO rfl ju rfl dk ?_;refine dO rfl ju rfl dk ?_;exact ke (by rw[<-eb];rfl) (by rw[yQ (show ("swap" : Str) ≠ "put" from dk) (show ("swap" : Str) ≠ "add" from dk)];exact M) (FS.of (af.refl H)) q'
  | put r n' g1 g2=>
   have hp:H p=some (.tup [.str "put",.int (r:Nat),.int (n':Nat)]):=hp;have eb:=eb (show ("put" : Str) ≠ "skip" from dk);refine cG (j:=0) rfl hp rfl ⟨rfl,⟨_,rfl,bG (λ_=>?_) λy=>absurd rfl y⟩⟩;refine cG (j:=2) rfl hp rfl (fb (j:=2) rfl C.st rfl (cG (j:=1) rfl hp rfl (kz x.2.1 _ _ r rfl rfl C.rg (ou (by rw[aN,dB];exact g1)) ?_)));have M1:=Ec M L hk hx C r (n':Nat);have f1:FS s B H (upd H x.2.1 (.lst ((k.rg.map V.int).set r (.int (n':Nat))))):=FS.upd (.k2 (bb hx)) C.rg;generalize upd H x.2.1 (.lst ((k.rg.map V.int).set r (.int (n':Nat))))=H1 at M1 f1 ⊢;have du:=f1.tup hp;refine dO rfl du rfl dk ?_;refine dO rfl du rfl dk ?_;exact ke (by rw[<-eb];rfl) (by rw[Sj,qi hk];exact M1) f1 q'
  | add r o g1 g2=>
   have hp:H p=some (.tup [.str "add",.int (r:Nat),.int (o:Nat)]):=hp;have eb:=eb (show ("add" : Str) ≠ "skip" from dk);have sk:k.rg[r]?=some (k.rg[r]'wg):=aT wg;have zM:k.rg[o]?=some (k.rg[o]'wg):=aT wg;have ep:=Sk (r:=r) (o:=o) hk;rw[lz sk,lz zM]at ep;generalize k.rg[r]'wg=v1 at sk ep;generalize k.rg[o]'wg=v2 at zM ep;refine dO rfl hp rfl dk ?_;refine cG (j:=0) rfl hp rfl ⟨rfl,⟨_,rfl,bG (λ_=>?_) λy=>absurd rfl y⟩⟩;refine fb (j:=2) rfl C.st rfl (cG (j:=1) rfl hp rfl (rL (v:=.int v1) (aq.of C.rg) (di sk) ?_));refine fb (j:=2) rfl C.st rfl (cG (j:=2) rfl hp rfl (rL (v:=.int v2) (aq.of C.rg) (di zM) ⟨_,⟨_,rfl,rfl,_,_,rfl,rfl,⟨qc,qc,qc⟩,_,_,rfl,rfl,by show (0:Int)<10^(60:Int).toNat;decide +kernel,?_⟩⟩));refine fb (j:=2) rfl C.st rfl (cG (j:=1) rfl hp rfl (kz x.2.1 _ _ r rfl rfl C.rg (ou (by rw[aN,dB];exact g1)) ?_));have M1:=Ec M L hk hx C r ((v1+v2)%fQ);rw[<-ajV]at M1 ep;have f1:FS s B H (upd H x.2.1 (.lst ((k.rg.map V.int).set r (.int ((v1+v2)%(10:Int)^(60:Int).toNat))))):=FS.upd (.k2 (bb hx)) C.rg;dsimp only;generalize upd H x.2.1 (.lst ((k.rg.map V.int).set r (.int ((v1+v2)%(10:Int)^(60:Int).toNat))))=H1 at M1 f1 ⊢;have du:=f1.tup hp;refine dO rfl du rfl dk ?_;exact ke (by rw[<-eb];rfl) (by rw[ep,qi hk];exact M1) f1 q'
  | skip r n' g1 g2 g3=>
   have hp:H p=some (.tup [.str "skip",.int (r:Nat),.int (n':Nat)]):=hp;have sk:k.rg[r]?=some (k.rg[r]'wg):=aT wg;have eg:=lz (d:=0) sk;generalize k.rg[r]'wg=v1 at sk eg;have ep:nA S c ("skip",[r,n'])=S:=yQ (show ("skip" : Str) ≠ "put" from dk) (show ("skip" : Str) ≠ "add" from dk);refine dO rfl hp rfl dk ?_;refine dO rfl hp rfl dk ?_;refine cG (j:=0) rfl hp rfl ⟨rfl,⟨_,rfl,bG (λ_=>?_) λy=>absurd rfl y⟩⟩;refine fb (j:=2) rfl C.st rfl (cG (j:=1) rfl hp rfl (rL (v:=.int v1) (aq.of C.rg) (di sk) ⟨rfl,⟨_,rfl,bG (λh0=>?_) λh0=>?_⟩⟩))
   ·have h0':v1=0:=by injection h0
    refine cG (j:=2) rfl hp rfl ?_
    have e:c9 ("skip",[r,n']) k.rg k.pl=n':=by
     unfold c9;rw[if_pos ⟨rfl,by show k.rg.getD r 0=0;rw[eg];exact h0'⟩];rfl
    exact ke (by rw[e];rfl) (by rw[ep];exact M) (FS.of (af.refl H)) q'
   ·have e:c9 ("skip",[r,n']) k.rg k.pl=k.pl+1:=by
     unfold c9;rw[if_neg λh=>h0 (by have h2:k.rg.getD r 0=0:=h.2;rw[eg]at h2;rw[h2])]
    exact ke (by rw[e];rfl) (by rw[ep];exact M) (FS.of (af.refl H)) q'
theorem O6{α β:Type}{F:α->β->Prop}:∀{l:List α} {r:List β} (j:Nat),Paired F l r->Paired F (l.eraseIdx j) (r.eraseIdx j)
 | _,_,_,.nil=>by simp;exact .nil
 | _,_,0,.cons _ t=>by simpa using t
 | _,_,j+1,.cons h t=>by
  rw[YM,YM];exact .cons h (O6 j t)
theorem QM{α:Type}{p:α->Bool}:∀{l:List α} {e:α} {r:List α},l.filter p=e::r->l[l.findIdx p]?=some e/\l.eraseP p=l.eraseIdx (l.findIdx p)
 | [],_,_,h=>by simp at h
 | x::l,e,r,h=>by
  cases hp:p x with
  | true=>
   rw[YK hp]at h;cases h;rw[Zx,hp];refine⟨rfl,?_⟩;rw[GV,hp];rfl
  | false=>
   rw[YL (by rw[hp];exact dG)]at h;refine oA (QM h) λh1 h2=>?_;rw[Zx,hp];refine⟨h1,?_⟩;rw[GV,hp,h2];rfl
theorem ama{n j:Nat}(h:j<n):Dr (j:Int) n=some j:=by
 have:=(Js (ou h)).1;exact this
def SY:Sp:=λvs H Q _=>∃s B S v p mv lab n,vs=[.ref s,v,.str S.kd,.ref p]/\cI H s B S/\lH lab s B/\iA n S/\n<800/\jj H v S.ps/\H p=some (.tup (fo mv))/\mv∈gu S/\(S.kd = "none"->∀k∈S.ck,k.es=[])/\(∀k∈S.ck,i9 k.tn k.es)/\
 ∀H',cI H' s B (ir S mv)->FS s B H H'->Q .aD H'
theorem Ta:bc ["_law_stand","_law_program_here","_law_kind","_law_move","_law_rows"] zLi (aO KA):=bz
theorem agF{f fD fA fF:Addr}{fd vI lg mJ:aV}(F:aW K "_law_made" "_law_made" KA f fd)
  (GD:ay P w K mg base az 4 fD vI zLh S6) (kD:PySem.W.keepIn K (.ref fD)=true) (bD:Binds K vI zLh []) (mD:mg "_law_does" = some (.ref fD))
  (GA:ay P w K mg base az 1 fA lg zLj Ed) (kA:PySem.W.keepIn K (.ref fA)=true) (bA:Binds K lg zLj []) (mA:mg "_law_arrives" = some (.ref fA))
  (GF:ay P w K mg base az 1 fF mJ zLA RS) (kF:PySem.W.keepIn K (.ref fF)=true) (bF:Binds K mJ zLA []) (mF:mg "_law_first" = some (.ref fF)) :
  ay P w K mg base az 5 f fd zLi SY:=by
 refine F.ok Ta (λvs H Q E h=>?_) λaI A outer s H vs Q E hr h=>?_
 ·refine Ax h λs B S v p mv lab n aa _=>?_;subst aa;rfl
 ·refine vX h λs B S v p mv lab n aa M aX=>?_;subst aa;obtain⟨L,W,hn,hP,hp,fq,wN,B8,q⟩:=aX;have eG:=hr.mono (show 1<=4 by decide);refine⟨_,aB (bZ (bq dm (ax a8 (pv 3) aj) cA (br _)) (aB (cZ (dg GD hr rfl mD kD bD .nil aS (ae (pv 0) (ae (pv 1) (ae (pv 2) (ae (ax a8 (pv 3) aj) ai))))))) (aA (cy (i:=4) Ta.nd rfl (aQ rfl) (ax aP (ax aP (ax aP (pv 0) aj) (ax a8 (pv 3) aj)) aj)) (aB (cZ (dg GA eG rfl mA kA bA .nil aS (ae (pv 0) (ae (iY PySem.F.plainAttrs_list PySem.F.slot_list_pop PySem.F.type_list_pop Rn (pv 4) (ae (dg GF eG rfl mF kF bF .nil aS (ae (pv 4) (ae (ax a8 (pv 3) aj) ai))) ai)) ai))))))),?_⟩;rcases sL fq with ⟨c,rfl,hc,gL⟩ | ⟨c,k,i,rfl,hk,gQ⟩
  ·refine uB (v9 W.wf hc gL) λk pt st sz hk pU cD g=>?_;refine cG (j:=0) rfl hp rfl ⟨rfl,⟨_,rfl,bG (λ_=>?_) λy=>absurd rfl y⟩⟩;refine vr rfl (vr rfl (vr rfl (cG (j:=1) rfl hp rfl ?_)));refine⟨s,⟨B,S,c,k,v,pt,st,sz,lab,n,rfl,M,L,W,hn,hk,hP,pU,cD,g,λz=>wN z k (bb hk),λz=>?_,λH' M' f'=>q H' M' f'⟩⟩;rw[AX hk pU]at gL;unfold nB at gL;rw[cD]at gL;have xR:(decide (k.es=[]) || !kU st)=true:=gL;rw[z,O1,O0]at xR;exact of_decide_eq_true xR
  ·refine aJ (HV (B8 k (bb hk)) gQ) λj hj aa aX=>?_;subst aa;refine vk aX λe r he=>?_;refine ag (M.oz hk) λx hx C=>?_;refine ag C.es λws hw eE=>?_;have hlen:=Paired.length eE;have zP:=W.wf.es k (bb hk);have fh:=W.ac;have en:e.n=(j:Int):=PF (by rw[he];rfl)
   have anN:e∈k.es:=by
    have:e∈bJ k.es j:=by rw[he];exact fX
    unfold bJ at this;exact(qa.mp this).1
   refine oA (QM (p:=λe:Ent=>decide (e.n=(j:Int))) (show k.es.filter _=e::r from he)) λfi fe=>?_;generalize hfx:(k.es.findIdx λe:Ent=>decide (e.n=(j:Int)))=ix at fi fe;have FV:ix<k.es.length:=(eK.mp fi).1;refine ag (lj eE fi) λwv hwv aa=>?_;refine ag aa λtp aa lK=>?_;subst aa;refine cG (j:=0) rfl hp rfl ⟨rfl,⟨_,rfl,bG (λy=>absurd (show ("carry" : Str) = "do" from va y) dk) λ_=>?_⟩⟩;refine fb (j:=0) rfl M.st rfl (cG (j:=1) rfl hp rfl (rL (v:=.ref x.1) (aq.of M.cl) (di hx) (vo (v:=.ref x.2.2) (j:=3) C.st rfl ?_)));refine ak _ rfl (vr rfl ⟨.inl ⟨rfl,_,aq.of hw⟩,?_⟩);refine vr rfl (cG (j:=2) rfl hp rfl (je x.2.2 ws k.es (j:Int) rfl hw eE om ⟨e,anN,en⟩ ?_));rw[hfx];have F8:=rh;have eN:=iq;refine⟨x.2.2,ws,(ix:Int),ix,(.ref tp),rfl,rfl,hw,om,om,(ama wg),hwv,?_⟩;have M1:=T7 M L hk hx C hw k.tn (O6 ix eE);have f1:FS s B H (upd H x.2.2 (.lst (ws.eraseIdx ix))):=FS.upd (.k3 (bb hx)) hw;generalize upd H x.2.2 (.lst (ws.eraseIdx ix))=H1 at M1 f1 ⊢;have Xb:=f1.tup lK;rw[en]at Xb;refine qP s B _ tp j e.num e.d lab rfl M1 L Xb hj W.wf.bd (cV W.wf.ov (W.vj w5) λH2 M2 f2=>q H2 ?_ (f1.trans f2))
   have em:ir S ("carry",[(c:Int),(j:Int)])=jU { S with ck:=S.ck.set c { k with tn:=k.tn,es:=k.es.eraseIdx ix } } j e.num e.d:=by
    unfold ir;rw[if_neg (show ¬("carry" : Str) = "do" from dk)];show jX S ((c:Int)).toNat ((j:Int)).toNat=_;rw[iG,iG];unfold jX;rw[hk];dsimp only;rw[he];dsimp only[List.head?_cons];rw[show ow k.es j=k.es.eraseIdx ix from fe]
   rw[em];exact M2
def rJ(H0 H:Hp)(R:Addr->Nat->Prop):Prop:=∀m,Own H0 m H R
theorem rJ.nx{H0 H:Hp}{b:Addr}{R:Addr->Nat->Prop}{o:HO}(n:Nat)(h:rJ H0 H R)(hB:H b=none):∃R',rJ H0 (upd H b o) R'/\(∀a v,R a v->R' a v)/\R' b n:=⟨_,λm=>(h m).new (n:=n) hB,λa v z=>.inl z,.inr ⟨rfl,rfl⟩⟩
theorem rJ.keep{H0 H H':Hp}{R:Addr->Nat->Prop}(h:rJ H0 H R)(s:af H H'):rJ H0 H' R:=λm=>(h m).keep λb z=>s.free z
theorem rJ.none{H0 H:Hp}{R:Addr->Nat->Prop}(h:rJ H0 H R){a:Addr}{v:Nat}(r:R a v):H0 a=none:=by
 rcases(h 0).f a v r with z | z
 ·rcases(h 1).f a v r with y | y
  ·rw[z]at y;cases y
  ·exact y
 ·exact z
theorem akn:(["_law_part"]:List Str).Nodup:=dk
theorem ako:(["_law_name"]:List Str).Nodup:=dk
def Ua:Sp:=λvs H Q _=>∃v ps kd,vs=[v]/\jj H v ps/\ps.length<=4/\∀H' s B lab,cI H' s B (qw kd ps)->lH lab s B->af H H'->(∀b,k7 s B b->H b=none)->Q (.ref s) H'
theorem Uh:bc ["_law_program_here","_law_clerks"] ["_law_program_here"] (aO LF):=bz
theorem aim{f:Addr}{fd:aV}(F:aW K "_law_new" "_law_new" LF f fd)(dB:mg "range" = none):ay P w K mg base az 1 f fd ["_law_program_here"] Ua:=by
 refine F.ok Uh (λvs H Q E h=>?_) λaI A outer s H vs Q E hr h=>?_
 ·refine gJ h λv ps kd aa _=>?_;clear h;subst aa;rfl
 ·refine yJ h λv ps kd aa hP hle q=>?_;clear h;subst aa
  refine⟨_,aA (Df (i:=1) (N:=["_law_part"]) (idx:=[]) Uh.nd rfl rfl rfl (eC.of (by kernel_rfl)) (jf (bU _)) (sT (pv 0)) (λ_ _ _ _=>cW (i:=0) akn rfl (aQ rfl) (.inr rfl)) (λ_ _ _ _=>iX)
    λ_ _ _ _=>eh (ae aj (ae aj (ae (eh (ae aj (ae aj (ae aj (ae aj ai))))) (ae (eh ai) ai)))))
   (aB (a7 (eh (ae (pv 1) (ae (a6 JZ (eh (ae aj ai)) aj) (ae (eh ai) (ae (ji (N:=["_law_name"]) (idx:=[]) rfl (eC.of (by kernel_rfl)) (jf (bU _)) (qe rfl dB (ae aj ai)) (λ_ _ _ _=>cW (i:=0) ako rfl (aQ rfl) (.inr rfl)) (λ_ _ _ _=>iX) λ_ _ _ _=>eh ai) ai))))))),?_⟩
  refine cF (id hP) λpg dr aa fV k8=>?_;subst aa;have dE:dr.length=ps.length:=Paired.length k8;refine ak _ rfl (cO pg rfl ⟨_,aF.of fV⟩ ?_);refine ig (n:=dr.length) (λi ys H'=>i<=dr.length/\∃ks:List (Addr×Addr×Addr),ys=(ks.map λx=>V.ref x.1)/\ks.length=i/\af H H'/\(∀x∈ks,rK H' x k0)/\∃R,rJ H H' R/\∀j x,ks[j]?=some x->R x.1 (21+8*j)/\R x.2.1 (23+8*j)/\R x.2.2 (25+8*j)) ?_ ?_ ?_ ?_ ?_ ?_ ?_
  ·exact cQ (cY (by exact w8))
  ·exact⟨bU _,⟨[],rfl,rfl,af.refl _,λx hx=>(by cases hx),λ_ _=>False,λm=>⟨⟨λ_=>0,λa v z=>z.elim⟩,λa v z=>z.elim,λa v z=>z.elim,λb z=>z⟩,λj x z=>(by simp at z)⟩⟩
  ·rintro i ys H' ⟨_,ks,rfl,rfl,_⟩;rw[aN];exact aH _
  ·rintro i ys H' hi ⟨_,ks,_,_,s2,_⟩;exact eT _ _ (aF.of (s2 _ _ fV)) (aT hi)
  ·rintro ys H' ⟨_,ks,_,_,s2,_⟩;exact ak _ (aF.of (s2 _ _ fV)) (aH _)
  ·rintro i ys H' hi ⟨_,ks,rfl,rfl,s2,NH,R,oR,rR⟩ z H2 ⟨eH,dn⟩;subst eH;dsimp only[jl,iL];rw[if_pos rfl];refine⟨by show 4<=aZ;decide,λy1 n1=>⟨qc,λy2 n2=>⟨by show 4<=aZ;decide,λy3 n3=>?_⟩⟩⟩;refine aJ (oR.nx (o:=.lst [.int 0,.int 0,.int 0,.int 0]) (23+8*ks.length) n1) λR1 o1 i1 r1=>?_;refine aJ (o1.nx (o:=.lst []) (25+8*ks.length) n2) λR2 o2 i2 r2=>?_;refine aJ (o2.nx (o:=.lst [.int 0,.int 0,.ref y1,.ref y2]) (21+8*ks.length) n3) λR3 o3 i3 r3=>?_;have t1:af H2 (upd H2 y1 (.lst [.int 0,.int 0,.int 0,.int 0])):=aE (af.refl _) n1;have h1:upd H2 y1 (.lst [.int 0,.int 0,.int 0,.int 0]) y1=some (.lst [.int 0,.int 0,.int 0,.int 0]):=aw;generalize upd H2 y1 (.lst [.int 0,.int 0,.int 0,.int 0])=H3 at t1 h1 n2 n3 o1 o2 o3 ⊢;have t2:af H3 (upd H3 y2 (.lst [])):=aE (af.refl _) n2;have h2:upd H3 y2 (.lst []) y2=some (.lst []):=aw;generalize upd H3 y2 (.lst [])=H4 at t2 h2 n3 o2 o3 ⊢;have t3:af H4 (upd H4 y3 (.lst [.int 0,.int 0,.ref y1,.ref y2])):=aE (af.refl _) n3;have h3:upd H4 y3 (.lst [.int 0,.int 0,.ref y1,.ref y2]) y3=some (.lst [.int 0,.int 0,.ref y1,.ref y2]):=aw;generalize upd H4 y3 (.lst [.int 0,.int 0,.ref y1,.ref y2])=H5 at t3 h3 o3 ⊢;have t:=t1.trans (t2.trans t3);refine⟨hi,⟨ks++[(y3,y1,y2)],by rw[iH];rfl,by rw[eI];rfl,s2.trans t,λx hx=>?_,R3,o3,λj x hx=>?_⟩⟩
   ·rcases jx.mp hx with hx | hx
    ·exact(NH x hx).keep (λo e=>t _ _ e) (λo e=>t _ _ e) (λo e=>t _ _ e) λb xs e=>t _ _ e
    ·rw[ip.mp hx];exact⟨h3,t3 _ _ (t2 _ _ h1),[],t3 _ _ h2,.nil⟩
   ·have lift:∀a v,R a v->R3 a v:=λa v z=>i3 _ _ (i2 _ _ (i1 _ _ z));rcases AJ hx with hx | ⟨e1,e2⟩
    ·refine iP (rR j x hx) λa1 a2 a3=>?_;exact cV (lift _ _ a1) (lift _ _ a2) (lift _ _ a3)
    ·subst e1;subst e2;exact cV r3 (i3 _ _ (i2 _ _ r1)) (i3 _ _ r2)
  rintro ys H1 ⟨_,ks,rfl,hkl,s1,NH,R,oR,rR⟩;refine⟨by rw[aN];exact cQ (cY (by exact wu)),λcl WT=>?_⟩;refine aJ (oR.nx (o:=.lst (ks.map λx=>V.ref x.1)) 3 WT) λR1 o1 i1 r1=>?_;have t1:af H1 (upd H1 cl (.lst (ks.map λx=>V.ref x.1))):=aE (af.refl _) WT;have nN:upd H1 cl (.lst (ks.map λx=>V.ref x.1)) cl=some (.lst (ks.map λx=>V.ref x.1)):=aw;generalize upd H1 cl (.lst (ks.map λx=>V.ref x.1))=H2 at t1 nN o1 ⊢;refine vr rfl ⟨qc,(λy ny=>⟨y,12,_,rfl,rfl,aw,qc,qc,qc,λbd Ft=>?_⟩)⟩;have ty:af H2 (upd H2 y (.lst [.int 0])):=aE (af.refl _) ny;refine aJ ((o1.keep ty).nx (o:=.lst ((dH 12 (0:Int)).map V.int)) 5 Ft) λR2 o2 i2 r2=>?_;have t2:af H2 (upd (upd H2 y (.lst [.int 0])) bd (.lst ((dH 12 (0:Int)).map V.int))):=aE ty Ft;have Xu:upd (upd H2 y (.lst [.int 0])) bd (.lst ((dH 12 (0:Int)).map V.int)) bd=some (.lst ((dH 12 (0:Int)).map V.int)):=aw;rw[show (dH (12:Int).toNat [V.int 0]).flatten=(dH 12 (0:Int)).map V.int from rfl];generalize upd (upd H2 y (.lst [.int 0])) bd (.lst ((dH 12 (0:Int)).map V.int))=H3 at t2 Xu o2 ⊢;refine⟨qc,λac B0=>?_⟩;refine aJ (o2.nx (o:=.lst []) 7 B0) λR3 o3 i3 r3=>?_;have t3:af H3 (upd H3 ac (.lst [])):=aE (af.refl _) B0;have fh:upd H3 ac (.lst []) ac=some (.lst []):=aw;generalize upd H3 ac (.lst [])=H4 at t3 fh o3 ⊢;refine pD 12 rfl qc qc ?_;rw[show (12:Int).toNat=12 from rfl];refine ig (n:=12) (λi ys H'=>i<=12/\∃rs:List Addr,ys=rs.map V.ref/\rs.length=i/\af H4 H'/\(∀a∈rs,H' a=some (.lst (([]:List Int).map V.int)))/\∃R,rJ H H' R/\(∀a v,R3 a v->R a v)/\∀(j:Nat) a,rs[j]?=some a->R a (27+8*j)) ?_ ?_ ?_ ?_ ?_ ?_ ?_
  ·exact cQ (cY om)
  ·exact⟨bU _,⟨[],rfl,rfl,af.refl _,λx hx=>(by cases hx),R3,o3,λ_ _ z=>z,λj x z=>(by simp at z)⟩⟩
  ·rintro i ys H' ⟨_,rs,rfl,rfl,_⟩;rw[aN];exact aH _
  ·rintro i ys H' hi ⟨_,rs,_,_,s,_⟩;exact hi
  ·rintro ys H' ⟨_,rs,_,_,s,_⟩;exact aH _
  ·rintro i ys H' hi ⟨_,rs,rfl,rfl,s,xG,R',oR',iR,BY⟩ z gj ⟨eH,dn⟩;subst eH;dsimp only[jl,iL];rw[if_pos rfl];refine⟨qc,λx nx=>?_⟩;refine aJ (oR'.nx (o:=.lst (([]:List Int).map V.int)) (27+8*rs.length) nx) λR4 o4 i4 r4=>?_;have sx:af gj (upd gj x (.lst (([]:List Int).map V.int))):=aE (af.refl _) nx;have hx:upd gj x (.lst (([]:List Int).map V.int)) x=some (.lst (([]:List Int).map V.int)):=aw;refine⟨hi,⟨rs++[x],by rw[iH];rfl,by rw[eI];rfl,s.trans sx,λy hy=>?_,R4,o4,λa v z=>i4 a v (iR a v z),λj y hy=>?_⟩⟩
   ·rcases jx.mp hy with hy | hy
    ·exact sx _ _ (xG y hy)
    ·rw[ip.mp hy];exact hx
   ·rcases AJ hy with hy | ⟨e1,e2⟩
    ·exact i4 _ _ (BY j y hy)
    ·subst e1;subst e2;exact r4
  rintro ys H5 ⟨_,os,rfl,xJ,s5,xI,R5,o5,i5,r5⟩;refine⟨by rw[aN];exact cQ (cY (by exact w6)),λov WG=>⟨by show 4<=aZ;decide,λst sf=>?_⟩⟩;refine aJ (o5.nx (o:=.lst (os.map V.ref)) 9 WG) λR6 o6 i6 r6=>?_;have t6:af H5 (upd H5 ov (.lst (os.map V.ref))):=aE (af.refl _) WG;have ik:upd H5 ov (.lst (os.map V.ref)) ov=some (.lst (os.map V.ref)):=aw;generalize upd H5 ov (.lst (os.map V.ref))=H6 at t6 ik o6 sf ⊢;refine aJ (o6.nx (o:=.lst [.ref cl,.ref bd,.ref ac,.ref ov]) 1 sf) λR7 o7 i7 r7=>?_;have t7:af H6 (upd H6 st (.lst [.ref cl,.ref bd,.ref ac,.ref ov])):=aE (af.refl _) sf;have cD:upd H6 st (.lst [.ref cl,.ref bd,.ref ac,.ref ov]) st=some (.lst [.ref cl,.ref bd,.ref ac,.ref ov]):=aw;generalize upd H6 st (.lst [.ref cl,.ref bd,.ref ac,.ref ov])=H7 at t7 cD o7 ⊢;have n5:=t6.trans t7;have n4:=s5.trans n5;have n3:=t3.trans n4;have n2:=t2.trans n3;have n1:=t1.trans n2;have j5:∀a v,R5 a v->R7 a v:=λa v z=>i7 _ _ (i6 _ _ z);have j3:∀a v,R3 a v->R7 a v:=λa v z=>j5 _ _ (i5 _ _ z);have j2:∀a v,R2 a v->R7 a v:=λa v z=>j3 _ _ (i3 _ _ z);have j1:∀a v,R1 a v->R7 a v:=λa v z=>j2 _ _ (i2 _ _ z);have j0:∀a v,R a v->R7 a v:=λa v z=>j1 _ _ (i1 _ _ z);refine oE ((o7 0).l) λlab iO=>?_
  have M:cI H7 st ⟨cl,bd,ac,ov,ks,os⟩ (qw kd ps):=by
   refine⟨cD,n2 _ _ nN,CY (show ks.length=ps.length by exact wo) λx hx=>(NH x hx).keep (λo e=>n1 _ _ e) (λo e=>n1 _ _ e) (λo e=>n1 _ _ e) λb xs e=>n1 _ _ e,n3 _ _ Xu,⟨[],n4 _ _ fh,.nil⟩,t7 _ _ ik,?_⟩;exact Hv (F:=λa (o:List Int)=>H7 a=some (.lst (o.map V.int))) (y:=[]) xJ λa ha=>n5 _ _ (xI a ha)
  have L:lH lab st ⟨cl,bd,ac,ov,ks,os⟩:=⟨iO _ _ r7,iO _ _ (j1 _ _ r1),iO _ _ (j2 _ _ r2),iO _ _ (j3 _ _ r3),iO _ _ (i7 _ _ r6),λi x z=>iO _ _ (j0 _ _ (rR i x z).1),λi x z=>iO _ _ (j0 _ _ (rR i x z).2.1),λi x z=>iO _ _ (j0 _ _ (rR i x z).2.2),λi a z=>iO _ _ (j5 _ _ (r5 i a z))⟩;refine q H7 st _ lab M L (s1.trans n1) λb hb=>?_;cases hb with
  | s=>exact o7.none r7
  | cl=>exact o7.none (j1 _ _ r1)
  | bd=>exact o7.none (j2 _ _ r2)
  | ac=>exact o7.none (j3 _ _ r3)
  | ov=>exact o7.none (i7 _ _ r6)
  | k1 h=>
   refine oE (uh h) λj hj=>?_;exact o7.none (j0 _ _ (rR j _ hj).1)
  | k2 h=>
   refine oE (uh h) λj hj=>?_;exact o7.none (j0 _ _ (rR j _ hj).2.1)
  | k3 h=>
   refine oE (uh h) λj hj=>?_;exact o7.none (j0 _ _ (rR j _ hj).2.2)
  | os h=>
   refine oE (uh h) λj hj=>?_;exact o7.none (j5 _ _ (r5 j _ hj))
theorem adQ:sH "set" = some (.type "set"):=dk
theorem acX:∀{xs ys:List Int},xs.Pairwise (· < ·)->ys.Pairwise (· < ·)->(∀n,n∈xs↔n∈ys)->xs=ys:=λ{xs ys} hx hy hm=>by
 refine PySem.W.ksm_same ?_ (hx.imp λh=>Hq h) (hy.imp λh=>Hq h);exact(List.perm_ext_iff_of_nodup (hx.imp λh=>Ph h) (hy.imp λh=>Ph h)).mpr hm
theorem acP(es:List Ent):(jk es).Pairwise (· < ·):=by
 unfold jk;refine CK.mpr (OZ.imp (λh=>om) ((YR (n:=12)).sublist List.filter_sublist))
theorem Si{es:List Ent}{i:Nat}:bJ es i≠[]↔∃e∈es,e.n=(i:Int):=by
 unfold bJ;rw[Ne,YT];constructor
 ·intro h;refine YD λz=>h λe he=>?_;have:¬e.n=(i:Int):=λy=>z ⟨e,he,y⟩;simpa using this
 ·rintro⟨e,he,hn⟩ h;exact h e he (by simpa using hn)
theorem Px{tn:Int}{es:List Ent}(w:i9 tn es)(n:Int):n∈jk es↔n∈es.map (·.n):=by
 rw[yx,lV];constructor
 ·rintro⟨i,_,rfl,h⟩;refine ag (Si.mp h) λe he hn=>?_;exact ak e he hn
 ·rintro⟨e,he,rfl⟩;refine oA (w.nm e he) λh0 h1=>?_;exact cO e.n.toNat om xm (Si.mpr ⟨e,he,xm⟩)
theorem aa'{tn:Int}{es:List Ent}{zs:List Int}(w:i9 tn es)(hp:gE zs (nk (es.map (·.n))))(ha:zs.Pairwise (· < ·)):zs=jk es:=
 acX ha (acP es) λn=>by rw[hp.mem_iff,aej,Px w]
theorem akT(us:List V):jC us none (some 1)=us.take 1:=by
 unfold jC;have:HT.cb us.length us.length (some 1)=min 1 us.length:=HT.Se _ _ 1;rw[this,HT.Rf];cases us with
 | nil=>rfl
 | cons u r=>simp
def pairD(e:Ent):PyData:=.tuple [.int e.n,.int e.num]
theorem aa5(es:List Ent):shaped (.list (es.map pairD))=true:=Aw (λe _=>by simp[pairD,nV,qN]) λe _=>by simp[pairD,jM,pZ]
theorem ah2{X:Cx}(P:Program)(w:World)(K:PySem.W.Frag)(hc:X.calm=true)(h1:X.prog=P:=by rfl)(h2:X.w=w:=by rfl)(h3:X.K=K:=by rfl):kc X (.type "set") (Uj P w K):=by subst h1 h2 h3;exact adM hc
theorem af5{X:Cx}(P:Program)(w:World)(hc:X.calm=true)(h1:X.prog=P:=by rfl)(h2:X.w=w:=by rfl):kc X (.builtin "sorted") (Te P w):=by subst h1 h2;exact abv hc
theorem ab7{es:List Ent}{zs:List Int}(hp:gE zs (nk ((es.take 1).map (·.n)))):zs=(es.head?.map (·.n)).toList:=by
 cases es with
 | nil=>exact gE.eq_nil hp
 | cons e es=>exact List.perm_singleton.mp hp
theorem aav{kd:Str}{tn:Int}{es:List Ent}{zs:List Int}(w:i9 tn es)(hp:gE zs (nk (if kd = "row" then (es.take 1).map (·.n) else es.map (·.n))))(ha:zs.Pairwise (· < ·)):zs=gG kd es:=by
 unfold gG
 by_cases h:kd = "row"
 ·rw[if_pos h]at hp ⊢;exact ab7 hp
 ·rw[if_neg h]at hp ⊢;exact aa' w hp ha
theorem acj{sz:Nat}{s:Tl}(g:c7 sz s):nE (.str s.1) [.str "swap",.str "clear"]=kU s:=by
 cases g with
 | put r n _ _=>rw[Rr];show nE (.str "put") _=_;decide +kernel
 | add r n _ _=>rw[Rt];show nE (.str "add") _=_;decide +kernel
 | set r n _ _=>rw[Rq];show nE (.str "set") _=_;decide +kernel
 | look r n _ _=>rw[QH];show nE (.str "look") _=_;decide +kernel
 | swap r n _ _=>rw[HR];show nE (.str "swap") _=_;decide +kernel
 | clear=>rw[PU];show nE (.str "clear") _=_;decide +kernel
 | skip r n _ _ _=>rw[QG];show nE (.str "skip") _=_;decide +kernel
theorem Sn:(["_law_row"]:List Str).Nodup:=dk
theorem aiv:(["_law_clerk","_law_name"]:List Str).Nodup:=dk
theorem AE{H0 H:Hp}{r:Addr}{o:HO}(s:af H0 H)(h:H0 r=none):af H0 (upd H r o):=λb u e=>by
 rw[ar (b8 e h)];exact s b u e
theorem adL(kd:Str)(l:List (Ck×Nat))(x:Ck×Nat):lF kd (l++[x])=lF kd l++wJ kd x:=by
 unfold lF;rw[Ac,Gx,GU,vS]
def Q4:Sp:=λvs H Q _=>∃s B S v n,vs=[.ref s,v,.str S.kd]/\cI H s B S/\iA n S/\n<64/\jj H v S.ps/\(∀k∈S.ck,i9 k.tn k.es)/\
 ∀H' l ws,af H H'->H l=none->H' l=some (.lst ws)->Paired (gg H') ws (gu S)->Q (.ref l) H'
theorem uA:bc zLw zLm (aO AS):=bz
theorem adg{f:Addr}{fd:aV}(F:aW K "_law_moves" "_law_moves" AS f fd)(dY:mg "len" = none)(dB:mg "range" = none)(cD:mg "sorted" = none)(hse:mg "set" = none):ay P w K mg base az 1 f fd zLm Q4:=by
 refine F.ok uA (λvs H Q E h=>?_) λaI A outer s0 H vs Q E hr h=>?_
 ·refine sQ h λs B S v n aa _=>?_;subst aa;rfl
 ·obtain⟨s,B,S,v,n,aa,M,W,hn,hP,B8,q⟩:=h;subst aa;have hu:=hr.units;refine cF (id hP) λpg dr aa fV k8=>?_;subst aa;have dE:dr.length=S.ck.length:=by rw[Paired.length k8];exact W.wf.len.symm
  have h4:=W.wf.four;have F8:=rh
  obtain⟨t2,p2,u2⟩:∃t2,eD (lE az P w K mg base zLw "_law_moves" (aO AS) f aI A outer s0 H E).pO ((gr AS).drop 2) t2/\∀(D:Ends) (L0:Addr) (c0 y1 y2:Option V) (H1:Hp) (ys:List V),(∀v H',Q v H'->D.rt v H')->af H H1->H L0=none->H1 L0=some (.lst ys)->Paired (gg H1) ys (kg S S.ck.length)->t2 D [some (.ref s),some (.ref pg),some (.str S.kd),some (.ref L0),c0,y1,y2] H1:=by
   refine⟨_,aA (pB p0 rfl (qe rfl dB (ae (cj fv rfl dY PySem.boot_len (ae (pv 1) ai)) ai)) (cW (i:=4) uA.nd rfl (Bg rfl)) (aA (Df (i:=6) (N:=["_law_row"]) (idx:=[]) uA.nd rfl rfl rfl (eC.of (by kernel_rfl)) (jf (bU _)) (uH (ax aP (ax aP (ax aP (pv 0) aj) (pv 4)) aj)) (λ_ _ _ _=>cW (i:=0) Sn rfl (aQ rfl) (.inr rfl)) (λ_ _ _ _=>iX) λ_ _ _ _=>ax (K0 K) (pv 0) aj)
    (aA (bZ (bq dm (pv 2) cA (br _)) (aB (cy (i:=6) uA.nd rfl (aQ rfl) (yA RX (pv 6) yI (yH aj)))) cu) (eD.zh (t':=λD σ H1=>∃(i:Nat) (k:Ck) (L nl:Addr) (ys:List V) (y:Option V),σ=[some (.ref s),some (.ref pg),some (.str S.kd),some (.ref L),some (.int (0+(i:Int))),y,some (.ref nl)]/\S.ck[i]?=some k/\af H H1/\H L=none/\H1 L=some (.lst ys)/\Paired (gg H1) ys (kg S S.ck.length++lF S.kd (S.ck.zipIdx.take i))/\
      H1 nl=some (.lst ((if S.kd = "row" then (k.es.take 1).map (·.n) else k.es.map (·.n)).map V.int))/\
      ∀H' L' oQ w1 w2 w3,af H H'->H L'=none->H' L'=some (.lst oQ)->Paired (gg H') oQ (kg S S.ck.length++lF S.kd (S.ck.zipIdx.take (i+1)))->D.nx [some (.ref s),some (.ref pg),some (.str S.kd),some (.ref L'),w1,w2,w3] H')
     (aB (cy (i:=3) uA.nd rfl (aQ rfl) (a6 Bc (pv 3) (ji (N:=["_law_clerk","_law_name"]) (idx:=[4]) rfl (eC.of (by kernel_rfl)) (jf (aH _)) (uH (cj (af5 P w rfl) rfl cD boot_sorted (ae (qX (ah2 P w K rfl) rfl hse adQ (ae (pv 6) ai)) ai)))
      (λ_ _ _ _=>cW (i:=1) aiv rfl (aQ rfl) (.inr rfl)) (λ_ _ _ _=>iX) λ_ _ _ _=>fG (ae cA (ae (pv 0) (ae (pv 1) ai))))))) ?tl))))
   (aB (a7 (pv 3))),?_⟩
   case tl=>
    rintro D σ H1 ⟨i,k,L,nl,ys,y,rfl,hk,s1,nL,hL,lJ,zI,q⟩;have hwk:=B8 k (bb hk);have zP:=W.wf.es k (bb hk);have fh:=W.ac
    have ape:(if S.kd = "row" then (k.es.take 1).map (·.n) else k.es.map (·.n)).length<=k.es.length:=by
     split
     ·rw[aN,gU];omega
     ·rw[aN];exact aH _
    refine vr rfl (vr rfl ⟨nl,⟨_,rfl,aq.of zI,om,λb nb=>⟨b,_,rfl,aw,?_,λl zs Nb hp ha=>?_⟩⟩⟩)
    ·have:=aek (if S.kd = "row" then (k.es.take 1).map (·.n) else k.es.map (·.n));omega
    have ez:=aav hwk hp ha;have amO:=Hz S.kd k.es;rw[<-ez]at amO;have s2:af H1 (upd (upd H1 b (wR P w b (nk (if S.kd = "row" then (k.es.take 1).map (·.n) else k.es.map (·.n))))) l (.lst (zs.map V.int))):=aE (aE (af.refl _) nb) Nb;have hl:upd (upd H1 b (wR P w b (nk (if S.kd = "row" then (k.es.take 1).map (·.n) else k.es.map (·.n))))) l (.lst (zs.map V.int)) l=some (.lst (zs.map V.int)):=aw;generalize upd (upd H1 b (wR P w b (nk (if S.kd = "row" then (k.es.take 1).map (·.n) else k.es.map (·.n))))) l (.lst (zs.map V.int))=H2 at s2 hl ⊢;refine cO l rfl ⟨_,aq.of hl⟩ ?_;refine ig (n:=zs.length) (λj ws H'=>j<=zs.length/\af H2 H'/\Paired (gg H') ws ((zs.take j).map λz=>(("carry" : Str),[(i:Int),z]))) ?_ ?_ ?_ ?_ ?_ ?_ ?_
    ·exact cQ (cY w4)
    ·exact cV (bU _) (af.refl _) .nil
    ·rintro j ws H' ⟨_,_,e⟩;rw[Paired.length e,aN,gU];exact xl
    ·rintro j ws H' hj ⟨_,s3,_⟩;exact eT _ _ (aq.of (s3 _ _ hl)) (aT (by rw[aN];exact hj))
    ·rintro ws H' ⟨_,s3,_⟩;exact ak _ (aq.of (s3 _ _ hl)) (by rw[aN];exact aH _)
    ·rintro j ws H' hj ⟨_,s3,e⟩ z gj ⟨eH,dn⟩;subst eH;have hz:=dn _ (aq.of (s3 _ _ hl));rw[gC,aT hj]at hz;have hz':z=V.int zs[j]:=(gn hz).symm;subst hz';dsimp only[jl,iL];rw[if_pos rfl];refine ak _ rfl (vr rfl ⟨by show 3<=aZ;decide,(λtp ht=>⟨hj,s3.trans (aE (af.refl _) ht),?_⟩)⟩);rw[ku,aT hj,iH];refine nZ (Paired.b9 e λ_ _ q=>q.keep λb xs e=>aE (af.refl _) ht _ _ e) (ak tp rfl ?_);rw[aw];show some (HO.tup [.str "carry",V.int (0+(i:Int)),V.int zs[j]])=_;rw[qU];rfl
    rintro ws H3 ⟨_,s3,e⟩;rw[jK (aH _)]at e;have ja:=Paired.length e;rw[aN]at ja;refine⟨cQ (cY om),λr nr=>?_⟩;have r9:=s2.trans s3;have zF:=Paired.length lJ;rw[eI]at zF;have hd:=Dx S S.ck.length;have h4:=W.wf.four;have cl:=DB S.kd (S.ck.zipIdx.take i);have cl2:(S.ck.zipIdx.take i).length<=4:=by rw[gU,Gu];omega
    have s4:af H3 (upd H3 r (.lst ws)):=aE (af.refl _) nr;refine je L r ys ws rfl rfl (s4 _ _ (r9 _ _ hL)) aw (by rw[iq];omega) λp np=>?_;have s5:=aE (o:=.lst (ys++ws)) s4 np
    have et:S.ck.zipIdx.take (i+1)=S.ck.zipIdx.take i++[(k,i)]:=by
     rw[ku,Y2,hk];simp
    refine q _ p (ys++ws) _ _ _ (s1.trans (r9.trans s5)) ((s1.trans (r9.trans s4)).free np) aw ?_;rw[et,adL,<-OE];refine C7 ?_ (Paired.b9 lJ λ_ _ q=>q.keep λb xs e=>(r9.trans s5) _ _ e);unfold wJ;rw[<-ez];exact Paired.b9 e λ_ _ q=>q.keep λb xs e=>s5 _ _ e
   intro D L0 c0 y1 y2 H1 ys hQ s1 xB hL lJ;refine vr rfl ⟨pg,⟨_,rfl,.inr (aF.of (s1 _ _ fV)),_,rfl,om,om,?_⟩⟩;rw[show ((dr.length:Int)).toNat=dr.length by omega];refine uy (n:=dr.length) (λi σ H'=>i<=dr.length/\∃L ys c y1 y2,σ=[some (.ref s),some (.ref pg),some (.str S.kd),some (.ref L),c,y1,y2]/\af H H'/\H L=none/\H' L=some (.lst ys)/\Paired (gg H') ys (kg S S.ck.length++lF S.kd (S.ck.zipIdx.take i))) ⟨bU _,L0,ys,_,_,_,rfl,s1,xB,hL,by rw[List.take_zero];unfold lF;rw[GU,vS];exact lJ⟩ ?_ ?_
   ·rintro i σ H2 hi ⟨_,L,BO,c1,z1,z2,rfl,s2,nL,iE,EG⟩;have hk:S.ck[i]?=some (S.ck[i]'wf):=aT wf;generalize S.ck[i]'wf=k at hk;have M2:=M.same s2;refine ag (M2.oz hk) λx hx C=>?_;refine ag C.es λws hw eE=>?_;have hlen:=Paired.length eE;have zP:=W.wf.es k (bb hk);have fh:=W.ac;have e0:(0+(i:Int))=(i:Int):=qU _;refine fb (j:=0) rfl M2.st rfl (vr rfl (rL (v:=.ref x.1) (aq.of M2.cl) (by rw[e0];exact di hx) (vo (v:=.ref x.2.2) (j:=3) C.st rfl (cO x.2.2 rfl ⟨_,aq.of hw⟩ ?_))));refine ig (n:=ws.length) (λj zs H'=>j<=ws.length/\H'=H2/\zs=((k.es.take j).map (·.n)).map V.int) ?_ ?_ ?_ ?_ ?_ ?_ ?_
    ·exact cQ (cY om)
    ·exact cV (bU _) rfl rfl
    ·rintro j zs H' ⟨_,_,e⟩;rw[e,aN,aN,gU];exact xl
    ·rintro j zs H' hj ⟨_,rfl,_⟩;exact eT _ _ (aq.of hw) (aT hj)
    ·rintro zs H' ⟨_,rfl,_⟩;exact ak _ (aq.of hw) (aH _)
    ·rintro j zs H' hj ⟨_,rfl,e⟩ z gj ⟨eH,dn⟩;subst eH;have hz:=dn _ (aq.of hw);refine ag (pj eE hz) λen pV aa=>?_;refine ag aa λp aa hp=>?_;subst aa;dsimp only[jl,iL];rw[if_pos rfl];refine cG (v:=.int en.n) (j:=0) rfl hp rfl (cV hj rfl ?_);rw[ku,pV,e];simp
    rintro zs H' ⟨_,xZ,e⟩;subst xZ;rw[jK om]at e;refine⟨by rw[e,aN,aN];exact cQ (cY om),λnl nnl=>?_⟩;have s3:af H' (upd H' nl (.lst zs)):=aE (af.refl _) nnl;have zI:upd H' nl (.lst zs) nl=some (.lst zs):=aw;generalize upd H' nl (.lst zs)=H3 at s3 zI ⊢;have fin:∀H4,af H3 H4->Paired (gg H4) BO (kg S S.ck.length++lF S.kd (S.ck.zipIdx.take i)):=λH4 s4=>Paired.b9 EG λ_ _ q=>q.keep λb xs e=>s4 _ _ (s3 _ _ e);refine ak _ rfl ⟨rfl,⟨_,rfl,bG (λhd=>?_) λhd=>?_⟩⟩
    ·have jI:S.kd = "row":=va hd;refine vr rfl (ak 1 rfl (eL nl zs rfl (aq.of zI) λp np=>?_));have s4:af H3 (upd H3 p (.lst (jC zs none (some 1)))):=aE (af.refl _) np;have FP:upd H3 p (.lst (jC zs none (some 1))) p=some (.lst (jC zs none (some 1))):=aw;generalize upd H3 p (.lst (jC zs none (some 1)))=H4 at s4 FP ⊢;refine yY i k L p BO (HU _ rfl hk (s2.trans (s3.trans s4)) nL (s4 _ _ (s3 _ _ iE)) (fin H4 s4) ?_ λH5 L5 MX w1 w2 w3 a5 b5 c5 d5=>⟨hi,⟨L5,MX,w1,w2,w3,rfl,a5,b5,c5,d5⟩⟩);rw[FP,akT,e,if_pos jI,<-List.map_take,<-List.map_take]
    ·have jI:¬S.kd = "row":=λz=>hd (by rw[z]);refine yY i k L nl BO (HU _ rfl hk (s2.trans s3) nL (s3 _ _ iE) (fin H3 (af.refl _)) ?_ λH5 L5 MX w1 w2 w3 a5 b5 c5 d5=>⟨hi,⟨L5,MX,w1,w2,w3,rfl,a5,b5,c5,d5⟩⟩);rw[zI,e,if_neg jI]
   ·rintro σ H2 ⟨_,L,BO,c1,z1,z2,rfl,s2,nL,iE,EG⟩;rw[jK (by rw[Gu];omega)]at EG;exact vr rfl (hQ _ _ (q H2 L BO s2 nL iE EG))
  refine⟨_,aA (cy (i:=3) uA.nd rfl (aQ rfl) (eh ai)) (aA (pB p0 rfl (qe rfl dB (ae (cj fv rfl dY PySem.boot_len (ae (pv 1) ai)) ai)) (cW (i:=4) uA.nd rfl (Bg rfl)) (aA (cy (i:=5) uA.nd rfl (aQ rfl) (ax aP (ax aP (ax aP (pv 0) aj) (pv 4)) aj)) (aB (bZ (bq y' (pv 5) (cj fv rfl dY PySem.boot_len (ae (ax a8 (pv 1) (pv 4)) ai)) (br _)) (aB (bZ (PW.pt (pw_or (bq (Rk hu) (ax aP (ax aP (ax aP (pv 0) aj) (pv 4)) aj) (eh ai) (br _)) (pw_or1 (bq Hn (ax a8 (ax a8 (ax a8 (pv 1) (pv 4)) (pv 5)) aj) (eh (ae cA (ae cA ai))) rfl)))) (eD.zh (t':=λD σ H2=>∃(i:Nat) (L:Addr) (ys:List V) (y5 y6:Option V),σ=[some (.ref s),some (.ref pg),some (.str S.kd),some (.ref L),some (.int (0+(i:Int))),y5,y6]/\H2 L=some (.lst ys)/\ys.length<=100/\∀tp,H2 tp=none->D.nx σ (upd (upd H2 tp (.tup (fo ("do",[(i:Int)])))) L (.lst (ys++[.ref tp])))) (aB (cZ (iY PySem.F.plainAttrs_list PySem.F.slot_list_append PySem.F.type_list_append ky (pv 3) (ae (fG (ae cA (ae (pv 4) ai))) ai)))) ?ap) cu)) cu))))
   p2),?_⟩
  case ap=>
   rintro D σ H2 ⟨i,L,ys,y5,y6,rfl,hL,hl,q⟩;refine vr rfl ⟨.inl ⟨rfl,_,aq.of hL⟩,(vr rfl ⟨by show 2<=aZ;decide,(λtp ht=>⟨L,ys,.ref tp,rfl,rfl,?_,?_,?_⟩)⟩)⟩
   ·rw[ar (b8 hL ht)];exact hL
   ·rw[iq];exact wb
   ·have q:=q tp ht;unfold fo at q;rw[show (V.int (0+(i:Int)))=V.int (i:Int) by rw[qU]]at q ⊢;exact q
  refine⟨qc,λL0 xB=>?_⟩;have s0:af H (upd H L0 (.lst [])):=aE (af.refl _) xB;have XF:upd H L0 (.lst []) L0=some (.lst []):=aw;generalize upd H L0 (.lst [])=H0 at s0 XF ⊢;refine vr rfl ⟨pg,⟨_,rfl,.inr (aF.of (s0 _ _ fV)),_,rfl,om,om,?_⟩⟩;rw[show ((dr.length:Int)).toNat=dr.length by omega];refine uy (n:=dr.length) (λi σ H'=>i<=dr.length/\(∃c y1 y2,σ=[some (.ref s),some (.ref pg),some (.str S.kd),some (.ref L0),c,y1,y2])/\af H H'/\∃ys,H' L0=some (.lst ys)/\Paired (gg H') ys (kg S i)) ⟨bU _,⟨none,none,none,rfl⟩,s0,[],XF,.nil⟩ ?_ ?_
  ·rintro i σ H1 hi ⟨_,⟨c0,y1,y2,rfl⟩,s1,ys,hL,lJ⟩;have hk:S.ck[i]?=some (S.ck[i]'wf):=aT wf;refine dJ (W.wf.part hk) λpt pU apc am7 am6=>?_;have gL:=AX hk pU;generalize S.ck[i]'wf=k at hk am7 gL;have M1:=M.same s1;refine ag (M1.oz hk) λx hx C=>?_;refine ag C.es λws hw eE=>?_;refine ag (lj k8 pU) λpv' FL aa=>?_;refine cF aa λpa us aa FN ko=>?_;subst aa;have B9:=Paired.length ko;have zF:=Paired.length lJ;have NP:=Dx S i;have e0:(0+(i:Int))=(i:Int):=qU _
   have no:oB S i=false->∀H2,af H1 H2->∀c y1 y2,(i+1<=dr.length/\(∃c' MZ MY,([some (.ref s),some (.ref pg),some (.str S.kd),some (.ref L0),c,y1,y2]:L2.St)=[some (.ref s),some (.ref pg),some (.str S.kd),some (.ref L0),c',MZ,MY])/\af H H2/\∃ys,H2 L0=some (.lst ys)/\Paired (gg H2) ys (kg S (i+1))):=λhm H2 s2 c y1 y2=>by
    refine ke hi ⟨c,y1,y2,rfl⟩ (s1.trans s2) (ak ys (s2 _ _ hL) ?_);rw[Ib,hm,if_neg dG,vS];exact Paired.b9 lJ λ_ _ q=>q.keep λb xs e=>s2 _ _ e
   have yes:oB S i=true->∀H2,af H1 H2->∀tp,H2 tp=none->∀c y1 y2,(i+1<=dr.length/\(∃c' MZ MY,([some (.ref s),some (.ref pg),some (.str S.kd),some (.ref L0),c,y1,y2]:L2.St)=[some (.ref s),some (.ref pg),some (.str S.kd),some (.ref L0),c',MZ,MY])/\af H (upd (upd H2 tp (.tup (fo ("do",[(i:Int)])))) L0 (.lst (ys++[.ref tp])))/\∃oQ,upd (upd H2 tp (.tup (fo ("do",[(i:Int)])))) L0 (.lst (ys++[.ref tp])) L0=some (.lst oQ)/\Paired (gg (upd (upd H2 tp (.tup (fo ("do",[(i:Int)])))) L0 (.lst (ys++[.ref tp])))) oQ (kg S (i+1))):=λhm H2 s2 tp ht c y1 y2=>by
    have s3:af H2 (upd H2 tp (.tup (fo ("do",[(i:Int)])))):=aE (af.refl _) ht;have qK:=s3 _ _ (s2 _ _ hL);have kt:∀b xs,upd H2 tp (.tup (fo ("do",[(i:Int)]))) b=some (.tup xs)->upd (upd H2 tp (.tup (fo ("do",[(i:Int)])))) L0 (.lst (ys++[.ref tp])) b=some (.tup xs):=mZ qK;refine ke hi ⟨c,y1,y2,rfl⟩ (AE (s1.trans (s2.trans s3)) xB) (ak _ aw ?_);rw[Ib,hm,if_pos rfl];exact nZ (Paired.b9 lJ λ_ _ q=>q.keep λb xs e=>kt _ _ (s3 _ _ (s2 _ _ e))) (ak tp rfl (kt _ _ aw))
   refine fb (j:=0) rfl M1.st rfl (vr rfl (rL (v:=.ref x.1) (aq.of M1.cl) (by rw[e0];exact di hx) (vo (j:=0) C.st rfl ?_)));refine ak _ rfl (ak _ rfl (vr rfl (rT (v:=.ref pa) (aF.of (s1 _ _ fV)) (by rw[e0];exact cR FL) ⟨pa,us,rfl,.inr (aF.of (s1 _ _ FN)),_,_,rfl,rfl,_,rfl,bG (λde=>?_) λoZ=>?_⟩)))
   ·have hlt':k.pl<pt.length:=om;have zr:pt[k.pl]?=some (pt[k.pl]'hlt'):=aT hlt';refine ag (lj ko zr) λuv Nw aa=>?_;refine ag aa λp aa hp=>?_;subst aa;have g:=am6 _ (bb zr);have em:oB S i=(decide (k.es=[]) || !kU (pt[k.pl]'hlt')):=by rw[gL];unfold nB;rw[zr]
    generalize pt[k.pl]'hlt'=st at zr hp g em;refine fb (j:=0) rfl M1.st rfl (vr rfl (rL (v:=.ref x.1) (aq.of M1.cl) (by rw[e0];exact di hx) (vo (v:=.ref x.2.2) (j:=3) C.st rfl ⟨qc,(λl nl=>?_)⟩)));have s2:af H1 (upd H1 l (.lst [])):=aE (af.refl _) nl;have hl:upd H1 l (.lst []) l=some (.lst []):=aw;generalize upd H1 l (.lst [])=H2 at s2 hl ⊢;refine kE x.2.2 l ws rfl rfl (s2 _ _ hw) hl (tk (bG (λhe=>?_) λhe=>?_))
    ·subst he;have ek:k.es=[]:=nU.mp (by rw[<-Paired.length eE];rfl);rw[decide_eq_true ek,Bool.true_or]at em;exact iZ (dA i L0 ys _ (pD _ rfl (s2 _ _ hL) om λtp ht=>yes em H2 s2 tp ht _ _ _))
    ·have ek:¬k.es=[]:=λz=>he (nU.mp (by rw[Paired.length eE,z];rfl));rw[decide_eq_false ek,Bool.false_or]at em;refine vr rfl (vr rfl (rT (v:=.ref pa) (aF.of (s2 _ _ (s1 _ _ fV))) (by rw[e0];exact cR FL) (vr rfl (rT (v:=.ref p) (aF.of (s2 _ _ (s1 _ _ FN))) (cR Nw) (cT (v:=.str st.1) (aF.of (s2 _ _ (s1 _ _ hp))) (cR (j:=0) rfl) ⟨by show 2<=aZ;decide,(λl2 nl2=>?_)⟩)))));have s3:af H2 (upd H2 l2 (.lst [.str "swap",.str "clear"])):=aE (af.refl _) nl2;have jH:upd H2 l2 (.lst [.str "swap",.str "clear"]) l2=some (.lst [.str "swap",.str "clear"]):=aw;generalize upd H2 l2 (.lst [.str "swap",.str "clear"])=H3 at s3 jH ⊢;refine⟨l2,⟨_,rfl,.inl (aq.of jH),rfl,rfl,_,rfl,?_⟩⟩;rw[if_pos rfl,acj g];cases Xn:kU st with
     | true=>
      rw[Xn]at em;exact eY (no em H3 (s2.trans s3) _ _ _)
     | false=>
      rw[Xn]at em;exact iZ (dA i L0 ys _ (pD _ rfl (s3 _ _ (s2 _ _ hL)) om λtp ht=>yes em H3 (s2.trans s3) tp ht _ _ _))
   ·have hm:oB S i=false:=by
     rw[gL];unfold nB;rw[CG om]
    exact no hm H1 (af.refl _) _ _ _
  rintro σ H1 ⟨_,⟨c0,y1,y2,rfl⟩,s1,ys,hL,lJ⟩;rw[dE]at lJ;exact u2 _ L0 c0 y1 y2 H1 ys (λ_ _ z=>z) s1 xB hL lJ
def oD:Option Int->PyData
 | none=>.none
 | some i=>.int i
def By(a:Act):PyData:=.tuple [.str a.k,.int (a.c:Nat),.int (a.n:Nat),oD a.got,oD a.gave,oD a.seen]
def rO(S:Mc):Prop:=∀a∈S.ac,iV a.k=true
theorem J0{K:PySem.W.Frag}{H:Hp}(o:Option Int):gy K H (oV o) (oD o):=by
 cases o with
 | none=>exact .aD
 | some i=>exact .int i
theorem SJ{K:PySem.W.Frag}{H:Hp}{v:V}{a:Act}(h:tu H v a):gy K H v (By a):=by
 obtain⟨p,rfl,h⟩:=h;exact .tup (aF.of h) (.cons (.str _) (.cons (.int _) (.cons (.int _) (.cons (J0 _) (.cons (J0 _) (.cons (J0 _) .nil))))))
theorem yV(o:Option Int):(oD o).canLay0=true/\(oD o).depth<=1:=by cases o <;> exact⟨rfl,by simp[oD,jM]⟩
theorem abX{l:List Act}(h:∀a∈l,iV a.k=true):shaped (.list (l.map By))=true:=by
 refine Aw (λa ha=>?_) λa ha=>?_
 ·unfold By;simp only[nV,qN];rw[h a ha,(yV a.got).1,(yV a.gave).1,(yV a.seen).1];rfl
 ·unfold By;have h1:=(yV a.got).2;have h2:=(yV a.gave).2;have h3:=(yV a.seen).2;simp only[jM,pZ];omega
theorem Po(l:List Int):shaped (.list (l.map mU))=true:=Aw (λa _=>rfl) λa _=>by simp[jM]
theorem abc(l:List (List Int)):shaped (.list (l.map λo=>Pw (o.map mU)))=true:=by
 refine Aw (λa _=>?_) λa _=>?_
 ·simp only[nV];exact vZ λa _=>rfl
 ·have h:=uz (f:=mU) (k:=1) (l:=a) (λa _=>by simp[jM]);simp only[jM];exact wb
theorem yC{K:PySem.W.Frag}{H:Hp}{a:Addr}{l:List Int}(h:H a=some (.lst (l.map V.int))):gy K H (.ref a) (.list (l.map mU)):=.lst (aq.of h) (HB l)
theorem Ri{K:PySem.W.Frag}{H:Hp}{v:V}{e:Ent}(h:uQ H v e):gy K H v (pairD e):=by
 obtain⟨p,rfl,h⟩:=h;exact .tup (aF.of h) (.cons (.int _) (.cons (.int _) .nil))
theorem amm(e:Ent):jC [V.int e.n,V.int e.num,V.int e.d] none (some 2)=[.int e.n,.int e.num]:=rfl
theorem uQ.same{H H':Hp}{v:V}{e:Ent}(s:af H H')(h:uQ H v e):uQ H' v e:=by
 refine ag h λp e h=>?_;exact ak p e (s _ _ h)
theorem P8{K:PySem.W.Frag}{H:Hp}:∀{as:List Addr} {l:List (List Int)},Paired (λa (o:List Int)=>H a=some (.lst (o.map V.int))) as l->kX K H (as.map V.ref) (l.map λo=>Pw (o.map mU))
 | _,_,.nil=>.nil
 | _,_,.cons h t=>.cons (yC h) (P8 t)
theorem akj:¬(HT.cb 3 0 none=0/\HT.cb 3 3 (some 2)=3):=qc
theorem aiu:(["_law_machine","_law_name"]:List Str).Nodup:=dk
section
variable{t:bg}{C CT:Addr}
structure Tells(P:Program)(w:World)(K:PySem.W.Frag)(mg:Str->Option Value)(base:Heap)(t:bg)(C CT:Addr)(f1 f2 f3 f4 f5 f6 f7:Addr)(d1 d2 d3 d4 d5 d6 d7:aV):Prop where
 cM:ib K C
 g1:ay P w K mg base az 1 f1 d1 ["self","clerk"] (DI t C CT Ck.pl)
 b1:Binds K d1 ["self","clerk"] []
 m1:Meth K C "where" f1
 g2:ay P w K mg base az 1 f2 d2 ["self","clerk"] (DI t C CT Ck.ct)
 b2:Binds K d2 ["self","clerk"] []
 m2:Meth K C "steps_done" f2
 g3:ay P w K mg base az 1 f3 d3 ["self","clerk"] (SW t C CT)
 b3:Binds K d3 ["self","clerk"] []
 m3:Meth K C "registers" f3
 g4:ay P w K mg base az 2 f4 d4 ["self","clerk"] (Qj t C CT)
 b4:Binds K d4 ["self","clerk"] []
 m4:Meth K C "waiting" f4
 g5:ay P w K mg base az 1 f5 d5 ["self"] (RW t C CT)
 b5:Binds K d5 ["self"] []
 m5:Meth K C "board" f5
 g6:ay P w K mg base az 1 f6 d6 ["self"] (RV t C CT)
 b6:Binds K d6 ["self"] []
 m6:Meth K C "deeds" f6
 g7:ay P w K mg base az 1 f7 d7 ["self","name"] (SX t C CT)
 b7:Binds K d7 ["self","name"] []
 m7:Meth K C "over" f7
def S3(t:bg)(C CT:Addr):Sp:=λvs H Q _=>∃m A s B S v n,vs=[.ref m,.ref s,v]/\a9 t C CT H m A S/\cI H s B S/\iA n S/\n<64/\rO S/\jj H v S.ps/\∀H',af H H'->Q (.bl true) H'
theorem JJ:bc ["_law_machine","_law_stand","_law_program_here","_law_clerk","_law_state"] zLl (aO KC):=bz
theorem agH{f f1 f2 f3 f4 f5 f6 f7:Addr}{fd d1 d2 d3 d4 d5 d6 d7:aV}(F:aW K "_law_like" "_law_like" KC f fd)(dY:mg "len" = none)(dB:mg "range" = none)(T:Tells P w K mg base t C CT f1 f2 f3 f4 f5 f6 f7 d1 d2 d3 d4 d5 d6 d7):ay P w K mg base az 3 f fd zLl (S3 t C CT):=by
 refine F.ok JJ (λvs H Q E h=>?_) λaI A outer s H vs Q E hr h=>?_
 ·refine AF h λm A s B S v n aa _=>?_;subst aa;rfl
 ·obtain⟨m,A,s,B,S,v,n,aa,M,N,W,hn,hao,hP,q⟩:=h;subst aa;have hu:=hr.units;have eG:=hr.mono (show 1<=2 by decide)
  refine⟨_,aA (pB p0 rfl (qe rfl dB (ae (cj fv rfl dY PySem.boot_len (ae (pv 2) ai)) ai)) (cW (i:=3) JJ.nd rfl (aQ rfl)) (aA (cy (i:=4) JJ.nd rfl (aQ rfl) (ax aP (ax aP (pv 1) aj) (pv 3))) (aA (bZ (PW.pt (pw_or (bq Bj (gX (pv 0) T.cM.cl T.m1 T.g1 eG T.b1 .nil aS (ae (pv 3) ai)) (ax aP (pv 4) aj) (br _)) (pw_or1 (bq Bj (gX (pv 0) T.cM.cl T.m2 T.g2 eG T.b2 .nil aS (ae (pv 3) ai)) (ax aP (pv 4) aj) (br _))))) (aB (a7 kQ)) cu) (aB (bZ (PW.pt (pw_or (bq (wB hu) (gX (pv 0) T.cM.cl T.m3 T.g3 eG T.b3 .nil aS (ae (pv 3) ai)) (ax aP (pv 4) aj) (br _)) (pw_or1 (bq (wB hu) (gX (pv 0) T.cM.cl T.m4 T.g4 hr T.b4 .nil aS (ae (pv 3) ai)) (ji (N:=["_law_row"]) (idx:=[]) rfl (eC.of (by kernel_rfl)) (jf (bU _)) (uH (ax aP (pv 4) aj)) (λ_ _ _ _=>cW (i:=0) Sn rfl (aQ rfl) (.inr rfl)) (λ_ _ _ _=>iX) λ_ _ _ _=>yA (Ue K) (pv 0) yI (yH aj)) (br _))))) (aB (a7 kQ)) cu)))))
   (aA (bZ (PW.pt (pw_or (bq (wB hu) (mV (pv 0) T.cM.cl T.m5 T.g5 eG T.b5 .nil aS) (ax aP (pv 1) aj) (br _)) (pw_or1 (bq (wB hu) (mV (pv 0) T.cM.cl T.m6 T.g6 eG T.b6 .nil aS) (ax aP (pv 1) aj) (br _))))) (aB (a7 kQ)) cu) (aB (a7 (AW (Tj hu) (ji (N:=["_law_machine","_law_name"]) (idx:=[0]) rfl (eC.of (by kernel_rfl)) (jf (aH _)) (qe rfl dB (ae aj ai)) (λ_ _ _ _=>cW (i:=1) aiu rfl (aQ rfl) (.inr rfl)) (λ_ _ _ _=>iX) λ_ _ _ _=>gX (pv 0) T.cM.cl T.m7 T.g7 eG T.b7 .nil aS (ae (pv 1) ai)) (ax aP (pv 1) aj) (br _))))),?_⟩
  refine cF (id hP) λpg dr aa fV k8=>?_;subst aa;have dE:dr.length=S.ck.length:=by rw[Paired.length k8];exact W.wf.len.symm
  have h4:=W.wf.four;have F8:=rh;refine bf (id M.obj) λdx fs hm G=>?_;refine vr rfl ⟨pg,⟨_,rfl,.inr (aF.of fV),_,rfl,om,om,?_⟩⟩;rw[show ((dr.length:Int)).toNat=dr.length by omega];refine uy (n:=dr.length) (λi σ H'=>i<=dr.length/\(∃c y1,σ=[some (.ref m),some (.ref s),some (.ref pg),c,y1])/\af H H') ⟨bU _,⟨none,none,rfl⟩,af.refl _⟩ ?_ ?_
  ·rintro i σ H1 hi ⟨_,⟨c0,y1,rfl⟩,s1⟩;have hk:S.ck[i]?=some (S.ck[i]'wf):=aT wf;generalize S.ck[i]'wf=k at hk;have M1:=M.same s1;have N1:=N.same s1;have nM:=s1 _ _ hm;refine ag (N1.oz hk) λx hx D=>?_;refine ag D.es λws hw eE=>?_;have hlen:=Paired.length eE;have zP:=W.wf.es k (bb hk);have fh:=W.ac;have e0:(0+(i:Int))=(i:Int):=qU _;refine fb (j:=0) rfl N1.st rfl (vr rfl (rL (v:=.ref x.1) (aq.of N1.cl) (by rw[e0];exact di hx) ?_));refine vM rfl nM (G.ms _ dk) (vr rfl (yy m A S i k (by rw[e0];rfl) M1 hk ⟨_,rfl,x.1,_,_,_,rfl,rfl,aq.of D.st,cR (j:=0) rfl,rfl,_,rfl,uU (λz=>absurd rfl z) λ_=>?_⟩));refine vM rfl nM (G.ms _ dk) (vr rfl (yy m A S i k (by rw[e0];rfl) M1 hk ⟨_,rfl,x.1,_,_,_,rfl,rfl,aq.of D.st,cR (j:=1) rfl,rfl,_,rfl,uU (λz=>absurd rfl z) λ_=>?_⟩));refine vM rfl nM (G.ms _ dk) (vr rfl (yy m A S i k (by rw[e0];rfl) M1 hk λl nl=>?_));have s2:af H1 (upd H1 l (.lst (k.rg.map V.int))):=aE (af.refl _) nl;have hl:upd H1 l (.lst (k.rg.map V.int)) l=some (.lst (k.rg.map V.int)):=aw;generalize upd H1 l (.lst (k.rg.map V.int))=H2 at s2 hl ⊢;refine fb (v:=.ref x.2.1) (j:=2) rfl ((s2 _ _ D.st)) rfl ?_;refine yB (yC hl) (yC (s2 _ _ D.rg)) (Po _) (ak _ rfl (eY ?_));refine vM rfl (s2 _ _ nM) (G.ms _ dk) (vr rfl (Hy m A S i k (by rw[e0];rfl) (M1.same s2) hk om λH3 l3 us s3 zD si ko=>?_));have FD:=s3 _ _ (s2 _ _ hw);refine vL (v:=.ref x.2.2) rfl (aq.of (s3 _ _ (s2 _ _ D.st))) (cR (j:=3) rfl) (cO x.2.2 rfl ⟨_,aq.of FD⟩ ?_);have r9:=s2.trans s3;refine ig (n:=ws.length) (λj zs H'=>j<=ws.length/\af H3 H'/\Paired (uQ H') zs (k.es.take j)) ?_ ?_ ?_ ?_ ?_ ?_ ?_
   ·exact cQ (cY om)
   ·exact cV (bU _) (af.refl _) .nil
   ·rintro j zs H' ⟨_,_,e⟩;rw[Paired.length e,gU];exact xl
   ·rintro j zs H' hj ⟨_,s4,_⟩;exact eT _ _ (aq.of (s4 _ _ FD)) (aT hj)
   ·rintro zs H' ⟨_,s4,_⟩;exact ak _ (aq.of (s4 _ _ FD)) (aH _)
   ·rintro j zs H' hj ⟨_,s4,e⟩ z gj ⟨eH,dn⟩;subst eH;have hz:=dn _ (aq.of (s4 _ _ FD));refine ag (pj eE hz) λen pV aa=>?_;refine ag aa λp aa hp=>?_;subst aa;dsimp only[jl,iL];rw[if_pos rfl];refine vr rfl (ak 2 rfl ⟨p,⟨_,rfl,aF.of (s4 _ _ (r9 _ _ hp)),akj,λtp ht=>⟨hj,s4.trans (aE (af.refl _) ht),?_⟩⟩⟩);rw[ku,pV];exact nZ (Paired.b9 e λ_ _ q=>q.same (aE (af.refl _) ht)) (ak tp rfl (by rw[aw,amm]))
   rintro zs H4 ⟨_,s4,e⟩;rw[jK om]at e;have Nr:=Paired.length e;refine⟨cQ (cY om),λr nr=>?_⟩;have s5:af H4 (upd H4 r (.lst zs)):=aE (af.refl _) nr;have sh:upd H4 r (.lst zs) r=some (.lst zs):=aw;generalize upd H4 r (.lst zs)=H5 at s5 sh ⊢;refine yB (d:=.list (k.es.map pairD)) (.lst (aq.of (s5 _ _ (s4 _ _ si))) (sM (λv a q=>Ri q) (Paired.b9 ko λ_ _ q=>q.same (s4.trans s5)))) (.lst (aq.of sh) (sM (λv a q=>Ri q) (Paired.b9 e λ_ _ q=>q.same s5))) (aa5 _) (ak _ rfl (eY ?_));exact cV hi ⟨_,_,rfl⟩ (s1.trans (r9.trans (s4.trans s5)))
  ·rintro σ H1 ⟨_,⟨c0,y1,rfl⟩,s1⟩;have M1:=M.same s1;have N1:=N.same s1;have nM:=s1 _ _ hm;refine vM rfl nM (G.ms _ dk) (wD m A S rfl M1 λl nl=>?_);have s2:af H1 (upd H1 l (.lst (S.bd.map V.int))):=aE (af.refl _) nl;have hl:upd H1 l (.lst (S.bd.map V.int)) l=some (.lst (S.bd.map V.int)):=aw;generalize upd H1 l (.lst (S.bd.map V.int))=H2 at s2 hl ⊢;have N2:=N1.same s2;refine fb (j:=1) rfl N2.st rfl ?_;refine yB (yC hl) (yC N2.bd) (Po _) (ak _ rfl (eY ?_));refine vM rfl (s2 _ _ nM) (G.ms _ dk) (wD m A S rfl (M1.same s2) λl3 Fe zD amR=>?_);have s3:af H2 (upd H2 l3 (.lst Fe)):=aE (af.refl _) zD;have si:upd H2 l3 (.lst Fe) l3=some (.lst Fe):=aw;generalize upd H2 l3 (.lst Fe)=H3 at s3 si ⊢;have N3:=N2.same s3;refine ag N3.ac λus amY amX=>?_;refine fb (j:=2) rfl N3.st rfl ?_;refine yB (d:=.list (S.ac.map By)) (.lst (aq.of si) (sM (λv a q=>SJ q) (Paired.b9 amR λ_ _ q=>q.keep λb xs e=>s3 _ _ e))) (.lst (aq.of amY) (sM (λv a q=>SJ q) amX)) (abX hao) (ak _ rfl (eY ?_));refine pD 12 rfl qc qc ?_;rw[show (12:Int).toNat=12 from rfl];have Md:=s1.trans (s2.trans s3);have xJ:=W.wf.ov;refine ig (n:=12) (λj zs H'=>j<=12/\af H3 H'/\Paired (λv (o:List Int)=>∃a,v=V.ref a/\H' a=some (.lst (o.map V.int))) zs (S.ov.take j)) ?_ ?_ ?_ ?_ ?_ ?_ ?_
   ·exact cQ (cY om)
   ·exact cV (bU _) (af.refl _) .nil
   ·rintro j zs H' ⟨_,_,e⟩;rw[Paired.length e,gU];exact xl
   ·rintro j zs H' hj _;exact hj
   ·rintro zs H' _;exact aH _
   ·rintro j zs H' hj ⟨_,s4,e⟩ z gj ⟨eH,dn⟩;subst eH;subst dn;have Xf:S.ov[j]?=some (S.ov[j]'wg):=aT wg;dsimp only[jl,iL];rw[if_pos rfl];refine vM rfl (s4 _ _ (Md _ _ hm)) (G.ms _ dk) (vr rfl (yy m A S j _ (by rw[qU];rfl) (M.same (Md.trans s4)) Xf λl5 BZ=>⟨hj,s4.trans (aE (af.refl _) BZ),?_⟩));rw[ku,Xf];exact nZ (Paired.b9 e λ_ _ ⟨a,h1,h2⟩=>⟨a,h1,aE (af.refl _) BZ _ _ h2⟩) (ak l5 rfl aw)
   rintro zs H4 ⟨_,s4,e⟩;rw[jK w6]at e;have Nr:=Paired.length e;refine⟨cQ (cY wu),λr nr=>?_⟩;have s5:af H4 (upd H4 r (.lst zs)):=aE (af.refl _) nr;have sh:upd H4 r (.lst zs) r=some (.lst zs):=aw;generalize upd H4 r (.lst zs)=H5 at s5 sh ⊢;have N5:=N3.same (s4.trans s5);refine fb (j:=3) rfl N5.st rfl ?_;refine afD (d:=.list (S.ov.map λo=>Pw (o.map mU))) (.lst (aq.of sh) (sM (λv a ⟨b,h1,h2⟩=>by rw[h1];exact yC (s5 _ _ h2)) e)) (.lst (aq.of N5.ov) (P8 N5.os)) (abc _) (q H5 (Md.trans (s4.trans s5)))
end
section
variable{t:bg}{C CT:Addr}
def RN(t:bg)(C CT PT:Addr):Sp:=λvs H Q _=>∃m A S n,vs=[.ref m,.int (S.ck.length:Nat)]/\a9 t C CT H m A S/\iA n S/\n<64/\cU PT LP LQ H/\∀H',aR iT H H'->cU PT LP LQ H'->Q .aD H'
theorem RZ:bc ["_law_machine","_law_clerks","_law_clerk"] zLt (aO JM):=bz
theorem Dl{H:Hp}{l:Addr}{o o':HO}(h:H l=none):af H (upd (upd H l o) l o'):=AE (aE (af.refl _) h) h
theorem aer{f fM f1 f2 f3 f4 f5 f6 f7 PT:Addr}{fd dM d1 d2 d3 d4 d5 d6 d7:aV}(F:aW K "_law_spoil" "_law_spoil" JM f fd)(dB:mg "range" = none)(T:Tells P w K mg base t C CT f1 f2 f3 f4 f5 f6 f7 d1 d2 d3 d4 d5 d6 d7)
  (GM:ay P w K mg base az 4 fM dM ["self"] (DJ t C CT PT)) (bM:Binds K dM ["self"] []) (mM:Meth K C "moves" fM):ay P w K mg base az 5 f fd zLt (RN t C CT PT):=by
 refine F.ok RZ (λvs H Q E h=>?_) λaI A outer s H vs Q E hr h=>?_
 ·refine q9 h λm A S n aa _=>?_;clear h;subst aa;rfl
 ·obtain⟨m,A,S,n,aa,M,W,hn,hL,q⟩:=h;subst aa;have eG:=hr.mono (show 1<=4 by decide);have mz:=hr.mono (show 2<=4 by decide);refine⟨_,aA (pB p0 rfl (qe rfl dB (ae (pv 1) ai)) (cW (i:=2) RZ.nd rfl (aQ rfl)) (aA (cZ (iY PySem.F.plainAttrs_list PySem.F.slot_list_append PySem.F.type_list_append ky (gX (pv 0) T.cM.cl T.m3 T.g3 eG T.b3 .nil aS (ae (pv 2) ai)) (ae aj ai))) (aB (cZ (iY PySem.F.plainAttrs_list PySem.F.slot_list_append PySem.F.type_list_append ky (gX (pv 0) T.cM.cl T.m4 T.g4 mz T.b4 .nil aS (ae (pv 2) ai)) (ae (fG (ae aj (ae aj ai))) ai)))))) (aA (cZ (iY PySem.F.plainAttrs_list PySem.F.slot_list_append PySem.F.type_list_append ky (mV (pv 0) T.cM.cl T.m5 T.g5 eG T.b5 .nil aS) (ae aj ai))) (aA (cZ (Tg PySem.F.plainAttrs_list PySem.F.slot_list_clear PySem.F.type_list_clear Ro (mV (pv 0) T.cM.cl T.m6 T.g6 eG T.b6 .nil aS))) (aA (cZ (iY PySem.F.plainAttrs_list PySem.F.slot_list_append PySem.F.type_list_append ky (gX (pv 0) T.cM.cl T.m7 T.g7 eG T.b7 .nil aS (ae aj ai)) (ae aj ai))) (aB (cZ (Tg PySem.F.plainAttrs_list PySem.F.slot_list_clear PySem.F.type_list_clear Ro (mV (pv 0) T.cM.cl mM GM hr bM .nil aS))))))),?_⟩;have h4:=W.wf.four;have F8:=rh;have eN:=iq;have fh:=W.ac;refine bf (id M.obj) λdx fs hm G=>?_;refine vr rfl (pD _ rfl om om ?_);rw[show ((S.ck.length:Int)).toNat=S.ck.length by omega];refine uy (n:=S.ck.length) (λi σ H'=>(∃c,σ=[some (.ref m),some (.int (S.ck.length:Nat)),c])/\af H H') ⟨⟨none,rfl⟩,af.refl _⟩ ?_ ?_
  ·rintro i σ H1 hi ⟨⟨c0,rfl⟩,s1⟩;have hk:S.ck[i]?=some (S.ck[i]'hi):=aT hi;generalize S.ck[i]'hi=k at hk;have zP:=W.wf.es k (bb hk);have jt:=W.wf.rg k (bb hk);have e0:(0+(i:Int))=(i:Int):=qU _;refine vM rfl (s1 _ _ hm) (G.ms _ dk) (vr rfl (yy m A S i k (by rw[e0];rfl) (M.same s1) hk λl nl=>?_));refine⟨.inl ⟨rfl,_,aq.of aw⟩,⟨l,_,.int 1,rfl,rfl,aw,by rw[aN,eN];exact wc,?_⟩⟩;have s2:af H1 (upd (upd H1 l (.lst (k.rg.map V.int))) l (.lst (k.rg.map V.int++[.int 1]))):=Dl nl;generalize upd (upd H1 l (.lst (k.rg.map V.int))) l (.lst (k.rg.map V.int++[.int 1]))=H2 at s2 ⊢;have mq:=s1.trans s2;refine vM rfl (mq _ _ hm) (G.ms _ dk) (vr rfl (Hy m A S i k (by rw[e0];rfl) (M.same mq) hk om λH3 l3 us s3 zD si ko=>?_));have B9:=Paired.length ko;refine cV (.inl ⟨rfl,_,aq.of si⟩) (by show 2<=aZ;decide) λtp ht=>⟨l3,us,.ref tp,rfl,rfl,?_,by rw[eN];omega,?_⟩
   ·rw[ar (b8 si ht)];exact si
   ·exact⟨⟨_,rfl⟩,mq.trans (AE (s3.trans (aE (af.refl _) ht)) zD)⟩
  ·rintro σ H1 ⟨⟨c0,rfl⟩,s1⟩;refine vM rfl (s1 _ _ hm) (G.ms _ dk) (wD m A S rfl (M.same s1) λl nl=>?_);refine⟨.inl ⟨rfl,_,aq.of aw⟩,⟨l,_,.int 1,rfl,rfl,aw,by rw[aN,W.wf.bd,eN];omega,?_⟩⟩;have s2:af H1 (upd (upd H1 l (.lst (S.bd.map V.int))) l (.lst (S.bd.map V.int++[.int 1]))):=Dl nl;generalize upd (upd H1 l (.lst (S.bd.map V.int))) l (.lst (S.bd.map V.int++[.int 1]))=H2 at s2 ⊢;have mq:=s1.trans s2;refine vM rfl (mq _ _ hm) (G.ms _ dk) (wD m A S rfl (M.same mq) λl3 ws zD eE=>?_);refine⟨.inl ⟨rfl,_,aq.of aw⟩,l3,⟨_,rfl,rfl,aw,?_⟩⟩;have s3:af H2 (upd (upd H2 l3 (.lst ws)) l3 (.lst [])):=Dl zD;generalize upd (upd H2 l3 (.lst ws)) l3 (.lst [])=H3 at s3 ⊢;have M8:=mq.trans s3;have xJ:=W.wf.ov;have ND:S.ov[0]?=some (S.ov[0]' om):=aT om;have am9:=W.ov _ (bb ND);generalize S.ov[0]' om=o at ND am9;refine vM rfl (M8 _ _ hm) (G.ms _ dk) (yy m A S 0 o rfl (M.same M8) ND λl4 nl4=>?_);refine⟨.inl ⟨rfl,_,aq.of aw⟩,⟨l4,_,.int 0,rfl,rfl,aw,by rw[aN,eN];omega,?_⟩⟩;have s4:af H3 (upd (upd H3 l4 (.lst (o.map V.int))) l4 (.lst (o.map V.int++[.int 0]))):=Dl nl4;generalize upd (upd H3 l4 (.lst (o.map V.int))) l4 (.lst (o.map V.int++[.int 0]))=H4 at s4 ⊢;have se:=M8.trans s4;refine vM rfl (se _ _ hm) (G.ms _ dk) (kE m A S rfl (M.same se) W.wf (lW hL se) λH5 l5 vs5 k5 hL5 BZ Cd ao9=>?_);refine⟨.inl ⟨rfl,_,aq.of Cd⟩,l5,⟨_,rfl,rfl,Cd,?_⟩⟩;refine q _ ⟨λb o' h1 h2 e=>?_,λb e=>?_⟩ (Ss Cd hL5)
   ·have hb:=k5.k b o' h1 h2 (se _ _ e);rw[ar (λz=>by rw[z,se.free BZ]at e;cases e)];exact hb
   ·exact se.free (k5.t b (oa b e))
end
theorem afM:sH "ValueError" = some (.type "ValueError"):=dk
section
variable{t:bg}{C CT:Addr}
def Ql(t:bg)(C CT PT:Addr):Sp:=λvs H Q _=>∃m A S p xs lab,vs=[.ref m,.ref p]/\a9 t C CT H m A S/\jm lab m A/\kj S/\rX S/\cU PT LP LQ H/\H p=some (.tup xs)/\(∀x∈xs,∃T,tyName H x=some T)/\xs.length<=1000/\(∀mv,xs=fo mv->iV mv.1=true)/\
 (∀mv,xs=fo mv->mv∉gu S)/\∀H',aR iT H H'->cU PT LP LQ H'->Q (.bl true) H'
theorem Dj:bc ["_law_machine","_law_move","_law_good","e"] zLv (aO Iz):=bz
theorem acg{f fD PT iN cE:Addr}{fd vI:aV}(F:aW K "_law_refused" "_law_refused" Iz f fd)(cM:ib K C)(VG:mg "isinstance" = none)(hve:mg "ValueError" = none)(mX:mg "NoMove" = some (.ref iN))(mE:mg "TrayError" = some (.ref cE))(xM:Kl K iN cE)
  (Nx:PySem.W.kitOne K (.ref iN) (.ref cE)=some true) (hvE:PySem.W.kitOne K (.ref iN) (.type "ValueError")=some true)
  (GD:ay P w K mg base (km P w) 7 fD vI ["self","move"] (LA t C CT PT iN)) (bD:Binds K vI ["self","move"] []) (mD:Meth K C "do" fD):ay P w K mg base az 8 f fd zLv (Ql t C CT PT):=by
 refine F.ok Dj (λvs H Q E h=>?_) λaI A outer s H vs Q E hr h=>?_
 ·refine lX h λm A S p xs lab aa _=>?_;subst aa;rfl
 ·refine Au h λm A S p xs lab aa M L W aX=>?_;subst aa;obtain⟨ik,hL,hp,my,hl,Ml,fg,k⟩:=aX;refine⟨_,aA (cy (i:=2) Dj.nd rfl (aQ rfl) kQ) (aA (aee (i:=3) rfl rfl rfl Dj.nd rfl rfl rfl mX xM.base (λW pn E hL hp=>aB (cZ (aeg (pv 0) cM.cl mD GD hr bD .nil hL (ae (pv 1) ai)))) λea pn=>aB (cy (i:=2) Dj.nd rfl (aQ rfl) (Ba (cj (Tw K) rfl VG jw (ae (pv 3) (ae (gF (v:=.ref cE) rfl mE rfl) ai))) (yS (cj (Tw K) rfl VG jw (ae (pv 3) (ae (pq (v:=.ty "ValueError") rfl hve afM rfl) ai))))))) (aB (a7 (pv 2)))),?_⟩;refine bf (id M.obj) λdx fs hm G=>?_;refine vM rfl hm (G.ms _ dk) (vr rfl (vQ m A S p xs lab rfl M L W ik hL hp my (ke hl Ml (λmv e fq=>absurd fq (fg mv e)) λ_ H' kp amy=>⟨xM.self,λea hea=>?_⟩)));refine vr rfl (dA ea _ none (.ref cE) (hG _ rfl aw rfl Nx (ak _ rfl (iZ ?_))));refine vr rfl (dA ea _ none (.ty "ValueError") (hG _ rfl aw rfl hvE ?_));have s1:af H' (upd H' ea (BE ea (.ref iN) none)):=aE (af.refl _) hea;exact vr rfl (k _ (kp.trans (aR.of s1)) (lW amy s1))
end
def zc(ns:List Int)(k:Int):Int:=ns.getD k.toNat 0
def ze(c k:Int):Int:=(c%2147483647+7919*k+1)*48271%2147483647
def oo(c k:Int):Int:=ze c k*(ze c k/1009+69621)%2147483647
theorem aiC(c k:Int):0<=ze c k/\ze c k<2147483647:=⟨yd _ qc,x9 _ qc⟩
theorem AM(c k:Int):0<=oo c k/\oo c k<2147483647:=⟨yd _ qc,x9 _ qc⟩
def S8(K:W.Frag):Sp:=λvs H Q _=>∃a ns k,vs=[.ref a,.int k]/\aq K H a (ns.map V.int)/\0<=k/\Q (.int (zc ns k)) H
theorem ah':bc zLu zLu (aO Jm):=bz
theorem agy{f:Addr}{fd:aV}(F:aW K "_law_cell_at" "_law_cell_at" Jm f fd)(dY:mg "len" = none):ay P w K mg base az 1 f fd zLu (S8 K):=by
 refine F.ok ah' (λvs H Q E h=>?_) λaI A outer s H vs Q E hr h=>?_
 ·refine gJ h λa ns k aa _=>?_;clear h;subst aa;rfl
 ·refine yJ h λa ns j aa ha hj k=>?_;clear h;subst aa;refine nC (aA (bZ (bq y' (pv 1) (cj fv rfl dY PySem.boot_len (ae (pv 0) ai)) (br _)) (aB (a7 (ax aP (pv 0) (pv 1)))) cu) (aB (a7 aj))) ?_;refine vr rfl (vr rfl ⟨a,⟨_,rfl,.inl ha,_,_,rfl,rfl,_,rfl,bG (λh1=>?_) λh1=>?_⟩⟩)
  ·rw[aN]at h1;have de:j.toNat<ns.length:=om;refine vr rfl (vr rfl (kz a _ j (.int (zc ns j)) rfl rfl ha ?_ k));have e:j=(j.toNat:Int):=xm;rw[e];refine cR ?_;rw[gC,aT de];unfold zc;rw[iG,ug,aT de];rfl
  ·rw[aN]at h1
   have e:zc ns j=0:=by
    unfold zc;rw[ug,CG om];rfl
   rw[e]at k;exact k
def Kw:Sp:=λvs H Q _=>∃c j,vs=[.int c,.int j]/\Q (.int (oo c j)) H
theorem Ui:bc ["_law_cell","_law_k","_law_number"] zLs (aO JN):=bz
theorem aii{f:Addr}{fd:aV}(F:aW K "_law_mixed" "_law_mixed" JN f fd):ay P w K mg base az 1 f fd zLs Kw:=by
 refine F.ok Ui (λvs H Q E h=>?_) λaI A outer s H vs Q E hr h=>?_
 ·refine bf h λa j aa _=>?_;clear h;subst aa;rfl
 ·refine bf h λc j aa k=>?_;clear h;subst aa;refine⟨_,aA (cy (i:=2) Ui.nd rfl (aQ rfl) (a6 ij (a6 yU (a6 jV (a6 jV (a6 ij (pv 0) aj) (a6 yU aj (pv 1))) aj) aj) aj)) (aB (a7 (a6 ij (a6 yU (pv 2) (a6 jV (a6 pA (pv 2) aj) aj)) aj))),?_⟩;have hb:=aiC c j;refine vr rfl ⟨_,⟨_,rfl,rfl,(by show (0:Int)<2147483647;decide),_,rfl,_,_,rfl,rfl,.inl ⟨qc,qc⟩,_,_,rfl,rfl,_,_,rfl,rfl,_,_,rfl,rfl,.inr ⟨qc,qc⟩,_,_,rfl,rfl,(by show (0:Int)<2147483647;decide),?_⟩⟩;refine ak _ rfl (vr rfl ⟨_,⟨_,rfl,rfl,⟨qc,qc⟩,_,_,rfl,rfl,_,_,rfl,rfl,.inl ⟨?_,?_⟩,_,_,rfl,rfl,(by show (0:Int)<2147483647;decide),k⟩⟩)
  ·show -(2^64)<ze c j;omega
  ·show ze c j<2^64;omega
def Bm:List Int:=[0,1,2,fQ-1,5*10^59,fQ-7]
theorem aiq:∀x∈Bm,0<=x/\x<fQ:=dk
theorem sX(d:Int)(h:0<=d)(m:Int)(hm:0<m):∃r:Nat,d%m=(r:Int)/\(r:Int)<m:=by
 have h1:=yd d (show m≠0 by omega);have h2:=x9 d hm;exact ak ((d%m).toNat) xm om
theorem Lc{d m:Int}(h:0<=d)(hm:0<=m):0<=d/m:=Int.ediv_nonneg h hm
theorem aeE{x:Int}(h:x∈Bm):∃r:Nat,x=(r:Int)/\r<10^60:=by
 refine oA (aiq x h) λh1 h2=>?_;have e:((10^60:Nat):Int)=fQ:=dk;refine ak x.toNat xm ?_;have:(x.toNat:Int)<((10^60:Nat):Int):=by rw[e];omega
 exact Pg.mp this
def T9:Sp:=λvs H Q _=>∃d nm,∃len:Nat,vs=[.int d,.int (len:Nat),.int nm]/\0<=d/\len<=120/\0<nm/\nm<=12/\∀v H' s,af H H'->pC H' v s->c7 len s->Q v H'
theorem Bh:bc ["_law_draw","_law_length","_law_names","_law_kind","_law_box","_law_name","_law_numbers"] zLo (aO LD):=bz
theorem ail{f:Addr}{fd:aV}(F:aW K "_law_one" "_law_one" LD f fd):ay P w K mg base az 1 f fd zLo T9:=by
 refine F.ok Bh (λvs H Q E h=>?_) λaI A outer s H vs Q E hr h=>?_
 ·refine gJ h λd nm len aa _=>?_;clear h;subst aa;rfl
 ·obtain⟨d,nm,len,aa,hd,hlen,xP,tX,q⟩:=h;subst aa;refine⟨_,aA (cy (i:=3) Bh.nd rfl (aQ rfl) (a6 ij (pv 0) aj)) (aA (cy (i:=4) Bh.nd rfl (aQ rfl) (a6 ij (a6 pA (pv 0) aj) aj)) (aA (cy (i:=5) Bh.nd rfl (aQ rfl) (a6 ij (a6 pA (pv 0) aj) (pv 2))) (aA (bZ (bq dm (pv 3) aj (br _)) (aA (cy (i:=6) Bh.nd rfl (aQ rfl) (eh (ae aj (ae aj (ae aj (ae (a6 yT (a6 Bb aj aj) aj) (ae (a6 yU aj (a6 Bb aj aj)) (ae (a6 yT (a6 Bb aj aj) aj) ai)))))))) (aB (a7 (fG (ae cA (ae (pv 4) (ae (ax aP (pv 6) (a6 ij (a6 pA (pv 0) aj) aj)) ai))))))) cu) (aA (bZ (bq dm (pv 3) aj (br _)) (aB (a7 (fG (ae cA (ae (pv 4) (ae (a6 ij (a6 pA (pv 0) aj) aj) ai)))))) cu) (aA (bZ (bq y' (pv 3) aj (br _)) (aB (a7 (fG (ae cA (ae (pv 5) (ae (pv 4) ai)))))) cu) (aA (bZ (bq y' (pv 3) aj (br _)) (aB (a7 (fG (ae cA (ae (pv 4) (ae (pv 5) ai)))))) cu) (aA (bZ (bq dm (pv 3) aj (br _)) (aB (a7 (ax aP (eh (ae (fG (ae cA ai)) (ae (fG (ae cA (ae (pv 4) (ae (pv 5) ai)))) ai))) (a6 ij (a6 pA (pv 0) aj) aj)))) cu) (aB (a7 (fG (ae cA (ae (pv 4) (ae (a6 ij (a6 pA (pv 0) aj) (a6 jV (pv 1) aj)) ai))))))))))))),?_⟩;have h12:(0:Int)<12:=qc;refine ag (sX (d/12) (Lc hd qc) 4 qc) λbx zT F2=>?_;refine ag (sX (d/48) (Lc hd qc) nm xP) λna N9 hna=>?_;have FC:0<=d/576:=Lc hd qc;refine vr rfl ⟨_,⟨_,rfl,rfl,(by show (0:Int)<12;decide),?_⟩⟩;refine ak _ rfl ⟨_,⟨_,rfl,rfl,⟨qc,qc⟩,_,_,rfl,rfl,(by show (0:Int)<4;decide),?_⟩⟩;refine ak _ rfl ⟨_,⟨_,rfl,rfl,⟨qc,qc⟩,_,rfl,_,_,rfl,rfl,xP,?_⟩⟩;refine ak _ rfl ⟨rfl,⟨_,rfl,bG (λh0=>?_) λh0=>?_⟩⟩
  ·refine⟨_,⟨_,rfl,rfl,⟨qc,qc,qc⟩,_,_,rfl,rfl,_,_,rfl,rfl,⟨qc,qc,qc⟩,_,_,rfl,rfl,.inl ⟨qc,qc⟩,_,_,rfl,rfl,⟨qc,qc,qc⟩,_,_,rfl,rfl,by show 6<=aZ;decide,λl nl=>?_⟩⟩;refine ag (sX (d/576) FC 6 qc) λix F7 hix=>?_;have hg:Bm[ix]?=some (Bm[ix]'(by show ix<6;omega)):=aT _;refine ag (aeE (bb hg)) λr er hr6=>?_;rw[er]at hg;refine ak _ rfl (vr rfl (vr rfl ⟨_,⟨_,rfl,rfl,⟨qc,qc⟩,_,_,rfl,rfl,(by show (0:Int)<6;decide),l,Bm.map V.int,(ix:Int),.int (r:Nat),rfl,by show V.int (d/576%6)=_;rw[F7],aq.of aw,di hg,by show 3<=aZ;decide,λtp ht=>?_⟩⟩));refine q _ _ ("put",[bx,r]) (aE (aE (af.refl _) nl) ht) ⟨tp,rfl,?_⟩ (.put bx r om hr6);rw[aw];show some (HO.tup [.str "put",V.int (d/12%4),V.int (r:Nat)])=_;rw[zT];rfl
  refine ak _ rfl ⟨rfl,⟨_,rfl,bG (λh1=>?_) λh1=>?_⟩⟩
  ·refine ag (sX (d/576) FC 4 qc) λr er qH=>?_;refine ak _ rfl (vr rfl ⟨_,⟨_,rfl,rfl,⟨qc,qc⟩,_,_,rfl,rfl,(by show (0:Int)<4;decide),by show 3<=aZ;decide,λtp ht=>?_⟩⟩);refine q _ _ ("add",[bx,r]) (aE (af.refl _) ht) ⟨tp,rfl,?_⟩ (.add bx r om om);rw[aw];show some (HO.tup [.str "add",V.int (d/12%4),V.int (d/576%4)])=_;rw[zT,er];rfl
  refine ak _ rfl ⟨_,⟨_,rfl,rfl,_,rfl,bG (λh2=>?_) λh2=>?_⟩⟩
  ·refine ak _ rfl (vr rfl ⟨by show 3<=aZ;decide,(λtp ht=>?_)⟩);refine q _ _ ("set",[na,bx]) (aE (af.refl _) ht) ⟨tp,rfl,?_⟩ (.set na bx om om);rw[aw];show some (HO.tup [.str "set",V.int (d/48%nm),V.int (d/12%4)])=_;rw[zT,N9];rfl
  refine ak _ rfl ⟨_,⟨_,rfl,rfl,_,rfl,bG (λh3=>?_) λh3=>?_⟩⟩
  ·refine ak _ rfl (vr rfl ⟨by show 3<=aZ;decide,(λtp ht=>?_)⟩);refine q _ _ ("look",[bx,na]) (aE (af.refl _) ht) ⟨tp,rfl,?_⟩ (.look bx na om om);rw[aw];show some (HO.tup [.str "look",V.int (d/12%4),V.int (d/48%nm)])=_;rw[zT,N9];rfl
  refine ak _ rfl ⟨rfl,⟨_,rfl,bG (λh4=>?_) λh4=>?_⟩⟩
  ·refine⟨by show 1<=aZ;decide,λt1 n1=>⟨_,rfl,_,rfl,by show 3<=aZ;decide,λt2 n2=>⟨by show 2<=aZ;decide,λl nl=>?_⟩⟩⟩;have g1:upd H t1 (.tup [.str "clear"]) t1=some (.tup [.str "clear"]):=aw;have s1:af H (upd H t1 (.tup [.str "clear"])):=aE (af.refl _) n1;generalize upd H t1 (.tup [.str "clear"])=H1 at g1 s1 n2 nl ⊢;have s2:=aE (o:=.tup [.str "swap",V.int (d/12%4),V.int (d/48%nm)]) (af.refl H1) n2;have g2:upd H1 t2 (.tup [.str "swap",V.int (d/12%4),V.int (d/48%nm)]) t2=some (.tup [.str "swap",V.int (d/12%4),V.int (d/48%nm)]):=aw;have s3:=aE (o:=.lst [.ref t1,.ref t2]) s2 nl;refine ag (sX (d/576) FC 2 qc) λix F7 hix=>?_;have anl:ix=0\/ix=1:=om;rcases anl with e | e
   ·subst e;refine vr rfl ⟨_,⟨_,rfl,rfl,⟨qc,qc⟩,_,_,rfl,rfl,(by show (0:Int)<2;decide),l,_,(0:Nat),.ref t1,rfl,by show V.int (d/576%2)=_;rw[F7],aq.of aw,cR (j:=0) rfl,?_⟩⟩;exact q _ _ ("clear",[]) (s1.trans s3) ⟨t1,rfl,s3 _ _ g1⟩ .clear
   ·subst e;refine vr rfl ⟨_,⟨_,rfl,rfl,⟨qc,qc⟩,_,_,rfl,rfl,(by show (0:Int)<2;decide),l,_,(1:Nat),.ref t2,rfl,by show V.int (d/576%2)=_;rw[F7],aq.of aw,cR (j:=1) rfl,?_⟩⟩;refine q _ _ ("swap",[bx,na]) (s1.trans s3) ⟨t2,rfl,?_⟩ (.swap bx na om om);have Nb:upd H1 t2 (.tup [.str "swap",V.int (d/12%4),V.int (d/48%nm)]) l=none:=nl;show upd (upd H1 t2 (.tup [.str "swap",V.int (d/12%4),V.int (d/48%nm)])) l (.lst [.ref t1,.ref t2]) t2=some (HO.tup [.str "swap",V.int ((bx:Nat):Int),V.int ((na:Nat):Int)]);rw[ar (b8 g2 Nb),g2,zT,N9]
  ·refine ag (sX (d/576) FC ((len:Int)+1) om) λr er qH=>?_;refine ak _ rfl (vr rfl ⟨_,⟨_,rfl,rfl,⟨qc,qc⟩,_,rfl,_,_,rfl,rfl,_,_,rfl,rfl,(by show (0:Int)<(len:Int)+1;omega),by show 3<=aZ;decide,λtp ht=>?_⟩⟩);refine q _ _ ("skip",[bx,r]) (aE (af.refl _) ht) ⟨tp,rfl,?_⟩ (.skip bx r om om om);rw[aw];show some (HO.tup [.str "skip",V.int (d/12%4),V.int (d/576%((len:Int)+1))])=_;rw[zT,er];rfl
end TL
namespace L2
open PySem PySem.Spec PyProof.Rows PySem.SeqAt
section
variable{X:Cx}{e:Expr}{es:List Expr}
theorem PE.imp{t t':TE}(h:PE X e t)(hi:∀σ H Q,t' σ H Q->t σ H Q):PE X e t':=λpins s σ H Q I q=>h pins s σ H Q I (hi σ H Q q)
theorem PA.imp{t t':TA}(h:PA X es t)(hi:∀σ H Q,t' σ H Q->t σ H Q):PA X es t':=λpos pins s σ H Q I q=>h pos pins s σ H Q I (hi σ H Q q)
end
end L2
namespace TL
open PySem PySem.Spec PyProof.Rows PySem.SeqAt L2 L3 L4
variable{P:Program}{w:World}{K:PySem.W.Frag}{mg:Str->Option Value}{base:Heap}
def notStar:Expr->Bool
 | .Starred _ _=>false
 | _=>true
theorem ah3{e:Expr}{es:List Expr}{env:Env}(h:notStar e=true):cJ (e::es) env=(false,eval e env)::cJ es env:=by
 rw[cJ];intro e' p z;subst z;cases h
def tK(R:Hp->V->Prop)(pre:L2.St->Prop):TE:=λσ H Q=>pre σ/\∀v H',af H H'->R H' v->Q v H'
def zw(R:Hp->V->Prop)(pre:L2.St->Prop)(n:Nat):TA:=λσ H Q=>pre σ/\∀(vs:List V) H',vs.length=n->af H H'->(∀v∈vs,R H' v)->Q vs H'
def BC(R:Hp->V->Prop)(pre:L2.St->Prop)(n:Nat):TE:=λσ H Q=>pre σ/\∀l (vs:List V) H',vs.length=n->af H H'->H l=none->H' l=some (.lst vs)->(∀v∈vs,R H' v)->Q (.ref l) H'
section
variable{X:Cx}{R:Hp->V->Prop}{pre:L2.St->Prop}{e:Expr}{es:List Expr}{n m:Nat}{p:Pos}
theorem yW:PA X [] (zw R pre 0):=ai.imp λ_ H _ h=>h.2 [] H rfl (af.refl H) (λ_ z=>by cases z)
theorem iI(hR:∀{H H':Hp} {v:V},R H v->af H H'->R H' v)(he:PE X e (tK R pre))(hn:notStar e=true)(hr:PA X es (zw R pre n)):PA X (e::es) (zw R pre (n+1)):=(ae he hr (ah3 hn)).imp λσ H Q h=>
 ⟨h.1,λv H1 s1 hv=>⟨h.1,λvs H2 hl s2 kn=>h.2 (v::vs) H2 (by rw[jv,hl]) (s1.trans s2) λx hx=>by rcases cx.mp hx with e | e;(rw[e];exact hR hv s2);exact kn x e⟩⟩
theorem akF{i:Int}(h:∀H,R H (.int i)):PE X (.Constant (.int i) m p) (tK R pre):=aj.imp λσ H Q q=>q.2 _ H (af.refl H) (h H)
theorem akE{x:Str}(h:∀H,R H (.str x)):PE X (.Constant (.str x) m p) (tK R pre):=cA.imp λσ H Q q=>q.2 _ H (af.refl H) (h H)
theorem kl(hR:∀{H H':Hp} {v:V},R H v->af H H'->R H' v)(h:PA X es (zw R pre n))(hn:n<=1000:=by decide):PE X (.List es p) (BC R pre n):=(eh h).imp λσ H Q q=>
 ⟨q.1,λvs H1 hl s1 kn=>⟨cQ (cY w7),λr hr=>q.2 r vs _ hl (aE s1 hr) (s1.free hr) aw λv hv=>hR (kn v hv) (aE (af.refl _) hr)⟩⟩
end
theorem amn(us:List V)(i:Nat):jC us none (some (i:Int))=us.take i:=by
 unfold jC;rw[HT.Se,HT.Rf,List.drop_zero,Nat.sub_zero]
 by_cases h:i<=us.length
 ·rw[Nat.min_eq_left h]
 ·rw[Nat.min_eq_right om,jK (aH _),jK om]
def qq(sz:Nat)(H:Hp)(v:V):Prop:=∃t,pC H v t/\c7 sz t
theorem qq.same{sz:Nat}{H H':Hp}{v:V}(h:qq sz H v)(s:af H H'):qq sz H' v:=by
 refine ag h λt h1 h2=>?_;exact ak t (h1.keep λb xs e=>s _ _ e) h2
theorem Pm{H:Hp}{sz:Nat}:∀{vs:List V},(∀v∈vs,qq sz H v)->∃ts,Paired (pC H) vs ts/\∀t∈ts,c7 sz t
 | [],_=>⟨[],.nil,λ_ z=>by cases z⟩
 | v::vs,h=>by
  refine ag (h v (by simp)) λt h1 h2=>?_;refine ag (Pm λv hv=>h v (eV _ hv)) λts h3 h4=>?_;refine ak (t::ts) (.cons h1 h3) λx hx=>?_;rcases cx.mp hx with e | e
  ·rw[e];exact h2
  ·exact h4 x e
def U8:Stmt->List Stmt
 | .For _ _ b _ _=>b
 | _=>[]
def aml:Stmt->Expr
 | .For g _ _ _ _=>g
 | _=>.Constant .none 0 ⟨0,0,0,0⟩
def amk:Stmt->Expr
 | .For _ i _ _ _=>i
 | _=>.Constant .none 0 ⟨0,0,0,0⟩
def EV:Stmt->Expr
 | .Assign _ (.Subscript v _ _) _=>v
 | .Assign _ (.BinOp _ _ v _) _=>v
 | .Assign _ v _=>v
 | _=>.Constant .none 0 ⟨0,0,0,0⟩
def iAt:Stmt->Expr
 | .Assign _ (.Subscript _ i _) _=>i
 | _=>.Constant .none 0 ⟨0,0,0,0⟩
abbrev zx(n:Nat):Stmt:=(gr A8).getD n (.Pass ⟨0,0,0,0⟩)
abbrev zy(n:Nat):Stmt:=(U8 (zx 2)).getD n (.Pass ⟨0,0,0,0⟩)
@[irreducible] def Bx:Expr:=EV (zy 2)
theorem ajc:∃p1 p2 p3 p4,gr A8=[zx 0,zx 1,.For (aml (zx 2)) (amk (zx 2)) [zy 0,zy 1,.Assign [.Name "_law_steps" p1] (.Subscript Bx (iAt (zy 2)) p2) p3,zy 3,zy 4] [] p4,zx 3]:=by
 unfold Bx;exact dA _ _ _ _ rfl
def Es:L2.St->Prop:=λσ=>∃i:Nat,i<4/\σ[3]?=some (some (.int (0+(i:Int))))
theorem afY(i:Nat)(h:i<4):∃r:Nat,(10:Int)^(60:Int).toNat-1-(0+(i:Int))=(r:Int)/\r<10^60:=by
 have e:((10^60:Nat):Int)=fQ:=dk;have e2:(10:Int)^(60:Int).toNat=fQ:=dk;have e3:(1000:Int)<=fQ:=dk;rw[e2];refine ak ((fQ-1-(0+(i:Int))).toNat) om ?_;have:(((fQ-1-(0+(i:Int))).toNat:Nat):Int)<((10^60:Nat):Int):=by rw[e];omega
 exact Pg.mp this
theorem ad1(i:Nat)(h:i<4):7*i+2<10^60:=by
 have:=afZ;omega
theorem aih{X:Cx}(hN:X.N[3]?=some ("_law_clerk" : Str))(hV:E5 X.env.scope ("_law_clerk" : Str)):PE X Bx (BC (qq 0) Es 2):=by
 unfold Bx;refine @kl X (qq 0) Es _ 2 _ qq.same (@iI X (qq 0) Es _ _ 1 qq.same (λpins s σ H Q I q=>fG (ae cA (ae aj (ae (a6 yT (a6 yT (a6 Bb aj aj) aj) (JX hN hV)) ai))) pins s σ H Q I ?_) rfl (@iI X (qq 0) Es _ _ 0 qq.same (λpins s σ H Q I q=>fG (ae cA (ae aj (ae (a6 jV (a6 yU aj (JX hN hV)) aj) ai))) pins s σ H Q I ?_) rfl yW)) qc
 ·refine oA q λaa k=>?_;refine ag aa λi hi hσ=>?_;refine ag (afY i hi) λr er hr=>?_;refine⟨_,⟨_,rfl,rfl,⟨qc,qc,qc⟩,_,_,rfl,rfl,_,hσ,_,_,rfl,rfl,by show 3<=aZ;decide,λtp ht=>?_⟩⟩;refine k _ _ (aE (af.refl _) ht) (ak ("put",[0,r]) ⟨tp,rfl,?_⟩ (.put 0 r qc hr));rw[aw];show some (HO.tup [.str "put",.int 0,V.int ((10:Int)^(60:Int).toNat-1-(0+(i:Int)))])=_;rw[er];rfl
 ·refine oA q λaa k=>?_;refine ag aa λi hi hσ=>?_;refine ak _ hσ ⟨_,⟨_,rfl,rfl,.inl ⟨qc,qc⟩,_,_,rfl,rfl,by show 3<=aZ;decide,λtp ht=>?_⟩⟩;refine k _ _ (aE (af.refl _) ht) (ak ("put",[1,7*i+2]) ⟨tp,rfl,?_⟩ (.put 1 _ qc (ad1 i hi)));rw[aw];show some (HO.tup [.str "put",.int 1,V.int (7*(0+(i:Int))+2)])=some (HO.tup [.str "put",.int 1,V.int ((7*i+2:Nat):Int)]);rw[show (7*(0+(i:Int))+2)=((7*i+2:Nat):Int) by omega]
def RQ:Sp:=λvs H Q _=>∃c,vs=[.int c]/\∀H' v ps,af H H'->jj H' v ps->uZ ps->Q v H'
theorem uF:bc ["_law_cell","_law_parts","_law_names","_law_clerk","_law_length","_law_steps","_law_k"] ["_law_cell"] (aO A8):=bz
theorem aew{f fM fO:Addr}{fd Co tL:aV}(F:aW K "_law_program" "_law_program" A8 f fd)(dY:mg "len" = none)(dB:mg "range" = none)(lK:mg "tuple" = none)
  (GM:ay P w K mg base az 1 fM Co zLs Kw) (kM:W.keepIn K (.ref fM)=true) (bM:Binds K Co zLs []) (mM:mg "_law_mixed" = some (.ref fM))
  (GO:ay P w K mg base az 1 fO tL zLo T9) (kO:W.keepIn K (.ref fO)=true) (bO:Binds K tL zLo []) (mO:mg "_law_one" = some (.ref fO)) :
  ay P w K mg base az 2 f fd ["_law_cell"] RQ:=by
 refine F.ok uF (λvs H Q E h=>?_) λaI A outer s H vs Q E hr h=>?_
 ·refine ag h λc aa _=>?_;clear h;subst aa;rfl
 ·refine ag h λc aa q=>?_;clear h;subst aa;obtain⟨p1,p2,p3,p4,eB⟩:=ajc;rw[eB]
  refine⟨_,aA (cy (i:=1) uF.nd rfl (aQ rfl) (eh ai)) (aA (cy (i:=2) uF.nd rfl (aQ rfl) (ax aP (eh (ae aj (ae aj (ae aj (ae aj ai))))) (a6 ij (dg GM hr rfl mM kM bM .nil aS (ae (pv 0) (ae aj ai))) aj))) (aA (pB p0 rfl (qe rfl dB (ae (a6 jV aj (a6 ij (dg GM hr rfl mM kM bM .nil aS (ae (pv 0) (ae aj ai))) aj)) ai)) (cW (i:=3) uF.nd rfl (aQ rfl)) (aA (cy (i:=4) uF.nd rfl (aQ rfl) (a6 ij (dg GM hr rfl mM kM bM .nil aS (ae (pv 0) (ae (a6 jV aj (pv 3)) ai))) aj)) (aA (bZ (bq dm (a6 ij (dg GM hr rfl mM kM bM .nil aS (ae (pv 0) (ae (a6 jV aj (pv 3)) ai))) aj) aj (br _)) (aB (cy (i:=4) uF.nd rfl (aQ rfl) (a6 ij (dg GM hr rfl mM kM bM .nil aS (ae (pv 0) (ae (a6 jV aj (pv 3)) ai))) aj))) cu) (eD.zh (t':=λD σ H1=>∃(c nm:Int) (i len:Nat) (L:Addr) (ys:List V) (y5 y6:Option V),σ=[some (.int c),some (.ref L),some (.int nm),some (.int (0+(i:Int))),some (.int (len:Nat)),y5,y6]/\i<4/\len<=120/\0<nm/\nm<=12/\H1 L=some (.lst ys)/\ys.length<=4/\
      ∀v p Hm w5 w6,af H1 Hm->IsPart Hm v p->p.length<=120->(∀t∈p,c7 p.length t)->D.nx [some (.int c),some (.ref L),some (.int nm),some (.int (0+(i:Int))),some (.int (len:Nat)),w5,w6] (upd Hm L (.lst (ys++[v]))))
     (aA (cy (i:=5) uF.nd rfl (aQ rfl) (yA RX (aih rfl (aQ rfl)) yI (yH (pv 4))) (by first | rfl | (unfold Bx;rfl)))
     (aA (pB p0 rfl (Qu rfl dB (ae (cj fv rfl dY PySem.boot_len (ae (pv 5) ai)) (ae (pv 4) ai))) (cW (i:=6) uF.nd rfl (aQ rfl)) (aB (cZ (iY PySem.F.plainAttrs_list PySem.F.slot_list_append PySem.F.type_list_append ky (pv 5) (ae (dg GO hr rfl mO kO bO .nil aS (ae (dg GM hr rfl mM kM bM .nil aS (ae (pv 0) (ae (a6 jV (a6 jV (a6 yU aj (pv 3)) aj) (pv 6)) ai))) (ae (pv 4) (ae (pv 2) ai)))) ai))))) (aB (cZ (iY PySem.F.plainAttrs_list PySem.F.slot_list_append PySem.F.type_list_append ky (pv 1) (ae (qX Am rfl lK ur (ae (pv 5) ai)) ai)))))) ?tl))))
   (aB (a7 (qX Am rfl lK ur (ae (pv 1) ai)))))),?_⟩
  case tl=>
   rintro D σ H1 ⟨c,nm,i,len,L,ys,y5,y6,rfl,hi,hlen,xP,tX,hL,zF,q⟩;refine⟨⟨i,hi,rfl⟩,λl vs H2 FE s2 nl hl kn=>⟨_,rfl,(len:Int),rfl,l,vs,rfl,aq.of hl,λp np=>?_⟩⟩;rw[amn];have s3:=aE (o:=.lst (vs.take len)) s2 np;have r9:=aE (o:=.lst (vs.take len)) (af.refl H2) np;have np1:H1 p=none:=s2.free np;have hp:upd H2 p (.lst (vs.take len)) p=some (.lst (vs.take len)):=aw;generalize upd H2 p (.lst (vs.take len))=H3 at s3 r9 hp ⊢;refine ag (Pm (vs:=vs.take len) (H:=H3) (sz:=0) λv hv=>(kn v (List.mem_of_mem_take hv)).same r9) λts0 Mi hg0=>?_;have hl0:(vs.take len).length<=len:=by rw[gU];exact xl
   have oX:=Paired.length Mi;have eN:=iq;refine vr rfl ⟨p,⟨_,rfl,.inl (aq.of hp),_,rfl,_,_,rfl,⟨om,om,om,om⟩,?_⟩⟩;generalize vs.take len=us at hp Mi hl0 oX ⊢;rw[show ((len:Int)-(us.length:Int)).toNat=len-us.length by omega];refine uy (n:=len-us.length) (λj σ H'=>∃zs ts w6,σ=[some (.int c),some (.ref L),some (.int nm),some (.int (0+(i:Int))),some (.int (len:Nat)),some (.ref p),w6]/\af H1 H'/\H' p=some (.lst zs)/\Paired (pC H') zs ts/\ts.length=us.length+j/\∀t∈ts,c7 len t) ⟨us,ts0,_,rfl,s3,hp,Mi,om,λt ht=>(hg0 t ht).mono (bU _)⟩ ?_ ?_
   ·rintro j σ H4 hj ⟨zs,ts,w6,rfl,s4,hz,B5,Xa,hg⟩;have Nr:=Paired.length B5;refine vr rfl ⟨.inl ⟨rfl,_,aq.of hz⟩,⟨_,rfl,_,rfl,_,_,rfl,rfl,.inl ⟨qc,qc⟩,_,_,rfl,rfl,_,rfl,_,_,rfl,rfl,_,_,rfl,_,rfl,_,rfl,_,nm,len,rfl,(AM _ _).1,hlen,xP,tX,λv H5 t s5 ht5 hg5=>⟨p,zs,v,rfl,rfl,s5 _ _ hz,by rw[eN];omega,?_⟩⟩⟩;have Fy:=s5 _ _ hz;have kt:=mZ (o:=.lst (zs++[v])) Fy;refine qD (zs++[v]) (ts++[t]) (kG _ rfl (AE (s4.trans s5) np1) aw (nZ (Paired.b9 B5 λ_ _ q=>q.keep λb xs e=>kt _ _ (s5 _ _ e)) (ht5.keep kt)) (by rw[eI,Xa];rfl) λx hx=>?_);rcases jx.mp hx with hx | hx
    ·exact hg x hx
    ·rw[ip.mp hx];exact hg5
   ·rintro σ H4 ⟨zs,ts,w6,rfl,s4,hz,B5,Xa,hg⟩;have Nr:=Paired.length B5;have NZ:=s4 _ _ hL;refine cO _ rfl (.inl ⟨rfl,_,aq.of NZ⟩) (vr rfl (eT p zs rfl (.inl ⟨aq.of hz,λtp ht=>⟨L,ys,.ref tp,rfl,rfl,?_,by rw[eN];exact wb,?_⟩⟩)))
    ·rw[ar (b8 NZ ht)];exact NZ
    ·have s5:=aE (o:=.tup zs) (af.refl H4) ht;have am0:ts.length=len:=om;refine q (.ref tp) ts _ _ _ (s4.trans s5) ⟨tp,zs,rfl,aw,Paired.b9 B5 λ_ _ q=>q.keep λb xs e=>s5 _ _ e⟩ w7 λt ht=>?_;rw[am0];exact hg t ht
  refine⟨qc,λL nL=>?_⟩;have s0:af H (upd H L (.lst [])):=aE (af.refl _) nL;have hL:upd H L (.lst []) L=some (.lst []):=aw;generalize upd H L (.lst [])=H0 at s0 hL ⊢;refine⟨by show 4<=aZ;decide,λb nb=>?_⟩;have s1:=aE (o:=.lst [.int 1,.int 2,.int 3,.int 12]) s0 nb;have nO:=aE (o:=.lst [.int 1,.int 2,.int 3,.int 12]) (af.refl H0) nb _ _ hL;have hb:upd H0 b (.lst [.int 1,.int 2,.int 3,.int 12]) b=some (.lst [.int 1,.int 2,.int 3,.int 12]):=aw;generalize upd H0 b (.lst [.int 1,.int 2,.int 3,.int 12])=H1 at s1 nO hb ⊢;refine ag (sX (oo c 1) (AM _ _).1 4 qc) λi4 ei4 hi4=>?_
  obtain⟨nm,xP,tX,hat⟩:∃nm:Int,0<nm/\nm<=12/\jr [V.int 1,V.int 2,V.int 3,V.int 12] (oo c 1%4)=some (.int nm):=by
   rw[ei4];have h:i4=0\/i4=1\/i4=2\/i4=3:=om;rcases h with rfl | rfl | rfl | rfl
   ·exact cO 1 qc qc (cR (j:=0) rfl)
   ·exact cO 2 qc qc (cR (j:=1) rfl)
   ·exact cO 3 qc qc (cR (j:=2) rfl)
   ·exact cO 12 qc qc (cR (j:=3) rfl)
  refine vr rfl ⟨_,⟨_,rfl,_,_,rfl,rfl,(by show (0:Int)<4;decide),b,_,_,_,rfl,rfl,aq.of hb,hat,?_⟩⟩;have m0:=yd (oo c 2) (show (4:Int)≠0 by decide);have m1:=x9 (oo c 2) (show (0:Int)<4 by decide);refine vr rfl ⟨_,⟨_,rfl,_,_,rfl,rfl,(by show (0:Int)<4;decide),_,_,rfl,rfl,_,rfl,om,om,?_⟩⟩;obtain⟨n,hn,hn4,hn5⟩:∃n:Nat,(1+oo c 2%4).toNat=n/\1<=n/\n<=4:=⟨_,rfl,om,om⟩;rw[hn];refine uy (n:=n) (λi σ H'=>∃ys ps w3 w4 w5 w6,σ=[some (.int c),some (.ref L),some (.int nm),w3,w4,w5,w6]/\af H H'/\H' L=some (.lst ys)/\Paired (IsPart H') ys ps/\ps.length=i/\∀p∈ps,p.length<=120/\∀t∈p,c7 p.length t) ⟨[],[],none,none,none,none,rfl,s1,nO,.nil,rfl,λp z=>by cases z⟩ ?_ ?_
  ·rintro i σ H2 hi ⟨ys,ps,w3,w4,w5,w6,rfl,s2,iE,lJ,dE,fV⟩;have zF:=Paired.length lJ
   have fin:∀(v:V) (p:Pt) Hm (w3 w4 w5 w6:Option V),af H2 Hm->IsPart Hm v p->p.length<=120->(∀t∈p,c7 p.length t)->∃oQ vv w3' w4' w5' w6',([some (.int c),some (.ref L),some (.int nm),w3,w4,w5,w6]:L2.St)=[some (.int c),some (.ref L),some (.int nm),w3',w4',w5',w6']/\af H (upd Hm L (.lst (ys++[v])))/\upd Hm L (.lst (ys++[v])) L=some (.lst oQ)/\Paired (IsPart (upd Hm L (.lst (ys++[v])))) oQ vv/\vv.length=i+1/\∀p∈vv,p.length<=120/\∀t∈p,c7 p.length t:=λv p Hm w3 w4 w5 w6 s3 hp h1 h2=>by
    have kt:=mZ (o:=.lst (ys++[v])) (s3 _ _ iE);refine yY (ys++[v]) (ps++[p]) _ _ _ (kG _ rfl (AE (s2.trans s3) nL) aw (nZ (Paired.b9 lJ λ_ _ q=>q.keep λb xs e=>kt _ _ (s3 _ _ e)) (hp.keep kt)) (by rw[eI,dE];rfl) λx hx=>?_);rcases jx.mp hx with hx | hx
    ·exact fV x hx
    ·rw[ip.mp hx];exact⟨h1,h2⟩
   refine ag (sX (oo c (10+(0+(i:Int)))) (AM _ _).1 9 qc) λl9 e9 h9=>?_;refine ag (sX (oo c (10+(0+(i:Int)))) (AM _ _).1 121 qc) λB3 e12 h12=>?_;refine vr rfl (vr rfl ⟨_,⟨_,rfl,rfl,_,_,rfl,_,_,rfl,rfl,(by show (0:Int)<9;decide),?_⟩⟩);refine ak _ rfl (vr rfl ⟨_,⟨_,rfl,rfl,_,_,rfl,_,_,rfl,rfl,(by show (0:Int)<5;decide),rfl,_,rfl,bG (λh0=>?_) λh0=>?_⟩⟩)
   ·refine vr rfl (vr rfl ⟨_,⟨_,rfl,rfl,_,_,rfl,_,_,rfl,rfl,(by show (0:Int)<121;decide),?_⟩⟩);refine qP c nm i B3 L ys w5 w6 ?_ wh om xP tX iE ⟨om,λv p Hm w5 w6 a1 a2 a3 a4=>fin v p Hm _ _ w5 w6 a1 a2 a3 a4⟩;show ([some (.int c),some (.ref L),some (.int nm),some (.int (0+(i:Int))),some (.int (oo c (10+(0+(i:Int)))%121)),w5,w6]:L2.St)=_;rw[e12]
   ·refine qP c nm i l9 L ys w5 w6 ?_ wh om xP tX iE ⟨om,λv p Hm w5 w6 a1 a2 a3 a4=>fin v p Hm _ _ w5 w6 a1 a2 a3 a4⟩;show ([some (.int c),some (.ref L),some (.int nm),some (.int (0+(i:Int))),some (.int (oo c (10+(0+(i:Int)))%9)),w5,w6]:L2.St)=_;rw[e9]
  ·rintro σ H2 ⟨ys,ps,w3,w4,w5,w6,rfl,s2,iE,lJ,dE,fV⟩;refine vr rfl (eT L ys rfl (.inl ⟨aq.of iE,λtp ht=>?_⟩));have s3:=aE (o:=.tup ys) (af.refl H2) ht;exact q _ _ ps (s2.trans s3) ⟨tp,ys,rfl,aw,Paired.b9 lJ λ_ _ q=>q.keep λb xs e=>s3 _ _ e⟩ ⟨om,w7,fV⟩
theorem DZ(S:Mc)(c r:Nat)(v:Int):(fj S c r v).ac=S.ac:=by unfold fj;cases S.ck[c]? <;> rfl
theorem aiR(S:Mc)(c:Nat)(s:Tl):(pK S c s).ac=S.ac:=by unfold pK;cases S.ck[c]? <;> rfl
theorem RF(S:Mc)(c n:Nat):(jX S c n).ac=S.ac:=by
 unfold jX;cases S.ck[c]? with
 | none=>rfl
 | some k=>
  dsimp only;cases (bJ k.es n).head? <;> rfl
theorem aja{S:Mc}{c sz:Nat}{k:Ck}{s:Tl}(g:c7 sz s)(hk:S.ck[c]?=some k)(h:rO S):rO (aY S c s):=by
 have sn:∀(a:Act),iV a.k=true->∀b∈S.ac++[a],iV b.k=true:=λa ha b hb=>by
  rcases jx.mp hb with y | y
  ·exact h b y
  ·rw[ip.mp y];exact ha
 unfold rO;cases g with
 | put r n _ _=>
  rw[show aY S c ("put",[r,n])=fj S c r (n:Nat) from rfl,DZ];exact h
 | add r o _ _=>
  have e:aY S c ("add",[r,o])=fj S c r ((k.rg.getD r 0+k.rg.getD o 0)%fQ):=by
   unfold aY;rw[if_neg (show ¬("add" : Str) = "put" from dk),if_pos rfl,hk];rfl
  rw[e,DZ];exact h
 | set n r _ _=>
  rw[Jv,JI hk];unfold setG
  split
  ·rw[RF];exact sn _ (by show iV "set" = true;decide +kernel)
  ·exact sn _ (by show iV "set" = true;decide +kernel)
 | look r n _ _=>
  rw[IQ];unfold l6;rw[hk];dsimp only;rw[DZ];exact sn _ (by show iV "look" = true;decide +kernel)
 | swap r n _ _=>
  rw[IP];unfold nj;rw[hk];dsimp only;rw[DZ];exact sn _ (by show iV "swap" = true;decide +kernel)
 | clear=>
  rw[<-we S c (show ("clear" : Str) ≠ "put" from dk) (show ("clear" : Str) ≠ "add" from dk),HA];exact h
 | skip r q _ _ _=>
  rw[<-we S c (show ("skip" : Str) ≠ "put" from dk) (show ("skip" : Str) ≠ "add" from dk),Ic];exact h
theorem Jq{S:Mc}{c:Nat}{k:Ck}{p:Pt}{s:Tl}(hk:S.ck[c]?=some k)(hp:S.ps[c]?=some p)(hs:p[k.pl]?=some s):ir S ("do",[(c:Int)])=pK (aY S c s) c s:=by
 unfold ir;rw[if_pos rfl];show nG S ((c:Int)).toNat=_;rw[iG];unfold nG;rw[hk,hp];dsimp only;rw[hs]
theorem PR(S:Mc)(c:Nat)(i:Int):ir S ("carry",[(c:Int),i])=jX S c i.toNat:=by
 unfold ir;rw[if_neg (show ¬("carry" : Str) = "do" from dk)];show jX S ((c:Int)).toNat _=_;rw[iG];rfl
theorem agZ{S:Mc}{mv:Mv}(W:kj S)(h:mv∈gu S)(ha:rO S):rO (ir S mv):=by
 rcases sL h with ⟨c,rfl,hc,gL⟩ | ⟨c,k,i,rfl,hk,gQ⟩
 ·refine uB (v9 W hc gL) λk p s _ hk hp hs g=>?_;rw[Jq hk hp hs];unfold rO;rw[aiR];exact aja g hk ha
 ·rw[PR];unfold rO;rw[RF];exact ha
theorem ait(kd:Str)(ps:List Pt):rO (qw kd ps):=λa ha=>by cases ha
theorem HQ{n:Nat}{S:Mc}{mv:Mv}(W:iA n S)(h:mv∈gu S):(ir S mv).kd=S.kd/\(ir S mv).ps=S.ps/\(ir S mv).ck.length=S.ck.length:=by
 rcases sL h with ⟨c,rfl,hc,gL⟩ | ⟨c,k,i,rfl,hk,gQ⟩
 ·refine uB (v9 W.wf hc gL) λk p s _ hk hp hs g=>?_;refine aJ (Jw W g hk) λk' f e1 e2=>?_;rw[Jq hk hp hs];unfold pK;rw[yZ f hk];exact cV f.kd f.ps (by show ((aY S c s).ck.set c _).length=_;rw[lR,f.ck,lR])
 ·rw[PR];refine aJ (HW W (Dw W hk) rfl (eK.mp hk).1 i.toNat) λxD f e1 e2=>?_;exact cV f.kd f.ps (by rw[f.ck,lR])
def Ea(S:Mc):Prop:=S.kd = "none"->∀k∈S.ck,k.es=[]
theorem afE{S:Mc}{c sz:Nat}{k:Ck}{s:Tl}(g:c7 sz s)(hk:S.ck[c]?=some k)(hd:S.kd = "none")(he:k.es=[]):∃k',(aY S c s).ck=S.ck.set c k'/\k'.es=[]:=by
 have z:S.ck=S.ck.set c k:=(Qo hk).symm;cases g with
 | put r n _ _=>
  rw[show aY S c ("put",[r,n])=fj S c r (n:Nat) from rfl,qi hk];exact ak _ rfl he
 | add r o _ _=>
  have e:aY S c ("add",[r,o])=fj S c r ((k.rg.getD r 0+k.rg.getD o 0)%fQ):=by
   unfold aY;rw[if_neg (show ¬("add" : Str) = "put" from dk),if_pos rfl,hk];rfl
  rw[e,qi hk];exact ak _ rfl he
 | set n r _ _=>
  rw[Jv,JI hk,Qq hk hd he];exact ak ({ k with tn:=k.tn+1 }) rfl he
 | look r n _ _=>
  rw[IQ];unfold l6;rw[hk];dsimp only;rw[qi (S:=eZ S ⟨"look",c,n,some (bX S k n).1,none,(bX S k n).2⟩) hk];exact ak ({ k with rg:=k.rg.set r (bX S k n).1 }) rfl he
 | swap r n _ _=>
  rw[IP];unfold nj;rw[hk];dsimp only;rw[qi (S:=eZ (jU S n (k.rg.getD r 0) S.ac.length) ⟨"swap",c,n,some (S.bd.getD n 0),some (k.rg.getD r 0),(S.ov.getD n []).getLast?⟩) hk];exact ak ({ k with rg:=k.rg.set r (S.bd.getD n 0) }) rfl he
 | clear=>
  rw[<-we S c (show ("clear" : Str) ≠ "put" from dk) (show ("clear" : Str) ≠ "add" from dk),HA];exact ak k z he
 | skip r q _ _ _=>
  rw[<-we S c (show ("skip" : Str) ≠ "put" from dk) (show ("skip" : Str) ≠ "add" from dk),Ic];exact ak k z he
theorem PX{kd:Str}:gG kd []=[]:=by
 unfold gG
 split
 ·rfl
 ·unfold jk;rw[YT.mpr λi _=>by simp[Sh]];rfl
theorem adk{n:Nat}{S:Mc}{mv:Mv}(W:iA n S)(h:mv∈gu S)(ha:Ea S):Ea (ir S mv):=by
 intro hd;rw[(HQ W h).1]at hd;rcases sL h with ⟨c,rfl,hc,gL⟩ | ⟨c,k,i,rfl,hk,gQ⟩
 ·refine uB (v9 W.wf hc gL) λk p s _ hk hp hs g=>?_;refine ag (afE g hk hd (ha hd k (bb hk))) λk' e1 e2=>?_;have e3:(aY S c s).ck[c]?=some k':=by rw[e1];exact jL hc
  rw[Jq hk hp hs];unfold pK;rw[e3];intro x hx;have hx:x∈(aY S c s).ck.set c { k' with pl:=c9 s k'.rg k'.pl,ct:=k'.ct+1 }:=hx;rw[e1,yj]at hx;rcases zX hx with y | y
  ·exact ha hd x y
  ·rw[y];exact e2
 ·rw[ha hd k (bb hk),PX]at gQ;cases gQ
theorem aeG(kd:Str)(ps:List Pt):Ea (qw kd ps):=λ_ k hk=>by
 refine ag (lV.mp hk) λ_ _ aa=>?_;subst aa;rfl
def eA(H:Hp)(v:V):Prop:=(∃i,v=.int i)\/(∃x,v=.str x/\iV x=true)\/∃a,v=.ref a/\H a=some (.lst [])
def Wr(H:Hp)(v:V):Prop:=∃p xs,v=.ref p/\H p=some (.tup xs)/\xs.length<=3/\∀x∈xs,eA H x
theorem eA.same{H H':Hp}{v:V}(h:eA H v)(s:af H H'):eA H' v:=by
 rcases h with h | h | ⟨a,e,h⟩
 ·exact .inl h
 ·exact .inr (.inl h)
 ·exact .inr (.inr (ak a e (s _ _ h)))
theorem Wr.same{H H':Hp}{v:V}(h:Wr H v)(s:af H H'):Wr H' v:=by
 refine jW h λp xs e h1 h2 h3=>?_;exact qk p xs e (s _ _ h1) h2 λx hx=>(h3 x hx).same s
section
variable{X:Cx}{pre:L2.St->Prop}{e:Expr}{es:List Expr}{n m:Nat}{p q:Pos}
theorem Ka(h:PA X es (zw eA pre n))(hn:n<=3):PE X (.Tuple es m p) (tK Wr pre):=(fG h).imp λσ H Q q=>
 ⟨q.1,λvs H1 hl s1 kn=>⟨cQ (cY w8),λr hr=>q.2 (.ref r) _ (aE s1 hr) ⟨r,vs,rfl,aw,w7,λx hx=>(kn x hx).same (aE (af.refl _) hr)⟩⟩⟩
theorem J'{i:Nat}(h:PE X e (nz i))(hp:∀σ,pre σ->∃k:Int,σ[i]?=some (some (.int k))):PE X e (tK eA pre):=h.imp λσ H Q q=>by
 refine oE (hp σ q.1) λk e=>?_;exact ak _ e (q.2 _ H (af.refl H) (.inl ⟨k,rfl⟩))
theorem Kc:PE X (.UnaryOp .USub (.Constant (.int 1) m p) q) (tK eA pre):=(Bi A1 aj).imp λσ H Q q=>⟨_,rfl,q.2 _ H (af.refl H) (.inl ⟨_,rfl⟩)⟩
theorem Kb:PE X (.List [] p) (tK eA pre):=(eh ai).imp λσ H Q q=>⟨qc,λr hr=>q.2 _ _ (aE (af.refl H) hr) (.inr (.inr ⟨r,rfl,aw⟩))⟩
theorem aiI{i:Int}:PE X (.Constant (.int i) m p) (tK eA pre):=akF λH=>.inl ⟨_,rfl⟩
theorem ni{x:Str}(h:iV x=true):PE X (.Constant (.str x) m p) (tK eA pre):=akE λH=>.inr (.inl ⟨_,rfl,h⟩)
theorem EZ{e1:Expr}(h1:PE X e1 (tK eA pre))(n1:notStar e1=true:=by rfl):PA X [e1] (zw eA pre 1):=@iI X eA pre _ _ 0 eA.same h1 n1 yW
theorem jE{e1 e2:Expr}(h1:PE X e1 (tK eA pre))(h2:PE X e2 (tK eA pre))(n1:notStar e1=true:=by rfl)(n2:notStar e2=true:=by rfl):PE X (.Tuple [e1,e2] m p) (tK Wr pre):=Ka (n:=2) (@iI X eA pre _ _ 1 eA.same h1 n1 (EZ h2 n2)) qc
theorem mi{e1 e2 e3:Expr}(h1:PE X e1 (tK eA pre))(h2:PE X e2 (tK eA pre))(h3:PE X e3 (tK eA pre))(n1:notStar e1=true:=by rfl)(n2:notStar e2=true:=by rfl)(n3:notStar e3=true:=by rfl):PE X (.Tuple [e1,e2,e3] m p) (tK Wr pre):=Ka (n:=3) (@iI X eA pre _ _ 2 eA.same h1 n1 (@iI X eA pre _ _ 1 eA.same h2 n2 (EZ h3 n3))) qc
theorem kp0:PE X (.Tuple [] m p) (tK Wr pre):=Ka (n:=0) yW qc
end
abbrev sW(n:Nat):Stmt:=(gr A4).getD n (.Pass ⟨0,0,0,0⟩)
@[irreducible] def BH:Expr:=EV (sW 2)
@[irreducible] def BG:Expr:=EV (sW 3)
@[irreducible] def BF:Expr:=EV (sW 4)
theorem akW:∃p1 p2 p3 p4 p5 p6 p7 p8 p9 q,gr A4=[sW 0,sW 1,.Assign [.Name "_law_some" p1] BH p2,.Assign [.Name "_law_some" p3] (.BinOp (.Name "_law_some" p4) .Add BG p5) p6,.Assign [.Name "_law_some" p7] (.BinOp (.Name "_law_some" p8) .Add BF p9) q,sW 5]:=by
 unfold BH BG BF;exact C8 _ _ _ _ _ _ _ _ _ _ rfl
def h8:L2.St->Prop:=λσ=>∃n o m:Int,σ[1]?=some (some (.int n))/\σ[2]?=some (some (.int o))/\σ[3]?=some (some (.int m))
theorem Bk:iV "do" = true:=dk
theorem v8:iV "carry" = true:=dk
theorem akf:iV "go" = true:=dk
theorem aem:iV "" = true:=dk
section
variable{X:Cx}(h1:∀p,PE X (.Name "_law_clerks" p) (nz 1))(h2:∀p,PE X (.Name "_law_one_here" p) (nz 2))(h3:∀p,PE X (.Name "_law_name" p) (nz 3))
include h1 h2 h3
theorem kn1(p:Pos):PE X (.Name "_law_clerks" p) (tK eA h8):=J' (h1 p) λσ ⟨n,o,m,a,b,c⟩=>⟨n,a⟩
theorem MP(p:Pos):PE X (.Name "_law_one_here" p) (tK eA h8):=J' (h2 p) λσ ⟨n,o,m,a,b,c⟩=>⟨o,b⟩
theorem MO(p:Pos):PE X (.Name "_law_name" p) (tK eA h8):=J' (h3 p) λσ ⟨n,o,m,a,b,c⟩=>⟨m,c⟩
theorem ake:PE X BH (BC Wr h8 5):=by
 have a:=kn1 h1 h2 h3;have b:=MP h1 h2 h3;have c:=MO h1 h2 h3;unfold BH;exact @kl X Wr h8 _ 5 _ Wr.same (@iI X Wr h8 _ _ 4 Wr.same (jE (ni Bk) (b _)) rfl (@iI X Wr h8 _ _ 3 Wr.same (mi (ni v8) (b _) (c _)) rfl (@iI X Wr h8 _ _ 2 Wr.same (jE (ni Bk) (a _)) rfl (@iI X Wr h8 _ _ 1 Wr.same (jE (ni Bk) Kc) rfl (@iI X Wr h8 _ _ 0 Wr.same (mi (ni v8) (a _) (c _)) rfl yW))))) qc
theorem akd:PE X BG (BC Wr h8 6):=by
 have b:=MP h1 h2 h3;have c:=MO h1 h2 h3;unfold BG;exact @kl X Wr h8 _ 6 _ Wr.same (@iI X Wr h8 _ _ 5 Wr.same (mi (ni v8) (b _) Kc) rfl (@iI X Wr h8 _ _ 4 Wr.same (jE (ni v8) (b _)) rfl (@iI X Wr h8 _ _ 3 Wr.same (mi (ni Bk) (b _) (c _)) rfl (@iI X Wr h8 _ _ 2 Wr.same (jE (ni akf) (b _)) rfl (@iI X Wr h8 _ _ 1 Wr.same (jE (ni aem) (b _)) rfl (@iI X Wr h8 _ _ 0 Wr.same kp0 rfl yW)))))) qc
theorem akc:PE X BF (BC Wr h8 5):=by
 have b:=MP h1 h2 h3;have c:=MO h1 h2 h3;unfold BF;exact @kl X Wr h8 _ 5 _ Wr.same (@iI X Wr h8 _ _ 4 Wr.same (mi (ni v8) (b _) aiI) rfl (@iI X Wr h8 _ _ 3 Wr.same (mi (ni v8) Kc (c _)) rfl (@iI X Wr h8 _ _ 2 Wr.same (mi (ni v8) (b _) Kb) rfl (@iI X Wr h8 _ _ 1 Wr.same (jE Kb (b _)) rfl (@iI X Wr h8 _ _ 0 Wr.same (jE (ni Bk) Kb) rfl yW))))) qc
end
def RM:Sp:=λvs H Q _=>∃d n:Int,vs=[.int d,.int n]/\0<n/\∀H' v,af H H'->Wr H' v->Q v H'
theorem yG:bc ["_law_draw","_law_clerks","_law_one_here","_law_name","_law_some"] zLx (aO A4):=bz
theorem aen{f:Addr}{fd:aV}(F:aW K "_law_wrong" "_law_wrong" A4 f fd)(dY:mg "len" = none):ay P w K mg base az 1 f fd zLx RM:=by
 refine F.ok yG (λvs H Q E h=>?_) λaI A outer s H vs Q E hr h=>?_
 ·refine bf h λd n aa _=>?_;clear h;subst aa;rfl
 ·refine cF h λd n aa hn q=>?_;clear h;subst aa;refine lu akW λp1 p2 p3 p4 p5 p6 p7 p8 p9 p10 eB=>?_;rw[eB]
  refine⟨_,aA (cy (i:=2) yG.nd rfl (aQ rfl) (a6 ij (a6 pA (pv 0) aj) (pv 1))) (aA (cy (i:=3) yG.nd rfl (aQ rfl) (a6 ij (a6 pA (pv 0) aj) aj)) (aA (cy (i:=4) yG.nd rfl (aQ rfl) (ake (λ_=>pv 1) (λ_=>pv 2) λ_=>pv 3) (by unfold BH;rfl))
   (aA (cy (i:=4) yG.nd rfl (aQ rfl) (a6 Bc (pv 4) (akd (λ_=>pv 1) (λ_=>pv 2) λ_=>pv 3)) (by first | rfl | (unfold BG;rfl)))
   (aA (cy (i:=4) yG.nd rfl (aQ rfl) (a6 Bc (pv 4) (akc (λ_=>pv 1) (λ_=>pv 2) λ_=>pv 3)) (by first | rfl | (unfold BF;rfl)))
   (aB (a7 (ax aP (pv 4) (a6 ij (pv 0) (cj fv rfl dY PySem.boot_len (ae (pv 4) ai)))))))))),?_⟩
  have eN:=iq;refine vr rfl ⟨_,⟨_,rfl,rfl,⟨qc,qc⟩,_,rfl,_,_,rfl,rfl,hn,?_⟩⟩;refine ak _ rfl ⟨_,⟨_,rfl,rfl,⟨qc,qc⟩,_,_,rfl,rfl,(by show (0:Int)<12;decide),?_⟩⟩;refine⟨⟨_,_,_,rfl,rfl,rfl⟩,λl1 v1 H1 e1 s1 n1 g1 r1=>?_⟩;refine cO _ rfl ⟨_,_,_,rfl,rfl,rfl⟩ λl2 v2 H2 e2 s2 n2 g2 r2=>(je l1 l2 v1 v2 rfl rfl (s2 _ _ g1) g2 (by rw[eN];omega) λl3 n3=>?_);have s3:af H2 (upd H2 l3 (.lst (v1++v2))):=aE (af.refl _) n3;have g3:upd H2 l3 (.lst (v1++v2)) l3=some (.lst (v1++v2)):=aw
  have r3:∀v∈v1++v2,Wr (upd H2 l3 (.lst (v1++v2))) v:=λv hv=>by
   rcases jx.mp hv with h | h
   ·exact(r1 v h).same (s2.trans s3)
   ·exact(r2 v h).same s3
  have e3:(v1++v2).length=11:=by rw[eI];omega
  generalize upd H2 l3 (.lst (v1++v2))=H3 at s3 g3 r3 ⊢;refine cO _ rfl ⟨_,_,_,rfl,rfl,rfl⟩ λl4 v4 H4 e4 s4 n4 g4 r4=>(je l3 l4 (v1++v2) v4 rfl rfl (s4 _ _ g3) g4 (by rw[eN];omega) λl5 n5=>?_);have s5:af H4 (upd H4 l5 (.lst ((v1++v2)++v4))):=aE (af.refl _) n5;have g5:upd H4 l5 (.lst ((v1++v2)++v4)) l5=some (.lst ((v1++v2)++v4)):=aw
  have r5:∀v∈(v1++v2)++v4,Wr (upd H4 l5 (.lst ((v1++v2)++v4))) v:=λv hv=>by
   rcases jx.mp hv with h | h
   ·exact(r3 v h).same (s4.trans s5)
   ·exact(r4 v h).same s5
  have e5:((v1++v2)++v4).length=16:=by rw[eI];omega
  generalize upd H4 l5 (.lst ((v1++v2)++v4))=H5 at s5 g5 r5 ⊢;generalize (v1++v2)++v4=vs at g5 r5 e5 ⊢;have m0:=yd d (show (16:Int)≠0 by decide);have m1:=x9 d (show (0:Int)<16 by decide);have hl:(d%16).toNat<vs.length:=om;have ev:d%(vs.length:Int)=(((d%16).toNat:Nat):Int):=by rw[e5];show d%16=_;exact xm
  refine ak _ rfl (vr rfl (vr rfl (eL l5 vs rfl (.inl (aq.of g5)) ⟨_,⟨_,rfl,rfl,(by show (0:Int)<(vs.length:Int);omega),l5,vs,_,vs[(d%16).toNat],rfl,rfl,aq.of g5,?_,?_⟩⟩)))
  ·rw[ev];exact cR (aT hl)
  ·exact q _ _ (s1.trans (s2.trans (s3.trans (s4.trans s5)))) (r5 _ (GQ hl))
theorem eA.dat{K:W.Frag}{H:Hp}{v:V}(h:eA H v):∃d,gy K H v d/\d.canLay0=true/\d.depth<=2:=by
 rcases h with ⟨i,rfl⟩ | ⟨x,rfl,h⟩ | ⟨a,rfl,h⟩
 ·exact cO _ (.int i) rfl (by simp[jM])
 ·exact cO _ (.str x) (by simp only[nV];exact h) (by simp[jM])
 ·exact cO (.list []) (.lst (aq.of h) .nil) rfl (by simp[jM,pZ])
theorem eA.ty{H:Hp}{v:V}(h:eA H v):∃T,tyName H v=some T:=by
 rcases h with ⟨i,rfl⟩ | ⟨x,rfl,h⟩ | ⟨a,rfl,h⟩
 ·exact⟨_,rfl⟩
 ·exact⟨_,rfl⟩
 ·refine⟨"list",?_⟩;show (match H a with | some (.lst _)=>some "list" | some (.tup _)=>some "tuple" | _=>none)=_;rw[h]
theorem Qv{K:W.Frag}{H:Hp}:∀{xs:List V},(∀x∈xs,eA H x)->∃ds,kX K H xs ds/\qN ds=true/\pZ ds<=2
 | [],_=>⟨[],.nil,rfl,by simp[pZ]⟩
 | x::xs,h=>by
  refine aJ ((h x (by simp)).dat (K:=K)) λd h1 h2 h3=>?_;refine aJ (Qv (K:=K) λy hy=>h y (eV _ hy)) λds h4 h5 h6=>?_;refine cO (d::ds) (.cons h1 h4) ?_ ?_
  ·simp only[qN];rw[h2,h5];rfl
  ·simp only[pZ];omega
def tG(t:Tl):PyData:=.tuple (.str t.1::t.2.map λ(n:Nat)=>.int (n:Int))
def LY(ps:List Pt):PyData:=.tuple (ps.map λp=>.tuple (p.map tG))
theorem P9{K:PySem.W.Frag}{H:Hp}:∀ns:List Nat,kX K H (ns.map λ(n:Nat)=>V.int (n:Int)) (ns.map λ(n:Nat)=>mU (n:Int))
 | []=>.nil
 | n::ns=>.cons (.int _) (P9 ns)
theorem pC.dat{K:PySem.W.Frag}{H:Hp}{v:V}{t:Tl}(h:pC H v t):gy K H v (tG t):=by
 refine ag h λa aa ha=>?_;clear h;subst aa;exact .tup (aF.of ha) (.cons (.str _) (P9 t.2))
theorem jj.dat{K:PySem.W.Frag}{H:Hp}{v:V}{ps:List Pt}(h:jj H v ps):gy K H v (LY ps):=by
 refine cF h λa vs aa ha r=>?_;clear h;subst aa;refine .tup (aF.of ha) (sM (λv p hp=>?_) r);refine cF hp λb us aa hb q=>?_;clear hp;subst aa;exact .tup (aF.of hb) (sM (λv t ht=>ht.dat) q)
theorem SD{sz:Nat}{t:Tl}(g:c7 sz t):(tG t).canLay0=true/\(tG t).depth<=3:=by
 have hw:=abx _ g.word;unfold tG;refine⟨?_,?_⟩
 ·simp only[nV,qN];rw[vZ (f:=λn:Nat=>mU (n:Int)) λa _=>by simp[nV]];simp[hw]
 ·simp only[jM,pZ];have:=uz (f:=λn:Nat=>mU (n:Int)) (k:=1) (l:=t.2) λa _=>by simp[jM]
  omega
theorem ahO{ps:List Pt}(g:uZ ps):shaped (LY ps)=true:=by
 have h1:∀p∈ps,(Pc (p.map tG)).canLay0=true/\(Pc (p.map tG)).depth<=5:=λp hp=>by
  refine oA (g.part p hp) λ_ g2=>?_;refine⟨?_,?_⟩
  ·simp only[nV];exact vZ λt ht=>(SD (g2 t ht)).1
  ·simp only[jM];have:=uz (f:=tG) (k:=3) (l:=p) λt ht=>(SD (g2 t ht)).2;exact wb
 unfold LY shaped;rw[jc];refine⟨?_,decide_eq_true ?_⟩
 ·simp only[nV];exact vZ λp hp=>(h1 p hp).1
 ·simp only[jM];have:=uz (f:=λp:Pt=>Pc (p.map tG)) (k:=5) (l:=ps) λp hp=>(h1 p hp).2;exact wb
theorem aba(S:Mc):shaped (.list ((gu S).map mh))=true:=by
 refine Aw (λmv hm=>?_) λmv hm=>?_
 ·have:=AG (Dn hm);unfold shaped at this;rw[jc]at this;exact this.1
 ·unfold mh;have:=uz (f:=mU) (k:=1) (l:=mv.2) (λa _=>by simp[jM]);simp only[jM,pZ];omega
theorem adu{kd:Str}{tn:Int}{es:List Ent}{e:Ent}{r:List Ent}(w:i9 tn es)(he:es=e::r):e.n∈gG kd es:=by
 unfold gG
 by_cases z:kd = "row"
 ·rw[if_pos z,he];simp
 ·rw[if_neg z,Px w];exact lV.mpr (ak e (by rw[he];simp) rfl)
theorem abU{S:Mc}(W:kj S)(B8:∀k∈S.ck,i9 k.tn k.es):wF S=decide (gu S=[]):=by
 cases h:decide (gu S=[])with
 | true=>
  have hm:gu S=[]:=of_decide_eq_true h;unfold gu at hm;refine oA (List.append_eq_nil_iff.mp hm) λh1 h2=>?_;unfold wF;rw[Aj];intro c hc;have pd:=uk.mp hc;have hk:S.ck[c]?=some S.ck[c]:=aT pd;refine dJ (W.part hk) λp hp _ dE _=>?_;have Vv:=bb hk;generalize S.ck[c]=k at hk dE Vv
  have NM:k.es=[]:=by
   cases he:k.es with
   | nil=>rfl
   | cons e r=>
    exfalso;have fq:e.n∈gG S.kd k.es:=adu (B8 k Vv) he
    have tY:(("carry" : Str),[(c:Int),e.n])∈yE S:=by
     unfold yE lF;exact ZK.mpr (ak (k,c) (Yr.mpr hk) (by unfold wJ;exact lV.mpr ⟨e.n,fq,rfl⟩))
    rw[h2]at tY;cases tY
  have gL:oB S c=false:=by
   cases hb:oB S c with
   | false=>rfl
   | true=>
    exfalso
    have tY:(("do" : Str),[(c:Int)])∈kg S S.ck.length:=by
     unfold kg;exact lV.mpr (ak c (qa.mpr ⟨hc,hb⟩) rfl)
    rw[h1]at tY;cases tY
  rw[AX hk hp]at gL;unfold nB at gL;show rF S c=true;unfold rF;rw[hk,hp];dsimp only;cases hs:p[k.pl]? with
  | some s=>
   rw[hs]at gL;have xR:(decide (k.es=[]) || !kU s)=false:=gL;rw[decide_eq_true NM,Bool.true_or]at xR;cases xR
  | none=>
   have oZ:p.length<=k.pl:=Oi.mp hs;rw[decide_eq_true (show k.pl=p.length by omega),decide_eq_true NM];rfl
 | false=>
  have hm:=of_decide_eq_false h;cases he:wF S with
  | false=>rfl
  | true=>
   exfalso;apply hm;unfold wF at he;rw[Aj]at he
   have all:∀(c:Nat) (k:Ck) (p:Pt),S.ck[c]?=some k->S.ps[c]?=some p->k.pl=p.length/\k.es=[]:=λc k p hk hp=>by
    have hh:=he c (uk.mpr (eK.mp hk).1);unfold rF at hh;rw[hk,hp]at hh;have hh:(decide (k.pl=p.length)&&decide (k.es=[]))=true:=hh;rw[jc]at hh;exact⟨of_decide_eq_true hh.1,of_decide_eq_true hh.2⟩
   refine List.eq_nil_iff_forall_not_mem.mpr λmv fq=>?_;rcases sL fq with ⟨c,rfl,hc,gL⟩ | ⟨c,k,n,rfl,hk,gQ⟩
   ·refine uB (v9 W hc gL) λk p s _ hk hp hs g=>?_;rw[(all c k p hk hp).1,CG (aH _)]at hs;cases hs
   ·refine ag (W.part hk) λp hp _=>?_;rw[(all c k p hk hp).2,PX]at gQ;cases gQ
theorem a9.kinds{t:bg}{C CT:Addr}{H:Hp}{m:Addr}{A:MA}{S:Mc}(M:a9 t C CT H m A S){b:Addr}(hb:cX m A b):∃o,H b=some o/\((∃C dx fs,o=.ins C dx fs)\/∃xs,o=.lst xs):=by
 cases hb with
 | m=>obtain⟨dx,fs,h,_⟩:=M.obj;exact⟨_,h,.inl ⟨_,_,_,rfl⟩⟩
 | lt=>exact⟨_,M.lt,.inr ⟨_,rfl⟩⟩
 | pl=>exact⟨_,M.pl,.inr ⟨_,rfl⟩⟩
 | ct=>exact⟨_,M.ct,.inr ⟨_,rfl⟩⟩
 | rg=>exact⟨_,M.rg,.inr ⟨_,rfl⟩⟩
 | ce=>exact⟨_,M.ce,.inr ⟨_,rfl⟩⟩
 | ac=>obtain⟨vs,h,_⟩:=M.ac;exact⟨_,h,.inr ⟨_,rfl⟩⟩
 | cm=>exact⟨_,M.cm,.inr ⟨_,rfl⟩⟩
 | rs h=>obtain⟨c,_,q⟩:=mQ M.rs h;exact⟨_,q,.inr ⟨_,rfl⟩⟩
 | cs h=>obtain⟨c,_,q⟩:=mQ M.cs h;exact⟨_,q,.inr ⟨_,rfl⟩⟩
 | ts h h2=>
  refine ag (mQ M.ts h) λc _ q=>?_;refine oE (q.there _ h2) λo e=>?_;exact ak o e (q.kinds _ h2 _ e)
theorem a9.KS{t:bg}{C CT:Addr}{H:Hp}{m:Addr}{A:MA}{S:Mc}(M:a9 t C CT H m A S):∀b,cX m A b->∀xs,H b≠some (.tup xs):=λb hb xs e=>by
 refine ag (M.kinds hb) λo e' h=>?_;rw[e]at e';cases e';rcases h with ⟨_,_,_,z⟩ | ⟨_,z⟩ <;> cases z
theorem Il{K:PySem.W.Frag}{H H':Hp}{a:Addr}{xs:List V}(k:aR iT H H')(h:aq K H a xs):aq K H' a xs:=by
 rcases h with (h | ⟨o,h⟩) | h
 ·exact .inl (.inl (k.k _ _ (λz=>z) (λps z=>by cases z) h))
 ·exact .inl (.inr ⟨o,k.k _ _ (λz=>z) (λps z=>by cases z) h⟩)
 ·exact .inr h
theorem cC.nu{H H1 H2:Hp}{m:Addr}(k1:aR iT H H1)(hm:H m=none)(k:cC m H1 H2):aR iT H H2:=⟨λb o n hn e=>k.k b o (λz=>by rw[z,hm]at e;cases e) (k1.k b o n hn e),λb h=>k1.t b (k.t b h)⟩
theorem aiH{PT m C dx:Addr}{H H':Hp}{fs:List (Str×V)}(k:cC m H H')(hm:H m=some (.ins C dx fs))(h:cU PT LP LQ H):cU PT LP LQ H':=
 Az (F:=[m]) h (λb o n e=>k.k b o (λz=>n (by rw[z];exact ip.mpr rfl)) e) λb hb o e=>by rw[ip.mp hb,hm]at e;cases e;exact .inl ⟨_,_,_,rfl⟩
structure LI(t:bg)(C CT PT:Addr)(H H':Hp)(m:Addr)(A:MA)(s:Addr)(B:SA)(S:Mc)(v:V)(n:Nat):Prop where
 M:a9 t C CT H' m A S
 L:∃lab,jm lab m A
 N:cI H' s B S
 LS:∃lab,lH lab s B
 W:iA n S
 P:jj H' v S.ps
 ao:rO S
 no:Ea S
 lam:cU PT LP LQ H'
 k:aR iT H H'
 fm:∀b,cX m A b->H b=none
 fs:∀b,k7 s B b->H b=none
 dj:∀b,k7 s B b->¬cX m A b
section
variable{t:bg}{C CT PT:Addr}{H H1 H2 H3:Hp}{m s:Addr}{A:MA}{B:SA}{S:Mc}{v:V}{n:Nat}
theorem LI.nu(I:LI t C CT PT H H1 m A s B S v n)(k:aR iT H1 H2)(lam:cU PT LP LQ H2):LI t C CT PT H H2 m A s B S v n:=
 ⟨I.M.nu k,I.L,I.N.Bn k λb z=>z.elim,I.LS,I.W,I.P.keep k.zd,I.ao,I.no,lam,I.k.trans k,I.fm,I.fs,I.dj⟩
theorem LI.same(I:LI t C CT PT H H1 m A s B S v n)(k:af H1 H2):LI t C CT PT H H2 m A s B S v n:=I.nu (aR.of k) (lW I.lam k)
theorem LI.MG(I:LI t C CT PT H H1 m A s B S v n):∀k∈S.ck,i9 k.tn k.es:=λk hk=>by
 refine oE (uh hk) λi hi=>?_;refine ag (I.M.tD hi) λx _ T=>?_;exact T.wf
theorem LI.done(I:LI t C CT PT H H1 m A s B S v n)(k:aR (cX m A) H1 H2):cI H2 s B S/\jj H2 v S.ps:=
 ⟨I.N.Bn k λb z=>⟨λy=>I.dj b y z,I.M.KS b z⟩,I.P.keep (k.tup λb z=>I.M.KS b z)⟩
theorem LI.step(I:LI t C CT PT H H1 m A s B S v n){mv:Mv}(hn:n<15000)(fq:mv∈gu S)(M2:a9 t C CT H2 m A (ir S mv))(k2:aR (cX m A) H1 H2)(qy:cU PT LP LQ H2)(N3:cI H3 s B (ir S mv))(f3:FS s B H2 H3):LI t C CT PT H H3 m A s B (ir S mv) v (n+1):=by
 refine oA (I.done k2) λN2 P2=>?_;refine iP (HQ I.W fq) λe1 e2 e3=>?_;refine⟨M2.Bn f3.p λb z=>⟨I.dj b z,λo e=>?_⟩,I.L,N3,I.LS,agY I.W hn fq,?_,agZ I.W.wf fq I.ao,adk I.W fq I.no,f3.l.lam qy,⟨λb o z hn e=>?_,λb e=>I.k.t b (k2.t b (f3.p.t b e))⟩,I.fm,I.fs,I.dj⟩
 ·refine oE (N2.lists z) λxs h=>?_;rw[h]at e;cases e;exact⟨_,rfl⟩
 ·rw[e2];exact P2.keep f3.l.tup
 ·refine f3.p.k b o (λy=>?_) hn (k2.k b o (λy=>?_) hn (I.k.k b o z hn e))
  ·rw[I.fs b y]at e;cases e
  ·rw[I.fm b y]at e;cases e
end
theorem three(c:Int):∃kd:Str,jr [V.str "row",V.str "name",V.str "none"] (c%3)=some (.str kd)/\(kd = "row"\/kd = "name"\/kd = "none"):=by
 have h1:0<=c%3:=yd _ qc;have h2:c%3<3:=x9 _ qc;have:c%3=0\/c%3=1\/c%3=2:=om;rcases this with e | e | e <;> rw[e]
 ·exact ak _ rfl (.inl rfl)
 ·exact ak _ rfl (.inr (.inl rfl))
 ·exact ak _ rfl (.inr (.inr rfl))
theorem aku{H:Hp}(mv:Mv):∀x∈fo mv,∃T,tyName H x=some T:=by
 intro x hx;unfold fo at hx;rcases cx.mp hx with e | e
 ·rw[e];exact⟨_,rfl⟩
 ·refine ag (lV.mp e) λi _ aa=>?_;subst aa;exact⟨_,rfl⟩
theorem agV{S:Mc}{mv:Mv}(h:mv∈gu S):(fo mv).length<=1000:=by
 rcases sL h with ⟨c,rfl,_⟩ | ⟨c,k,n,rfl,_⟩ <;> simp[fo]
theorem Wr.dat{K:PySem.W.Frag}{H:Hp}{p:Addr}{xs:List V}(h1:H p=some (.tup xs))(h3:∀x∈xs,eA H x):∃d,gy K H (.ref p) d/\shaped d=true/\∀mv,xs=fo mv->d=mh mv:=by
 by_cases hf:∃mv,xs=fo mv
 ·refine oE hf λmv aa=>?_;clear hf;subst aa;refine cO (mh mv) (J4 h1) (AG ?_) (λNh e=>by rw[DM e]);rcases h3 (.str mv.1) (by unfold fo;simp)with ⟨i,e⟩ | ⟨x,e,h⟩ | ⟨a,e,_⟩
  ·cases e
  ·cases e;exact h
  ·cases e
 ·refine aJ (Qv (K:=K) h3) λds h4 h5 h6=>?_;refine cO (.tuple ds) (.tup (aF.of h1) h4) ?_ λmv e=>absurd ⟨mv,e⟩ hf;unfold shaped;rw[jc];refine⟨by simp only[nV];exact h5,decide_eq_true ?_⟩;simp only[jM];exact wb
theorem Wr.str{H:Hp}{xs:List V}(h3:∀x∈xs,eA H x):∀mv,xs=fo mv->iV mv.1=true:=λmv e=>by
 subst e;rcases h3 (.str mv.1) (by unfold fo;simp)with ⟨i,e⟩ | ⟨x,e,h⟩ | ⟨a,e,_⟩
 ·cases e
 ·cases e;exact h
 ·cases e
abbrev U5:List Stmt:=U8 ((gr pH).getD 6 (.Pass ⟨0,0,0,0⟩))
theorem acG:sH "min" = some (.builtin "min"):=dk
section
variable{t:bg}{C CT PT:Addr}
def Ub(K:W.Frag)(PT:Addr):Sp:=λvs H Q _=>∃(a:Addr) (ns:List Int),vs=[.ref a]/\aq K H a (ns.map V.int)/\ns.length<=63/\cU PT LP LQ H/\∀H',Q (.bl true) H'
theorem qo:bc zLc ["_law_script"] (aO pH):=bz
theorem aij{f fC fM fP fI fN fL XU XW fW fR fD N8 fS fK iN:Addr}{fd dC dM dP dI dN dL X2 X4 dW dR dD X3 dS dK:aV}(F:aW K "law" "law" pH f fd)(dY:mg "len" = none)(dB:mg "range" = none)(ang:mg "min" = none)(cM:ib K C)
  (GC:ay P w K mg base az 1 fC dC zLu (S8 K)) (kC:W.keepIn K (.ref fC)=true) (bC:Binds K dC zLu []) (mC:mg "_law_cell_at" = some (.ref fC))
  (GM:ay P w K mg base az 1 fM dM zLs Kw) (kM:W.keepIn K (.ref fM)=true) (bM:Binds K dM zLs []) (mM:mg "_law_mixed" = some (.ref fM))
  (GP:ay P w K mg base az 2 fP dP ["_law_cell"] RQ) (kP:W.keepIn K (.ref fP)=true) (bP:Binds K dP ["_law_cell"] []) (mP:mg "_law_program" = some (.ref fP))
  (mk:Mk K C fI) (GI:ay P w K mg base az 7 fI dI ["self","program","kind"] (RP t C CT)) (UN:mg "Machine" = some (.ref C)) (b3:Binds K dI ["self","program","kind"] []) (tk:Nat) (b2:Binds K dI ["self","program","kind"] [.str "row" tk])
  (GN:ay P w K mg base az 1 fN dN ["_law_program_here"] Ua) (kN:W.keepIn K (.ref fN)=true) (bN:Binds K dN ["_law_program_here"] []) (mN:mg "_law_new" = some (.ref fN))
  (GL:ay P w K mg base az 1 fL dL zLm Q4) (kL:W.keepIn K (.ref fL)=true) (bL:Binds K dL zLm []) (mL:mg "_law_moves" = some (.ref fL))
  (GMv:ay P w K mg base az 4 XU X2 ["self"] (DJ t C CT PT)) (bMv:Binds K X2 ["self"] []) (mMv:Meth K C "moves" XU)
  (GEn:ay P w K mg base az 2 XW X4 ["self"] (RT t C CT)) (bEn:Binds K X4 ["self"] []) (mEn:Meth K C "ended" XW)
  (GW:ay P w K mg base az 1 fW dW zLx RM) (kW:W.keepIn K (.ref fW)=true) (bW:Binds K dW zLx []) (mW:mg "_law_wrong" = some (.ref fW))
  (GR:ay P w K mg base az 8 fR dR zLv (Ql t C CT PT)) (kR:W.keepIn K (.ref fR)=true) (bR:Binds K dR zLv []) (mR:mg "_law_refused" = some (.ref fR))
  (GD:ay P w K mg base (km P w) 7 fD dD ["self","move"] (LA t C CT PT iN)) (bD:Binds K dD ["self","move"] []) (mD:Meth K C "do" fD)
  (GMd:ay P w K mg base az 5 N8 X3 zLi SY) (kMd:W.keepIn K (.ref N8)=true) (bMd:Binds K X3 zLi []) (mMd:mg "_law_made" = some (.ref N8))
  (GS:ay P w K mg base az 5 fS dS zLt (RN t C CT PT)) (kS:W.keepIn K (.ref fS)=true) (bS:Binds K dS zLt []) (mS:mg "_law_spoil" = some (.ref fS))
  (GK:ay P w K mg base az 3 fK dK zLl (S3 t C CT)) (kK:W.keepIn K (.ref fK)=true) (bK:Binds K dK zLl []) (mK:mg "_law_like" = some (.ref fK)) :
  ay P w K mg base az 9 f fd ["_law_script"] (Ub K PT):=by
 have GD0:=Kg GD;have dv:Vals [V.str "row"] [Ds "row" tk]:=.cons ⟨tk,rfl⟩ .nil;refine F.ok qo (λvs H Q E h=>?_) λaI A outer s H vs Q E hr h=>?_
 ·refine bf h λa ns aa _=>?_;clear h;subst aa;rfl
 ·obtain⟨a,ns,aa,hS,hlen,rP,q⟩:=h;subst aa;have hu:=hr.units;have eG:=hr.mono (show 1<=8 by decide);have mz:=hr.mono (show 2<=8 by decide);have NA:=hr.mono (show 3<=8 by decide);have qH:=hr.mono (show 4<=8 by decide);have sh:=hr.mono (show 5<=8 by decide);have hr7:=hr.mono (show 7<=8 by decide)
  obtain⟨t3,p3,u3⟩:∃t3,eD (lE az P w K mg base zLc "law" (aO pH) f aI A outer s H E).pO (U5.drop 6) t3/\∀(D:Ends) (σ:L2.St) (H1:Hp),(∃m A s B S v n kd z5 z6 z7 z8 z9,σ=[some (.ref a),some v,some (.str kd),some (.ref m),some (.ref s),z5,z6,z7,z8,z9]/\LI t C CT PT H H1 m A s B S v n/\n<64/\∀H2,LI t C CT PT H H2 m A s B S v n->D.nx [some (.ref a),some v,some (.str kd),some (.ref m),some (.ref s),z5,z6,z7,z8,z9] H2)->t3 D σ H1:=by
   refine⟨_,(aA (cZ (dg GS sh rfl mS kS bS .nil aS (ae (pv 3) (ae (cj fv rfl dY PySem.boot_len (ae (pv 1) ai)) ai)))) (aB (bZ (m8 (iJ (dg GK NA rfl mK kK bK .nil aS (ae (pv 3) (ae (pv 4) (ae (pv 1) ai)))))) (aB (a7 kQ)) cu))),?_⟩;rintro D σ H1 ⟨m,A,s,B,S,v,n,kd,z5,z6,z7,z8,z9,rfl,I,hn,k⟩;refine cF (id I.P) λpg dr aa fV k8=>?_;subst aa;have dE:dr.length=S.ck.length:=by rw[Paired.length k8];exact I.W.wf.len.symm
   refine vr rfl (vr rfl (eL pg dr rfl (.inr (aF.of fV)) (je m A S n (by rw[dE];rfl) I.M I.W hn I.lam λH2 k2 qy=>?_)));have I2:=I.nu k2 qy;refine ak _ rfl (vr rfl (vr rfl (GZ m A s B S (.ref pg) n rfl I2.M I2.N I2.W hn I2.ao I2.P λH3 s3=>⟨_,rfl,eY ?_⟩)));exact k H3 (I2.same s3)
  obtain⟨t2,p2,u2⟩:∃t2,eD (lE az P w K mg base zLc "law" (aO pH) f aI A outer s H E).pO (U5.drop 5) t2/\∀(D:Ends) (σ:L2.St) (H1:Hp),(∃m A s B S v n l ws y5 d y8 y9,σ=[some (.ref a),some v,some (.str S.kd),some (.ref m),some (.ref s),y5,some (.int d),some (.ref l),y8,y9]/\LI t C CT PT H H1 m A s B S v n/\n<62/\H1 l=some (.lst ws)/\(∀b,cX m A b->b≠l)/\Paired (gg H1) ws (gu S)/\∀S' n' H2 z5 z6 z7 z8 z9,S'.kd=S.kd->n'<=n+1->LI t C CT PT H H2 m A s B S' v n'->D.nx [some (.ref a),some v,some (.str S.kd),some (.ref m),some (.ref s),z5,z6,z7,z8,z9] H2)->t2 D σ H1:=by
   refine⟨_,aA (bZ (bq (Rj hu) (pv 7) (eh ai) (br _)) (aA (cy (i:=9) qo.nd rfl (aQ rfl) (ax aP (pv 7) (a6 ij (a6 pA (pv 6) aj) (cj fv rfl dY PySem.boot_len (ae (pv 7) ai))))) (aA (bZ (bq agw (gX (pv 3) cM.cl mD GD0 hr7 bD .nil aS (ae (pv 9) ai)) m9 (br _)) (aB (a7 kQ)) cu) (aB (cZ (dg GMd sh rfl mMd kMd bMd .nil aS (ae (pv 4) (ae (pv 1) (ae (pv 2) (ae (pv 9) ai))))))))) cu) p3,?_⟩;rintro D σ H1 ⟨m,A,s,B,S,v,n,l,ws,y5,d,y8,y9,rfl,I,hn,hl,zI,eE,k⟩;have ja:=Paired.length eE;refine vr rfl ⟨qc,(λl2 n2=>?_)⟩;have s2:af H1 (upd H1 l2 (.lst [])):=aE (af.refl _) n2;have jH:upd H1 l2 (.lst []) l2=some (.lst []):=aw;generalize upd H1 l2 (.lst [])=H2 at s2 jH ⊢;have I2:=I.same s2;refine kE l l2 ws rfl rfl (s2 _ _ hl) jH (ak _ rfl (uU (λhe=>?_) λhe=>?_))
   ·have Mn:0<ws.length:=List.length_pos_iff.mpr he;have m0:=yd (d/8) (show (ws.length:Int)≠0 by omega);have m1:=x9 (d/8) (show (0:Int)<(ws.length:Int) by omega);obtain⟨i,ei,hi⟩:∃i:Nat,d/8%(ws.length:Int)=(i:Int)/\i<ws.length:=⟨(d/8%(ws.length:Int)).toNat,xm,om⟩;have B7:ws[i]?=some ws[i]:=aT hi;refine ag (pj eE B7) λmv tY aa=>?_;refine ag aa λp ep hp=>?_;have fq:=bb tY;have qI:=s2 _ _ hp;refine vr rfl (vr rfl ⟨_,⟨_,rfl,rfl,⟨qc,qc⟩,_,rfl,l,ws,rfl,.inl (aq.of (s2 _ _ hl)),_,_,rfl,rfl,(by show (0:Int)<(ws.length:Int);omega),l,ws,_,.ref p,rfl,rfl,aq.of (s2 _ _ hl),(by rw[ei,<-ep];exact cR B7),?_⟩⟩);refine oE I.L λlab L=>?_;refine oE I.LS λMf LS=>?_;refine bf (id I2.M.obj) λdx fs hm G=>?_;refine vM rfl hm (G.ms _ dk) (vr rfl (vQ m A S p _ lab rfl I2.M L I.W.wf (I.W.vj w5) I2.lam qI (aku _) (ke (agV fq) (λNh e=>(by rw[<-DM e];exact Dn fq)) (λNh e apj H3 M3 k3 BA=>?_) λz _ _ _=>absurd fq (z mv rfl))));have emv:=DM e;subst emv;refine⟨rfl,⟨_,rfl,uU (λy=>absurd rfl y) λ_=>?_⟩⟩;refine oA (I2.done k3) λN3 P3=>?_;have tW:=k3.tup (λb z=>I2.M.KS b z) _ _ qI;refine ak _ rfl (vr rfl (vr rfl (vr rfl (qP s B S v p mv Mf n rfl N3 LS I.W wa P3 (rq tW fq I.no I.MG λH4 N4 f4=>?_)))));have I4:=I2.step wa fq M3 k3 BA N4 f4;exact u3 _ _ _ (C8 m A s B (ir S mv) v (n+1) S.kd _ _ (qD _ _ (pD _ rfl I4 om λH5 I5=>k (ir S mv) (n+1) H5 _ _ _ _ _ (HQ I.W fq).1 (aH _) I5)))
   ·exact u3 _ _ _ (C8 m A s B S v n S.kd _ _ (qD _ _ (pD _ rfl I2 wa λH5 I5=>k S n H5 _ _ _ _ _ rfl xd I5)))
  obtain⟨t1,p1,u1⟩:∃t1,eD (lE az P w K mg base zLc "law" (aO pH) f aI A outer s H E).pO ((gr pH).drop 4) t1/\∀(D:Ends) (σ:L2.St) (H1:Hp),(∃m A v ps kd y4 y5 y6 y7 y8 y9,σ=[some (.ref a),some v,some (.str kd),some (.ref m),y4,y5,y6,y7,y8,y9]/\a9 t C CT H1 m A (qw kd ps)/\(∃lab,jm lab m A)/\jj H1 v ps/\uZ ps/\cU PT LP LQ H1/\aR iT H H1/\(∀b,cX m A b->H b=none)/\∀H',D.rt (.bl true) H')->t1 D σ H1:=by
   refine⟨_,aA (bZ (PW.pt (pw_or (bq (wB hu) (bo (pv 3) rfl) (pv 1) (br _)) (pw_or1 (bq Bj (bo (pv 3) rfl) (pv 2) (br _))))) (aB (a7 kQ)) cu) (aA (cy (i:=4) qo.nd rfl (aQ rfl) (dg GN eG rfl mN kN bN .nil aS (ae (pv 1) ai))) (aA (pB p0 rfl (Qu rfl dB (ae aj (ae (cj (adN rfl) rfl ang acG (ae (cj fv rfl dY PySem.boot_len (ae (pv 0) ai)) (ae aj ai))) ai))) (cW (i:=5) qo.nd rfl (aQ rfl)) (aA (cy (i:=6) qo.nd rfl (aQ rfl) (dg GM eG rfl mM kM bM .nil aS (ae (ax aP (pv 0) (pv 5)) (ae (pv 5) ai)))) (aA (cy (i:=7) qo.nd rfl (aQ rfl) (dg GL eG rfl mL kL bL .nil aS (ae (pv 4) (ae (pv 1) (ae (pv 2) ai))))) (aA (bZ (PW.pt (pw_or (bq (wB hu) (mV (pv 3) cM.cl mMv GMv qH bMv .nil aS) (pv 7) (br _)) (pw_or1 (bq Bj (mV (pv 3) cM.cl mEn GEn mz bEn .nil aS) (AW (Rk hu) (pv 7) (eh ai) (br _)) (br _))))) (aB (a7 kQ)) cu) (aA (cy (i:=8) qo.nd rfl (aQ rfl) (dg GW eG rfl mW kW bW .nil aS (ae (a6 pA (pv 6) aj) (ae (cj fv rfl dY PySem.boot_len (ae (pv 1) ai)) ai)))) (aA (bZ (PW.pt (pw_and (bq dm (a6 ij (pv 6) aj) aj (br _)) (pw_and (bq (Qx (RI hr)) (pv 8) (pv 7) rfl) (pw_and1 (m8 (iJ (dg GR hr rfl mR kR bR .nil aS (ae (pv 3) (ae (pv 8) ai))))))))) (aB (a7 kQ)) cu) p2)))))) (aB (a7 kQ)))),?_⟩;rintro D σ H1 ⟨m,A,v,ps,kd,y4,y5,y6,y7,y8,y9,rfl,M,L,hP,hg,lam,k1,fm,qr⟩;refine bf (id M.obj) λdx fs hm G=>?_;refine vF rfl hm cM.cl cM.program G.program (vr rfl (yB M.pg.dat hP.dat (ahO hg) ⟨_,rfl,eY ?_⟩));refine vF rfl hm cM.cl cM.kind G.kind (vr rfl ⟨rfl,⟨_,rfl,uU (λz=>absurd rfl z) λ_=>?_⟩⟩);refine vr rfl (yL v ps kd rfl hP hg.le λH2 s B Mf N LS s2 iQ=>?_)
   have I0:LI t C CT PT H H2 m A s B (qw kd ps) v 0:=⟨M.same s2,L,N,⟨Mf,LS⟩,ais hg,hP.keep λb xs e=>s2 _ _ e,ait kd ps,aeG kd ps,lW lam s2,k1.trans (aR.of s2),fm,λb z=>k1.t b (iQ b z),λb z y=>by
    refine ag (M.kinds y) λo e _=>?_;rw[iQ b z]at e;cases e⟩
   have UO:(if (62:Int)<((ns.map V.int).length:Int) then (62:Int) else ((ns.map V.int).length:Int))<=62/\0<=(if (62:Int)<((ns.map V.int).length:Int) then (62:Int) else ((ns.map V.int).length:Int))/\(if (62:Int)<((ns.map V.int).length:Int) then (62:Int) else ((ns.map V.int).length:Int))<=ns.length:=by
    rw[aN]
    split <;> omega
   refine vr rfl ⟨a,⟨_,rfl,.inl (Il I0.k hS),_,_,rfl,2,_,rfl,⟨qc,qc,om,om⟩,?_⟩⟩;generalize hmm:(if (62:Int)<((ns.map V.int).length:Int) then (62:Int) else ((ns.map V.int).length:Int))=mx at UO;refine iP UO λx1 x2 x3=>?_;refine uy (n:=(mx-2).toNat) (λi σ H'=>∃S n z5 z6 z7 z8 z9,σ=[some (.ref a),some v,some (.str kd),some (.ref m),some (.ref s),z5,z6,z7,z8,z9]/\S.kd=kd/\n<=i/\LI t C CT PT H H' m A s B S v n) ⟨qw kd ps,0,_,_,_,_,_,rfl,rfl,aH _,I0⟩ ?_ ?_
   ·rintro i σ H3 hi ⟨S,n,z5,z6,z7,z8,z9,rfl,lL,zJ,I⟩;have de:2+i<ns.length:=om;have anf:n<62:=om;obtain⟨c,hc⟩:∃c,ns[2+i]?=some c:=⟨_,aT de⟩
    have hat:jr (ns.map V.int) (2+(i:Int))=some (.int c):=by
     have e:(2+(i:Int))=((2+i:Nat):Int):=om;rw[e];exact cR (by rw[gC,hc];rfl)
    refine vr rfl (vr rfl (kz a _ _ (.int c) rfl rfl (Il I.k hS) hat (vr rfl (eT c (2+(i:Int)) rfl ?_))));refine oA (AM c (2+(i:Int))) λd0 _=>?_;generalize oo c (2+(i:Int))=d at d0;refine ak _ rfl (vr rfl (vr rfl (⟨s,B,S,v,n,(by rw[lL];rfl),I.N,I.W,wa,I.P,I.MG,(λH4 l ws s4 nl hl eE=>?_)⟩)));have I4:=I.same s4;refine bf (id I4.M.obj) λF9 qL zL G4=>?_;refine vM rfl zL (G4.ms _ dk) (kE m A S rfl I4.M I4.W.wf I4.lam λH5 l5 ws5 k5 Me BZ Cd amQ=>?_);have I5:=I4.nu k5 Me;have vA:=k5.wV hl;have Vo:=Paired.b9 eE λ_ _ q=>gg.keep k5.zd q;refine vr rfl (yB (d:=.list ((gu S).map mh)) (.lst (aq.of Cd) (Dy amQ)) (.lst (aq.of vA) (Dy Vo)) (aba S) ⟨_,rfl,eY ?_⟩);refine bf (id I5.M.obj) λdx5 sq FR G5=>?_;refine vM rfl FR (G5.ms _ dk) (yL m A S rfl I5.M I5.W.wf λH6 s6=>?_);have I6:=I5.same s6;refine vr rfl ⟨qc,(λl7 n7=>?_)⟩;have s7:af H6 (upd H6 l7 (.lst [])):=aE (af.refl _) n7;have Xm:upd H6 l7 (.lst []) l7=some (.lst []):=aw;generalize upd H6 l7 (.lst [])=H7 at s7 Xm ⊢;have I7:=I6.same s7;have Xk:=(s6.trans s7) _ _ vA;have amP:=Paired.b9 Vo λ_ _ q=>gg.keep (λb xs e=>(s6.trans s7) _ _ e) q
    have anP:wF S=decide (ws=[]):=by
     rw[abU I.W.wf I.MG];have:=Paired.length eE
     by_cases z:ws=[]
     ·rw[decide_eq_true z];refine decide_eq_true (nU.mp ?_);rw[<-this,z];rfl
     ·rw[decide_eq_false z];refine decide_eq_false λy=>z (nU.mp ?_);rw[this,y];rfl
    refine⟨l,l7,ws,rfl,rfl,Xk,Xm,rfl,(ak _ rfl (uU (λz=>absurd (by rw[anP]) z) λ_=>?_))⟩;refine cF (id I7.P) λpg dr ev fV k8=>?_;have dE:dr.length=S.ck.length:=by rw[Paired.length k8];exact I.W.wf.len.symm
    have iU:=I.W.wf.good.ne;have apd:=I.W.wf.len;subst ev;refine ak _ rfl ⟨_,⟨_,rfl,rfl,⟨qc,qc⟩,_,rfl,pg,dr,rfl,.inr (aF.of fV),_,_,rfl,(by show (0:Int)<(dr.length:Int);omega),λH8 wv s8 W9=>?_⟩⟩;have I8:=I7.same s8;have FU:=s8 _ _ Xk;have EH:=Paired.b9 amP λ_ _ q=>gg.keep (λb xs e=>s8 _ _ e) q;refine jW W9 λp xs aa hp hxl zG=>?_;clear W9;subst aa
    have nlm:∀b,cX m A b->b≠l:=λb hb e=>by
     refine ag (I.M.kinds hb) λo h _=>?_;rw[e,nl]at h;cases h
    have fin:∀H9 Fd y5 y8 y9,LI t C CT PT H H9 m A s B S (.ref pg) n->H9 l=some (.lst Fd)->Paired (gg H9) Fd (gu S)->∃m' A' s' B' S' v' n' l' V' y5' d' y8' y9',([some (.ref a),some (.ref pg),some (.str kd),some (.ref m),some (.ref s),y5,some (.int d),some (.ref l),y8,y9]:L2.St)=[some (.ref a),some v',some (.str S'.kd),some (.ref m'),some (.ref s'),y5',some (.int d'),some (.ref l'),y8',y9']/\LI t C CT PT H H9 m' A' s' B' S' v' n'/\n'<62/\H9 l'=some (.lst V')/\(∀b,cX m' A' b->b≠l')/\Paired (gg H9) V' (gu S')/\∀Ga Fu H2 z5 z6 z7 z8 z9,Ga.kd=S'.kd->Fu<=n'+1->LI t C CT PT H H2 m' A' s' B' Ga v' Fu->∃S n z5' z6' z7' z8' z9',([some (.ref a),some v',some (.str S'.kd),some (.ref m'),some (.ref s'),z5,z6,z7,z8,z9]:L2.St)=[some (.ref a),some (.ref pg),some (.str kd),some (.ref m),some (.ref s),z5',z6',z7',z8',z9']/\S.kd=kd/\n<=i+1/\LI t C CT PT H H2 m A s B S (.ref pg) n:=λH9 Fd y5 y8 y9 I9 h1 h2=>
     ⟨m,A,s,B,S,.ref pg,n,l,Fd,y5,d,y8,y9,by rw[lL],I9,anf,h1,nlm,h2,λGa Fu H2 z5 z6 z7 z8 z9 a1 a2 a3=>⟨Ga,Fu,_,_,_,_,_,by rw[lL],by rw[a1,lL],om,a3⟩⟩
    refine aJ (Wr.dat (K:=K) hp zG) λdw hdw Nz tY=>?_;refine ak _ rfl ⟨_,⟨_,rfl,rfl,(by show (0:Int)<3;decide),rfl,_,rfl,bG (λ_=>?_) λ_=>eY (u2 _ _ _ (fin H8 ws _ _ _ I8 FU EH))⟩⟩;refine ak _ rfl (vr rfl (⟨l,ws,_,dw,rfl,(aq.of FU),(Dy EH),hdw,Nz,(λd hd=>?_),(ak _ rfl ?_)⟩))
    ·refine ag (lV.mp hd) λmv ha aa=>?_;subst aa;exact AG (Dn ha)
    rw[if_pos rfl];cases hb:((gu S).map mh).any (λd=>qW d dw)with
    | true=>exact eY (eY (u2 _ _ _ (fin H8 ws _ _ _ I8 FU EH)))
    | false=>
     refine oE I8.L λlab L8=>?_;refine iZ (ak _ rfl (vr rfl (vQ m A S p xs lab rfl I8.M L8 I8.W.wf (I8.W.vj w5) I8.lam hp (λx hx=>(zG x hx).ty) (ke w4 (Wr.str zG) (λmv e fq=>?_) λH9 k9 amx=>⟨_,rfl,eY ?_⟩))))
     ·rw[tY mv e,TN,decide_eq_true fq]at hb;cases hb
     ·exact u2 _ _ _ <| fin H9 ws _ _ _ (I8.nu k9 amx) (k9.wV FU) (Paired.b9 EH λ_ _ q=>gg.keep k9.zd q)
   ·rintro σ H3 ⟨S,n,z5,z6,z7,z8,z9,rfl,_⟩;exact qr H3
  refine⟨_,aA (cy (i:=1) qo.nd rfl (aQ rfl) (dg GP mz rfl mP kP bP .nil aS (ae (dg GC eG rfl mC kC bC .nil aS (ae (pv 0) (ae aj ai))) ai))) (aA (cy (i:=2) qo.nd rfl (aQ rfl) (ax aP (eh (ae cA (ae cA (ae cA ai)))) (a6 ij (dg GC eG rfl mC kC bC .nil aS (ae (pv 0) (ae aj ai))) aj))) (aA (cy (i:=3) qo.nd rfl (aQ rfl) (q8 mk GI hr rfl UN b3 .nil aS (ae (pv 1) (ae (pv 2) ai)))) (aA (bZ (PW.pt (pw_and (bq dm (pv 2) cA (br _)) (pw_and1 (bq dm (a6 ij (a6 pA (dg GC eG rfl mC kC bC .nil aS (ae (pv 0) (ae aj ai))) aj) aj) aj (br _))))) (aB (cy (i:=3) qo.nd rfl (aQ rfl) (q8 mk GI hr rfl UN b2 dv aS (ae (pv 1) ai)))) cu) p1))),?_⟩;refine vr rfl (yL a ns 0 rfl hS qc (ak _ rfl λH1 v ps s1 hP hg=>?_));refine ag (three (zc ns 1)) λkd ek lL=>?_;refine⟨(by show 3<=aZ;decide),λq0 WD=>?_⟩;have s2:=aE (o:=.lst [.str "row",.str "name",.str "none"]) s1 WD;have mq:=aE (o:=.lst [.str "row",.str "name",.str "none"]) (af.refl H1) WD;have h0:upd H1 q0 (.lst [.str "row",.str "name",.str "none"]) q0=some (.lst [.str "row",.str "name",.str "none"]):=aw;generalize upd H1 q0 (.lst [.str "row",.str "name",.str "none"])=H2 at s2 mq h0 ⊢;refine vr rfl (yL a ns 1 rfl (s2.seq hS) qc ⟨_,⟨_,rfl,rfl,(by show (0:Int)<3;decide),q0,_,_,.str kd,rfl,rfl,aq.of h0,ek,?_⟩⟩);have XD:=hP.keep λb xs e=>mq _ _ e;have qy:=lW rP s2
  have W2:∀(Ha:Hp) (m dx:Addr),aR iT H Ha->jj Ha v ps->cU PT LP LQ Ha->Ha m=none->Ha dx=none->dx≠m->∀H3 A lab,a9 t C CT H3 m A (qw kd ps)->jm lab m A->cC m (upd (upd Ha dx (.own m)) m (.ins C dx [])) H3->(∀b,cX m A b->b=m\/upd (upd Ha dx (.own m)) m (.ins C dx []) b=none)->jj H3 v ps/\cU PT LP LQ H3/\aR iT H H3/\∀b,cX m A b->H b=none:=λHa m dx ka hPa amw nm gA ne H3 A lab M L k3 fr=>by
   have nm2:upd Ha dx (.own m) m=none:=by rw[ar ne.symm];exact nm
   have sa:af Ha (upd (upd Ha dx (.own m)) m (.ins C dx [])):=aE (aE (af.refl _) gA) nm2;have hm:upd (upd Ha dx (.own m)) m (.ins C dx []) m=some (.ins C dx []):=aw;generalize upd (upd Ha dx (.own m)) m (.ins C dx [])=Hb at sa hm k3 fr;have kb:=ka.trans (aR.of sa);have WI:H m=none:=ka.t m nm;refine ke ((hPa.keep λb xs e=>sa _ _ e).keep (k3.tup hm)) (aiH k3 hm (lW amw sa)) (cC.nu kb WI k3) λb hb=>?_;rcases fr b hb with e | e
   ·rw[e];exact WI
   ·exact kb.t b e
  refine ak _ rfl (vr rfl λm dx nm gA ne=>?_);have gm:∀Ha:Hp,Ha m=none->Ha dx=none->upd (upd Ha dx (.own m)) m (.ins C dx []) m=some (.ins C dx []):=λHa _ _=>aw;refine qd m dx v ps kd rfl aw (XD.keep λb xs e=>aE (aE (o:=.own m) (af.refl _) gA) (by rw[ar ne.symm];exact nm) _ _ e) hg lL λH3 A lab M L ev k3 fr=>⟨rfl,?_⟩;refine tE (W2 H2 m dx (aR.of s2) XD qy nm gA ne H3 A lab M L k3 fr) λF6 BA mi XJ=>?_;refine ak _ rfl ⟨rfl,⟨_,rfl,bG (λam3=>?_) λ_=>eY (u1 _ _ _ ⟨m,A,v,ps,kd,_,_,_,_,_,_,rfl,M,⟨lab,L⟩,F6,hg,BA,mi,XJ,q⟩)⟩⟩;have ekd:kd = "row":=va am3;refine vr rfl (yL a ns 1 rfl (Il mi hS) qc ⟨_,⟨_,rfl,rfl,⟨qc,qc⟩,_,_,rfl,rfl,(by show (0:Int)<2;decide),rfl,_,rfl,bG (λ_=>?_) λ_=>u1 _ _ _ ⟨m,A,v,ps,kd,_,_,_,_,_,_,rfl,M,⟨lab,L⟩,F6,hg,BA,mi,XJ,q⟩⟩⟩);subst ekd;refine vr rfl λm4 F9 WJ Vk ne4=>?_;refine qd m4 F9 v ps ("row") rfl aw (F6.keep λb xs e=>aE (aE (o:=.own m4) (af.refl _) Vk) (by rw[ar ne4.symm];exact WJ) _ _ e) hg lL λH5 A5 Vl M5 L5 ev5 k5 Cj=>⟨rfl,?_⟩;refine tE (W2 H3 m4 F9 mi F6 BA WJ Vk ne4 H5 A5 Vl M5 L5 k5 Cj) λhP5 Me kp5 fm5=>?_;exact u1 _ _ _ (C8 m4 A5 v ps ("row") _ _ _ _ _ (⟨_,rfl,M5,⟨Vl,L5⟩,hP5,hg,Me,kp5,fm5,q⟩))
end
end TL
namespace TL
open PySem PySem.Spec PyProof.Rows PySem.SeqAt L2 L3
theorem akA{us:List Value}(h:us.length=1):∃a,us=[a]:=YS.mp h
theorem akz{us:List Value}(h:us.length=2):∃a b,us=[a,b]:=by
 match us,h with
 | [a,b],_=>exact⟨a,b,rfl⟩
theorem aky{us:List Value}(h:us.length=3):∃a b c,us=[a,b,c]:=by
 match us,h with
 | [a,b,c],_=>exact⟨a,b,c,rfl⟩
theorem akx{us:List Value}(h:us.length=4):∃a b c d,us=[a,b,c,d]:=by
 match us,h with
 | [a,b,c,d],_=>exact⟨a,b,c,d,rfl⟩
theorem akw{us:List Value}(h:us.length=5):∃a b c d e,us=[a,b,c,d,e]:=by
 match us,h with
 | [a,b,c,d,e],_=>exact⟨a,b,c,d,e,rfl⟩
abbrev vq(x q:Str)(st:Stmt)(ps:List Str):Prop:=∀(kV doc pm:Value) (an:Option Addr) (aI ct:Value) (us:List Value),us.length=ps.length->sO (W.fnOf x q (lA st) (gr st) (aO st) .none kV doc pm an aI ct) ⟨us,[]⟩=pure (ps.zip us)
section
variable{K:W.Frag}{h:Heap}{mg:Str->Option Value}{x q m:Str}{st:Stmt}{f c e:Addr}
theorem fU(X:K.In h)(G:h.Ns gc mg)(p:fN K x)(l:HT.bh K (gN K x)=fp x x st)(ps:List Str)(hb:vq x x st ps):∃fd,aW K x x st (gN K x) fd/\W.keepIn K (.ref (gN K x))=true/\Binds K fd ps []/\mg x=some (.ref (gN K x)):=by
 obtain⟨oc,od,kV,dc,pm,an,cd,ct,sl,l1,c1⟩:=HT.uW l p.2.1;have F:=TB (st:=st) l1 c1 p.2.2;exact⟨_,F,p.2.2,F.binds hb,W.mg_of X G (HT.kJ p.1)⟩
theorem dU(p:fM K c m q)(l:HT.bh K (gM K c m)=fp m q st)(ps:List Str)(hb:vq m q st ps):∃fd,aW K m q st (gM K c m) fd/\Binds K fd ps []/\Meth K c m (gM K c m):=by
 obtain⟨oc,od,kV,dc,pm,an,cd,ct,sl,l1,c1⟩:=HT.uW l p.2.1;have F:=TB (st:=st) l1 c1 p.2.2.1;exact⟨_,F,F.binds hb,HT.kJ p.1,p.2.2.2,p.2.2.1⟩
theorem amf(p:fM K c m q)(l:HT.bh K (gM K c m)=fp m q st)(ci:HT.Ez K (gM K c m)=true)(ps:List Str)(hb:vq m q st ps):∃fd,vg K m q st (gM K c m) fd (HT.zl K (gM K c m))/\Binds K fd ps []/\Meth K c m (gM K c m):=by
 obtain⟨oc,od,kV,dc,pm,an,ct,sl,l1,c1⟩:=HT.aiY l p.2.1 ci;have F:=ag8 (st:=st) l1 c1 p.2.2.1;exact⟨_,F,F.fun.binds hb,HT.kJ p.1,p.2.2.2,p.2.2.1⟩
theorem mkD{d:Str}(p:fM K c m q)(l:HT.Ex K (gM K c m)=fp m q st)(df:HT.Ey K (gM K c m) d=true):∃fd,zm K m q st (gM K c m) fd d:=by
 obtain⟨oc,od,T,kV,dc,pm,an,cd,ct,sl,c1,d1,n1,rZ,tk,e1,e2,e3⟩:=HT.aiW l p.2.1 df;exact⟨_,⟨⟨oc,od,T,kV,dc,pm,an,cd,ct,sl,c1,d1,n1,rZ,tk,rfl,e1,e2,e3⟩,p.2.2.1⟩⟩
theorem rS(X:K.In h)(G:h.Ns gc mg)(p:cK K x):eU K (gN K x)/\mg x=some (.ref (gN K x)):=⟨⟨p.2.1,p.2.2.1,p.2.2.2.1,p.2.2.2.2⟩,W.mg_of X G (HT.kJ p.1)⟩
theorem MN(p:xF K c e):Kl K c e:=⟨⟨p.1,p.2.1⟩,p.2.2.1,p.2.2.2.1,p.2.2.2.2.1,p.2.2.2.2.2⟩
end
def TQ(l:W.OpenLaw)(w:World)(K:W.Frag)(mg:Str->Option Value)(fa:Addr):Prop:=
  ∃fd:aV,(∀(s:Shared) (v:Value),BindsTo s fd ⟨[v],[]⟩ [("_law_script",v)])/\(∃c,W.codeHdIn K c 406=true)/\∀base:Heap,K.In base->base.Ns gc mg->tH mg base->ay l.prog w K mg base az 9 fa fd ["_law_script"] (Ub K 406)
theorem sL9{K:W.Frag}(E:seen K=true)(i:Nat){b:Bool}(h:(MJ K ())[i]?=some b):b=true:=Aj.mp E b (bb h)
section
variable{K:W.Frag}(E:seen K=true)
theorem av{K:W.Frag}(E:seen K=true)(i:Nat){p:Prop}{d:Decidable p}(h:(MJ K ())[i]?=some (@decide p d)):p:=@of_decide_eq_true p d (sL9 E i h)
def afc:=av E 0 rfl
def ae':=av E 1 rfl
def afd:=av E 2 rfl
def afa:=av E 3 rfl
def afe:=av E 4 rfl
def afb:=av E 5 rfl
def aff:=av E 6 rfl
def acA:=av E 7 rfl
def adB:=av E 8 rfl
def QO:=av E 9 rfl
def aaT:=av E 10 rfl
def abS:=av E 11 rfl
def aal:=av E 12 rfl
def adC:=av E 13 rfl
def QP:=av E 14 rfl
def aaV:=av E 15 rfl
def abT:=av E 16 rfl
def aaW:=av E 17 rfl
def adA:=av E 18 rfl
def QN:=av E 19 rfl
def aaS:=av E 20 rfl
def abr:=av E 21 rfl
def abR:=av E 22 rfl
def acC:=av E 23 rfl
def P5:=av E 24 rfl
def aam:=av E 25 rfl
def abt:=av E 26 rfl
def aaU:=av E 27 rfl
def acz:=av E 28 rfl
def P0:=av E 29 rfl
def aai:=av E 30 rfl
def abp:=av E 31 rfl
def aaR:=av E 32 rfl
def acB:=av E 33 rfl
def P4:=av E 34 rfl
def aak:=av E 35 rfl
def abq:=av E 36 rfl
def aaj:=av E 37 rfl
def abQ:=av E 38 rfl
def Pp:=av E 39 rfl
def ZS:=av E 40 rfl
def acy:=av E 41 rfl
def PZ:=av E 42 rfl
def aaQ:=av E 43 rfl
def aaP:=av E 44 rfl
def ZR:=av E 45 rfl
def aaO:=av E 46 rfl
def OU:=av E 47 rfl
def Zk:=av E 48 rfl
def Y5:=av E 49 rfl
def ZA:=av E 50 rfl
def Zl:=av E 51 rfl
def Y':=av E 52 rfl
def Za:=av E 53 rfl
def Zz:=av E 54 rfl
def Zm:=av E 55 rfl
def ZC:=av E 56 rfl
def Zb:=av E 57 rfl
def aiZ:=av E 58 rfl
def ai2:=av E 59 rfl
def ai0:=av E 60 rfl
def ai1:=av E 61 rfl
def Kj:=av E 62 rfl
def IK:=av E 63 rfl
def IM:=av E 64 rfl
def IJ:=av E 65 rfl
def Ia:=av E 66 rfl
def HY:=av E 67 rfl
def HZ:=av E 68 rfl
def qf:=av E 69 rfl
def adD:=av E 70 rfl
def adE:=av E 71 rfl
def ahy:=av E 72 rfl
def ahz:=av E 73 rfl
def ahw:=av E 74 rfl
def Ju:=av E 75 rfl
def ahn:=av E 76 rfl
def ahj:=av E 77 rfl
def ahk:=av E 78 rfl
def afz:=av E 79 rfl
def Sw:=av E 80 rfl
def ahh:=av E 81 rfl
def ahl:=av E 82 rfl
def ahm:=av E 83 rfl
def ahi:=av E 84 rfl
def IL:=av E 85 rfl
def adF:=av E 86 rfl
def ahL:=av E 87 rfl
def ahu:=av E 88 rfl
def ahI:=av E 89 rfl
def ahv:=av E 90 rfl
def ahE:=av E 91 rfl
def ahD:=av E 92 rfl
def ahC:=av E 93 rfl
def ahF:=av E 94 rfl
def ahB:=av E 95 rfl
def ahH:=av E 96 rfl
def ahJ:=av E 97 rfl
def aht:=av E 98 rfl
def ahA:=av E 99 rfl
def ahg:=av E 100 rfl
def ahp:=av E 101 rfl
def ahq:=av E 102 rfl
def ahf:=av E 103 rfl
def ahK:=av E 104 rfl
def ahG:=av E 105 rfl
def ahs:=av E 106 rfl
def ahr:=av E 107 rfl
def ahx:=av E 108 rfl
def aho:=av E 109 rfl
def afx:=av E 110 rfl
def afr:=av E 111 rfl
def afo:=av E 112 rfl
def afn:=av E 113 rfl
def afp:=av E 114 rfl
def afy:=av E 115 rfl
def afu:=av E 116 rfl
def afl:=av E 117 rfl
def afj:=av E 118 rfl
def afw:=av E 119 rfl
def afv:=av E 120 rfl
def afq:=av E 121 rfl
def afs:=av E 122 rfl
def aft:=av E 123 rfl
def afm:=av E 124 rfl
def afi:=av E 125 rfl
def afk:=av E 126 rfl
def afh:=av E 127 rfl
def ZU:=av E 128 rfl
def ZV:=av E 129 rfl
def ZT:=av E 130 rfl
def ZE:=av E 131 rfl
def ZD:=av E 132 rfl
def acD:=av E 133 rfl
def ady:=av E 134 rfl
def adz:=av E 135 rfl
def Zc:=av E 136 rfl
def ZM:=av E 137 rfl
def ae8:=av E 138 rfl
def adx:=av E 139 rfl
def ae3:=av E 140 rfl
def aco:=av E 141 rfl
def ae7:=av E 142 rfl
def ae9:=av E 143 rfl
def ae2:=av E 144 rfl
def Z5:=av E 145 rfl
def acp:=av E 146 rfl
def adw:=av E 147 rfl
def ae5:=av E 148 rfl
def ae6:=av E 149 rfl
def abG:=av E 150 rfl
def ae4:=av E 151 rfl
def ZN:=av E 152 rfl
def afg:=av E 153 rfl
def acx:=av E 154 rfl
def aah:=av E 155 rfl
def abo:=av E 156 rfl
def abN:=av E 157 rfl
def abP:=av E 158 rfl
def abO:=av E 159 rfl
def ahe:=av E 160 rfl
def ahd:=av E 161 rfl
def acv:=av E 162 rfl
def acr:=av E 163 rfl
def abh:=av E 164 rfl
def abi:=av E 165 rfl
def abg:=av E 166 rfl
def aaH:=av E 167 rfl
def aaF:=av E 168 rfl
def aaG:=av E 169 rfl
def acw:=av E 170 rfl
def acs:=av E 171 rfl
def abk:=av E 172 rfl
def abl:=av E 173 rfl
def abj:=av E 174 rfl
def aaN:=av E 175 rfl
def aaL:=av E 176 rfl
def aaM:=av E 177 rfl
def acu:=av E 178 rfl
def acq:=av E 179 rfl
def abe:=av E 180 rfl
def abf:=av E 181 rfl
def abd:=av E 182 rfl
def aaE:=av E 183 rfl
def aaC:=av E 184 rfl
def aaD:=av E 185 rfl
def abM:=av E 186 rfl
def abJ:=av E 187 rfl
def aaJ:=av E 188 rfl
def aaK:=av E 189 rfl
def aaI:=av E 190 rfl
def aad:=av E 191 rfl
def aab:=av E 192 rfl
def aac:=av E 193 rfl
def abK:=av E 194 rfl
def abH:=av E 195 rfl
def aax:=av E 196 rfl
def aay:=av E 197 rfl
def aaw:=av E 198 rfl
def Z8:=av E 199 rfl
def Z6:=av E 200 rfl
def Z7:=av E 201 rfl
def abn:=av E 202 rfl
def abm:=av E 203 rfl
def aaf:=av E 204 rfl
def aag:=av E 205 rfl
def aae:=av E 206 rfl
def ZQ:=av E 207 rfl
def ZO:=av E 208 rfl
def ZP:=av E 209 rfl
def abL:=av E 210 rfl
def abI:=av E 211 rfl
def aaA:=av E 212 rfl
def aaB:=av E 213 rfl
def aaz:=av E 214 rfl
def aaa:=av E 215 rfl
def Z9:=av E 216 rfl
def Z':=av E 217 rfl
end
theorem bQ{K:W.Frag}(E:qm K=pE)(i:Nat){a b:Option HT.qE}(h:(qm K)[i]?=some a)(g:pE[i]?=some b):a=b:=by rw[E,g]at h;exact(gn h).symm
theorem iz{x q:Str}{st:Stmt}{ps:List Str}(l:ps.length=1)(h:∀(kV doc pm:Value) (an:Option Addr) (aI ct:Value) (u0:Value),sO (W.fnOf x q (lA st) (gr st) (aO st) .none kV doc pm an aI ct) ⟨[u0],[]⟩=pure (ps.zip [u0])):vq x q st ps:=by
 intro k1 k2 k3 k4 k5 k6 us hl;obtain⟨u0,e⟩:=akA (hl.trans l);subst e;exact h k1 k2 k3 k4 k5 k6 u0
theorem gi{x q:Str}{st:Stmt}{ps:List Str}(l:ps.length=2)(h:∀(kV doc pm:Value) (an:Option Addr) (aI ct:Value) (u0 u1:Value),sO (W.fnOf x q (lA st) (gr st) (aO st) .none kV doc pm an aI ct) ⟨[u0,u1],[]⟩=pure (ps.zip [u0,u1])):vq x q st ps:=by
 intro k1 k2 k3 k4 k5 k6 us hl;obtain⟨u0,u1,e⟩:=akz (hl.trans l);subst e;exact h k1 k2 k3 k4 k5 k6 u0 u1
theorem rW{x q:Str}{st:Stmt}{ps:List Str}(l:ps.length=3)(h:∀(kV doc pm:Value) (an:Option Addr) (aI ct:Value) (u0 u1 u2:Value),sO (W.fnOf x q (lA st) (gr st) (aO st) .none kV doc pm an aI ct) ⟨[u0,u1,u2],[]⟩=pure (ps.zip [u0,u1,u2])):vq x q st ps:=by
 intro k1 k2 k3 k4 k5 k6 us hl;obtain⟨u0,u1,u2,e⟩:=aky (hl.trans l);subst e;exact h k1 k2 k3 k4 k5 k6 u0 u1 u2
theorem E4{x q:Str}{st:Stmt}{ps:List Str}(l:ps.length=4)(h:∀(kV doc pm:Value) (an:Option Addr) (aI ct:Value) (u0 u1 u2 u3:Value),sO (W.fnOf x q (lA st) (gr st) (aO st) .none kV doc pm an aI ct) ⟨[u0,u1,u2,u3],[]⟩=pure (ps.zip [u0,u1,u2,u3])):vq x q st ps:=by
 intro k1 k2 k3 k4 k5 k6 us hl;obtain⟨u0,u1,u2,u3,e⟩:=akx (hl.trans l);subst e;exact h k1 k2 k3 k4 k5 k6 u0 u1 u2 u3
theorem bn5{x q:Str}{st:Stmt}{ps:List Str}(l:ps.length=5)(h:∀(kV doc pm:Value) (an:Option Addr) (aI ct:Value) (u0 u1 u2 u3 u4:Value),sO (W.fnOf x q (lA st) (gr st) (aO st) .none kV doc pm an aI ct) ⟨[u0,u1,u2,u3,u4],[]⟩=pure (ps.zip [u0,u1,u2,u3,u4])):vq x q st ps:=by
 intro k1 k2 k3 k4 k5 k6 us hl;obtain⟨u0,u1,u2,u3,u4,e⟩:=akw (hl.trans l);subst e;exact h k1 k2 k3 k4 k5 k6 u0 u1 u2 u3 u4
theorem facts{l:W.OpenLaw}{w:World}{K:W.Frag}{h:Heap}{mg:Str->Option Value}{fa:Addr}(E:(seen K,qm K)=(true,pE))(X:K.In h)(G:h.Ns gc mg)(hfa:mg "law" = some (.ref fa)):TQ l w K mg fa:=by
 have hb:=(vY E).1;have hl:=(vY E).2;refine dJ (fU X G (aiZ hb) (bQ hl 0 rfl rfl) ["thing"] (iz rfl λ_ _ _ _ _ _ _=>rfl)) λmj FW kW bW gW=>?_;refine dJ (fU X G (ai2 hb) (bQ hl 1 rfl rfl) ["word"] (iz rfl λ_ _ _ _ _ _ _=>rfl)) λoM FB kB bB gB=>?_;refine dJ (fU X G (ai0 hb) (bQ hl 2 rfl rfl) ["told"] (iz rfl λ_ _ _ _ _ _ _=>rfl)) λoK FS kS bS gS=>?_;refine dJ (fU X G (ai1 hb) (bQ hl 3 rfl rfl) ["told"] (iz rfl λ_ _ _ _ _ _ _=>rfl)) λtL FO kO bO gO=>?_;refine aJ (dU (Kj hb) (bQ hl 4 rfl rfl) ["self","told"] (gi rfl λ_ _ _ _ _ _ _ _=>rfl)) λgh FI bI MI=>?_;refine aJ (dU (IK hb) (bQ hl 5 rfl rfl) ["self","told"] (gi rfl λ_ _ _ _ _ _ _ _=>rfl)) λEl aoq MB VS=>?_;refine aJ (dU (IM hb) (bQ hl 6 rfl rfl) ["self","told"] (gi rfl λ_ _ _ _ _ _ _ _=>rfl)) λEm aoI MD VT=>?_;refine aJ (dU (IJ hb) (bQ hl 7 rfl rfl) ["self","told"] (gi rfl λ_ _ _ _ _ _ _ _=>rfl)) λEk aop Mz VR=>?_;refine aJ (dU (Ia hb) (bQ hl 8 rfl rfl) ["self","told"] (gi rfl λ_ _ _ _ _ _ _ _=>rfl)) λD8 alR Lx US=>?_;refine aJ (dU (HY hb) (bQ hl 9 rfl rfl) ["self","told"] (gi rfl λ_ _ _ _ _ _ _ _=>rfl)) λD6 alO Lv UQ=>?_;refine aJ (dU (HZ hb) (bQ hl 10 rfl rfl) ["self","told"] (gi rfl λ_ _ _ _ _ _ _ _=>rfl)) λD7 alQ Lw UR=>?_;refine aJ (dU (qf hb) (bQ hl 11 rfl rfl) ["self"] (iz rfl λ_ _ _ _ _ _ _=>rfl)) λLR FEm xr MEm=>?_;refine aJ (dU (adD hb) (bQ hl 12 rfl rfl) ["self"] (iz rfl λ_ _ _ _ _ _ _=>rfl)) λKh alP Lg alJ=>?_;refine aJ (dU (adE hb) (bQ hl 13 rfl rfl) ["self"] (iz rfl λ_ _ _ _ _ _ _=>rfl)) λKi alS Lh alK=>?_;refine dJ (fU X G (ahy hb) (bQ hl 14 rfl rfl) ["program"] (iz rfl λ_ _ _ _ _ _ _=>rfl)) λapG FHC kHC bHC gHC=>?_;refine dJ (fU X G (ahz hb) (bQ hl 15 rfl rfl) ["told","place","length"] (rW rfl λ_ _ _ _ _ _ _ _ _=>rfl)) λapH FFI kFI bFI gFI=>?_;refine dJ (fU X G (ahw hb) (bQ hl 16 rfl rfl) ["program"] (iz rfl λ_ _ _ _ _ _ _=>rfl)) λapE FLO kLO bLO gLO=>?_;refine aJ (dU (Ju hb) (bQ hl 17 rfl rfl) ["self","kind"] (gi rfl λ_ _ _ _ _ _ _ _=>rfl)) λapr FTI bTI MTI=>?_;refine aJ (dU (ahn hb) (bQ hl 18 rfl rfl) ["self","name","number","deed"] (E4 rfl λ_ _ _ _ _ _ _ _ _ _=>rfl)) λapv FTA bTA MTA=>?_;refine aJ (dU (ahj hb) (bQ hl 19 rfl rfl) ["self","name"] (gi rfl λ_ _ _ _ _ _ _ _=>rfl)) λapq FTL bTL MTL=>?_;refine aJ (amf (ahk hb) (bQ hl 20 rfl rfl) (afz hb) ["self"] (iz rfl λ_ _ _ _ _ _ _=>rfl)) λaps Yn X5 MTF=>?_;refine aJ (dU (ahh hb) (bQ hl 21 rfl rfl) ["self","name"] (gi rfl λ_ _ _ _ _ _ _ _=>rfl)) λapn FTT bTT MTT=>?_;refine aJ (dU (ahl hb) (bQ hl 22 rfl rfl) ["self"] (iz rfl λ_ _ _ _ _ _ _=>rfl)) λapt FTE X6 MTE=>?_;refine aJ (dU (ahm hb) (bQ hl 23 rfl rfl) ["self"] (iz rfl λ_ _ _ _ _ _ _=>rfl)) λapu FTD bTD MTD=>?_;refine dJ (fU X G (ahi hb) (bQ hl 24 rfl rfl) ["kind"] (iz rfl λ_ _ _ _ _ _ _=>rfl)) λapo FTO kTO bTO gTO=>?_;refine oE (mkD (IL hb) (bQ hl 25 rfl rfl) (adF hb)) λaoP MF=>?_;refine aJ (dU (ahL hb) (bQ hl 26 rfl rfl) ["self","clerk"] (gi rfl λ_ _ _ _ _ _ _ _=>rfl)) λapT FAE Yb MAE=>?_;refine aJ (dU (ahu hb) (bQ hl 27 rfl rfl) ["self","clerk"] (gi rfl λ_ _ _ _ _ _ _ _=>rfl)) λapC FMY bMY MMY=>?_;refine aJ (dU (ahI hb) (bQ hl 28 rfl rfl) ["self"] (iz rfl λ_ _ _ _ _ _ _=>rfl)) λapQ FCR bCR MCR=>?_;refine aJ (dU (ahv hb) (bQ hl 29 rfl rfl) ["self"] (iz rfl λ_ _ _ _ _ _ _=>rfl)) λapD FMV Ob MMV=>?_;refine aJ (dU (ahE hb) (bQ hl 30 rfl rfl) ["self","move"] (gi rfl λ_ _ _ _ _ _ _ _=>rfl)) λapM FDO X8 MDO=>?_;refine aJ (dU (ahD hb) (bQ hl 31 rfl rfl) ["self","clerk"] (gi rfl λ_ _ _ _ _ _ _ _=>rfl)) λapL FDS bDS MDS=>?_;refine aJ (dU (ahC hb) (bQ hl 32 rfl rfl) ["self","clerk","step"] (rW rfl λ_ _ _ _ _ _ _ _ _=>rfl)) λapK FDT bDT MDT=>?_;refine aJ (dU (ahF hb) (bQ hl 33 rfl rfl) ["self","clerk","step"] (rW rfl λ_ _ _ _ _ _ _ _ _=>rfl)) λapN FDL bDL MDL=>?_;refine aJ (dU (ahB hb) (bQ hl 34 rfl rfl) ["self","clerk","step"] (rW rfl λ_ _ _ _ _ _ _ _ _=>rfl)) λapJ FDW bDW MDW=>?_;refine aJ (dU (ahH hb) (bQ hl 35 rfl rfl) ["self","clerk","name"] (rW rfl λ_ _ _ _ _ _ _ _ _=>rfl)) λapP FCY X9 MCY=>?_;refine aJ (dU (ahJ hb) (bQ hl 36 rfl rfl) ["self","setting"] (gi rfl λ_ _ _ _ _ _ _ _=>rfl)) λapR FCM X' MCM=>?_;refine aJ (dU (aht hb) (bQ hl 37 rfl rfl) ["self","name"] (gi rfl λ_ _ _ _ _ _ _ _=>rfl)) λapB FOB X7 MOB=>?_;refine aJ (dU (ahA hb) (bQ hl 38 rfl rfl) ["self"] (iz rfl λ_ _ _ _ _ _ _=>rfl)) λapI FEN bEN MEN=>?_;refine aJ (dU (ahg hb) (bQ hl 39 rfl rfl) ["self","clerk"] (gi rfl λ_ _ _ _ _ _ _ _=>rfl)) λapm FWH bWH MWH=>?_;refine aJ (dU (ahp hb) (bQ hl 40 rfl rfl) ["self","clerk"] (gi rfl λ_ _ _ _ _ _ _ _=>rfl)) λapx FSD bSD MSD=>?_;refine aJ (dU (ahq hb) (bQ hl 41 rfl rfl) ["self","clerk"] (gi rfl λ_ _ _ _ _ _ _ _=>rfl)) λapy FRG bRG MRG=>?_;refine aJ (dU (ahf hb) (bQ hl 42 rfl rfl) ["self","clerk"] (gi rfl λ_ _ _ _ _ _ _ _=>rfl)) λapl FWT bWT MWT=>?_;refine aJ (dU (ahK hb) (bQ hl 43 rfl rfl) ["self"] (iz rfl λ_ _ _ _ _ _ _=>rfl)) λapS FBO bBO MBO=>?_;refine aJ (dU (ahG hb) (bQ hl 44 rfl rfl) ["self"] (iz rfl λ_ _ _ _ _ _ _=>rfl)) λapO FDE bDE MDE=>?_;refine aJ (dU (ahs hb) (bQ hl 45 rfl rfl) ["self","name"] (gi rfl λ_ _ _ _ _ _ _ _=>rfl)) λapA FOV bOV MOV=>?_;refine dJ (fU X G (ahr hb) (bQ hl 46 rfl rfl) ["step","place","regs"] (rW rfl λ_ _ _ _ _ _ _ _ _=>rfl)) λapz FPB kPB bPB gPB=>?_;refine dJ (fU X G (ahx hb) (bQ hl 47 rfl rfl) ["move"] (iz rfl λ_ _ _ _ _ _ _=>rfl)) λapF FHF kHF bHF gHF=>?_;refine dJ (fU X G (aho hb) (bQ hl 48 rfl rfl) ["part"] (iz rfl λ_ _ _ _ _ _ _=>rfl)) λapw FSO kSO bSO gSO=>?_;refine dJ (fU X G (afx hb) (bQ hl 49 rfl rfl) zLu (gi rfl λ_ _ _ _ _ _ _ _=>rfl)) λao5 aoG amN an7 anM=>?_;refine dJ (fU X G (afr hb) (bQ hl 50 rfl rfl) zLs (gi rfl λ_ _ _ _ _ _ _ _=>rfl)) λaoZ aoA Vn VP VM=>?_;refine dJ (fU X G (afo hb) (bQ hl 51 rfl rfl) zLo (rW rfl λ_ _ _ _ _ _ _ _ _=>rfl)) λaoW aox amF anY anE=>?_;refine dJ (fU X G (afn hb) (bQ hl 52 rfl rfl) ["_law_cell"] (iz rfl λ_ _ _ _ _ _ _=>rfl)) λaoV aow amE anW anD=>?_;refine dJ (fU X G (afp hb) (bQ hl 53 rfl rfl) ["_law_program_here"] (iz rfl λ_ _ _ _ _ _ _=>rfl)) λaoX aoy amG anZ anF=>?_;refine dJ (fU X G (afy hb) (bQ hl 54 rfl rfl) zLj (gi rfl λ_ _ _ _ _ _ _ _=>rfl)) λao6 aoH Mg MC My=>?_;refine dJ (fU X G (afu hb) (bQ hl 55 rfl rfl) zLA (gi rfl λ_ _ _ _ _ _ _ _=>rfl)) λao2 aoD amK an4 anJ=>?_;refine dJ (fU X G (afl hb) (bQ hl 56 rfl rfl) zLp (rW rfl λ_ _ _ _ _ _ _ _ _=>rfl)) λaoT aou amC anU anB=>?_;refine dJ (fU X G (afj hb) (bQ hl 57 rfl rfl) zLg (bn5 rfl λ_ _ _ _ _ _ _ _ _ _ _=>rfl)) λaoR aos amA anS anz=>?_;refine dJ (fU X G (afw hb) (bQ hl 58 rfl rfl) zLk (E4 rfl λ_ _ _ _ _ _ _ _ _ _=>rfl)) λao4 aoF amM an6 anL=>?_;refine dJ (fU X G (afv hb) (bQ hl 59 rfl rfl) zLh (E4 rfl λ_ _ _ _ _ _ _ _ _ _=>rfl)) λao3 aoE amL an5 anK=>?_;refine dJ (fU X G (afq hb) (bQ hl 60 rfl rfl) zLm (rW rfl λ_ _ _ _ _ _ _ _ _=>rfl)) λaoY aoz amH an0 anG=>?_;refine dJ (fU X G (afs hb) (bQ hl 61 rfl rfl) zLi (E4 rfl λ_ _ _ _ _ _ _ _ _ _=>rfl)) λao0 aoB amI an1 anH=>?_;refine dJ (fU X G (aft hb) (bQ hl 62 rfl rfl) zLl (rW rfl λ_ _ _ _ _ _ _ _ _=>rfl)) λao1 aoC amJ an2 anI=>?_;refine dJ (fU X G (afm hb) (bQ hl 63 rfl rfl) zLv (gi rfl λ_ _ _ _ _ _ _ _=>rfl)) λaoU aov amD anV anC=>?_;refine dJ (fU X G (afi hb) (bQ hl 64 rfl rfl) zLx (gi rfl λ_ _ _ _ _ _ _ _=>rfl)) λaoQ aor amz anR anx=>?_;refine dJ (fU X G (afk hb) (bQ hl 65 rfl rfl) zLt (gi rfl λ_ _ _ _ _ _ _ _=>rfl)) λaoS aot amB anT anA=>?_;refine dJ (fU X G (afh hb) (bQ hl 66 rfl rfl) ["_law_script"] (iz rfl λ_ _ _ _ _ _ _=>rfl)) λalH VV ao8 apU anw=>?_;have e:=hfa.symm.trans anw;cases e;refine oA (rS X G (acA hb)) λaoL ajL=>?_;refine oA (rS X G (adB hb)) λwI alF=>?_;refine oA (rS X G (adC hb)) λuX alG=>?_;refine oA (rS X G (adA hb)) λtm alE=>?_;refine oA (rS X G (acC hb)) λsY ajN=>?_;refine oA (rS X G (acz hb)) λrj ajK=>?_;refine oA (rS X G (acB hb)) λuP ajM=>?_;refine oA (rS X G (abQ hb)) λAZ ahU=>?_;refine oA (rS X G (acy hb)) λajO ajJ=>?_;refine oA (rS X G (aaO hb)) λadV adU=>?_;have VS:Mk K (hY K) (Kn K):=⟨(QO hb).1,HT.kJ (IK hb).1,(IK hb).2.2.2,(QO hb).2⟩;have VT:Mk K (hZ K) (Kp K):=⟨(QP hb).1,HT.kJ (IM hb).1,(IM hb).2.2.2,(QP hb).2⟩;have VR:Mk K (hX K) (Km K):=⟨(QN hb).1,HT.kJ (IJ hb).1,(IJ hb).2.2.2,(QN hb).2⟩;have US:Mk K (g9 K) (JD K):=⟨(P5 hb).1,HT.kJ (Ia hb).1,(Ia hb).2.2.2,(P5 hb).2⟩;have UQ:Mk K (gY K) (JB K):=⟨(P0 hb).1,HT.kJ (HY hb).1,(HY hb).2.2.2,(P0 hb).2⟩;have UR:Mk K (gZ K) (JC K):=⟨(P4 hb).1,HT.kJ (HZ hb).1,(HZ hb).2.2.2,(P4 hb).2⟩;have ajP:Mk K (lY K) (zo K):=⟨(Pp hb).1,(acD hb),(Kj hb).2.2.2,(Pp hb).2⟩;have alI:Mk K (dh K) (UG K):=⟨(PZ hb).1,HT.kJ (Ju hb).1,(Ju hb).2.2.2,(PZ hb).2⟩;have afS:Mk K (ba K) (Ko K):=⟨(OU hb).1,HT.kJ (IL hb).1,(IL hb).2.2.2,(OU hb).2⟩;have acL:=MTA;have aaZ:=MTL;have OW:=MTF;have abY:=MTT;have OJ:=MTE;have aaY:=MTD;have OF:=MAE;have ZF:=MMY;have Zr:=MCR;have G0:=MMV;have O7:=MDO;have Zp:=MDS;have ZG:=MDT;have Zq:=MDL;have Zo:=MDW;have OK:=MCY;have OP:=MCM;have Oz:=MOB;have ZX:=MEN;have ZW:=MWH;have YZ:=MSD;have Y6:=MRG;have Zn:=MWT;have ZZ:=MBO;have ZY:=MDE;have aap:=MOV;have aa1:Meth K (hY K) "empties" (pF K):=⟨(ZU hb),(qf hb).2.2.2,(qf hb).2.2.1⟩;have aa2:Meth K (hZ K) "empties" (pF K):=⟨(ZV hb),(qf hb).2.2.2,(qf hb).2.2.1⟩;have aa0:Meth K (hX K) "empties" (pF K):=⟨(ZT hb),(qf hb).2.2.2,(qf hb).2.2.1⟩;have aaq:Meth K (g9 K) "empties" (pF K):=⟨(ZE hb),(qf hb).2.2.2,(qf hb).2.2.1⟩;have aan:=alJ;have Z0:=alK;have aao:Meth K (gZ K) "empties" (pF K):=⟨(ZD hb),(qf hb).2.2.2,(qf hb).2.2.1⟩;have Z1:Lk K (sR K) "__init__" (zo K):=⟨(ady hb),(adz hb),HT.aiO (Zc hb),(Kj hb).2.2.1⟩;have Hf:=W.mg_none_of X G (ZM hb);have TV:=W.mg_none_of X G (ae8 hb);have SN:=W.mg_none_of X G (adx hb);have TR:=W.mg_none_of X G (ae3 hb);have AO:=W.mg_none_of X G (aco hb);have kI:=W.mg_none_of X G (ae7 hb);have Kq:=W.mg_none_of X G (ae9 hb);have ajD:=W.mg_none_of X G (ae2 hb);have C0:=W.mg_none_of X G (Z5 hb);have qY:=W.mg_none_of X G (acp hb);have DS:=W.mg_none_of X G (adw hb);have TU:=W.mg_none_of X G (ae5 hb);have ajF:=W.mg_none_of X G (ae6 hb);have QX:=W.mg_none_of X G (abG hb);have ajE:=W.mg_none_of X G (ae4 hb);have aaX:=W.mg_none_of X G (ZN hb);have ajG:∃u,mg "TOP" = some u/\RelV (.int fQ) u:=by obtain⟨t,e⟩:=HT.Bd (afg hb);exact⟨_,W.mg_of X G e,_,rfl⟩
 have RH:∃u,mg "NAMES" = some u/\RelV (.int 12) u:=by obtain⟨t,e⟩:=HT.Bd (acx hb);exact⟨_,W.mg_of X G e,_,rfl⟩
 have abw:∃u,mg "REGISTERS" = some u/\RelV (.int 4) u:=by obtain⟨t,e⟩:=HT.Bd (aah hb);exact⟨_,W.mg_of X G e,_,rfl⟩
 have acK:∃u,mg "LONGEST" = some u/\RelV (.int 120) u:=by obtain⟨t,e⟩:=HT.Bd (abo hb);exact⟨_,W.mg_of X G e,_,rfl⟩
 have adT:∃u,mg "CLERKS" = some u/\RelV (.int 4) u:=by obtain⟨t,e⟩:=HT.Bd (abN hb);exact⟨_,W.mg_of X G e,_,rfl⟩
 have aly:=W.mg_of X G (HT.kJ (afc hb));have alw:=W.mg_of X G (HT.kJ (ae' hb));have XNo:=MN (afd hb);have Ln:=W.mg_of X G (HT.kJ (afa hb));have Cw:=MN (afe hb);have alx:=W.mg_of X G (HT.kJ (afb hb));have XKd:=MN (aff hb);have afQ:=W.mg_of X G (HT.kJ (abP hb));have afR:∀H:Hp,aF K H (RG K) [.str "row",.str "name",.str "none"]:=λH=>HT.afX (abO hb) (by show 3<=aZ;decide) H;have bl:Bl mg:=⟨Hf,TV,SN,TR,AO,kI,Kq,ajD⟩;have bt:BT mg:=⟨Hf,TV,SN,TR,kI,Kq,qY,C0,TU,QX⟩;have cn:Cn mg:=⟨ajG,RH,abw,acK⟩
 have T1:s9 K mg ⟨(Ve K),(Vh K),(Vf K),(Vg K),(zo K),(Kn K),(Kp K),(Km K),(JD K),(JB K),(JC K),(sR K),(hY K),(hZ K),(hX K),(g9 K),(gY K),(lY K),(gZ K),_,_,_,_,_,_,_,_,_,_,_⟩:=
  ⟨bl,cn,FW,bW,gW,FB,bB,gB,FS,bS,gS,FO,bO,gO,⟨FI,bI,Z1,ajL,AO⟩,AZ,(ZS hb),ajP,ahU,wI,(aaT hb),(abS hb),(aal hb),VS,alF,aoq,MB,uX,(aaV hb),(abT hb),(aaW hb),VT,alG,aoI,MD,tm,(aaS hb),(abr hb),(abR hb),VR,alE,aop,Mz,sY,(aam hb),(abt hb),(aaU hb),US,ajN,alR,Lx,rj,(aai hb),(abp hb),(aaR hb),UQ,ajK,alO,Lv,uP,(aak hb),(abq hb),(aaj hb),UR,ajM,alQ,Lw⟩
 obtain⟨t,u,O⟩:∃t u,wW K mg t u:=⟨_,⟨(pF K),(SK K),(SM K),_,_,_⟩,⟨T1,FEm,xr,alP,Lg,alS,Lh,(ahe hb),(ahd hb),aa1,aa2,aa0,aaq,aan,Z0,aao,⟨(acv hb),(acr hb),(abh hb),(abi hb),(abg hb),(aaH hb),(aaF hb),(aaG hb)⟩,⟨(acw hb),(acs hb),(abk hb),(abl hb),(abj hb),(aaN hb),(aaL hb),(aaM hb)⟩,⟨(acu hb),(acq hb),(abe hb),(abf hb),(abd hb),(aaE hb),(aaC hb),(aaD hb)⟩,⟨(abM hb),(abJ hb),(aaJ hb),(aaK hb),(aaI hb),(aad hb),(aab hb),(aac hb)⟩,⟨(abK hb),(abH hb),(aax hb),(aay hb),(aaw hb),(Z8 hb),(Z6 hb),(Z7 hb)⟩,⟨(abn hb),(abm hb),(aaf hb),(aag hb),(aae hb),(ZQ hb),(ZO hb),(ZP hb)⟩,⟨(abL hb),(abI hb),(aaA hb),(aaB hb),(aaz hb),(aaa hb),(Z9 hb),(Z' hb)⟩⟩⟩;have T:=O.st;have cM:ib K (ba K):=⟨adV,(Zk hb),(Y5 hb),(ZA hb),(Zl hb),(Y' hb),(Za hb),(Zz hb),(Zm hb),(ZC hb),(Zb hb)⟩;have cT:lD K (dh K):=⟨ajO,(aaQ hb),(aaP hb),(ZR hb)⟩;obtain⟨tk,b2⟩:=ag1 MF;have b3:=ag0 MF;unfold TQ;refine⟨alH,λs v=>?_,⟨_,Sw hb⟩,λbase h1 h2 h3=>?_⟩
 ·obtain⟨_,_,_,_,_,_,_,_,_,e,_⟩:=VV.ex;rw[e];exact .of_eq rfl
 ·exact(by
  have hC:=W.codeHd_of_K h1 (Sw hb);have GTD:=acd (P:=l.prog) (w:=w) (mg:=mg) (base:=base) FTD bt cT;have Yh:=ade (P:=l.prog) (w:=w) (mg:=mg) (base:=base) FTE bt cT;have GTF:=PL (P:=l.prog) (w:=w) (mg:=mg) (base:=base) Yn bt cT hC h3;have GTT:=aep (P:=l.prog) (w:=w) (mg:=mg) (base:=base) FTT bt cT hC h3 FW bW gW Yn X5 OW Cw.xc Ln;have GTA:=agA (P:=l.prog) (w:=w) (mg:=mg) (base:=base) FTA cT;have GTL:=ace (P:=l.prog) (w:=w) (mg:=mg) (base:=base) FTL bt cT;have GTO:=adb (P:=l.prog) (w:=w) (mg:=mg) (base:=base) FTO bt cT alI FTI bTI ajJ RH afQ afR XKd.xc alx (PT:=406);have Ym:=aeD (P:=l.prog) (w:=w) (mg:=mg) (base:=base) (t:=t) (C:=(ba K)) (CT:=(dh K)) FAE kI cM;have GWH:=aeo (P:=l.prog) (w:=w) (mg:=mg) (base:=base) (t:=t) (C:=(ba K)) (CT:=(dh K)) FWH cM;have GSD:=aa6 (P:=l.prog) (w:=w) (mg:=mg) (base:=base) (t:=t) (C:=(ba K)) (CT:=(dh K)) FSD cM;have GRG:=aa7 (P:=l.prog) (w:=w) (mg:=mg) (base:=base) (t:=t) (C:=(ba K)) (CT:=(dh K)) FRG DS cM;have GBO:=aeC (P:=l.prog) (w:=w) (mg:=mg) (base:=base) (t:=t) (C:=(ba K)) (CT:=(dh K)) FBO DS cM;have GDE:=aeA (P:=l.prog) (w:=w) (mg:=mg) (base:=base) (t:=t) (C:=(ba K)) (CT:=(dh K)) FDE DS cM;have GOV:=agE (P:=l.prog) (w:=w) (mg:=mg) (base:=base) (t:=t) (C:=(ba K)) (CT:=(dh K)) FOV DS cM;have GWT:=acb (P:=l.prog) (w:=w) (mg:=mg) (base:=base) (t:=t) (C:=(ba K)) (CT:=(dh K)) FWT cM cT GTD bTD aaY;have GMY:=aet (P:=l.prog) (w:=w) (mg:=mg) (base:=base) (t:=t) (C:=(ba K)) (CT:=(dh K)) FMY cM cT O Ym Yb OF Yh X6 OJ;have GCR:=aci (P:=l.prog) (w:=w) (mg:=mg) (base:=base) (t:=t) (C:=(ba K)) (CT:=(dh K)) FCR cM cT C0 GTF X5 OW;have Of:=adf (P:=l.prog) (w:=w) (mg:=mg) (base:=base) (t:=t) (C:=(ba K)) (CT:=(dh K)) FMV cM kI qY GMY bMY ZF GCR bCR Zr;have GEN:=aey (P:=l.prog) (w:=w) (mg:=mg) (base:=base) (t:=t) (C:=(ba K)) (CT:=(dh K)) FEN cM cT Kq C0 Ym Yb OF Yh X6 OJ;have Yl:=agM (P:=l.prog) (w:=w) (mg:=mg) (base:=base) (t:=t) (C:=(ba K)) (CT:=(dh K)) FCM cM;have Yi:=ach (P:=l.prog) (w:=w) (mg:=mg) (base:=base) (t:=t) (C:=(ba K)) (CT:=(dh K)) FOB cM kI;have Yk:=aeB (P:=l.prog) (w:=w) (mg:=mg) (base:=base) (t:=t) (C:=(ba K)) (CT:=(dh K)) FCY cM cT GTT bTT abY Yl X' OP;have GDT:=aez (P:=l.prog) (w:=w) (mg:=mg) (base:=base) (t:=t) (C:=(ba K)) (CT:=(dh K)) FDT cM cT kI T GTA bTA acL Yk X9 OK;have GDL:=adj (P:=l.prog) (w:=w) (mg:=mg) (base:=base) (t:=t) (C:=(ba K)) (CT:=(dh K)) FDL cM cT T GTL bTL aaZ Yi X7 Oz;have GDW:=adh (P:=l.prog) (w:=w) (mg:=mg) (base:=base) (t:=t) (C:=(ba K)) (CT:=(dh K)) FDW cM T kI Yi X7 Oz Yl X' OP;have GPB:=Z3 (P:=l.prog) (w:=w) (mg:=mg) (base:=base) FPB O;have GDS:=adi (P:=l.prog) (w:=w) (mg:=mg) (base:=base) (t:=t) (C:=(ba K)) (CT:=(dh K)) FDS cM O GPB kPB bPB gPB GDT bDT ZG GDL bDL Zq GDW bDW Zo;have GHF:=agI (P:=l.prog) (w:=w) (mg:=mg) (base:=base) FHF T;have Yj:=ain (P:=l.prog) (w:=w) (mg:=mg) (base:=base) (t:=t) (C:=(ba K)) (CT:=(dh K)) FDO cM GHF kHF bHF gHF Of Ob G0 GDS bDS Zp Yk X9 OK Cw.xc Ln;have GSO:=acf (P:=l.prog) (w:=w) (mg:=mg) (base:=base) FSO T AO;have GLO:=(agG (P:=l.prog) (w:=w) (mg:=mg) (base:=base) FLO bl C0 (aio FHC bl adT) kHC bHC gHC (agJ FFI O XNo alw) kFI bFI gFI);have GMI:=aeu (P:=l.prog) (w:=w) (mg:=mg) (base:=base) (t:=t) (C:=(ba K)) (CT:=(dh K)) MF cM T AO qY GLO kLO bLO gLO GTO kTO bTO gTO GSO kSO bSO gSO;have aon:=agy (P:=l.prog) (w:=w) (mg:=mg) (base:=base) aoG kI;have VU:=aii (P:=l.prog) (w:=w) (mg:=mg) (base:=base) aoA;have aof:=ail (P:=l.prog) (w:=w) (mg:=mg) (base:=base) aox;have aoe:=aew (P:=l.prog) (w:=w) (mg:=mg) (base:=base) aow kI qY AO VU Vn VP VM aof amF anY anE;have aog:=aim (P:=l.prog) (w:=w) (mg:=mg) (base:=base) aoy qY;have ME:=aip (P:=l.prog) (w:=w) (mg:=mg) (base:=base) aoH;have aok:=aex (P:=l.prog) (w:=w) (mg:=mg) (base:=base) aoD kI qY;have aoc:=agC (P:=l.prog) (w:=w) (mg:=mg) (base:=base) aou kI ajF;have aoa:=aik (P:=l.prog) (w:=w) (mg:=mg) (base:=base) aos kI ME Mg MC My;have aom:=agL (P:=l.prog) (w:=w) (mg:=mg) (base:=base) aoF kI ME Mg MC My aoc amC anU anB aoa amA anS anz;have aol:=agK (P:=l.prog) (w:=w) (mg:=mg) (base:=base) aoE aom amM an6 anL;have aoi:=agF (P:=l.prog) (w:=w) (mg:=mg) (base:=base) aoB aol amL an5 anK ME Mg MC My aok amK an4 anJ;have aoh:=adg (P:=l.prog) (w:=w) (mg:=mg) (base:=base) aoz kI qY QX ajE;have an':=aen (P:=l.prog) (w:=w) (mg:=mg) (base:=base) aor kI;have TT:=(⟨cM,GWH,bWH,ZW,GSD,bSD,YZ,GRG,bRG,Y6,GWT,bWT,Zn,GBO,bBO,ZZ,GDE,bDE,ZY,GOV,bOV,aap⟩:Tells l.prog w K mg base t (ba K) (dh K) (UE K) (UH K) (UI K) (UD K) (UL K) (UK K) (UJ K) _ _ _ _ _ _ _);have aoj:=agH (P:=l.prog) (w:=w) (mg:=mg) (base:=base) aoC kI qY TT;have aob:=aer (P:=l.prog) (w:=w) (mg:=mg) (base:=base) aot qY TT Of Ob G0;have aod:=acg (P:=l.prog) (w:=w) (mg:=mg) (base:=base) aov cM Hf aaX Ln aly Cw Cw.te Cw.ve Yj X8 O7;exact aij VV kI qY TU cM aon amN an7 anM VU Vn VP VM aoe amE anW anD afS GMI adU b3 tk b2 aog amG anZ anF aoh amH an0 anG Of Ob G0 GEN bEN ZX an' amz anR anx aod amD anV anC Yj X8 O7 aoi amI an1 anH aob amB anT anA aoj amJ an2 anI)
theorem walk{l:W.OpenLaw}{q:Program}{loose:List Str}{XP:(Str->Option Value)->Heap->Prop}{d:DefRec}(hn:l.most=some 63)(NQ:d.params.defaults=[])(hdn:d.name = "law") :
  W.WalkO q loose XP (HT.sV TL.tQ 406 (λK=>(seen K,qm K)) (true,pE)).says l.row.toRowW d [] (λf vs=>PySem.call f vs):=by
 refine Att.abW hn NQ λw s₀ s₁ mg mb fa o pm cd doc a vs ns G Y ho hd iD zK Mp hints hlen hg=>?_;obtain⟨K,KX,KN,hT,E⟩:=Y;rw[hdn]at zK;obtain⟨fd,hb,⟨c,hc⟩,hF⟩:=facts (l:=l) (w:=w) E KX G.T.g zK
 have bm:tH mg s₁.heap:=by
  obtain⟨bm,ob,b1,b2,b3,b4,b5,b6⟩:=G.T.bmain;refine⟨bm,ob,b1,b2,λz=>?_,b3,b4,b5,b6⟩;obtain⟨o',es,ep,e,jI,_⟩:=G.T.g;rw[z,e]at b3;cases b3;rw[jI]at b6;cases b6
 exact adm (ts:=[406]) KX G.T.g G.T.b G.T.builtins G.T.nolimit hg bm (λb hb=>by rw[ip.mp hb];exact hT) (λb hb=>by rw[ip.mp hb];exact((W.codeHd_of_K KX hc).tab hT).isCodeTable) (λb hb=>by rw[ip.mp hb];exact KN) Mp hints (cH hlen qc) ⟨rfl,qc,qc⟩ hF hb (λH hO hS=>⟨a,ns,rfl,hS,hlen,⟨#[],hO.2 406 (by simp),.inl rfl⟩,λ_=>rfl⟩) λH e s' z=>z
end TL
open PySem PySem.W PyProof.Rows
theorem TL.left:W.LeftO PySem.Challenge.rw_traylate_k26_moves_made.row.prog TL.qv [] (λs=>W.xlAt TL.qv [] s&&W.recOk PySem.Challenge.rw_traylate_k26_moves_made.row.records s) (HT.sV TL.tQ 406 (λK=>(TL.seen K,TL.qm K)) (true,TL.pE)).obs (HT.sV TL.tQ 406 (λK=>(TL.seen K,TL.qm K)) (true,TL.pE)).val 12168:=by
 refine HT.ag4 ?a ?b ?c ?d
 case a=>kernel_rfl
 case b=>kernel_rfl
 case c=>intro s;kernel_rfl
 case d=>intro w os;exact HT.both (HT.Ew (TL.r1 w os)) (HT.both (TL.r2 w os) (TL.r3 w os))
theorem PySem.Challenge.cw_traylate_k26_moves_made_holds : PySem.Challenge.rw_traylate_k26_moves_made.Holds := by
 w_on;o_law
 refine W.holds_open (q:=TL.qv) (loose:=[]) (XP:=W.XL TL.qv []) (YP:=(HT.sV TL.tQ 406 (λK=>(TL.seen K,TL.qm K)) (true,TL.pE)).says) (d:=TL.dl) (kwd:=[]) TL.left (HT.sV TL.tQ 406 (λK=>(TL.seen K,TL.qm K)) (true,TL.pE)).of (HT.sV TL.tQ 406 (λK=>(TL.seen K,TL.qm K)) (true,TL.pE)).keeps (λs e=>W.xl_of s (Bool.and_eq_true_iff.mp e).1) W.XL.keeps ?h1 ?h2 ?h3 (λs e=>W.recFacts_of (Bool.and_eq_true_iff.mp e).2) ?h4 (by assumption) ?h5 ⟨rfl,rfl,rfl,rfl,rfl,dk⟩ ?hw (TL.walk (l:=PySem.Challenge.rw_traylate_k26_moves_made) ?w1 ?w2 ?w3)
 case h1=>kernel_rfl
 case h2=>kernel_rfl
 case h3=>kernel_rfl
 case h4=>kernel_rfl
 case h5=>kernel_rfl
 case hw=>w_witness2
 case w1=>kernel_rfl
 case w2=>kernel_rfl
 case w3=>kernel_rfl
