import PyProof.Rows.All
import Wide.All
import OpenK.AllK
import Wide.FinOn
import KE.KNestM
import KE.KSortedM
import PySem.Challenge.RW_traylate_k46_replayed
set_option Elab.async false
set_option linter.all false
set_option maxRecDepth 100000
set_option maxHeartbeats 0
set_option synthInstance.maxSize 100000
set_option synthInstance.maxHeartbeats 0
set_option genSizeOf false
open Option renaming some→a_,none→b_
open Bool renaming true→c_,false→d_
open PySem renaming Addr→e_,Value→f_,Shared→g_,Around→h_,Scope→i_,Heap→j_,World→k_,Program→l_
open PySem renaming wpAny_bind→ay,wpAny_pure→a7,starEach→cQ,sizeLine→cW,mainGlobals→gi,NameKind→gR,PassesOwn→iI,FuncData→iJ,wpAny_mono→ja,sizeLine_eq→jl,wpAny_field→kz,compareOp→lJ,wpAny_holding→pP,builtinsNs→sS,wpAny_Call_Name_kw→uk,wpAny_truthy_bool→um,wpAny_seqItems→uq,wpAny_call→uw,bindArgs→uA,wpAny_loadPart_at→vN,bootBuiltins→vS,binaryOp→v7,wpAny_newObj_type→x6,wpAny_call_entry→zv,wpAny_passesOwn→zw,wpAny_standAt→zy,codeAny_mono→zG,wpAny_letGo→zJ,sliceBounds→zK,wpAny_callSpecial?_slot→Be,wpAny_setField_rec→Bk,wpAny_execs_nil→Bn,attributeBase→Br,isInstance→Bz,call_meets→BA,assignEach→BB,treeTable→BE,getMethod→BF,importedModules→DZ,wpAny_setField→D1,recursionLimit→D2,wpAny_attempt→D3,keywordEach→Ec,typeLookup→Ei,swapsWith→Ep,backToKw→EF,wpAny_pyIter_list→IH,letOwnedTupleGo→IS,wpAny_tryCatch→IZ,wpAny_onRaise→Jd,plainId_quiet→Je,behindInMarks→Jf,refuseLoop→JA,seqItems?→JT,seqIndex?→JU,wpAny_updateSeq_pair→Qe,codeAny_call_builtin→Qf,wpAny_isSubtype_exc→Qh,foldedSetIterable→Qn,wpAny_updateSeq→Qv,wpAny_loadPart'→Qw,wpAny_loadPart→QA,wpAny_newList→QF,seqIndex_neg→QN,plainObj_wpAny_Assign_Attribute→Z8,wpAny_check_type_call_sub→aah,codeAny_call_builtin_code→aai,wpAny_comprehension_free→aan,codeAny_call_builtin_at→aap,richCompare_meets_room→aas,codeAny_handlers_test→aau
open Nat renaming le_refl→aN,zero_le→cy,le_trans→cC,le_of_lt→dw,ne_of_lt→gh,lt_of_lt_of_le→gI,le_succ→lH,lt_irrefl→mh,le_of_eq→rJ,lt_of_le_of_lt→sI,ne_of_gt→ur,le_succ_of_le→vO,lt_succ_self→vP,beq→B2,succ_le_succ→DW,le_add_right→DX,succ→EG,lt_trichotomy→IJ,succ_ne_self→IP,min_eq_left→IT,lt_of_lt_of_eq→Qk,lt_succ_of_lt→Qo,min_eq_right→Qs,succ_pos→QO,succ_mul→QP,add_mul_mod_self_left→aaj,lt_or_gt_of_ne→aaD
open List renaming length_map→aO,getElem?_eq_getElem→aX,mem_of_getElem?→bo,mem_cons→cV,length_append→dM,getElem?_eq_some_iff→dX,replicate→eD,size_toArray→eO,getElem?_map→f9,map_append→gg,mem_cons_of_mem→gE,mem_singleton→gJ,map_cons→gK,mem_append_right→hG,mem_cons_self→hX,length_take→i8,length_cons→jk,getElem?_set_self→jz,mem_append→jA,length_set→kv,take_of_length_le→lE,getD_eq_getElem?_getD→nh,mem_map→pk,mem_append_left→pO,pairwise_iff_getElem→qu,take_add_one→qw,length_range→rD,mem_nil_iff→rE,mem_filter→rG,lookup_cons→sL,mem_range→sO,map_map→sQ,getElem_mem→uo,length_eq_zero_iff→vH,getElem?_of_mem→vJ,getElem_of_mem→vK,length_drop→vQ,set_set→vU,map_set→vV,filter_cons→x8,range_succ→x9,append_nil→yb,lookup→yf,Perm→yh,mem_or_eq_of_mem_set→zo,lookup_cons_self→zr,getElem?_set_ne→zt,forIn_cons→zx,any_cons→zB,all_cons→zC,all_map→zH,drop_of_length_le→Bf,length_filter_le→Bg,replicate_succ→Bi,nil_append→Bo,getElem?_append_right→DR,flatMap_append→DS,pairwise_map→DV,all_eq_true→DY,getElem?_eq_none_iff→Ip,drop_eq_getElem_cons→Iq,take_append_drop→Iz,length_replicate→IA,filterMap_cons→IC,mem_filterMap→IE,flatten_cons→IK,nodup_cons→IU,drop_zero→Ja,sum_cons→Jg,length→Jo,getElem?_append_left→P2,length_eq_one_iff→P9,length_singleton→Qa,getElem?_eq_none→Qb,filter_append→Ql,flatMap_cons→Qp,of_mem_zip→Qy,map_nil→QQ,foldl→Rr,mem_zipIdx_iff_getElem?→aaa,getLast?_eq_some_iff→aak,getLast?_eq_none_iff→aal,getElem?_zip_eq_some→aam,getElem?_replicate→aaq,pairwise_lt_range→aat,zip_cons_cons→aaE,length_zipIdx→aaF,append_assoc→aaP,take_length→aaW,mem_flatMap→aaX,flatMap_nil→aaY,ext_getElem→aaZ,eraseP_cons→aa0
open Or renaming inl→aP
open PySem.Heap renaming get?_push_of_some→b8,lt_size→cH,get?_push_size→ik,size_push→qy,get?_update_other→vI,SameBut→vW,get?_update_self→Bh,ExtBut→Jp,get?_update_ne→Qi,get?_none_of_le→aaw
open Option renaming some→da,map_eq_some_iff→Iy,bind_some→IM,isSome_iff_exists→aao
open PySem.Value renaming ref→di,none→mj,int→nj,type→qB,bool→vZ,builtin→zz,str→BG,float→Q0
open Option.some renaming inj→dq,injEq→II
open Bool renaming false_ne_true→dY,and_eq_true→i9,false_and→rH,false_eq_true→xZ,true_and→zD,and_false→Bp,eq_iff_iff→IY,and_eq_true_iff→Qg,not_eq_true'→Qq
open Ne renaming symm→gq
open PySem.Str renaming ofString→gL
open False renaming elim→jm
open Int renaming toNat_natCast→jJ,emod_nonneg→yc,emod_lt_of_pos→zu,zero_add→Bt,natCast_nonneg→IF,eq_ofNat_of_zero_le→P7
open PyProof.Rows renaming boot_isinstance→kr,boot_tuple→vY,callWith_type1→zm,boot_list→zS,boot_all→ED,boot_sorted→Jn,slot_tuple_getitem→PZ,get?_update_seq→Qx,subscriptTail_builtinR→aar
open PySem.SeqAt renaming EqAt→kI,noMixAll→BR
open PySem.PyData renaming int→lI,strOk→nY,depth→pj,depthAll→rF,canLayAll0→sJ,canLay0→sM,eqv→ux,eqvAll→Bs,list→Q1
open PySem.PassesOwn renaming never→mf,looking→aaN
open True renaming intro→qC
open PySem.W renaming boot_heap→qD,boot_drawn→JB,boot_toks→JV
open PySem.NameKind renaming free→sP
open PySem.Obj renaming mapSeq→sT,mapFields→zA,data_mapFields→DT,isFreed_of_fields→P',cls_mapFields→aaO
open PySem.Builtin.SmallTypes renaming nextOf→uj,ownedTupleIsFree→Ik,ownedTupleHandOut→Z7
open Prod renaming mk→uG
open Prod.mk renaming inj→ye,injEq→abo
open Sum renaming inr→yo,inl→yp
open Array renaming length_toList→Bj,mk→EH,getD_eq_getD_getElem?→Il,getElem?_eq_some_iff→P0,getElem?_toList→Qc,getD→Rt,getElem?_setIfInBounds_ne→Z9,eq_empty_of_size_eq_zero→Z',perm_iff_toList_perm→aag,toList_inj→aa1
open PySem.W.KasT renaming kasWp_bind→D0
open Nat.succ renaming inj→D8
open LawfulBEq renaming eq_of_beq→Er
open PySem.F renaming slot_tuple_iterator_next→Im,slot_zip_next→IX,args_tuple_iterator_next_1→aab,entry_tuple_iterator_next→aac,slot_enumerate_next→aav
open PySem.Builtin.List renaming listFitsIndex→Io,listTooLong→Iw
open PySem.Builtin.Slice renaming slicePlaces→Ir,sliceAdjust→P5,sliceApplied→aaf
open PySem.Builtin.Tuple renaming tupleExact→Iu
open PySem.Builtin.ObjectAttr renaming Found→Iv,bindTo→P6,storeInOwnDict→am4
open PySem.Heap.SameBut renaming update→ID
open PySem.Code renaming quiet_builtin→IG
open ForInStep renaming yield→IW
open Except renaming error→Jl,ok→Ss
open Classical renaming propDecidable→P8
open PySem.Around renaming under→QR,under_plainId→aax,frames_deeper→aay
open PySem.Walks renaming list→Rq
open PySem.Builtin.Builtins renaming bindParams→aad
open PySem.Calls renaming Name_function_global→aae,spliced_cons→aaG,spliced_nil→aaR
open PySem.EntryCells renaming newEntry→aaA
open PySem.SeqAt.EqAt renaming str_int→aaB,int_str→aaC
open List.Pairwise renaming nil→aaQ
open Array.Perm renaming refl→aa7
open PySem.Builtin.ObjectAttr.Found renaming missing→am5,value→am6,bind→am7
noncomputable section
theorem dk{p:Prop}(h:p:=by decide +kernel):p:=h
theorem qc{p:Prop}(h:p:=by decide):p:=h
theorem om{p:Prop}(h:p:=by omega):p:=h
theorem li{p:Prop}(h:p:=by lia):p:=h
abbrev zLa:List PySem.Str:=["self","clerk"]
abbrev zLb:List PySem.Str:=["self","told"]
abbrev zLc:List PySem.Str:=["_law_machine","_law_program_here","_law_row"]
abbrev zLd:List PySem.Str:=["_law_stand","_law_program_here","_law_kind","_law_clerk"]
abbrev zLe:List PySem.Str:=["self"]
abbrev zLf:List PySem.Str:=["_law_stand","_law_kind","_law_clerk","_law_name","_law_number"]
abbrev zLg:List PySem.Str:=["plain","machine","clerk"]
abbrev zLh:List PySem.Str:=["self","clerk","step"]
abbrev zLi:List PySem.Str:=["_law_stand","_law_program_here","_law_clerk","_law_most"]
abbrev zLj:List PySem.Str:=["self","name"]
abbrev zLk:List PySem.Str:=["_law_stand","_law_kind","_law_clerk","_law_step"]
abbrev zLl:List PySem.Str:=["_law_machine","_law_stand","_law_program_here"]
abbrev zLm:List PySem.Str:=["_law_script","_law_program_here","_law_kind"]
abbrev zLn:List PySem.Str:=["_law_cell","_law_k","_law_amount"]
abbrev zLo:List PySem.Str:=["_law_draw","_law_length","_law_names"]
abbrev zLp:List PySem.Str:=["_law_amount","_law_deeds","_law_cell"]
abbrev zLq:List PySem.Str:=["_law_stand","_law_clerk","_law_name"]
abbrev zLr:List PySem.Str:=["self","program","kind"]
abbrev zLs:List PySem.Str:=["_law_stand","_law_row"]
abbrev zLt:List PySem.Str:=["self","name","number","deed"]
abbrev zLu:List PySem.Str:=["_law_script","_law_k"]
abbrev zLv:List PySem.Str:=["self","clerk","name"]
abbrev zLw:List PySem.Str:=["self","move"]
abbrev zLx:List PySem.Str:=["_law_cell","_law_k"]
abbrev zLy:List PySem.Str:=["_law_cell","_law_amount"]
abbrev zLz:List PySem.Str:=["step","place","regs"]
abbrev zLA:List PySem.Str:=["told","place","length"]
abbrev zLB:List PySem.Str:=["plain","machine","row"]
abbrev zLC:List PySem.Str:=["self","setting"]
abbrev zLD:List PySem.Str:=["self","deed"]
abbrev zLE:List PySem.Str:=["program"]
abbrev zLF:List PySem.Str:=["thing"]
namespace L2
end L2
namespace L3
end L3
namespace L4
end L4
namespace L5
end L5
namespace HT
open PySem PySem.W
def EI(tb:String->Option Builtin)(p:l_)(w:k_)(n₀:Nat)(ann:Option f_):Nat->SharedT->Thread->Option SharedT
 | 0,_,_=>b_
 | n+1,s,t=>match through t with
  | true=>a_ s
  | false=>match stepOk n₀ ann t with
   | false=>b_
   | true=>match stepT (denote tb) p w s t with
    | some (s',t')=>EI tb p w n₀ ann n s' t'
    | none=>b_
theorem Q3{tb:String->Option Builtin}{w:k_}{n₀:Nat}{ann:Option f_}:∀{n:Nat} {s s':SharedT} {t:Thread},EI tb p w n₀ ann n s t=a_ s'->topRun tb p w n₀ ann n s.abs t=a_ s'.abs
 | 0,_,_,_,h=>by cases h
 | n+1,s,s',t,h=>by
  unfold EI at h;unfold topRun;cases he:through t with
  | true=>rw[he]at h;cases h;rfl
  | false=>
   rw[he]at h;cases hk:stepOk n₀ ann t with
   | false=>rw[hk]at h;cases h
   | true=>
    rw[hk]at h;cases hs:stepT (denote tb) p w s t with
    | none=>rw[hs]at h;cases h
    | some r=>obtain⟨s₂,t₂⟩:=r;rw[hs]at h;rw[stepT_spec hs];exact Q3 h
def Tr:List Obj->Nat->BT->BT
 | [],_,t=>t
 | o::r,i,t=>Tr r (i+1) (t.ins i o)
def MU(P:Params):BT:=Tr (qD P).objs.toList 0 .nil
def Cp(P:Params):Nat:=(qD P).objs.size
def MV(P:Params):Life:=(qD P).life
def ajd(P:Params):Option Value:=(qD P).nsMap gi "__annotations__"
theorem boot_abs(P:Params):absHeap (MU P) (Cp P) (MV P)=qD P:=by kernel_rfl
theorem agd(P:Params):((qD P).isNs gi,(qD P).objs.size)=(c_,Cp P):=by kernel_rfl
def UH(P:Params)(os:OsState):SharedT:=⟨MU P,Cp P,MV P,#[],JB,JV,os⟩
def pJ(p:l_)(w:k_)(N:Nat)(os:OsState):Option SharedT:=EI BE p w (Cp w.params) (ajd w.params) N (UH w.params os) (topStub p)
def held(p:l_)(P:Params)(s:g_):Bool:=staticsOk (DZ p.main.body) (qD P) s.heap&&namesBound p s.heap&&gensDone s&&laidKept (qD P) s.heap
theorem both{α β γ:Type}{o:Option α}{f:α->β}{g:α->γ}{b:β}{c:γ}(h1:o.map f=a_ b)(h2:o.map g=a_ c):o.map (λs=>(f s,g s))=a_ (b,c):=by
 cases o with
 | none=>cases h1
 | some s=>cases h1;cases h2;rfl
theorem abQ{w:k_}{N:Nat}(a:(s₀.heap.isNs gi&&s₀.gens.size == 0)=c_)(r:topRun BE p w s₀.heap.objs.size (s₀.heap.nsMap gi "__annotations__") N s₀ (topStub p)=a_ s₁)
  (b:(staticsOk (DZ p.main.body) s₀.heap s₁.heap&&namesBound p s₁.heap&&gensDone s₁&&laidKept s₀.heap s₁.heap)=c_):topFrom BE p w N s₀=a_ s₁:=by
 unfold topFrom;rw[a];dsimp only;rw[r];dsimp only[Option.bind];rw[b]
theorem afW{Xt:g_->Bool}{α:Type}{Yf:g_->α}{Ya:k_->α}{N:Nat}(e:opening p=plainProg p.main.scope.names)(hN:Nat.ble 600 N=c_)(f:∀s,fenceModules? p s=a_ s)
  (run:∀(w:k_) (os:OsState),(pJ p w N os).map (λs=>(held p w.params s.abs,(openSeen q loose (DZ p.main.body) Xt c_ s.abs,Yf s.abs)))=a_ (c_,(openGood q loose,Ya w))):LeftO p q loose Xt Yf Ya N:=λw=>by
 obtain⟨⟨h,gs,d,k,os⟩,e1,e'⟩:=Iy.mp (boot_open e hN f w);obtain⟨rfl,rfl,rfl,rfl⟩:h=qD w.params/\gs=EH []/\d=JB/\k=JV:=by simpa using e'
 obtain⟨s₁,r,l⟩:=Iy.mp (run w os);obtain⟨l1,l2⟩:=ye l;obtain⟨z1,z2⟩:=ye (agd w.params);have r':=Q3 r
 have ea:(UH w.params os).abs=⟨qD w.params,EH [],JB,JV,os⟩:=by
  show (⟨absHeap (MU w.params) (Cp w.params) (MV w.params),_,_,_,_⟩:g_)=_;rw[boot_abs];rfl
 rw[ea]at r';have t:topFrom BE p w N ⟨qD w.params,EH [],JB,JV,os⟩=a_ s₁.abs:=abQ (by rw[z1];rfl) (by show topRun BE p w (qD w.params).objs.size _ N _ _=_;rw[z2];exact r') l1;unfold openEnds;rw[e1];show (topFrom BE p w N _).map _=_;rw[t];exact congrArg a_ l2
end HT
namespace TL
open PySem PySem.Spec PyProof.Rows PySem.SeqAt L2 L3
def qv:Program:=W.view PySem.Challenge.rw_traylate_k46_replayed.prog [0,2,3,4,5,6,7,8,10,11,12,13,14,15,16,17,18,19,20,21,22,23,24,25,27,28,29,30,32,33,34,36,37,38,39,41,42,43,44,45,46,47,49,50,51,52,53,54,55,56,57,58,59,60,61,62,63,64,65,66,67,68,69,70]
end TL
section
open PySem PySem.W PyProof.Rows
abbrev TL.rn(w:k_)(os:OsState):=HT.pJ PySem.Challenge.rw_traylate_k46_replayed.row.prog w 13382 os
abbrev TL.lo:List Str:=["Machine","KINDS"]
theorem TL.lw:looseW TL.qv []=TL.lo:=by kernel_rfl
theorem TL.l0(w:k_)(os:OsState):(TL.rn w os).map (λs=>((s.abs.heap.keysOk TL.lo ((recsOf TL.qv).map (·.name)) ((litsOf TL.qv).map (·.1)) ((clssOf TL.qv TL.lo).map (·.name))),((plainSeenE TL.qv TL.lo s.abs))))=a_ (c_,(plainGoodE TL.qv TL.lo)):=by kernel_rfl
theorem TL.l1(w:k_)(os:OsState):(TL.rn w os).map (λs=>(wideSeen TL.qv s.abs,clsSeenW TL.qv [] s.abs))=a_ (wideGood TL.qv,clsGoodW TL.qv []):=by kernel_rfl
theorem TL.l2(w:k_)(os:OsState):(TL.rn w os).map (λs=>((plainSeenD TL.qv [] s.abs),((HT.held PySem.Challenge.rw_traylate_k46_replayed.row.prog w.params s.abs),((s.abs.heap.bmainOk&&(valsOk TL.qv s.abs.heap&&(!importsNone TL.qv||s.abs.heap.noSeerOk)))))))=a_ (plainGoodD TL.qv [],(c_,(c_))):=by kernel_rfl
theorem TL.l3(w:k_)(os:OsState):(TL.rn w os).map (λs=>((((recsOf TL.qv).map λd=>s.abs.heap.tab0Ok d.name).take 22 |>.all id),((s.abs.heap.bltView))))=a_ (c_,(bltViewBooted)):=by kernel_rfl
theorem TL.l4(w:k_)(os:OsState):(TL.rn w os).map (λs=>((recsOf TL.qv).map λd=>s.abs.heap.tab0Ok d.name).drop 22 |>.all id)=a_ true:=by kernel_rfl
theorem TL.l5(w:k_)(os:OsState):(TL.rn w os).map (λs=>(((((recsOf TL.qv).map (·.name)).map (s.abs.heap.shapeAt gi)).take 18),(((ownsOf TL.qv).all (λo=>s.abs.heap.ownExcOk o.name o.chain o.bm o.newId&&s.abs.heap.quietOk o.name)&&(s.abs.heap.noLimitOk&&s.abs.heap.noDigitsOk)),((pinSeenD TL.qv (drecsOf TL.qv) s.abs),((s.abs.heap.accountedOkI (DZ PySem.Challenge.rw_traylate_k46_replayed.row.prog.main.body)&&(s.abs.heap.isNs gi&&(s.abs.heap.isNs sS&&(tablesOk TL.qv s.abs.heap&&((W.xlAt TL.qv [] s.abs&&W.recOk PySem.Challenge.rw_traylate_k46_replayed.row.records s.abs)&&(s.abs.gens.size == 0)))))))))))=a_ ((((recsOf TL.qv).take 18).map λd=>a_ d.shape),(c_,(pinGoodD (drecsOf TL.qv),(c_)))):=by kernel_rfl
theorem TL.l6(w:k_)(os:OsState):(TL.rn w os).map (λs=>(((recsOf TL.qv).map (·.name)).map (s.abs.heap.shapeAt gi)).drop 18)=a_ ((((recsOf TL.qv).drop 18).map λd=>a_ d.shape)):=by kernel_rfl
end
namespace L2
open PySem PySem.Spec PyProof.Rows
def inClass(s:Stmt)(j:Nat):Stmt:=match s with
 | .ClassDef _ _ _ body _ _ _ _ _ _ _=>body.getD j (.Pass ⟨0,0,0,0⟩)
 | _=>.Pass ⟨0,0,0,0⟩
def nz(s:Stmt):Arguments:=match s with
 | .FunctionDef _ a _ _ _ _ _ _ _ _=>a
 | _=>{ posonlyargs:=[],args:=[],vararg:=b_,kwonlyargs:=[],kw_defaults:=[],kwarg:=b_,defaults:=[] }
def ir(s:Stmt):List Stmt:=match s with
 | .FunctionDef _ _ b _ _ _ _ _ _ _=>b
 | _=>[]
def aT(s:Stmt):Scope:=match s with
 | .FunctionDef _ _ _ _ _ _ sc _ _ _=>sc
 | _=>{ kind:=.function,names:=[],isGenerator:=d_,isCoroutine:=d_ }
end L2
namespace TL
open PySem PySem.Spec PyProof.Rows L2 L3
abbrev jD:Int:=1000000000000000000000000000000000000000000000000000000000000
def top(i:Nat):Stmt:=PySem.Challenge.pw_traylate_k46_replayed.main.body.getD i (.Pass ⟨0,0,0,0⟩)
abbrev Fs:Stmt:=inClass (top 14) 0
abbrev B7:Stmt:=top 22
abbrev BU:Stmt:=top 23
abbrev EM:Stmt:=top 24
abbrev KO:Stmt:=top 25
abbrev Fq:Stmt:=inClass (top 15) 0
abbrev Ft:Stmt:=inClass (top 16) 0
abbrev Fp:Stmt:=inClass (top 17) 0
abbrev E1:Stmt:=inClass (top 18) 0
abbrev EX:Stmt:=inClass (top 19) 0
abbrev EY:Stmt:=inClass (top 21) 0
end TL
namespace L2
open PySem
abbrev WL:Addr:=87
end L2
namespace L2
open PySem PySem.Spec PyProof.Rows L3
open Sem (wp)
abbrev xk:List Value:=[.type "ValueError",.type "Exception",.type "BaseException",.type "object"]
end L2
namespace TL
open PySem PySem.Spec PyProof.Rows L2 L3
abbrev KG:Stmt:=top 22
abbrev Gw:Stmt:=inClass (top 33) 0
abbrev Mp:Stmt:=inClass (top 33) 1
abbrev J7:Stmt:=inClass (top 33) 2
abbrev Eu:Stmt:=inClass (top 33) 3
abbrev Lw:Stmt:=inClass (top 33) 4
abbrev KI:Stmt:=inClass (top 33) 5
abbrev J5:Stmt:=inClass (top 33) 6
abbrev KH:Stmt:=top 34
end TL
namespace L2
open PySem PySem.Spec PyProof.Rows
abbrev kc:String:="BaseException.__getattribute__"
end L2
namespace L2
open PySem PySem.Spec PyProof.Rows L3
def uB:List f_->Bool
 | .ref _::r=>uB r
 | .type a::r=>a == "ValueError" && (r == [.type "Exception",.type "BaseException",.type "object"])
 | _=>d_
def L6(K:W.Frag)(C:e_)(bmB:List f_)(newId:String):Bool:=
 match yf C K with
 | some { cls:=qB "type",dict:=_,data:=Data.cls cd,slots:=sl }=>
  match cd.mro,sl.toList with
  | di C'::bm,[_,_,_,_,a_ (zz n),_]=>C' == C&&n == newId && !cd.hasDel&&W.tailIn K bmB bm&&W.nsOkIn K cd.ns
  | _,_=>d_
 | _=>d_
end L2
namespace TL
open PySem PySem.Spec PyProof.Rows PySem.SeqAt L2 L3 L4
abbrev E2:Stmt:=inClass (top 14) 5
abbrev El:Stmt:=inClass (top 19) 3
abbrev Ef:Stmt:=inClass (top 20) 0
abbrev EZ:Stmt:=inClass (top 39) 0
abbrev LG:Stmt:=inClass (top 39) 1
abbrev Lz:Stmt:=inClass (top 39) 2
abbrev Kb:Stmt:=inClass (top 39) 3
abbrev KR:Stmt:=inClass (top 39) 4
abbrev Nr:Stmt:=inClass (top 39) 5
abbrev KY:Stmt:=inClass (top 39) 6
abbrev LA:Stmt:=inClass (top 39) 7
abbrev K0:Stmt:=inClass (top 39) 8
abbrev KW:Stmt:=inClass (top 39) 9
abbrev LD:Stmt:=inClass (top 39) 10
abbrev MC:Stmt:=inClass (top 39) 11
abbrev J9:Stmt:=inClass (top 39) 12
abbrev Lv:Stmt:=inClass (top 39) 15
abbrev Jq:Stmt:=inClass (top 39) 16
abbrev Jr:Stmt:=inClass (top 39) 17
abbrev J4:Stmt:=inClass (top 39) 18
abbrev LF:Stmt:=inClass (top 39) 19
abbrev LB:Stmt:=inClass (top 39) 20
abbrev Ms:Stmt:=inClass (top 39) 23
abbrev Nu:Stmt:=top 28
abbrev Mx:Stmt:=top 29
abbrev JI:Stmt:=top 30
abbrev J8:Stmt:=top 36
abbrev Kc:Stmt:=top 56
abbrev Mq:Stmt:=top 58
abbrev Nm:Stmt:=top 59
abbrev Jh:Stmt:=top 38
abbrev Mw:Stmt:=top 37
abbrev MB:Stmt:=top 60
abbrev Mz:Stmt:=top 61
abbrev Nq:Stmt:=top 55
abbrev Mu:Stmt:=top 64
abbrev K2:Stmt:=top 49
abbrev Lx:Stmt:=top 50
abbrev Np:Stmt:=top 53
abbrev B8:Stmt:=top 54
abbrev KJ:Stmt:=top 51
abbrev Mr:Stmt:=top 52
abbrev Js:Stmt:=inClass (top 39) 21
abbrev K1:Stmt:=inClass (top 39) 22
abbrev Ly:Stmt:=top 42
abbrev KP:Stmt:=inClass (top 39) 13
abbrev LC:Stmt:=top 43
abbrev KZ:Stmt:=top 46
abbrev KU:Stmt:=top 44
abbrev Nl:Stmt:=inClass (top 8) 0
abbrev Ka:Stmt:=top 45
abbrev My:Stmt:=top 41
abbrev KQ:Stmt:=top 47
abbrev Mt:Stmt:=top 66
abbrev Nv:Stmt:=top 67
abbrev uI:Stmt:=top 68
abbrev Nn:Stmt:=top 65
abbrev Cg:Stmt:=top 69
abbrev yz:Stmt:=top 70
end TL
namespace HT
open PySem PySem.W PyProof.Rows
theorem tJ{α β γ:Type}{o:Option α}{f:α->β}{g:α->γ}{b:β}{c:γ}(h:o.map (λs=>(f s,g s))=a_ (b,c)):o.map f=a_ b:=by
 cases o with
 | none=>cases h
 | some s=>
  have h':(f s,g s)=(b,c):=dq h;exact congrArg a_ (ye h').1
theorem pY{α β γ:Type}{o:Option α}{f:α->β}{g:α->γ}{b:β}{c:γ}(h:o.map (λs=>(f s,g s))=a_ (b,c)):o.map g=a_ c:=by
 cases o with
 | none=>cases h
 | some s=>
  have h':(f s,g s)=(b,c):=dq h;exact congrArg a_ (ye h').2
theorem vg{α:Type}{o:Option α}{f g:α->Bool}(h1:o.map f=a_ c_)(h2:o.map g=a_ c_):o.map (λs=>f s&&g s)=a_ true:=by
 cases o with
 | none=>cases h1
 | some s=>
  have p:f s=true:=dq h1;show a_ (f s&&g s)=a_ c_;rw[p];exact h2
theorem wR{α:Type}{o:Option α}{f g:α->Bool}(h:o.map (λs=>f s&&g s)=a_ c_):o.map f=a_ c_/\o.map g=a_ true:=by
 cases o with
 | none=>cases h
 | some s=>
  have p:=Qg.mp (dq h);exact⟨congrArg a_ p.1,congrArg a_ p.2⟩
theorem td{α β γ:Type}{o:Option α}{F:α->List β}{l:List γ}{g:γ->β}(k:Nat)(h1:o.map (λs=>(F s).take k)=a_ ((l.take k).map g))(h2:o.map (λs=>(F s).drop k)=a_ ((l.drop k).map g)):o.map F=a_ (l.map g):=by
 cases o with
 | none=>cases h1
 | some s=>
  refine congrArg a_ ?_;rw[<-Iz k (F s),show (F s).take k=(l.take k).map g from dq h1,show (F s).drop k=(l.drop k).map g from dq h2,<-gg,Iz]
theorem Lm{α:Type}{o:Option α}{F:α->List Bool}(k:Nat)(h1:o.map (λs=>((F s).take k).all id)=a_ c_)(h2:o.map (λs=>((F s).drop k).all id)=a_ c_):o.map (λs=>(F s).all id)=a_ true:=by
 cases o with
 | none=>cases h1
 | some s=>
  refine congrArg a_ ?_;show (F s).all id=c_;rw[<-Iz k (F s),List.all_append,show ((F s).take k).all id=c_ from dq h1,show ((F s).drop k).all id=c_ from dq h2];rfl
theorem mkS{d D:List (Option FnShape)}{o g b n:Bool}(h1:d=D)(h2:o=c_)(h3:g=c_)(h4:b=c_)(h5:n=c_):(⟨d,o,[],g,b,n,0⟩:Seen)=⟨D,c_,[],c_,c_,c_,0⟩:=by
 subst h1 h2 h3 h4 h5;rfl
theorem tb_{α β:Type}{o:Option α}{l:List β}{f:α->β->Bool}(h:o.map (λs=>(l.map λd=>f s d).all id)=a_ c_):o.map (λs=>l.all λd=>f s d)=a_ true:=by
 cases o with
 | none=>cases h
 | some s=>
  refine congrArg a_ ?_;have e:(l.map λd=>f s d).all id=true:=dq h;rw[zH]at e;exact e
theorem aeV{p q:l_}{w:k_}{N:Nat}{os:OsState}{loose mods:List Str}{Xt:g_->Bool}{L:List Str}(hL:looseW q loose=L)
  (h3:(pJ p w N os).map (λs=>s.abs.heap.keysOk L ((recsOf q).map (·.name)) ((litsOf q).map (·.1)) ((clssOf q L).map (·.name)))=a_ c_)
  (h5:(pJ p w N os).map (λs=>s.abs.heap.accountedOkI mods&&(s.abs.heap.isNs gi&&(s.abs.heap.isNs sS&&(tablesOk q s.abs.heap&&(Xt s.abs&&(s.abs.gens.size == 0))))))=a_ c_)
  (h1:(pJ p w N os).map (λs=>((recsOf q).map (·.name)).map (s.abs.heap.shapeAt gi))=a_ ((recsOf q).map λd=>a_ d.shape))
  (h6:(pJ p w N os).map (λs=>(ownsOf q).all (λo=>s.abs.heap.ownExcOk o.name o.chain o.bm o.newId&&s.abs.heap.quietOk o.name)&&(s.abs.heap.noLimitOk&&s.abs.heap.noDigitsOk))=a_ c_)
  (h2:(pJ p w N os).map (λs=>s.abs.heap.bltView)=a_ bltViewBooted)
  (h7:(pJ p w N os).map (λs=>(recsOf q).all λd=>s.abs.heap.tab0Ok d.name)=a_ c_)
  (h8:(pJ p w N os).map (λs=>s.abs.heap.bmainOk&&(valsOk q s.abs.heap&&(!importsNone q||s.abs.heap.noSeerOk)))=a_ c_)
  (h4:(pJ p w N os).map (λs=>(pinSeenD q (drecsOf q) s.abs,(plainSeenE q L s.abs,(plainSeenD q loose s.abs,(wideSeen q s.abs,clsSeenW q loose s.abs)))))=a_ ((pinGoodD (drecsOf q),(plainGoodE q L,(plainGoodD q loose,(wideGood q,clsGoodW q loose)))))) :
  (pJ p w N os).map (λs=>openSeen q loose mods Xt c_ s.abs)=a_ (openGood q loose):=by
 subst hL;obtain⟨a1,h5⟩:=wR h5;obtain⟨a2,h5⟩:=wR h5;obtain⟨a3,h5⟩:=wR h5;obtain⟨a4,h5⟩:=wR h5;obtain⟨a5,a6⟩:=wR h5;obtain⟨b1,b2⟩:=wR h6;obtain⟨c1,h8⟩:=wR h8;obtain⟨c2,c3⟩:=wR h8
 have sn:(pJ p w N os).map (λs=>seen ((recsOf q).map (·.name)) (ownsOf q) [] { heap:=s.abs.heap,drawn:=s.abs.drawn,toks:=s.abs.toks,os:=s.abs.os })=a_ (expectedOf q):=by
  generalize pJ p w N os=o at h1 a2 a3 b1 b2 ⊢;cases o with
  | none=>cases h1
  | some s=>
   refine congrArg a_ ?_;exact mkS (dq h1) (dq b1) (dq a2) (dq a3) (dq b2)
 have tb:(pJ p w N os).map (λs=>tabsOk q s.abs)=a_ true:=vg (vg (vg h7 c1) c2) c3;have a:=both sn (both h2 (both (vg (vg (vg (vg (vg (vg h3 a1) a2) a3) a4) a5) a6) (both tb h4)));exact a
end HT
namespace HT
open PySem PySem.W
theorem Lc{g:e_->Option Obj}:∀l:List e_,(l.filterMap λa=>(g a).map λo=>(a,o)).lookup a=a_ o->g a=a_ o
 | [],h=>by cases h
 | b::r,h=>by
  rw[IC]at h;cases e:g b with
  | none=>rw[e]at h;exact Lc r h
  | some x=>
   rw[e]at h;dsimp only[Option.map]at h;rw[sL]at h;cases q:a == b with
   | true=>rw[q]at h;cases h;rw[beq_iff_eq.mp q];exact e
   | false=>rw[q]at h;exact Lc r h
def rf:Option (Option f_)->e_
 | some (a_ (.ref a))=>a
 | _=>0
def Gz:Option (Option f_)->Bool
 | some (a_ (.ref _))=>c_
 | _=>d_
theorem lN{o:Option (Option f_)}(h:Gz o=c_):o=a_ (a_ (.ref (rf o))):=by
 unfold Gz at h
 split at h
 ·rfl
 ·cases h
def yJ(o:Option (Option f_))(n:Int):Bool:=match o with
 | some (a_ (.int m _))=>decide (m=n)
 | _=>d_
theorem Cc{o:Option (Option f_)}{n:Int}(h:yJ o n=c_):∃t,o=a_ (a_ (.int n t)):=by
 unfold yJ at h
 split at h
 ·rename_i m t;exact⟨t,by rw[of_decide_eq_true h]⟩
 ·cases h
def Og(o:Option CFound)(f:e_):Bool:=match o with
 | some (.val (.ref a))=>B2 a f
 | _=>d_
theorem ahk{o:Option CFound}(h:Og o f=c_):o=a_ (.val (.ref f)):=by
 unfold Og at h
 split at h
 ·rw[Nat.eq_of_beq_eq_true h]
 ·cases h
abbrev sj:=Str×Str×Arguments×FuncBody×i_×e_×List (Str×e_)×f_×e_
def bc(K:Frag)(f:e_):Option sj:=match K.lookup f with
 | some ⟨_,_,.func d,_⟩=>a_ (d.name,d.qualname,d.params,d.body,d.scope,d.globals,d.closure,d.defaults,d.builtins)
 | _=>b_
def codeOk(K:Frag)(f:e_)(q:Str):Bool:=match K.lookup f with
 | some ⟨_,_,.func d,_⟩=>codeIn K d.code q
 | _=>d_
theorem wO{K:Frag}{A:Arguments}{B:List Stmt}{S:i_}(h:bc K f=a_ (n,q,A,.stmts B,S,gi,[],.none,sS))(hc:codeOk K f q'=c_) :
  ∃(oc:f_) (od:Option e_) (kV dc pm:f_) (an:Option e_) (cd ct:f_) (sl:Array (Option f_)),K.lookup f=a_ ⟨oc,od,.func (fnOf n q A B S .none kV dc pm an cd ct),sl⟩/\codeIn K cd q'=true:=by
 unfold bc at h;unfold codeOk at hc
 split at h
 ·rename_i oc od d sl e
  rw[e]at hc;obtain⟨d1,d2,d3,d4,d5,d6,d7,d8,d9,d10,d11,d12,d13,d14,d15⟩:=d;simp only[II,abo]at h;obtain⟨rfl,rfl,rfl,rfl,rfl,rfl,rfl,rfl,rfl⟩:=h;exact⟨oc,od,_,_,_,_,_,_,sl,e,hc⟩
 ·cases h
def FX(K:Frag)(f:e_):Option sj:=match K.lookup f with
 | some ⟨_,_,.func d,_⟩=>a_ (d.name,d.qualname,d.params,d.body,d.scope,d.globals,d.closure,.none,d.builtins)
 | _=>b_
def FZ(K:Frag)(f:e_)(x:Str):Bool:=match K.lookup f with
 | some ⟨_,_,.func d,_⟩=>(match d.defaults with
  | .ref T=>(match K.lookup T with
   | some ⟨_,_,.seq aw _,_⟩=>(match aw.toList with
    | [.str y _]=>decide (y=x)
    | _=>d_)
   | _=>d_)
  | _=>d_)
 | _=>d_
theorem ahr{K:Frag}{A:Arguments}{B:List Stmt}{S:i_}(h:FX K f=a_ (n,q,A,.stmts B,S,gi,[],.none,sS))(hc:codeOk K f q'=c_)(hd:FZ K f x=c_) :
  ∃(oc:f_) (od:Option e_) (T:e_) (kV dc pm:f_) (an:Option e_) (cd ct:f_) (sl:Array (Option f_)) (c1:f_) (d1:Option e_) (n1:Nat) (vt:Array (Option f_)) (tk:Nat),K.lookup f=a_ ⟨oc,od,.func (fnOf n q A B S (.ref T) kV dc pm an cd ct),sl⟩/\codeIn K cd q'=c_/\K.lookup T=a_ ⟨c1,d1,.seq #[.str x tk] n1,vt⟩:=by
 unfold FX at h;unfold codeOk at hc;unfold FZ at hd
 split at h
 ·rename_i oc od d sl e
  rw[e]at hc hd;obtain⟨d1,d2,d3,d4,d5,d6,d7,d8,d9,d10,d11,d12,d13,d14,d15⟩:=d;simp only[II,abo]at h;obtain⟨rfl,rfl,rfl,rfl,rfl,rfl,rfl,_,rfl⟩:=h;cases d8 with
  | ref T=>
   have hd:(match K.lookup T with
    | some ⟨_,_,.seq aw _,_⟩=>(match aw.toList with
     | [.str y _]=>decide (y=x)
     | _=>d_)
    | _=>d_)=true:=hd
   split at hd
   ·rename_i c1 dd1 aw n1 vt e1
    split at hd
    ·rename_i y tk ei
     rw[of_decide_eq_true hd]at ei
     have al':aw=#[.str x tk]:=by
      have:=congrArg List.toArray ei;simpa using this
     rw[al']at e1;exact⟨oc,od,T,_,_,_,_,_,_,sl,c1,dd1,n1,vt,tk,e,hc,e1⟩
    ·cases hd
   ·cases hd
  | _=>cases hd
 ·cases h
def wN(h:j_)(as:List e_)(T:e_):Frag:=as.filterMap λa=>(if B2 a T=c_ then b_ else h.get? a).map λo=>(a,o)
theorem Rf(e:(wN h as T).lookup a=a_ o):a≠T/\h.get? a=a_ o:=by
 have z:=Lc (g:=λa=>if B2 a T=c_ then b_ else h.get? a) _ e
 by_cases y:B2 a T=c_
 ·rw[if_pos y]at z;cases z
 ·rw[if_neg y]at z;exact⟨λq=>y (by rw[q];exact Nat.beq_refl T),z⟩
theorem aeo(h:j_)(as:List e_)(T:e_):(wN h as T).In h:=λ_ _ e=>(Rf e).2
theorem aen(h:j_)(as:List e_)(T:e_):(wN h as T).lookup T=none:=by
 cases e:(wN h as T).lookup T with
 | none=>rfl
 | some o=>exact absurd rfl (Rf e).1
def gT(s:SharedT)(a:e_):Option Obj:=match Nat.ble (a+1) s.n with
 | true=>alive ((s.tree.get a).getD default)
 | false=>b_
theorem Wb(s:SharedT)(a:e_):s.abs.heap.get? a=gT s a:=by
 show (absHeap s.tree s.n s.life).get? a=gT s a;unfold gT;cases h:Nat.ble (a+1) s.n with
 | true=>
  have h1:a<s.n:=Nat.le_of_ble_eq_true h;unfold Heap.get?;rw[absHeap_at,if_pos h1];generalize (s.tree.get a).getD default=o;show (match a_ o with | some ⟨_,_,.freed,_⟩=>b_ | o=>o)=alive o;obtain⟨c,d,dt,sl⟩:=o;cases dt <;> rfl
 | false=>exact abs_get_none λz=>by rw[Nat.ble_eq_true_of_le (show a+1<=s.n from z)]at h;cases h
def wM(s:SharedT)(as:List e_)(T:e_):Frag:=as.filterMap λa=>match B2 a T with
 | true=>b_
 | false=>(gT s a).map λo=>(a,o)
theorem aem(s:SharedT)(as:List e_)(T:e_):wN s.abs.heap as T=wM s as T:=by
 unfold wN wM
 congr 1
 funext a
 rw[Wb];cases B2 a T <;> rfl
def yu:Option Obj->Bool
 | some ⟨.none,b_,.fields vs,sl⟩=>vs.size == 0&&sl.size == 0
 | _=>d_
theorem aef{o:Option Obj}(h:yu o=c_):o=a_ (tabObj #[]):=by
 unfold yu at h
 split at h
 ·rename_i vs sl
  rw[i9]at h;have e1:=Z' (beq_iff_eq.mp h.1);have e2:=Z' (beq_iff_eq.mp h.2);subst e1;subst e2;rfl
 ·cases h
def uM(as:List e_)(T:e_)(obs:Frag->Bool×List (Option sj))(val:Bool×List (Option sj)):Hook:=
 ⟨Bool×(Bool×List (Option sj)),λs=>(yu (s.heap.get? T),obs (wN s.heap as T)),λ_=>(c_,val),λ_ h=>∃K:Frag,K.In h/\K.lookup T=b_/\h.get? T=a_ (tabObj #[])/\obs K=val,λ_ s e=>⟨_,aeo s.heap as T,aen _ _ _,aef (ye e).1,(ye e).2⟩,λ_ _ _ ⟨K,a,n,t,b⟩ k=>⟨K,a.keeps k,n,k _ _ t,b⟩⟩
theorem aha{obs:Frag->Bool×List (Option sj)}{val:Bool×List (Option sj)}{o:Option SharedT}(h1:o.map (λs=>yu (gT s T))=a_ c_)(h2:o.map (λs=>obs (wM s as T))=a_ val):o.map (λs=>(uM as T obs val).obs s.abs)=a_ (c_,val):=by
 have e:(λs:SharedT=>(uM as T obs val).obs s.abs)=λs=>(yu (gT s T),obs (wM s as T)):=by
  funext s
  show (yu (s.abs.heap.get? T),obs (wN s.abs.heap as T))=_;rw[Wb,aem]
 rw[e];exact both h1 h2
def vR:f_->e_
 | .ref q=>q
 | _=>0
def vB:f_->Bool
 | .ref _=>c_
 | _=>d_
theorem aik(h:vB v=c_):v=.ref (vR v):=by cases v <;> first | rfl | cases h
def Ax(K:Frag)(f:e_):Addr:=match K.lookup f with
 | some ⟨_,_,.func d,_⟩=>vR d.code
 | _=>0
def F2(K:Frag)(f:e_):Bool:=match K.lookup f with
 | some ⟨_,_,.func d,_⟩=>vB d.code
 | _=>d_
theorem aht{K:Frag}{A:Arguments}{B:List Stmt}{S:i_}(h:bc K f=a_ (n,q,A,.stmts B,S,gi,[],.none,sS))(hc:codeOk K f q'=c_)(hr:F2 K f=c_) :
  ∃(oc:f_) (od:Option e_) (kV dc pm:f_) (an:Option e_) (ct:f_) (sl:Array (Option f_)),K.lookup f=a_ ⟨oc,od,.func (fnOf n q A B S .none kV dc pm an (.ref (Ax K f)) ct),sl⟩/\codeIn K (.ref (Ax K f)) q'=true:=by
 obtain⟨oc,od,kV,dc,pm,an,cd,ct,sl,e,c⟩:=wO h hc
 have e2:cd=.ref (Ax K f):=by
  unfold F2 at hr;unfold Ax;rw[e]at hr ⊢;exact aik hr
 rw[e2]at e c;exact⟨oc,od,kV,dc,pm,an,ct,sl,e,c⟩
def sV:List f_->List Str->Bool
 | [],[]=>c_
 | .str y _::us,x::xs=>decide (y=x)&&sV us xs
 | _,_=>d_
def tupS(K:Frag)(a:e_)(xs:List Str):Bool:=match K.lookup a with
 | some ⟨.type "tuple",_,.seq aw _,_⟩=>sV aw.toList xs
 | _=>d_
end HT
namespace TL
open PySem PySem.Spec PyProof.Rows PySem.SeqAt L2 L3
def gN(K:W.Frag)(x:Str):Addr:=HT.rf (W.nsIn K gi x)
def gM(K:W.Frag)(c:e_)(x:Str):Addr:=HT.rf (W.findIn K (.ref c) x)
abbrev rN(K:W.Frag)(x:Str):Prop:=HT.Gz (W.nsIn K gi x)=c_
abbrev zN(K:W.Frag)(x:Str):Prop:=W.nsIn K gi x=a_ b_
abbrev no(K:W.Frag)(c:e_)(x:Str):Prop:=W.findIn K (.ref c) x=a_ b_
abbrev fN(K:W.Frag)(x:Str):Prop:=rN K x/\HT.codeOk K (gN K x) x=c_/\W.keepIn K (.ref (gN K x))=c_
abbrev fM(K:W.Frag)(c:e_)(m q:Str):Prop:=HT.Gz (W.findIn K (.ref c) m)=c_/\HT.codeOk K (gM K c m) q=c_/\W.keepIn K (.ref (gM K c m))=c_/\W.isFn K (.ref (gM K c m))=c_
abbrev cK(K:W.Frag)(x:Str):Prop:=rN K x/\W.plainGet K (gN K x) Str.empty=c_/\W.hasDictIn K (gN K x)=c_/\W.plainOver K (gN K x)=c_/\W.findIn K (.ref (gN K x)) "__setattr__" = a_ (a_ (.builtin "object.__setattr__"))
abbrev mK(K:W.Frag)(c:e_):Prop:=W.makesIn K c=c_/\W.keepIn K (.ref c)=c_
abbrev xF(K:W.Frag)(x e:e_):Prop:=W.excIn K x xk "ValueError.__new__" = c_/\W.keepIn K (.ref x)=c_/\W.kitCls K (.ref x) (.ref x)=a_ c_/\W.kitCls K (.ref x) (.type "BaseException")=a_ c_/\W.kitOne K (.ref x) (.ref e)=a_ c_/\W.kitOne K (.ref x) (.type "ValueError")=a_ c_
def fp(n q:Str)(st:Stmt):Option HT.sj:=a_ (n,q,nz st,.stmts (ir st),aT st,gi,[],.none,sS)
abbrev Cs(K:W.Frag):Addr:=gN K "TrayError"
abbrev ajk(K:W.Frag):Addr:=gN K "NoStep"
abbrev ajl(K:W.Frag):Addr:=gN K "NoMove"
abbrev ajm(K:W.Frag):Addr:=gN K "NoKind"
abbrev jN(K:W.Frag):Addr:=gN K "Unlike"
abbrev uF(K:W.Frag):Addr:=gN K "Step"
abbrev iQ(K:W.Frag):Addr:=gN K "Put"
abbrev iT(K:W.Frag):Addr:=gN K "Add"
abbrev iP(K:W.Frag):Addr:=gN K "Set"
abbrev iM(K:W.Frag):Addr:=gN K "Look"
abbrev iK(K:W.Frag):Addr:=gN K "Swap"
abbrev iL(K:W.Frag):Addr:=gN K "Skip"
abbrev oh(K:W.Frag):Addr:=gN K "Clear"
abbrev fo(K:W.Frag):Addr:=gN K "Tray"
abbrev cG(K:W.Frag):Addr:=gN K "Machine"
abbrev To(K:W.Frag):Addr:=gN K "KINDS"
abbrev WR(K:W.Frag):Addr:=gN K "is_whole"
abbrev WU(K:W.Frag):Addr:=gN K "bounds_of"
abbrev WS(K:W.Frag):Addr:=gN K "is_step"
abbrev WT(K:W.Frag):Addr:=gN K "step_of"
abbrev Ay(K:W.Frag):Addr:=gM K (uF K) "__init__"
abbrev Md(K:W.Frag):Addr:=gM K (iQ K) "__init__"
abbrev Mf(K:W.Frag):Addr:=gM K (iT K) "__init__"
abbrev Mb(K:W.Frag):Addr:=gM K (iP K) "__init__"
abbrev Ll(K:W.Frag):Addr:=gM K (iM K) "__init__"
abbrev Lj(K:W.Frag):Addr:=gM K (iK K) "__init__"
abbrev Lk(K:W.Frag):Addr:=gM K (iL K) "__init__"
abbrev qM(K:W.Frag):Addr:=gM K (uF K) "empties"
abbrev Uz(K:W.Frag):Addr:=gM K (iK K) "empties"
abbrev UA(K:W.Frag):Addr:=gM K (oh K) "empties"
abbrev ajE(K:W.Frag):Addr:=gN K "has_clerks"
abbrev ajF(K:W.Frag):Addr:=gN K "fits"
abbrev ajB(K:W.Frag):Addr:=gN K "look_over"
abbrev Wi(K:W.Frag):Addr:=gM K (fo K) "__init__"
abbrev ajs(K:W.Frag):Addr:=gM K (fo K) "add"
abbrev ajp(K:W.Frag):Addr:=gM K (fo K) "latest"
abbrev M0(K:W.Frag):Addr:=gM K (fo K) "fronts"
abbrev ajn(K:W.Frag):Addr:=gM K (fo K) "take"
abbrev ajq(K:W.Frag):Addr:=gM K (fo K) "is_empty"
abbrev ajr(K:W.Frag):Addr:=gM K (fo K) "listed"
abbrev ajo(K:W.Frag):Addr:=gN K "tray_of"
abbrev Me(K:W.Frag):Addr:=gM K (cG K) "__init__"
abbrev ajU(K:W.Frag):Addr:=gM K (cG K) "at_end"
abbrev ajy(K:W.Frag):Addr:=gM K (cG K) "may_do"
abbrev ajR(K:W.Frag):Addr:=gM K (cG K) "carries"
abbrev ajz(K:W.Frag):Addr:=gM K (cG K) "moves"
abbrev ajL(K:W.Frag):Addr:=gM K (cG K) "do"
abbrev ajJ(K:W.Frag):Addr:=gM K (cG K) "do_step"
abbrev ajI(K:W.Frag):Addr:=gM K (cG K) "do_set"
abbrev ajN(K:W.Frag):Addr:=gM K (cG K) "do_look"
abbrev ajH(K:W.Frag):Addr:=gM K (cG K) "do_swap"
abbrev ajQ(K:W.Frag):Addr:=gM K (cG K) "carry"
abbrev ajS(K:W.Frag):Addr:=gM K (cG K) "come"
abbrev ajx(K:W.Frag):Addr:=gM K (cG K) "on_board"
abbrev aju(K:W.Frag):Addr:=gM K (cG K) "settle"
abbrev Wh(K:W.Frag):Addr:=gM K (cG K) "where"
abbrev Wj(K:W.Frag):Addr:=gM K (cG K) "steps_done"
abbrev Wk(K:W.Frag):Addr:=gM K (cG K) "registers"
abbrev Wg(K:W.Frag):Addr:=gM K (cG K) "waiting"
abbrev Wn(K:W.Frag):Addr:=gM K (cG K) "board"
abbrev Wm(K:W.Frag):Addr:=gM K (cG K) "deeds"
abbrev ajM(K:W.Frag):Addr:=gM K (cG K) "deeds_done"
abbrev ajP(K:W.Frag):Addr:=gM K (cG K) "deed_at"
abbrev Wl(K:W.Frag):Addr:=gM K (cG K) "over"
abbrev ajw(K:W.Frag):Addr:=gN K "place_behind"
abbrev ajD(K:W.Frag):Addr:=gN K "has_form_of_move"
abbrev ajt(K:W.Frag):Addr:=gN K "steps_of"
abbrev Vw(K:W.Frag):Addr:=gM K (jN K) "__init__"
abbrev ajG(K:W.Frag):Addr:=gN K "has_each_once"
abbrev ajA(K:W.Frag):Addr:=gN K "may_go_on"
abbrev ajT(K:W.Frag):Addr:=gN K "comes_to_deed"
abbrev ajC(K:W.Frag):Addr:=gN K "is_like"
abbrev ajO(K:W.Frag):Addr:=gN K "do_deeds"
abbrev ajK(K:W.Frag):Addr:=gN K "do_rest"
abbrev ajv(K:W.Frag):Addr:=gN K "replay"
abbrev ah7(K:W.Frag):Addr:=gN K "_law_cell_at"
abbrev ah1(K:W.Frag):Addr:=gN K "_law_mixed"
abbrev ahS(K:W.Frag):Addr:=gN K "_law_stream"
abbrev ahX(K:W.Frag):Addr:=gN K "_law_pick"
abbrev ahY(K:W.Frag):Addr:=gN K "_law_one"
abbrev ahW(K:W.Frag):Addr:=gN K "_law_program"
abbrev ah0(K:W.Frag):Addr:=gN K "_law_new"
abbrev ah8(K:W.Frag):Addr:=gN K "_law_arrives"
abbrev ahT(K:W.Frag):Addr:=gN K "_law_seen"
abbrev ahR(K:W.Frag):Addr:=gN K "_law_set"
abbrev ah6(K:W.Frag):Addr:=gN K "_law_deed"
abbrev ah5(K:W.Frag):Addr:=gN K "_law_does"
abbrev ah2(K:W.Frag):Addr:=gN K "_law_like"
abbrev ahV(K:W.Frag):Addr:=gN K "_law_ran"
abbrev ahZ(K:W.Frag):Addr:=gN K "_law_next"
abbrev ah4(K:W.Frag):Addr:=gN K "_law_due"
abbrev ah3(K:W.Frag):Addr:=gN K "_law_holds"
abbrev ahU(K:W.Frag):Addr:=gN K "_law_rows"
abbrev ahQ(K:W.Frag):Addr:=gN K "law"
set_option synthInstance.maxSize 100000
set_option synthInstance.maxHeartbeats 0
abbrev d9(p:Prop)[Decidable p]:Bool:=decide p
def AG(K:W.Frag)(_:Unit):List Bool:=[d9 (rN K "TrayError"),d9 (rN K "NoStep"),d9 (xF K (ajk K) (Cs K)),d9 (rN K "NoMove"),d9 (xF K (ajl K) (Cs K)),d9 (rN K "NoKind"),d9 (xF K (ajm K) (Cs K)),d9 (rN K "Unlike"),d9 (cK K "Step"),d9 (cK K "Put"),d9 (mK K (iQ K)),d9 (no K (iQ K) "parts"),d9 (no K (iQ K) "reg"),d9 (no K (iQ K) "number"),d9 (cK K "Add"),d9 (mK K (iT K)),d9 (no K (iT K) "parts"),d9 (no K (iT K) "reg"),d9 (no K (iT K) "other"),d9 (cK K "Set"),d9 (mK K (iP K)),d9 (no K (iP K) "parts"),d9 (no K (iP K) "name"),d9 (no K (iP K) "reg"),d9 (cK K "Look"),d9 (mK K (iM K)),d9 (no K (iM K) "parts"),d9 (no K (iM K) "reg"),d9 (no K (iM K) "name"),d9 (cK K "Swap"),d9 (mK K (iK K)),d9 (no K (iK K) "parts"),d9 (no K (iK K) "reg"),d9 (no K (iK K) "name"),d9 (cK K "Skip"),d9 (mK K (iL K)),d9 (no K (iL K) "parts"),d9 (no K (iL K) "reg"),d9 (no K (iL K) "place"),d9 (cK K "Clear"),d9 (mK K (oh K)),d9 (no K (oh K) "parts"),d9 (cK K "Tray"),d9 (mK K (fo K)),d9 (no K (fo K) "kind"),d9 (no K (fo K) "turn"),d9 (no K (fo K) "queues"),d9 (cK K "Machine"),d9 (mK K (cG K)),d9 (no K (cG K) "trays"),d9 (no K (cG K) "program"),d9 (no K (cG K) "kind"),d9 (no K (cG K) "steps"),d9 (no K (cG K) "places"),d9 (no K (cG K) "counts"),d9 (no K (cG K) "regs"),d9 (no K (cG K) "cells"),d9 (no K (cG K) "acts"),d9 (no K (cG K) "comers"),d9 (fN K "is_whole"),d9 (fN K "bounds_of"),d9 (fN K "is_step"),d9 (fN K "step_of"),d9 (fM K (uF K) "__init__" "Step.__init__"),d9 (fM K (iQ K) "__init__" "Put.__init__"),d9 (fM K (iT K) "__init__" "Add.__init__"),d9 (fM K (iP K) "__init__" "Set.__init__"),d9 (fM K (iM K) "__init__" "Look.__init__"),d9 (fM K (iK K) "__init__" "Swap.__init__"),d9 (fM K (iL K) "__init__" "Skip.__init__"),d9 (fM K (uF K) "empties" "Step.empties"),d9 (fM K (iK K) "empties" "Swap.empties"),d9 (fM K (oh K) "empties" "Clear.empties"),d9 (fN K "has_clerks"),d9 (fN K "fits"),d9 (fN K "look_over"),d9 (fM K (fo K) "__init__" "Tray.__init__"),d9 (fM K (fo K) "add" "Tray.add"),d9 (fM K (fo K) "latest" "Tray.latest"),d9 (fM K (fo K) "fronts" "Tray.fronts"),d9 (HT.F2 K (M0 K)=c_),d9 (W.codeHdIn K (HT.Ax K (M0 K)) 425=c_),d9 (fM K (fo K) "take" "Tray.take"),d9 (fM K (fo K) "is_empty" "Tray.is_empty"),d9 (fM K (fo K) "listed" "Tray.listed"),d9 (fN K "tray_of"),d9 (fM K (cG K) "__init__" "Machine.__init__"),d9 (HT.FZ K (Me K) "row" = c_),d9 (fM K (cG K) "at_end" "Machine.at_end"),d9 (fM K (cG K) "may_do" "Machine.may_do"),d9 (fM K (cG K) "carries" "Machine.carries"),d9 (fM K (cG K) "moves" "Machine.moves"),d9 (fM K (cG K) "do" "Machine.do"),d9 (fM K (cG K) "do_step" "Machine.do_step"),d9 (fM K (cG K) "do_set" "Machine.do_set"),d9 (fM K (cG K) "do_look" "Machine.do_look"),d9 (fM K (cG K) "do_swap" "Machine.do_swap"),d9 (fM K (cG K) "carry" "Machine.carry"),d9 (fM K (cG K) "come" "Machine.come"),d9 (fM K (cG K) "on_board" "Machine.on_board"),d9 (fM K (cG K) "settle" "Machine.settle"),d9 (fM K (cG K) "where" "Machine.where"),d9 (fM K (cG K) "steps_done" "Machine.steps_done"),d9 (fM K (cG K) "registers" "Machine.registers"),d9 (fM K (cG K) "waiting" "Machine.waiting"),d9 (fM K (cG K) "board" "Machine.board"),d9 (fM K (cG K) "deeds" "Machine.deeds"),d9 (fM K (cG K) "deeds_done" "Machine.deeds_done"),d9 (fM K (cG K) "deed_at" "Machine.deed_at"),d9 (fM K (cG K) "over" "Machine.over"),d9 (fN K "place_behind"),d9 (fN K "has_form_of_move"),d9 (fN K "steps_of"),d9 (fM K (jN K) "__init__" "Unlike.__init__"),d9 (fN K "has_each_once"),d9 (fN K "may_go_on"),d9 (fN K "comes_to_deed"),d9 (fN K "is_like"),d9 (fN K "do_deeds"),d9 (fN K "do_rest"),d9 (fN K "replay"),d9 (fN K "_law_cell_at"),d9 (fN K "_law_mixed"),d9 (fN K "_law_stream"),d9 (fN K "_law_pick"),d9 (fN K "_law_one"),d9 (fN K "_law_program"),d9 (fN K "_law_new"),d9 (fN K "_law_arrives"),d9 (fN K "_law_seen"),d9 (fN K "_law_set"),d9 (fN K "_law_deed"),d9 (fN K "_law_does"),d9 (fN K "_law_like"),d9 (fN K "_law_ran"),d9 (fN K "_law_next"),d9 (fN K "_law_due"),d9 (fN K "_law_holds"),d9 (fN K "_law_rows"),d9 (fN K "law"),d9 (W.findIn K (.ref (iQ K)) "empties" = a_ (a_ (.ref (qM K)))),d9 (W.findIn K (.ref (iT K)) "empties" = a_ (a_ (.ref (qM K)))),d9 (W.findIn K (.ref (iP K)) "empties" = a_ (a_ (.ref (qM K)))),d9 (W.findIn K (.ref (iM K)) "empties" = a_ (a_ (.ref (qM K)))),d9 (W.findIn K (.ref (iL K)) "empties" = a_ (a_ (.ref (qM K)))),d9 (W.findIn K (.ref (oh K)) "__init__" = a_ (a_ (.ref (Ay K)))),d9 (W.specialIn K (.ref (uF K)) "__getattribute__" = a_ (a_ (.builtin "type.__getattribute__"))),d9 (W.readsIn K (uF K) (.type "type")=c_),d9 (HT.Og (W.findCls K (.ref (uF K)) (.type "type") "__init__") (Ay K)=c_),d9 (zN K "isinstance"),d9 (zN K "int"),d9 (zN K "bool"),d9 (zN K "str"),d9 (zN K "tuple"),d9 (zN K "len"),d9 (zN K "all"),d9 (zN K "zip"),d9 (zN K "enumerate"),d9 (zN K "range"),d9 (zN K "list"),d9 (zN K "min"),d9 (zN K "max"),d9 (zN K "sorted"),d9 (zN K "ValueError"),d9 (HT.yJ (W.nsIn K gi "TOP") jD=c_),d9 (HT.yJ (W.nsIn K gi "NAMES") 12=c_),d9 (HT.yJ (W.nsIn K gi "REGISTERS") 4=c_),d9 (HT.yJ (W.nsIn K gi "LONGEST") 120=c_),d9 (HT.yJ (W.nsIn K gi "CLERKS") 4=c_),d9 (rN K "KINDS"),d9 (HT.tupS K (To K) ["row","name","none"]=c_),d9 (W.specialIn K (.builtin "object.__class__") "__get__" = a_ (a_ (.builtin "getset_descriptor.__get__"))),d9 (W.takesIn K (.builtin "object.__class__")=a_ c_),d9 (W.findIn K (.ref (iQ K)) "__class__" = a_ (a_ (.builtin "object.__class__"))),d9 (W.mroIn K (iQ K) (.type "object")=a_ c_),d9 (W.kitOne K (.ref (iQ K)) (.ref (iQ K))=a_ c_),d9 (W.kitOne K (.ref (iQ K)) (.ref (iT K))=a_ d_),d9 (W.kitOne K (.ref (iQ K)) (.ref (iP K))=a_ d_),d9 (W.kitOne K (.ref (iQ K)) (.ref (iM K))=a_ d_),d9 (W.kitOne K (.ref (iQ K)) (.ref (iK K))=a_ d_),d9 (W.kitOne K (.ref (iQ K)) (.ref (iL K))=a_ d_),d9 (W.findIn K (.ref (iT K)) "__class__" = a_ (a_ (.builtin "object.__class__"))),d9 (W.mroIn K (iT K) (.type "object")=a_ c_),d9 (W.kitOne K (.ref (iT K)) (.ref (iQ K))=a_ d_),d9 (W.kitOne K (.ref (iT K)) (.ref (iT K))=a_ c_),d9 (W.kitOne K (.ref (iT K)) (.ref (iP K))=a_ d_),d9 (W.kitOne K (.ref (iT K)) (.ref (iM K))=a_ d_),d9 (W.kitOne K (.ref (iT K)) (.ref (iK K))=a_ d_),d9 (W.kitOne K (.ref (iT K)) (.ref (iL K))=a_ d_),d9 (W.findIn K (.ref (iP K)) "__class__" = a_ (a_ (.builtin "object.__class__"))),d9 (W.mroIn K (iP K) (.type "object")=a_ c_),d9 (W.kitOne K (.ref (iP K)) (.ref (iQ K))=a_ d_),d9 (W.kitOne K (.ref (iP K)) (.ref (iT K))=a_ d_),d9 (W.kitOne K (.ref (iP K)) (.ref (iP K))=a_ c_),d9 (W.kitOne K (.ref (iP K)) (.ref (iM K))=a_ d_),d9 (W.kitOne K (.ref (iP K)) (.ref (iK K))=a_ d_),d9 (W.kitOne K (.ref (iP K)) (.ref (iL K))=a_ d_),d9 (W.findIn K (.ref (iM K)) "__class__" = a_ (a_ (.builtin "object.__class__"))),d9 (W.mroIn K (iM K) (.type "object")=a_ c_),d9 (W.kitOne K (.ref (iM K)) (.ref (iQ K))=a_ d_),d9 (W.kitOne K (.ref (iM K)) (.ref (iT K))=a_ d_),d9 (W.kitOne K (.ref (iM K)) (.ref (iP K))=a_ d_),d9 (W.kitOne K (.ref (iM K)) (.ref (iM K))=a_ c_),d9 (W.kitOne K (.ref (iM K)) (.ref (iK K))=a_ d_),d9 (W.kitOne K (.ref (iM K)) (.ref (iL K))=a_ d_),d9 (W.findIn K (.ref (iK K)) "__class__" = a_ (a_ (.builtin "object.__class__"))),d9 (W.mroIn K (iK K) (.type "object")=a_ c_),d9 (W.kitOne K (.ref (iK K)) (.ref (iQ K))=a_ d_),d9 (W.kitOne K (.ref (iK K)) (.ref (iT K))=a_ d_),d9 (W.kitOne K (.ref (iK K)) (.ref (iP K))=a_ d_),d9 (W.kitOne K (.ref (iK K)) (.ref (iM K))=a_ d_),d9 (W.kitOne K (.ref (iK K)) (.ref (iK K))=a_ c_),d9 (W.kitOne K (.ref (iK K)) (.ref (iL K))=a_ d_),d9 (W.findIn K (.ref (oh K)) "__class__" = a_ (a_ (.builtin "object.__class__"))),d9 (W.mroIn K (oh K) (.type "object")=a_ c_),d9 (W.kitOne K (.ref (oh K)) (.ref (iQ K))=a_ d_),d9 (W.kitOne K (.ref (oh K)) (.ref (iT K))=a_ d_),d9 (W.kitOne K (.ref (oh K)) (.ref (iP K))=a_ d_),d9 (W.kitOne K (.ref (oh K)) (.ref (iM K))=a_ d_),d9 (W.kitOne K (.ref (oh K)) (.ref (iK K))=a_ d_),d9 (W.kitOne K (.ref (oh K)) (.ref (iL K))=a_ d_),d9 (W.findIn K (.ref (iL K)) "__class__" = a_ (a_ (.builtin "object.__class__"))),d9 (W.mroIn K (iL K) (.type "object")=a_ c_),d9 (W.kitOne K (.ref (iL K)) (.ref (iQ K))=a_ d_),d9 (W.kitOne K (.ref (iL K)) (.ref (iT K))=a_ d_),d9 (W.kitOne K (.ref (iL K)) (.ref (iP K))=a_ d_),d9 (W.kitOne K (.ref (iL K)) (.ref (iM K))=a_ d_),d9 (W.kitOne K (.ref (iL K)) (.ref (iK K))=a_ d_),d9 (W.kitOne K (.ref (iL K)) (.ref (iL K))=a_ c_),d9 (L6 K (jN K) xk "ValueError.__new__" = c_),d9 (W.keepIn K (.ref (jN K))=c_),d9 (W.findIn K (.ref (jN K)) "__setattr__" = a_ (a_ (.builtin "object.__setattr__"))),d9 ((W.clsIn K (jN K)).any (λcd=>uB cd.mro&&cd.hasDict)=c_),d9 (W.findIn K (.ref (jN K)) "deed" = a_ b_),d9 (W.kitCls K (.ref (jN K)) (.type "BaseException")=a_ c_),d9 (W.kitCls K (.ref (jN K)) (.ref (jN K))=a_ c_),d9 (W.kitOne K (.ref (jN K)) (.ref (Cs K))=a_ c_),d9 (W.kitOne K (.ref (jN K)) (.type "ValueError")=a_ c_),d9 (W.findIn K (.ref (jN K)) (gL "__getattribute__")=a_ (a_ (.builtin kc))),d9 (W.findIn K (.ref (jN K)) (gL "__getattr__")=a_ b_),d9 (W.mroIn K (jN K) (.type "BaseException")=a_ c_),d9 (W.hasDictIn K (jN K)=c_),d9 (W.findIn K (.ref (jN K)) (gL "__class__")=a_ (a_ (.builtin "object.__class__"))),d9 (W.mroIn K (jN K) (.type "object")=a_ c_)]
def seen(K:W.Frag):Bool:=(AG K ()).all id
def si:List Nat:=[3,2,0,1,6,31,44,56,75,87,99,118,172,193,212,238,264,304,323,349,455,663,24,30,37,43,49,55,61,74,80,86,92,98,104,117,123,171,179,192,198,211,217,237,243,263,269,303,309,322,328,348,400,454,486,662,19,21,70,72,113,115,132,134,139,141,146,148,153,155,160,162,167,169,188,190,207,209,226,228,233,235,252,254,259,261,278,280,285,287,292,294,299,301,318,320,337,339,344,346,356,358,363,365,368,370,375,377,380,382,387,389,394,396,407,409,414,416,421,423,426,428,433,435,438,440,443,445,450,452,464,466,469,471,474,476,481,483,494,496,501,503,508,510,513,515,518,520,525,527,532,534,539,541,546,548,553,555,560,562,567,569,574,576,581,583,588,590,595,597,602,604,609,611,616,618,623,625,630,632,637,639,644,646,651,653,658,660,670,672,677,679,684,686,691,693,698,700,705,707,712,714,719,721,726,728,733,735,740,742,747,749,754,756,759,761,766,768,773,775,778,780,785,787,792,794,799,801,804,806,811,813,816,818,823,825,830,832,837,839,844,846,849,851,856,858,4,5,7,8,9,10,11,12,13,14,15,16,17,18,20,22,23,25,26,27,28,29,32,33,34,35,36,38,39,40,41,42,45,46,47,48,50,51,52,53,54,57,58,59,60,62,63,64,65,66,67,68,69,71,73,76,77,78,79,81,82,83,84,85,88,89,90,91,93,94,95,96,97,100,101,102,103,105,106,107,108,109,110,111,112,114,116,119,120,121,122,124,125,126,127,128,129,130,131,133,135,136,137,138,140,142,143,144,145,147,149,150,151,152,154,156,157,158,159,161,163,164,165,166,168,170,173,174,175,176,177,178,180,181,182,183,184,185,186,187,189,191,194,195,196,197,199,200,201,202,203,204,205,206,208,210,213,214,215,216,218,219,220,221,222,223,224,225,227,229,230,231,232,234,236,239,240,241,242,244,245,246,247,248,249,250,251,253,255,256,257,258,260,262,265,266,267,268,270,271,272,273,274,275,276,277,279,281,282,283,284,286,288,289,290,291,293,295,296,297,298,300,302,305,306,307,308,310,311,312,313,314,315,316,317,319,321,324,325,326,327,329,330,331,332,333,334,335,336,338,340,341,342,343,345,347,350,351,352,353,354,355,357,359,360,361,362,364,366,367,369,371,372,373,374,376,378,379,381,383,384,385,386,388,390,391,392,393,395,397,398,399,401,402,403,404,405,406,408,410,411,412,413,415,417,418,419,420,422,424,425,427,429,430,431,432,434,436,437,439,441,442,444,446,447,448,449,451,453,456,457,458,459,460,461,462,463,465,467,468,470,472,473,475,477,478,479,480,482,484,485,487,488,489,490,491,492,493,495,497,498,499,500,502,504,505,506,507,509,511,512,514,516,517,519,521,522,523,524,526,528,529,530,531,533,535,536,537,538,540,542,543,544,545,547,549,550,551,552,554,556,557,558,559,561,563,564,565,566,568,570,571,572,573,575,577,578,579,580,582,584,585,586,587,589,591,592,593,594,596,598,599,600,601,603,605,606,607,608,610,612,613,614,615,617,619,620,621,622,624,626,627,628,629,631,633,634,635,636,638,640,641,642,643,645,647,648,649,650,652,654,655,656,657,659,661,664,665,666,667,668,669,671,673,674,675,676,678,680,681,682,683,685,687,688,689,690,692,694,695,696,697,699,701,702,703,704,706,708,709,710,711,713,715,716,717,718,720,722,723,724,725,727,729,730,731,732,734,736,737,738,739,741,743,744,745,746,748,750,751,752,753,755,757,758,760,762,763,764,765,767,769,770,771,772,774,776,777,779,781,782,783,784,786,788,789,790,791,793,795,796,797,798,800,802,803,805,807,808,809,810,812,814,815,817,819,820,821,822,824,826,827,828,829,831,833,834,835,836,838,840,841,842,843,845,847,848,850,852,853,854,855,857]
def rX(K:W.Frag):List (Option HT.sj):=[HT.bc K (WR K),HT.bc K (WU K),HT.bc K (WS K),HT.bc K (WT K),HT.bc K (Ay K),HT.bc K (Md K),HT.bc K (Mf K),HT.bc K (Mb K),HT.bc K (Ll K),HT.bc K (Lj K),HT.bc K (Lk K),HT.bc K (qM K),HT.bc K (Uz K),HT.bc K (UA K),HT.bc K (ajE K),HT.bc K (ajF K),HT.bc K (ajB K),HT.bc K (Wi K),HT.bc K (ajs K),HT.bc K (ajp K),HT.bc K (M0 K),HT.bc K (ajn K),HT.bc K (ajq K),HT.bc K (ajr K),HT.bc K (ajo K),HT.FX K (Me K),HT.bc K (ajU K),HT.bc K (ajy K),HT.bc K (ajR K),HT.bc K (ajz K),HT.bc K (ajL K),HT.bc K (ajJ K),HT.bc K (ajI K),HT.bc K (ajN K),HT.bc K (ajH K),HT.bc K (ajQ K),HT.bc K (ajS K),HT.bc K (ajx K),HT.bc K (aju K),HT.bc K (Wh K),HT.bc K (Wj K),HT.bc K (Wk K),HT.bc K (Wg K),HT.bc K (Wn K),HT.bc K (Wm K),HT.bc K (ajM K),HT.bc K (ajP K),HT.bc K (Wl K),HT.bc K (ajw K),HT.bc K (ajD K),HT.bc K (ajt K),HT.bc K (Vw K),HT.bc K (ajG K),HT.bc K (ajA K),HT.bc K (ajT K),HT.bc K (ajC K),HT.bc K (ajO K),HT.bc K (ajK K),HT.bc K (ajv K),HT.bc K (ah7 K),HT.bc K (ah1 K),HT.bc K (ahS K),HT.bc K (ahX K),HT.bc K (ahY K),HT.bc K (ahW K),HT.bc K (ah0 K),HT.bc K (ah8 K),HT.bc K (ahT K),HT.bc K (ahR K),HT.bc K (ah6 K),HT.bc K (ah5 K),HT.bc K (ah2 K),HT.bc K (ahV K),HT.bc K (ahZ K),HT.bc K (ah4 K),HT.bc K (ah3 K),HT.bc K (ahU K),HT.bc K (ahQ K)]
def qK:List (Option HT.sj):=[fp "is_whole" "is_whole" B7,fp "bounds_of" "bounds_of" BU,fp "is_step" "is_step" EM,fp "step_of" "step_of" KO,fp "__init__" "Step.__init__" Fs,fp "__init__" "Put.__init__" Fq,fp "__init__" "Add.__init__" Ft,fp "__init__" "Set.__init__" Fp,fp "__init__" "Look.__init__" E1,fp "__init__" "Swap.__init__" EX,fp "__init__" "Skip.__init__" EY,fp "empties" "Step.empties" E2,fp "empties" "Swap.empties" El,fp "empties" "Clear.empties" Ef,fp "has_clerks" "has_clerks" Nu,fp "fits" "fits" Mx,fp "look_over" "look_over" JI,fp "__init__" "Tray.__init__" Gw,fp "add" "Tray.add" Mp,fp "latest" "Tray.latest" J7,fp "fronts" "Tray.fronts" Eu,fp "take" "Tray.take" Lw,fp "is_empty" "Tray.is_empty" KI,fp "listed" "Tray.listed" J5,fp "tray_of" "tray_of" KH,fp "__init__" "Machine.__init__" EZ,fp "at_end" "Machine.at_end" LG,fp "may_do" "Machine.may_do" Lz,fp "carries" "Machine.carries" Kb,fp "moves" "Machine.moves" KR,fp "do" "Machine.do" Nr,fp "do_step" "Machine.do_step" KY,fp "do_set" "Machine.do_set" LA,fp "do_look" "Machine.do_look" K0,fp "do_swap" "Machine.do_swap" KW,fp "carry" "Machine.carry" LD,fp "come" "Machine.come" MC,fp "on_board" "Machine.on_board" J9,fp "settle" "Machine.settle" KP,fp "where" "Machine.where" Lv,fp "steps_done" "Machine.steps_done" Jq,fp "registers" "Machine.registers" Jr,fp "waiting" "Machine.waiting" J4,fp "board" "Machine.board" LF,fp "deeds" "Machine.deeds" LB,fp "deeds_done" "Machine.deeds_done" Js,fp "deed_at" "Machine.deed_at" K1,fp "over" "Machine.over" Ms,fp "place_behind" "place_behind" Jh,fp "has_form_of_move" "has_form_of_move" Mw,fp "steps_of" "steps_of" J8,fp "__init__" "Unlike.__init__" Nl,fp "has_each_once" "has_each_once" My,fp "may_go_on" "may_go_on" Ly,fp "comes_to_deed" "comes_to_deed" LC,fp "is_like" "is_like" KU,fp "do_deeds" "do_deeds" Ka,fp "do_rest" "do_rest" KZ,fp "replay" "replay" KQ,fp "_law_cell_at" "_law_cell_at" K2,fp "_law_mixed" "_law_mixed" Lx,fp "_law_stream" "_law_stream" KJ,fp "_law_pick" "_law_pick" Mr,fp "_law_one" "_law_one" Np,fp "_law_program" "_law_program" B8,fp "_law_new" "_law_new" Nq,fp "_law_arrives" "_law_arrives" Kc,fp "_law_seen" "_law_seen" Mq,fp "_law_set" "_law_set" Nm,fp "_law_deed" "_law_deed" MB,fp "_law_does" "_law_does" Mz,fp "_law_like" "_law_like" Mu,fp "_law_ran" "_law_ran" Nn,fp "_law_next" "_law_next" Mt,fp "_law_due" "_law_due" Nv,fp "_law_holds" "_law_holds" uI,fp "_law_rows" "_law_rows" Cg,fp "law" "law" yz]
def ahc:Pos:=match yz with
 | .FunctionDef _ _ _ _ _ _ _ _ _ p=>p
 | _=>default
def dl:DefRec:=⟨"law",nz yz,ir yz,aT yz,ahc⟩
end TL
open PySem PySem.W PyProof.Rows in
theorem TL.mark_:True:=trivial
section
open PySem PySem.W PyProof.Rows
theorem TL.l7(w:k_)(os:OsState):(TL.rn w os).map (λs=>(((HT.yu (HT.gT s 425),TL.rX (HT.wM s TL.si 425))),(((((TL.AG (HT.wM s TL.si 425) ()).drop 108).drop 42).all id))))=a_ ((c_,TL.qK),(c_)):=by kernel_rfl
theorem TL.l8(w:k_)(os:OsState):(TL.rn w os).map (λs=>((TL.AG (HT.wM s TL.si 425) ()).take 108).all id)=a_ true:=by kernel_rfl
theorem TL.l9(w:k_)(os:OsState):(TL.rn w os).map (λs=>(((TL.AG (HT.wM s TL.si 425) ()).drop 108).take 42).all id)=a_ true:=by kernel_rfl
theorem TL.r2(w:k_)(os:OsState):(TL.rn w os).map (λs=>W.openSeen TL.qv [] (DZ PySem.Challenge.rw_traylate_k46_replayed.row.prog.main.body) (λs=>W.xlAt TL.qv [] s&&W.recOk PySem.Challenge.rw_traylate_k46_replayed.row.records s) c_ s.abs)=a_ (W.openGood TL.qv []):=HT.aeV TL.lw (HT.tJ (TL.l0 w os)) (HT.pY (HT.pY (HT.pY (TL.l5 w os)))) (HT.td 18 (HT.tJ (TL.l5 w os)) (TL.l6 w os)) (HT.tJ (HT.pY (TL.l5 w os))) (HT.pY (TL.l3 w os)) (HT.tb_ (HT.Lm 22 (HT.tJ (TL.l3 w os)) (TL.l4 w os))) (HT.pY (HT.pY (TL.l2 w os))) (HT.both (HT.tJ (HT.pY (HT.pY (TL.l5 w os)))) (HT.both (HT.pY (TL.l0 w os)) (HT.both (HT.tJ (TL.l2 w os)) (TL.l1 w os))))
theorem TL.r3(w:k_)(os:OsState):(TL.rn w os).map (λs=>(HT.uM TL.si 425 (λK=>(TL.seen K,TL.rX K)) (c_,TL.qK)).obs s.abs)=a_ (c_,(c_,TL.qK)):=HT.aha (HT.tJ (HT.tJ (TL.l7 w os))) (HT.both (HT.Lm 108 (TL.l8 w os) (HT.Lm 42 (TL.l9 w os) (HT.pY (TL.l7 w os)))) (HT.pY (HT.tJ (TL.l7 w os))))
end
namespace L2
universe u0 u1 u2 u3 u4 u5 u6 u7 u8 u9
section
variable{A:Sort u0}{B:Sort u1}{C:Sort u2}{D:Sort u3}{E:Sort u4}{F:Sort u5}{I:Sort u6}{J:Sort u7}{L:Sort u8}{M:Sort u9}{G:Prop}
theorem oA{p q:Prop}(H:p/\q)(K:p->q->G):G:=by
 obtain⟨k,m⟩:=H;exact K k m
theorem oE{p:A->Prop}(H:∃a,p a)(K:∀a,p a->G):G:=by
 obtain⟨a,k⟩:=H;exact K a k
theorem eM{p q r:Prop}(k:p)(m:q)(n:r):p/\q/\r:=⟨k,m,n⟩
theorem ak{p q:A->Prop}(a:A)(k:p a)(m:q a):∃a,p a/\q a:=⟨a,k,m⟩
theorem xB{p:A->B->Prop}(a:A)(b:B)(k:p a b):∃a b,p a b:=⟨a,b,k⟩
theorem bp{p q r:Prop}(H:p/\q/\r)(K:p->q->r->G):G:=by
 obtain⟨k,m,n⟩:=H;exact K k m n
theorem af{p q:A->Prop}(H:∃a,p a/\q a)(K:∀a,p a->q a->G):G:=by
 obtain⟨a,k,m⟩:=H;exact K a k m
theorem xy{p:A->B->Prop}(H:∃a b,p a b)(K:∀a b,p a b->G):G:=by
 obtain⟨a,b,k⟩:=H;exact K a b k
theorem lR{p q r s:Prop}(k:p)(m:q)(n:r)(o:s):p/\q/\r/\s:=⟨k,m,n,o⟩
theorem du{p q r:A->Prop}(a:A)(k:p a)(m:q a)(n:r a):∃a,p a/\q a/\r a:=⟨a,k,m,n⟩
theorem eG{p q:A->B->Prop}(a:A)(b:B)(k:p a b)(m:q a b):∃a b,p a b/\q a b:=⟨a,b,k,m⟩
theorem iB{p q r s:Prop}(H:p/\q/\r/\s)(K:p->q->r->s->G):G:=by
 obtain⟨k,m,n,o⟩:=H;exact K k m n o
theorem aG{p q r:A->Prop}(H:∃a,p a/\q a/\r a)(K:∀a,p a->q a->r a->G):G:=by
 obtain⟨a,k,m,n⟩:=H;exact K a k m n
theorem aW{p q:A->B->Prop}(H:∃a b,p a b/\q a b)(K:∀a b,p a b->q a b->G):G:=by
 obtain⟨a,b,k,m⟩:=H;exact K a b k m
theorem WD{p:A->B->C->Prop}(H:∃a b c,p a b c)(K:∀a b c,p a b c->G):G:=by
 obtain⟨a,b,c,k⟩:=H;exact K a b c k
theorem dS{p q r:A->B->Prop}(a:A)(b:B)(k:p a b)(m:q a b)(n:r a b):∃a b,p a b/\q a b/\r a b:=⟨a,b,k,m,n⟩
theorem eY{p:A->B->C->D->Prop}(a:A)(b:B)(c:C)(d:D)(k:p a b c d):∃a b c d,p a b c d:=⟨a,b,c,d,k⟩
theorem my{p q r s t:Prop}(H:p/\q/\r/\s/\t)(K:p->q->r->s->t->G):G:=by
 obtain⟨k,m,n,o,h⟩:=H;exact K k m n o h
theorem cR{p q r s:A->Prop}(H:∃a,p a/\q a/\r a/\s a)(K:∀a,p a->q a->r a->s a->G):G:=by
 obtain⟨a,k,m,n,o⟩:=H;exact K a k m n o
theorem cI{p q r:A->B->Prop}(H:∃a b,p a b/\q a b/\r a b)(K:∀a b,p a b->q a b->r a b->G):G:=by
 obtain⟨a,b,k,m,n⟩:=H;exact K a b k m n
theorem eh{p q:A->B->C->Prop}(H:∃a b c,p a b c/\q a b c)(K:∀a b c,p a b c->q a b c->G):G:=by
 obtain⟨a,b,c,k,m⟩:=H;exact K a b c k m
theorem aiK{p:A->B->C->D->Prop}(H:∃a b c d,p a b c d)(K:∀a b c d,p a b c d->G):G:=by
 obtain⟨a,b,c,d,k⟩:=H;exact K a b c d k
theorem gG{p q r s t:A->Prop}(a:A)(k:p a)(m:q a)(n:r a)(o:s a)(h:t a):∃a,p a/\q a/\r a/\s a/\t a:=⟨a,k,m,n,o,h⟩
theorem pU{p q r s:A->B->Prop}(a:A)(b:B)(k:p a b)(m:q a b)(n:r a b)(o:s a b):∃a b,p a b/\q a b/\r a b/\s a b:=⟨a,b,k,m,n,o⟩
theorem mq{p q r:A->B->C->Prop}(a:A)(b:B)(c:C)(k:p a b c)(m:q a b c)(n:r a b c):∃a b c,p a b c/\q a b c/\r a b c:=⟨a,b,c,k,m,n⟩
theorem iO{p q r s t u:Prop}(H:p/\q/\r/\s/\t/\u)(K:p->q->r->s->t->u->G):G:=by
 obtain⟨k,m,n,o,h,h1⟩:=H;exact K k m n o h h1
theorem nA{p q r s t:A->Prop}(H:∃a,p a/\q a/\r a/\s a/\t a)(K:∀a,p a->q a->r a->s a->t a->G):G:=by
 obtain⟨a,k,m,n,o,h⟩:=H;exact K a k m n o h
theorem kZ{p q r s:A->B->Prop}(H:∃a b,p a b/\q a b/\r a b/\s a b)(K:∀a b,p a b->q a b->r a b->s a b->G):G:=by
 obtain⟨a,b,k,m,n,o⟩:=H;exact K a b k m n o
theorem gw{p q r:A->B->C->Prop}(H:∃a b c,p a b c/\q a b c/\r a b c)(K:∀a b c,p a b c->q a b c->r a b c->G):G:=by
 obtain⟨a,b,c,k,m,n⟩:=H;exact K a b c k m n
theorem oz{p q:A->B->C->D->Prop}(H:∃a b c d,p a b c d/\q a b c d)(K:∀a b c d,p a b c d->q a b c d->G):G:=by
 obtain⟨a,b,c,d,k,m⟩:=H;exact K a b c d k m
theorem kY{p:A->B->C->D->E->Prop}(H:∃a b c d e,p a b c d e)(K:∀a b c d e,p a b c d e->G):G:=by
 obtain⟨a,b,c,d,e,k⟩:=H;exact K a b c d e k
theorem jY{p q r s t u:A->Prop}(a:A)(k:p a)(m:q a)(n:r a)(o:s a)(h:t a)(h1:u a):∃a,p a/\q a/\r a/\s a/\t a/\u a:=⟨a,k,m,n,o,h,h1⟩
theorem BX{p q r s:A->B->C->Prop}(H:∃a b c,p a b c/\q a b c/\r a b c/\s a b c)(K:∀a b c,p a b c->q a b c->r a b c->s a b c->G):G:=by
 obtain⟨a,b,c,k,m,n,o⟩:=H;exact K a b c k m n o
theorem T5{p q r:A->B->C->D->Prop}(H:∃a b c d,p a b c d/\q a b c d/\r a b c d)(K:∀a b c d,p a b c d->q a b c d->r a b c d->G):G:=by
 obtain⟨a,b,c,d,k,m,n⟩:=H;exact K a b c d k m n
theorem rS{p q:A->B->C->D->E->Prop}(H:∃a b c d e,p a b c d e/\q a b c d e)(K:∀a b c d e,p a b c d e->q a b c d e->G):G:=by
 obtain⟨a,b,c,d,e,k,m⟩:=H;exact K a b c d e k m
theorem jb{p q r s t:A->B->C->Prop}(a:A)(b:B)(c:C)(k:p a b c)(m:q a b c)(n:r a b c)(o:s a b c)(h:t a b c):∃a b c,p a b c/\q a b c/\r a b c/\s a b c/\t a b c:=⟨a,b,c,k,m,n,o,h⟩
theorem gc{p q r s t u:A->B->Prop}(H:∃a b,p a b/\q a b/\r a b/\s a b/\t a b/\u a b)(K:∀a b,p a b->q a b->r a b->s a b->t a b->u a b->G):G:=by
 obtain⟨a,b,k,m,n,o,h,h1⟩:=H;exact K a b k m n o h h1
theorem yi{p q r s:A->B->C->D->Prop}(H:∃a b c d,p a b c d/\q a b c d/\r a b c d/\s a b c d)(K:∀a b c d,p a b c d->q a b c d->r a b c d->s a b c d->G):G:=by
 obtain⟨a,b,c,d,k,m,n,o⟩:=H;exact K a b c d k m n o
theorem lK{p q:A->B->C->D->E->F->Prop}(H:∃a b c d e f,p a b c d e f/\q a b c d e f)(K:∀a b c d e f,p a b c d e f->q a b c d e f->G):G:=by
 obtain⟨a,b,c,d,e,f,k,m⟩:=H;exact K a b c d e f k m
theorem ml{p q r s t:A->B->C->D->Prop}(a:A)(b:B)(c:C)(d:D)(k:p a b c d)(m:q a b c d)(n:r a b c d)(o:s a b c d)(h:t a b c d):∃a b c d,p a b c d/\q a b c d/\r a b c d/\s a b c d/\t a b c d:=⟨a,b,c,d,k,m,n,o,h⟩
theorem RN{p q r s:A->B->C->D->E->Prop}(H:∃a b c d e,p a b c d e/\q a b c d e/\r a b c d e/\s a b c d e)(K:∀a b c d e,p a b c d e->q a b c d e->r a b c d e->s a b c d e->G):G:=by
 obtain⟨a,b,c,d,e,k,m,n,o⟩:=H;exact K a b c d e k m n o
theorem RL{p q:A->B->C->D->E->F->I->Prop}(H:∃a b c d e f g,p a b c d e f g/\q a b c d e f g)(K:∀a b c d e f g,p a b c d e f g->q a b c d e f g->G):G:=by
 obtain⟨a,b,c,d,e,f,g,k,m⟩:=H;exact K a b c d e f g k m
theorem oa{p q r s t u:A->B->C->D->Prop}(a:A)(b:B)(c:C)(d:D)(k:p a b c d)(m:q a b c d)(n:r a b c d)(o:s a b c d)(h:t a b c d)(h1:u a b c d):∃a b c d,p a b c d/\q a b c d/\r a b c d/\s a b c d/\t a b c d/\u a b c d:=⟨a,b,c,d,k,m,n,o,h,h1⟩
theorem qA{p q r s t u:A->B->C->D->E->Prop}(a:A)(b:B)(c:C)(d:D)(e:E)(k:p a b c d e)(m:q a b c d e)(n:r a b c d e)(o:s a b c d e)(h:t a b c d e)(h1:u a b c d e):∃a b c d e,p a b c d e/\q a b c d e/\r a b c d e/\s a b c d e/\t a b c d e/\u a b c d e:=⟨a,b,c,d,e,k,m,n,o,h,h1⟩
theorem lG{p q r s t u:A->B->C->D->E->Prop}(H:∃a b c d e,p a b c d e/\q a b c d e/\r a b c d e/\s a b c d e/\t a b c d e/\u a b c d e)(K:∀a b c d e,p a b c d e->q a b c d e->r a b c d e->s a b c d e->t a b c d e->u a b c d e->G):G:=by
 obtain⟨a,b,c,d,e,k,m,n,o,h,h1⟩:=H;exact K a b c d e k m n o h h1
theorem nZ{p q r s t:A->B->C->D->E->F->Prop}(H:∃a b c d e f,p a b c d e f/\q a b c d e f/\r a b c d e f/\s a b c d e f/\t a b c d e f)(K:∀a b c d e f,p a b c d e f->q a b c d e f->r a b c d e f->s a b c d e f->t a b c d e f->G):G:=by
 obtain⟨a,b,c,d,e,f,k,m,n,o,h⟩:=H;exact K a b c d e f k m n o h
theorem D9{p q r s:A->B->C->D->E->F->I->Prop}(H:∃a b c d e f g,p a b c d e f g/\q a b c d e f g/\r a b c d e f g/\s a b c d e f g)(K:∀a b c d e f g,p a b c d e f g->q a b c d e f g->r a b c d e f g->s a b c d e f g->G):G:=by
 obtain⟨a,b,c,d,e,f,g,k,m,n,o⟩:=H;exact K a b c d e f g k m n o
theorem abH{p q r:A->B->C->D->E->F->I->J->Prop}(H:∃a b c d e f g i,p a b c d e f g i/\q a b c d e f g i/\r a b c d e f g i)(K:∀a b c d e f g i,p a b c d e f g i->q a b c d e f g i->r a b c d e f g i->G):G:=by
 obtain⟨a,b,c,d,e,f,g,i,k,m,n⟩:=H;exact K a b c d e f g i k m n
theorem lF{p:A->B->C->D->E->F->I->J->L->M->Prop}(H:∃a b c d e f g i j l,p a b c d e f g i j l)(K:∀a b c d e f g i j l,p a b c d e f g i j l->G):G:=by
 obtain⟨a,b,c,d,e,f,g,i,j,l,k⟩:=H;exact K a b c d e f g i j l k
end
theorem w0{p:Prop}(h:p:=by with_reducible assumption):p:=h
theorem w1{a:Nat}  : a<=a:=aN a
theorem w2{a:Nat}  : 0<=a:=cy a
theorem w3{a b:Nat}(h:a<b:=by with_reducible assumption):a<=b:=dw h
theorem w4{a b c:Nat}(h:a<=b:=by with_reducible assumption)(g:b<=c:=by decide):a<=c:=cC h g
theorem w5{a b c:Nat}(h:a<b:=by with_reducible assumption)(g:b<=c:=by decide):a<=c:=cC (dw h) g
theorem w6{a b c:Nat}(h:a=b:=by with_reducible assumption)(g:b<=c:=by decide):a<=c:=cC (rJ h) g
theorem w7{a b c:Nat}(h:a=b:=by with_reducible assumption)(g:b<=c:=by with_reducible assumption):a<=c:=cC (rJ h) g
theorem w8{a b c d:Nat}(h:a=b:=by with_reducible assumption)(g:b<=c:=by with_reducible assumption)(k:c<=d:=by decide):a<=d:=cC (rJ h) (cC g k)
theorem w9{a b c d:Nat}(h:b=a:=by with_reducible assumption)(g:b<=c:=by with_reducible assumption)(k:c<=d:=by decide):a<=d:=cC (rJ h.symm) (cC g k)
theorem wa{a b c:Nat}(h:a<b:=by with_reducible assumption)(g:b<=c:=by decide):a<c:=gI h g
theorem wb{a b c:Nat}(h:a<=b:=by with_reducible assumption)(g:b<c:=by decide):a<c:=sI h g
theorem wf{a b c:Nat}(h:a<b:=by with_reducible assumption)(g:b=c:=by with_reducible assumption):a<c:=Qk h g
theorem wg{a b c:Nat}(h:a<b:=by with_reducible assumption)(g:c=b:=by with_reducible assumption):a<c:=Qk h g.symm
theorem wh{a b c:Nat}(h:a<b:=by with_reducible assumption)(g:b<=c:=by with_reducible assumption):a<c:=gI h g
theorem wi{a b c:Nat}(h:a<=b:=by with_reducible assumption)(g:b<c:=by with_reducible assumption):a<c:=sI h g
theorem wj{a b c:Nat}(h:a<=b:=by with_reducible assumption)(g:b<=c:=by with_reducible assumption):a<=c:=cC h g
theorem wk{a b c m:Nat}(h:a=b+m*c:=by with_reducible assumption)(g:a<b:=by decide):False:=by omega
theorem wl{a b c m:Nat}(h:b+m*c=a:=by with_reducible assumption)(g:a<b:=by decide):False:=by omega
theorem wo{a b c:Nat}(h:a=b:=by with_reducible assumption)(g:b=c:=by with_reducible assumption):a=c:=h.trans g
theorem wp{a b c:Nat}(h:a=b:=by with_reducible assumption)(g:c=b:=by with_reducible assumption):a=c:=h.trans g.symm
theorem wr{a b c:Nat}(h:a=b:=by with_reducible assumption)(g:c<b:=by with_reducible assumption):c<a:=Qk g h.symm
theorem ws{a b c:Nat}(h:a=b:=by with_reducible assumption)(g:b<=c:=by with_reducible assumption):a<=c:=cC (rJ h) g
theorem wu{a b c d e:Nat}(h:a=b:=by with_reducible assumption)(g:b=c:=by with_reducible assumption)(k:c<=d:=by with_reducible assumption)(m:d<=e:=by decide):a<=e:=cC (rJ (h.trans g)) (cC k m)
theorem wx{a b c d:Nat}(h:a<=b:=by with_reducible assumption)(g:b<=c:=by with_reducible assumption)(k:c<=d:=by decide):a<=d:=cC h (cC g k)
theorem wy{a b c d:Nat}(h:a<=b:=by with_reducible assumption)(g:b<=c:=by with_reducible assumption)(k:c<d:=by decide):a<d:=sI h (sI g k)
theorem wz{a b c d:Nat}(h:a<b:=by with_reducible assumption)(g:b<=c:=by with_reducible assumption)(k:c<=d:=by decide):a<=d:=cC (dw h) (cC g k)
theorem xa{a b c d e:Nat}(h:a<b:=by with_reducible assumption)(g:b=c:=by with_reducible assumption)(k:c<=d:=by with_reducible assumption)(m:d<=e:=by decide):a<e:=gI h (cC (rJ g) (cC k m))
theorem xb{a b c d:Nat}(h:a<b:=by with_reducible assumption)(g:b<=c:=by with_reducible assumption)(k:c<=d:=by decide):a<d:=gI h (cC g k)
theorem xc{a b c d e:Nat}(h:a<b:=by with_reducible assumption)(g:b=c:=by with_reducible assumption)(k:c<=d:=by with_reducible assumption)(m:d<=e:=by decide):a<=e:=cC (dw h) (cC (rJ g) (cC k m))
theorem xd{a:Nat}  : a<=a+1:=lH a
theorem xe{a b:Nat}(h:a<b:=by with_reducible assumption):a<=b+1:=vO (dw h)
theorem xf{a b:Nat}(h:a<b:=by with_reducible assumption):a+1<=b:=h
theorem xi{a b c e:Nat}(h:a<=b+1:=by with_reducible assumption)(g:b<=c:=by with_reducible assumption)(k:c+1<e:=by decide):a<e:=sI h (sI (DW g) k)
theorem xl{a n:Nat}  : min a n<=a:=Nat.min_le_left a n
theorem xm{a:Int}(h:0<=a:=by with_reducible assumption):a=(a.toNat:Int):=(Int.toNat_of_nonneg h).symm
end L2
namespace L2
open PySem PySem.Spec PyProof.Rows
abbrev Key:=Sum Int Str
def V':Key->f_->Bool
 | .inl k,v=>Value.isInt k v
 | .inr x,v=>Value.isStrOf x v
def akF(w:k_):Key->Int
 | .inl k=>hashInt k
 | .inr x=>hashStr w x
theorem uu:∀{k:Key} {v:f_},V' k v=c_->(∃i t,k=yp i/\v=nj i t)\/(∃x t,k=yo x/\v=BG x t)
 | .inl i,v,h=>by
  exact oE (Value.isInt_shape (k:=i) (v:=v) h) λt e=>.inl ⟨i,t,rfl,e⟩
 | .inr x,v,h=>by
  exact oE (Value.isStrOf_shape (x:=x) (v:=v) h) λt e=>.inr ⟨x,t,rfl,e⟩
theorem ahi(a b:Int):decide ((yp a:Key)=yp b)=(a == b):=by
 by_cases e:a=b
 ·subst e;simp
 ·have h:¬(yp a:Key)=yp b:=λq=>e (yp.inj q);rw[decide_eq_false h];exact(beq_eq_false_iff_ne.mpr e).symm
theorem ahf(a b:Str):decide ((yo a:Key)=yo b)=decide (a=b):=by
 by_cases e:a=b
 ·subst e;simp
 ·have h:¬(yo a:Key)=yo b:=λq=>e (yo.inj q);rw[decide_eq_false h,decide_eq_false e]
theorem ahh(a:Int)(b:Str):decide ((yp a:Key)=yo b)=false:=decide_eq_false (λq=>nomatch q)
theorem ahg(a:Str)(b:Int):decide ((yo a:Key)=yp b)=false:=decide_eq_false (λq=>nomatch q)
def T9(prog:l_)(w:k_):PySem.KeyKind prog w Key where
 is:=V'
 hash:=akF w
 inj:=λv a b ha hb=>by
  rcases uu ha with ⟨i,t,rfl,rfl⟩ | ⟨x,t,rfl,rfl⟩
  ·rcases uu hb with ⟨j,u,rfl,e⟩ | ⟨y,u,rfl,e⟩
   ·injection e with e1 _;rw[e1]
   ·exact nomatch e
  ·rcases uu hb with ⟨j,u,rfl,e⟩ | ⟨y,u,rfl,e⟩
   ·exact nomatch e
   ·injection e with e1 _;rw[e1]
 byValue:=λk v h=>by
  rcases uu h with ⟨i,t,rfl,rfl⟩ | ⟨x,t,rfl,rfl⟩ <;> rfl
 pyHash:=λhv h=>by
  rcases uu hv with ⟨i,t,rfl,rfl⟩ | ⟨x,t,rfl,rfl⟩
  ·exact wpAny_pyHash_int h
  ·exact wpAny_pyHash_str h
 eqBool:=λhu hv h=>by
  rcases uu hu with ⟨i,t,rfl,rfl⟩ | ⟨x,t,rfl,rfl⟩
  ·rcases uu hv with ⟨j,u,rfl,rfl⟩ | ⟨y,u,rfl,rfl⟩
   ·rw[ahi]at h;exact wpAny_eqBool_int h
   ·rw[ahh]at h;exact aaC i t y u _ _ _ _ h
  ·rcases uu hv with ⟨j,u,rfl,rfl⟩ | ⟨y,u,rfl,rfl⟩
   ·rw[ahg]at h;exact aaB x t j u _ _ _ _ h
   ·rw[ahf]at h;exact wpAny_eqBool_str h
 «strs»:=λk x t v h=>by
  rcases uu h with ⟨i,u,rfl,e⟩ | ⟨y,u,rfl,e⟩
  ·exact nomatch e
  ·injection e with e1 _
   subst e1;cases v <;> rfl
inductive V where
 | aJ | bl (b:Bool) | int (i:Int) | str (x:Str) | q8 (b:Array UInt8) | vk (b:UInt64) | ref (a:e_) | ty (n:String)
 deriving DecidableEq
def RelV:V->f_->Prop
 | .aJ,u=>u=mj
 | .bl b,u=>u=vZ b
 | .int i,u=>∃t,u=nj i t
 | .str x,u=>∃t,u=BG x t
 | .q8 b,u=>∃t,u=Value.bytes b t
 | .vk b,u=>∃t,u=Q0 b t
 | .ref a,u=>u=di a
 | .ty n,u=>u=qB n
abbrev Vals:List V->List f_->Prop:=Paired RelV
theorem Vals.length(r:Vals xs us):xs.length=us.length:=Paired.length r
theorem Vals.get:∀{xs:List V} {us:List f_} {i:Nat} {x:V},Vals xs us->xs[i]?=a_ x->∃u,us[i]?=a_ u/\RelV x u
 | _,_,_,_,.nil,e=>by simp at e
 | _,_,0,_,.cons r _,e=>by simp at e;subst e;exact⟨_,rfl,r⟩
 | _,_,i+1,x,.cons _ t,e=>by
  exact af (Vals.get (i:=i) (x:=x) t (by simpa using e)) λu h1 h2=>⟨u,by simpa using h1,h2⟩
theorem Vals.set(r:RelV x u):∀{xs:List V} {us:List f_} (i:Nat),Vals xs us->Vals (xs.set i x) (us.set i u)
 | _,_,_,.nil=>.nil
 | _,_,0,.cons _ t=>.cons r t
 | _,_,i+1,.cons q t=>.cons q (Vals.set r i t)
theorem Vals.append:∀{xs ys:List V} {us ws:List f_},Vals xs us->Vals ys ws->Vals (xs++ys) (us++ws)
 | _,_,_,_,.nil,s=>s
 | _,_,_,_,.cons r t,s=>.cons r (Vals.append t s)
theorem Vals.take:∀{xs:List V} {us:List f_} (n:Nat),Vals xs us->Vals (xs.take n) (us.take n)
 | _,_,0,_=>.nil
 | _,_,_+1,.nil=>.nil
 | _,_,n+1,.cons r t=>.cons r (Vals.take n t)
theorem Vals.drop:∀{xs:List V} {us:List f_} (n:Nat),Vals xs us->Vals (xs.drop n) (us.drop n)
 | _,_,0,r=>r
 | _,_,_+1,.nil=>.nil
 | _,_,n+1,.cons _ t=>Vals.drop n t
theorem Vals.none_of:∀{xs:List V} {us:List f_} {i:Nat},Vals xs us->xs[i]?=b_->us[i]?=none:=λ{xs us i} r e=>by
 have h1:=r.length;have h2:xs.length<=i:=Ip.mp e;exact Ip.mpr li
def oO:Option V->Option f_->Prop
 | some v,a_ u=>RelV v u
 | none,b_=>True
 | _,_=>False
def KV{κ:Type}:List (κ×V)->List (κ×f_)->Prop:=Paired λ(p:κ×V) (q:κ×f_)=>p.1=q.1/\RelV p.2 q.2
def kV:Key->V
 | .inl i=>.int i
 | .inr x=>.str x
inductive HO where
  | lst (xs:List V)
  | tup (xs:List V)
  | dK (iZ:List (Key×V)) | dT (iZ:List (List Key×V))
  | set (S:Int->Bool) (n:Nat)
  | ins (C dx:e_) (fs:List (Str×V))
  | own (x:e_)
  | xd (fs:List (Str×V))
  | met (f x:e_)
  | Oc (lo hi:Int)
  | pK (o:Obj) (u:HO)
  | gx (ps:Array f_)
  | ext (φ:j_->Prop)
abbrev Hp:=e_->Option HO
def upd(H:Hp)(a:e_)(o:HO):Hp:=λb=>if b=a then a_ o else H b
theorem aA{o:HO}:upd H a o a=a_ o:=by unfold upd;rw[if_pos rfl]
theorem au{o:HO}(h:b≠a):upd H a o b=H b:=by unfold upd;rw[if_neg h]
theorem nu{o u:HO}:upd (upd H a o) a u=upd H a u:=by
 funext b;unfold upd;split <;> rfl
theorem hY{H:Hp}{a b:e_}{o u:HO}(h:H a=a_ o)(h':H b=a_ u)(d:o≠u):a≠b:=by
 intro e;subst e;rw[h]at h';exact d (dq h')
theorem bw{H:Hp}{a b:e_}{o:HO}(h:H a=a_ o)(h':H b=b_):a≠b:=by
 intro e;subst e;rw[h]at h';cases h'
section
variable(P:l_)(w:k_)
def hZ(H:Hp)(h:j_)(a:e_):HO->Prop
 | .lst xs=>xs.length<=cW/\∃(aw:List f_) (n:Nat),Vals xs aw/\h.get? a=a_ { cls:=.type "list",data:=.seq aw.toArray n }
 | .tup xs=>xs.length<=cW/\∃aw:List f_,Vals xs aw/\IsTup h a aw.toArray
 | .dK iZ=>iZ.length<=cW/\(a == sysModules)=d_/\∃vs,KV iZ vs/\h.DictOf (T9 P w) a vs
 | .dT iZ=>iZ.length<=cW/\(a == sysModules)=d_/\∃xs:List (List Key×e_×f_),Paired (λ(p:List Key×V) (q:List Key×e_×f_)=>p.1=q.1/\H q.2.1=a_ (.tup (p.1.map kV))/\RelV p.2 q.2.2) iZ xs/\
   ∃o es ep,h.get? a=a_ o/\o.ExactDict/\o.data=.dict es ep/\es.toList=xs.map (entryOfKey (tupleKind (T9 P w)))/\(xs.map (·.1)).Nodup
 | .set S n=>h.SetOf (intKind P w) a S n
 | .ins C dx fs=>H dx=a_ (.own a)/\fs.length<=1000/\dx≠a/\h.get? a=a_ (W.instObj C dx)/\
   ∃mA,h.Ns1 dx mA/\(∀f,oO (fs.lookup f) (mA f))/\PySem.Within mA (fs.map (·.1))
 | .own _=>∃o,h.get? a=a_ o
 | .xd fs=>∃mA,h.Ns1 a mA/\∀f,oO (fs.lookup f) (mA f)
 | .Oc lo hi=>∃t u v,h.get? a=a_ { cls:=.type "range",data:=.fields #[.int lo t,.int hi u,.int 1 v] }
 | .pK o u=>h.get? a=a_ o/\hZ H h a u
 | .gx ps=>h.get? a=a_ { cls:=.none,data:=.fields ps }
 | .met f x=>h.get? a=a_ (W.methodObj (.ref f) (.ref x))
 | .ext φ=>φ h/\(∃o,h.get? a=a_ o)/\∀h1 h2:j_,φ h1->(∀o,h1.get? a=a_ o->h2.get? a=a_ o)->φ h2
def gz(H:Hp)(h:j_):Prop:=∀a o,H a=a_ o->hZ P w H h a o
end
section
variable{P:l_}{w:k_}{H H':Hp}{h h':j_}{a:e_}{o:HO}
theorem hZ.lt(x:hZ P w H h a o):a<h.objs.size:=by
 cases o with
 | lst xs=>obtain⟨_,_,_,_,e⟩:=x;exact cH e
 | tup xs=>obtain⟨_,_,_,p⟩:=x;exact p.lt
 | dK iZ=>obtain⟨_,_,_,_,o,_,_,e,_⟩:=x;exact cH e
 | dT iZ=>obtain⟨_,_,_,_,o,_,_,e,_⟩:=x;exact cH e
 | set S n=>obtain⟨o,_,_,_,e,_⟩:=x;exact cH e
 | ins C dx fs=>obtain⟨_,_,_,e,_⟩:=x;exact cH e
 | own y=>obtain⟨_,e⟩:=x;exact cH e
 | xd fs=>obtain⟨_,⟨_,_,_,e,_⟩,_⟩:=x;exact cH e
 | Oc lo hi=>obtain⟨_,_,_,e⟩:=x;exact cH e
 | pK ob u=>obtain⟨e,_⟩:=x;exact cH e
 | gx ps=>exact cH (show h.get? a=a_ _ from x)
 | met f y=>exact cH (show h.get? a=a_ _ from x)
 | ext φ=>obtain⟨_,⟨_,e⟩,_⟩:=x;exact cH e
theorem Paired.cw{α β:Type}{F G:α->β->Prop}:∀{l₁:List α} {l₂:List β},Paired F l₁ l₂->(∀a b,F a b->G a b)->Paired G l₁ l₂
 | _,_,.nil,_=>.nil
 | _,_,.cons r t,f=>.cons (f _ _ r) (Paired.cw t f)
theorem hZ.qO(x:hZ P w H h a o)(k:∀b u,(b=a\/H b=a_ (.own a))->h.get? b=a_ u->h'.get? b=a_ u)
  (ho:∀b,H b=a_ (.own a)->H' b=a_ (.own a)) (ht:∀b xs,H b=a_ (.tup xs)->H' b=a_ (.tup xs)):hZ P w H' h' a o:=by
 induction o with
 | lst xs=>obtain⟨z,aw,n,r,e⟩:=x;exact⟨z,aw,n,r,k _ _ (.inl rfl) e⟩
 | tup xs=>obtain⟨z,aw,r,ob,e,c⟩:=x;exact⟨z,aw,r,ob,k _ _ (.inl rfl) e,c⟩
 | dK iZ=>obtain⟨z,y,vs,r,ob,es,ep,e,c⟩:=x;exact⟨z,y,vs,r,ob,es,ep,k _ _ (.inl rfl) e,c⟩
 | dT iZ=>
  exact bp x λz y aa=>af aa λxs r aa=>eh aa λob es ep e c=>⟨z,y,xs,Paired.cw r λp q z=>⟨z.1,ht _ _ z.2.1,z.2.2⟩,ob,es,ep,k _ _ (.inl rfl) e,c⟩
 | set S n=>obtain⟨ob,es,ep,t,e,c⟩:=x;exact⟨ob,es,ep,t,k _ _ (.inl rfl) e,c⟩
 | ins C dx fs=>
  exact my x λd z ne e aa=>af aa λmA aa r=>eh aa λod es ep e2 c=>⟨ho _ d,z,ne,k _ _ (.inl rfl) e,mA,⟨od,es,ep,k _ _ (.inr d) e2,c⟩,r⟩
 | own y=>obtain⟨ob,e⟩:=x;exact⟨ob,k _ _ (.inl rfl) e⟩
 | xd fs=>obtain⟨mA,⟨od,es,ep,e,c⟩,r⟩:=x;exact⟨mA,⟨od,es,ep,k _ _ (.inl rfl) e,c⟩,r⟩
 | Oc lo hi=>obtain⟨t,u,v,e⟩:=x;exact⟨t,u,v,k _ _ (.inl rfl) e⟩
 | pK ob u ih=>obtain⟨e,q⟩:=x;exact⟨k _ _ (.inl rfl) e,ih q⟩
 | gx ps=>
  have e:h.get? a=a_ { cls:=.none,data:=.fields ps }:=x;show h'.get? a=a_ { cls:=.none,data:=.fields ps };exact k a _ (.inl rfl) e
 | met f y=>
  have e:h.get? a=a_ (W.methodObj (.ref f) (.ref y)):=x;show h'.get? a=a_ (W.methodObj (.ref f) (.ref y));exact k a _ (.inl rfl) e
 | ext φ=>obtain⟨p,⟨o,e⟩,st⟩:=x;exact⟨st _ _ p λo q=>k _ _ (.inl rfl) q,⟨o,k _ _ (.inl rfl) e⟩,st⟩
theorem gz.lt(x:gz P w H h)(e:H a=a_ o):a<h.objs.size:=(x a o e).lt
theorem gz.fresh(x:gz P w H h)(e:h.objs.size<=a):H a=none:=by
 cases q:H a with
 | none=>rfl
 | some u=>exact absurd (gI (x.lt q) e) (mh _)
theorem gz.kept(x:gz P w H h)(k:∀b u,h.get? b=a_ u->h'.get? b=a_ u):gz P w H h':=λa o e=>
 (x a o e).qO (λb u _ q=>k b u q) (λ_ q=>q) λ_ _ q=>q
theorem gz.laid(x:gz P w H h)(k:∀b u,h.get? b=a_ u->h'.get? b=a_ u)(hp:h.objs.size<=a)(new:hZ P w (upd H a o) h' a o):gz P w (upd H a o) h':=λb u e=>by
 have hn:=x.fresh hp
 by_cases hb:b=a
 ·subst hb;rw[aA]at e;cases e;exact new
 ·rw[au hb]at e;exact(x b u e).qO (λc v _ q=>k c v q) (λc q=>by rw[au (bw q hn)];exact q) λc xs q=>by rw[au (bw q hn)];exact q
end
def Rd(H:Hp)(a:e_)(u:HO):Prop:=H a=a_ u\/∃o,H a=a_ (.pK o u)
theorem Rd.ok{P:l_}{w:k_}{u:HO}(r:Rd H a u)(x:gz P w H h):hZ P w H h a u:=by
 rcases r with r | ⟨o,r⟩
 ·exact x a u r
 ·exact oA (x a _ r) λ_ q=>q
def Hf:Option HO->Prop
 | some (.lst _)=>True
 | some (.dK _)=>True
 | some (.dT _)=>True
 | some (.set _ _)=>True
 | some (.ins _ _ _)=>True
 | some (.ext _)=>True
 | _=>False
section
variable{P:l_}{w:k_}{H:Hp}{h h':j_}{x e:e_}{o':HO}
theorem gz.write(ok:gz P w H h)(mu:Hf (H x))(he:e=x\/H e=a_ (.own x))(k:∀b u,b≠e->h.get? b=a_ u->h'.get? b=a_ u)(A4:∃u,h'.get? e=a_ u)
  (new:hZ P w (upd H x o') h' x o'):gz P w (upd H x o') h':=λb u q=>by
 have WV:∀c y,H c=a_ (.own y)->c≠x:=λc y r z=>by subst z;rw[r]at mu;exact mu
 have akS:∀c xs,H c=a_ (.tup xs)->c≠x:=λc xs r z=>by subst z;rw[r]at mu;exact mu
 by_cases hb:b=x
 ·subst hb;rw[aA]at q;cases q;exact new
 ·rw[au hb]at q
  by_cases sE:b=e
  ·have q':H b=a_ (.own x):=by
    rcases he with z | z
    ·exact absurd (sE.trans z) hb
    ·rw[sE];exact z
   rw[q]at q';cases q';exact oE A4 λv hv=>⟨v,by rw[sE];exact hv⟩
  ·refine(ok b u q).qO (λc v hc r=>k c v ?_ r) (λc r=>by rw[au (WV c b r)];exact r) λc xs r=>by rw[au (akS c xs r)];exact r
   rcases hc with rfl | hc
   ·exact sE
   ·rintro rfl;rcases he with z | z
    ·exact WV c b hc z
    ·rw[hc]at z;cases z;exact hb rfl
end
structure Un(fs ex:List e_)(H H':Hp)(h h':j_):Prop where
 keep:∀b o,h.get? b=a_ o->H b=b_->b∉fs->b∉ex->h'.get? b=a_ o
 slot:∀b o,h.get? b=a_ o->H b=b_->b∈fs->b∉ex->∃sl,h'.get? b=a_ { o with slots:=sl }
 free:∀b o,h.get? b=a_ o->H b=b_->b∉ex->H' b=b_
 there:∀b o,h.get? b=a_ o->b∉ex->∃o',h'.get? b=a_ o'
 qN:∀b xs,H b=a_ (.tup xs)->H' b=a_ (.tup xs)
 p0:∀b o u,H b=a_ (.pK o u)->H' b=a_ (.pK o u)
 pX:∀b ps,H b=a_ (.gx ps)->∃more,H' b=a_ (.gx (ps++more))
section
variable{fs nX ex ex':List e_}{H H1 H2:Hp}{h h1 h2 h':j_}{a x e:e_}{o:HO}
theorem Un.any(u:Un fs ex H H1 h h1)(q:h.get? b=a_ ob)(n:H b=b_)(hx:b∉ex):∃sl,h1.get? b=a_ { ob with slots:=sl }:=by
 by_cases hb:b∈fs
 ·exact u.slot b ob q n hb hx
 ·exact⟨ob.slots,u.keep b ob q n hb hx⟩
theorem Un.kept(k:∀b u,h.get? b=a_ u->h'.get? b=a_ u):Un fs ex H H h h':=
 ⟨λb ob q _ _ _=>k b ob q,λb ob q _ _ _=>⟨ob.slots,k b ob q⟩,λ_ _ _ n _=>n,λb ob q _=>⟨ob,k b ob q⟩,λ_ _ q=>q,λ_ _ _ q=>q,λ_ ps q=>⟨#[],by rw[q];simp⟩⟩
theorem Un.refl:Un fs ex H H h h:=Un.kept λ_ _ q=>q
theorem Un.laid(k:∀b u,h.get? b=a_ u->h'.get? b=a_ u)(hp:h.objs.size<=a)(hn:H a=b_):Un fs ex H (upd H a o) h h' where
 keep:=λb u q _ _ _=>k b u q
 slot:=λb u q _ _ _=>⟨u.slots,k b u q⟩
 free:=λb u q n _=>by rw[au (gh (gI (cH q) hp))];exact n
 there:=λb u q _=>⟨u,k b u q⟩
 qN:=λb xs q=>by rw[au (bw q hn)];exact q
 p0:=λb u xs q=>by rw[au (bw q hn)];exact q
 pX:=λb ps q=>⟨#[],by rw[au (bw q hn),q];simp⟩
theorem Un.write(mu:Hf (H x))(he:e=x\/H e=a_ (.own x))(k:∀b u,b≠e->h.get? b=a_ u->h'.get? b=a_ u)(A4:∃u,h'.get? e=a_ u):Un fs ex H (upd H x o) h h':=by
 have hx:∀b,H b=b_->b≠x:=λb n z=>by subst z;rw[n]at mu;exact mu
 have hb:∀b,H b=b_->b≠e:=λb n z=>by
  subst z;rcases he with r | r
  ·exact hx b n r
  ·rw[n]at r;cases r
 have hm:∀b u,H b=a_ u->¬Hf (a_ u)->b≠x:=λb u q nm z=>by subst z;rw[q]at mu;exact nm mu
 refine⟨λb u q n _ _=>k b u (hb b n) q,λb u q n _ _=>⟨u.slots,k b u (hb b n) q⟩,λb u q n _=>by rw[au (hx b n)];exact n,λb u q _=>?_,λb xs q=>by rw[au (hm b _ q λz=>z)];exact q,λb u xs q=>by rw[au (hm b _ q λz=>z)];exact q,λb ps q=>⟨#[],by rw[au (hm b _ q λz=>z),q];simp⟩⟩
 by_cases sE:b=e
 ·subst sE;exact A4
 ·exact⟨u,k b u sE q⟩
end
def Gu(h:j_)(H:Hp):List Addr:=(List.range h.objs.size).filter λa=>(H a).isSome
def tI(h:j_)(H:Hp):Heap:=W.hideAll h (Gu h H)
theorem acZ(h:j_)(H:Hp):(tI h H).objs.size=h.objs.size:=W.hideAll_size _ _
theorem aeg(e:h.get? b=a_ o)(n:H b=b_):(tI h H).get? b=a_ o:=
 W.hideAll_get _ e λhm=>by
  have q:=(rG.mp hm).2;rw[n]at q;simp at q
theorem afJ(e:(tI h H).get? b=a_ o):h.get? b=a_ o/\H b=none:=by
 have e':=W.of_hideAll (Gu h H) e;refine⟨e',?_⟩;cases q:H b with
 | none=>rfl
 | some x=>
  have hm:b∈Gu h H:=rG.mpr ⟨sO.mpr (cH e'),by simp[q]⟩;have z:(tI h H).get? b=none:=W.hideAll_none (Gu h H) hm;rw[z]at e;cases e
def B1(g h:j_)(L:e_):List (e_×Obj):=(List.range h.objs.size).filterMap λa=>if a=L\/(g.get? a).isSome=c_ then b_ else (h.get? a).map λo=>(a,o)
theorem QW(h1:a≠L)(h2:g.get? a=b_)(h3:h.get? a=a_ o):(a,o)∈B1 g h L:=
 IE.mpr ⟨a,sO.mpr (cH h3),by simp[h1,h2,h3]⟩
theorem aa9{p:e_×Obj}(hp:p∈B1 g h L):p.1≠L/\g.get? p.1=b_/\h.get? p.1=a_ p.2:=by
 refine af (IE.mp hp) λb _ e=>?_
 split at e
 ·cases e
 ·rename_i hn
  cases q:h.get? b with
  | none=>rw[q]at e;simp at e
  | some u=>
   rw[q]at e;simp only[Option.map_some,II]at e;subst e;refine⟨λz=>hn (.inl z),?_,q⟩;show g.get? b=b_;cases r:g.get? b with
   | none=>rfl
   | some v=>exact(hn (.inr (by simp[r]))).elim
def rest(g h:j_)(L d:e_):List (e_×Obj):=(B1 g h L).filter λp=>decide (p.1≠d)
theorem TU:∀p∈rest g h L d,p.1≠d:=λp hp=>of_decide_eq_true (rG.mp hp).2
theorem ad7(h1:a≠L)(h2:g.get? a=b_)(h3:h.get? a=a_ o)(h4:a≠d):(a,o)∈rest g h L d:=
 rG.mpr ⟨QW h1 h2 h3,decide_eq_true h4⟩
theorem S3:News g L h (B1 g h L):=λp hp=>let ⟨a,b,c⟩:=aa9 hp;⟨c,a,b⟩
theorem abx{m:Str->Option f_}(k:∀b o,g.get? b=a_ o->h.get? b=a_ o)(F:Fr g L h' m)(N:News g L h' (rest g h L d)) :
  ∀b o,b≠L->b≠d->h.get? b=a_ o->h'.get? b=a_ o:=λb o h1 h2 e=>by
 cases q:g.get? b with
 | some u=>
  have:=k b u q;rw[e]at this;cases this;exact F.keep b _ q
 | none=>exact(N (b,o) (ad7 h1 q e h2)).1
structure Mod(K:W.Frag)(mg:Str->Option f_)(base:j_):Prop where
 qX:K.In base
 glob:base.Ns gi mg
 blt:∃mb,base.Ns sS mb/\∀x:Str,x ≠ "__name__"->mb x=vS x
 nolimit:base.NoLimit
structure Cx where
 prog:l_
 w:k_
 K:W.Frag
 mg:Str->Option f_
 base:j_
 A:h_
 N:List Str
 s₀:g_
 H₀:Hp
 env:Env
 outer:List Env
 stack:List Env
 ex:List e_
 fn:Str->Bool
 calm:Bool
 pn:List (e_×Obj)
 xe:f_->g_->Prop
def jP(l:List Env):List Addr:=l.filterMap (·.frame)
abbrev Cx.fs(X:Cx):List Addr:=jP X.outer
def G'(sc:i_)(x:Str):Prop:=sc.names.lookup x=a_ .local\/sc.names.lookup x=a_ .cell\/sc.names.lookup x=a_ .free
def Loc(sc:i_)(x:Str):Prop:=sc.names.lookup x=a_ .local\/sc.names.lookup x=a_ .cell
def Look(env:Env)(h:j_)(m:Str->Option f_)(x:Str)(u:f_):Prop:=
 (env.kindOf x=a_ .local/\m x=a_ u)\/((env.kindOf x=a_ .cell\/env.kindOf x=a_ .free)/\∃c,env.cells.lookup x=a_ c/\h.IsCell c (a_ u))
structure Cx.Ok(X:Cx):Prop where
 mod:Mod X.K X.mg X.base
 kind:X.env.scope.kind=.function
 glob:X.env.globals=gi
 blt:X.env.builtins=sS
 above:X.s₀.heap.objs.size<=X.env.locals
 inj:∀x y c,X.env.cells.lookup x=a_ c->X.env.cells.lookup y=a_ c->x=y
 has:∀x,(X.env.kindOf x=a_ .cell\/X.env.kindOf x=a_ .free)->∃c,X.env.cells.lookup x=a_ c
 xC:∀x c,X.fn x=c_->X.env.cells.lookup x=a_ c->X.s₀.heap.objs.size<=c
 hd:X.calm=c_->X.A.handled=b_
 frames:X.A.frames=a_ X.stack
 yH:X.stack=X.outer\/(X.stack=X.env::X.outer/\X.env.frame=a_ X.env.locals)
 vm:∀b∈X.ex,b≠X.env.locals/\∀x c,X.env.cells.lookup x=a_ c->c≠b
 bs:∀b o,X.base.get? b=a_ o->X.s₀.heap.get? b=a_ o/\X.H₀ b=b_
 oU:X.base.objs.size<=X.s₀.heap.objs.size
 xg:∀b o,X.base.get? b=a_ o->b∉X.ex
 vd:∀b∈X.ex,b∉X.fs
 oJ:X.s₀.heap.FunFrames X.base X.outer
 tT:∀b∈X.fs,X.H₀ b=b_
structure Inv(X:Cx)(p_:List (e_×Obj))(σ:List (Option V))(H:Hp)(s:g_):Prop where
 ok:X.Ok
 os:s.os=X.s₀.os
 bare:AllBare s.gens
 base:Un X.fs X.ex X.H₀ H X.s₀.heap s.heap
 loc:∃m,s.heap.Ns X.env.locals m/\∀(i:Nat) (x:Str) (v:V),X.N[i]?=a_ x->σ[i]?=a_ (a_ v)->G' X.env.scope x->∃u,RelV v u/\Look X.env s.heap m x u
 cell:∀x c,X.env.cells.lookup x=a_ c->∃v,s.heap.IsCell c v
 free:H X.env.locals=b_
 lj:∀x c,X.env.cells.lookup x=a_ c->H c=b_
 pin:∀p∈X.pn++p_,s.heap.get? p.1=a_ p.2/\H p.1=b_/\p.1≠X.env.locals/\p.1∉X.fs/\∀v,p.2.data≠.cell v
 aQ:gz X.prog X.w H s.heap
 len:σ.length=X.N.length
section
variable{X:Cx}{p_:List (e_×Obj)}{σ:List (Option V)}{H H':Hp}{s:g_}{h':j_}
theorem Cx.Ok.akD(ok:X.Ok)(e:X.base.get? b=a_ o):b∉X.fs:=λhb=>by
 have:=(ok.oJ.mem hb).1;rw[e]at this;cases this
theorem Inv.bs(I:Inv X p_ σ H s):∀b o,X.base.get? b=a_ o->s.heap.get? b=a_ o/\H b=none:=λb o e=>
 ⟨I.base.keep b o (I.ok.bs b o e).1 (I.ok.bs b o e).2 (I.ok.akD e) (I.ok.xg b o e),I.base.free b o (I.ok.bs b o e).1 (I.ok.bs b o e).2 (I.ok.xg b o e)⟩
theorem Inv.bk(I:Inv X p_ σ H s):∀b o,X.base.get? b=a_ o->s.heap.get? b=a_ o:=λb o e=>(I.bs b o e).1
theorem Inv.mod(I:Inv X p_ σ H s):Mod X.K X.mg X.base:=I.ok.mod
theorem Inv.dF(I:Inv X p_ σ H s):X.K.In s.heap:=I.ok.mod.qX.keeps I.bk
theorem Inv.nolimit(I:Inv X p_ σ H s):s.heap.NoLimit:=I.ok.mod.nolimit.keeps I.bk
theorem Inv.fr(I:Inv X p_ σ H s):∃m,Fr X.base X.env.locals s.heap m:=
 let ⟨m,hn,_⟩:=I.loc
 ⟨m,hn,I.bk,cC I.ok.oU I.ok.above⟩
theorem Inv.lt(I:Inv X p_ σ H s):X.env.locals<s.heap.objs.size:=let ⟨_,hn,_⟩:=I.loc;hn.lt
theorem Inv.sz(I:Inv X p_ σ H s):X.s₀.heap.objs.size<=s.heap.objs.size:=cC I.ok.above (dw I.lt)
theorem Inv.WE(I:Inv X p_ σ H s)(h:s.heap.objs.size<=a):a∉X.fs:=λhb=>by
 exact oA (I.ok.oJ.mem hb) λ_ aa=>af aa λo ho _=>absurd (gI (cH ho) (cC I.sz h)) (mh _)
theorem Inv.vo(I:Inv X p_ σ H s):∀x c,X.env.cells.lookup x=a_ c->c≠X.env.locals:=λx c e z=>by
 refine aW (I.cell x c e) λv o ho hd=>af I.loc λm aa _=>gw aa λo' es ep su rq _=>?_;rw[z,su]at ho;cases ho;rw[rq]at hd;cases hd
theorem Inv.oJ(I:Inv X p_ σ H s):s.heap.FunFrames X.base X.outer:=by
 have all:∀(l:List Env),(∀b∈jP l,b∈X.fs)->X.s₀.heap.FunFrames X.base l->s.heap.FunFrames X.base l:=by
  intro l
  induction l with
  | nil=>intro _ _;trivial
  | cons env r ih=>
   intro hs hl;refine bp hl λhk aa hr=>kZ aa λL o hf hn ho hd=>?_;have hL:=hs L (by unfold jP;rw[IC,hf];exact hX);exact oE (I.base.slot L o ho (I.ok.tT L hL) hL λz=>I.ok.vd L z hL) λsl e=>⟨hk,⟨L,_,hf,hn,e,hd⟩,ih (λb hb=>hs b (by unfold jP;rw[IC,hf];exact gE _ hb)) hr⟩
 exact all X.outer (λ_ hb=>hb) I.ok.oJ
theorem Inv.stack(I:Inv X p_ σ H s):s.heap.FunFrames X.base X.stack:=by
 rcases I.ok.yH with e | ⟨e,hf⟩
 ·rw[e];exact I.oJ
 ·rw[e];refine af I.loc λm hn _=>.cons (by rw[I.ok.kind];decide) hf hn ?_ I.oJ;exact aaw (cC I.ok.oU I.ok.above)
theorem Inv.EV(I:Inv X p_ σ H s):∀b∈jP X.stack,b∈X.env.locals::X.fs:=λb hb=>by
 rcases I.ok.yH with e | ⟨e,hf⟩
 ·rw[e]at hb;exact gE _ hb
 ·rw[e]at hb;unfold jP at hb;rw[IC,hf]at hb;exact hb
theorem Inv.EJ(I:Inv X p_ σ H s):∀b∈jP X.stack,H b=none:=λb hb=>by
 rcases cV.mp (I.EV b hb)with e | hb
 ·rw[e];exact I.free
 ·exact oA (I.ok.oJ.mem hb) λ_ aa=>af aa λo ho _=>I.base.free b o ho (I.ok.tT b hb) λz=>I.ok.vd b z hb
theorem Inv.step{g':Array GenState}{t':Nat}{d':Drawn}{ch:List e_}(I:Inv X p_ σ H s)
  (nS:∀b∈ch,(b∈X.ex\/X.s₀.heap.objs.size<=b)/\b≠X.env.locals/\(∀x c,X.env.cells.lookup x=a_ c->c≠b)/\∀p∈X.pn++p_,p.1≠b)
  (keep:∀b o,b≠X.env.locals->b∉X.fs->b∉ch->s.heap.get? b=a_ o->H b=b_->h'.get? b=a_ o)
  (slot:∀b o,b≠X.env.locals->b∈X.fs->b∉ch->s.heap.get? b=a_ o->H b=b_->∃sl,h'.get? b=a_ { o with slots:=sl }) (free:∀b o,b∉ch->s.heap.get? b=a_ o->H b=b_->H' b=b_)
  (there:∀b o,b∉ch->s.heap.get? b=a_ o->∃o',h'.get? b=a_ o')
  (qN:∀b xs,H b=a_ (.tup xs)->H' b=a_ (.tup xs)) (p0:∀b o u,H b=a_ (.pK o u)->H' b=a_ (.pK o u)) (pX:∀b ps,H b=a_ (.gx ps)->∃more,H' b=a_ (.gx (ps++more)))
  (ns:∀m,s.heap.Ns X.env.locals m->h'.Ns X.env.locals m) (aQ:gz X.prog X.w H' h') (hg:AllBare g') :
  Inv X p_ σ H' { s with heap:=h',gens:=g',drawn:=d',toks:=t' }:=by
 have Yz:∀b o,X.s₀.heap.get? b=a_ o->b≠X.env.locals:=λb o e=>gh (gI (cH e) I.ok.above)
 have Hu:∀b o,X.s₀.heap.get? b=a_ o->b∉X.ex->b∉ch:=λb o e hx hb=>by
  rcases(nS b hb).1 with z | z
  ·exact hx z
  ·exact absurd (gI (cH e) z) (mh _)
 have cellK:∀x c,X.env.cells.lookup x=a_ c->∀v,s.heap.IsCell c v->h'.IsCell c v:=λx c e v ⟨o,ho,hd⟩=>by
  have xK:c∉ch:=λz=>(nS c z).2.2.1 x c e rfl
  by_cases hc:c∈X.fs
  ·exact oE (slot c o (I.vo x c e) hc xK ho (I.lj x c e)) λsl q=>⟨_,q,hd⟩
  ·exact⟨o,keep c o (I.vo x c e) hc xK ho (I.lj x c e),hd⟩
 refine⟨I.ok,I.os,hg,⟨λb o e n hb hx=>keep b o (Yz b o e) hb (Hu b o e hx) (I.base.keep b o e n hb hx) (I.base.free b o e n hx),λb o e n hb hx=>oE (I.base.slot b o e n hb hx) λsl e1=>oE (slot b _ (Yz b o e) hb (Hu b o e hx) e1 (I.base.free b o e n hx)) λC9 e2=>⟨C9,e2⟩,λb o e n hx=>oE (I.base.there b o e hx) λo' e1=>free b o' (Hu b o e hx) e1 (I.base.free b o e n hx),λb o e hx=>oE (I.base.there b o e hx) λo' e1=>there b o' (Hu b o e hx) e1,λb xs e=>qN b xs (I.base.qN b xs e),λb o xs e=>p0 b o xs (I.base.p0 b o xs e),λb ps e=>oE (I.base.pX b ps e) λm1 e1=>oE (pX b _ e1) λm2 e2=>⟨m1++m2,by rw[e2,Array.append_assoc]⟩⟩,?_,λx c e=>?_,?_,λx c e=>?_,λp hp=>?_,aQ,I.len⟩
 ·refine af I.loc λm hn hl=>⟨m,ns m hn,λi x v e1 e2 e3=>af (hl i x v e1 e2 e3) λu r l=>⟨u,r,?_⟩⟩;rcases l with l | ⟨k,c,e,z⟩
  ·exact .inl l
  ·exact .inr ⟨k,c,e,cellK x c e _ z⟩
 ·exact oE (I.cell x c e) λv z=>⟨v,cellK x c e v z⟩
 ·exact af I.loc λm aa _=>eh aa λo _ _ ho _=>free _ o (λz=>(nS _ z).2.1 rfl) ho I.free
 ·exact aW (I.cell x c e) λv o ho hd=>free c o (λz=>(nS c z).2.2.1 x c e rfl) ho (I.lj x c e)
 ·refine my (I.pin p hp) λe n ne nf d=>?_;have xK:p.1∉ch:=λz=>(nS p.1 z).2.2.2 p hp rfl;exact⟨keep p.1 p.2 ne nf xK e n,free p.1 p.2 xK e n,ne,nf,d⟩
theorem Inv.un{t':Nat}(I:Inv X p_ σ H s)(u:Un X.fs [] H H' s.heap h')(aQ:gz X.prog X.w H' h'):Inv X p_ σ H' { s with heap:=h',toks:=t' }:=by
 refine af (id I.loc) λm aa _=>eh aa λo es ep ho r=>oE (u.any ho I.free (by simp)) λsl hL=>?_
 exact I.step (g':=s.gens) (d':=s.drawn) (ch:=[]) (λ_ z=>nomatch z) (λb o _ hb _ e n=>u.keep b o e n hb (by simp)) (λb o _ hb _ e n=>u.slot b o e n hb (by simp)) (λb o _ e n=>u.free b o e n (by simp)) (λb o _ e=>u.there b o e (by simp)) u.qN u.p0 u.pX (λm' hm=>by
  refine eh hm λo' Ib Ic su r'=>?_;rw[ho]at su;cases su;exact⟨_,Ib,Ic,hL,r'⟩) aQ I.bare
theorem Inv.call{g':Array GenState}{t':Nat}{d':Drawn}{ch:List e_}(I:Inv X p_ σ H s)(u:Un (jP X.stack) ch H H' s.heap h')(aQ:gz X.prog X.w H' h')(hg:AllBare g')
  (nS:∀b∈ch,(b∈X.ex\/X.s₀.heap.objs.size<=b)/\b≠X.env.locals/\(∀x c,X.env.cells.lookup x=a_ c->c≠b)/\∀p∈X.pn++p_,p.1≠b) :
  Inv X p_ σ H' { s with heap:=h',gens:=g',drawn:=d',toks:=t' }:=by
 refine af (id I.loc) λm aa _=>eh aa λo es ep ho r=>oE (u.any ho I.free λz=>(nS _ z).2.1 rfl) λsl hL=>?_
 exact I.step (ch:=ch) nS (λb o hL hb hc e n=>u.keep b o e n (λz=>(cV.mp (I.EV b z)).elim hL hb) hc) (λb o _ _ hc e n=>u.any e n hc) (λb o hc e n=>u.free b o e n hc) (λb o hc e=>u.there b o e hc) u.qN u.p0 u.pX (λm' hm=>by
  refine eh hm λo' Ib Ic su r'=>?_;rw[ho]at su;cases su;exact⟨_,Ib,Ic,hL,r'⟩) aQ hg
theorem Inv.turned{t':Nat}{it:e_}(I:Inv X p_ σ H s)(k:∀b o,b≠it->s.heap.get? b=a_ o->h'.get? b=a_ o)(hn:H it=b_)(hL:it≠X.env.locals)
  (h1:it∈X.ex\/X.s₀.heap.objs.size<=it) (h2:∀x c,X.env.cells.lookup x=a_ c->c≠it) (h3:∀p∈X.pn++p_,p.1≠it):Inv X p_ σ H { s with heap:=h',toks:=t' }:=by
 have Yy:∀b u,H b=a_ u->b≠it:=λb u e z=>by rw[z,hn]at e;cases e
 refine I.step (g':=s.gens) (d':=s.drawn) (ch:=[it]) (λb hb=>?_) (λb o _ _ hc e _=>k b o (λz=>hc (by simp[z])) e) (λb o _ _ hc e _=>⟨o.slots,k b o (λz=>hc (by simp[z])) e⟩) (λ_ _ _ _ n=>n)
  (λb o hc e=>⟨o,k b o (λz=>hc (by simp[z])) e⟩) (λ_ _ e=>e) (λ_ _ _ e=>e) (λb ps e=>⟨#[],by rw[e];simp⟩) (λm hm=>?_) (λb u e=>?_) I.bare
 ·have e:b=it:=by simpa using hb
  subst e;exact⟨h1,hL,h2,h3⟩
 ·exact eh hm λo es ep ho r=>⟨o,es,ep,k _ o (gq hL) ho,r⟩
 ·refine(I.aQ b u e).qO (λc v hc q=>k c v ?_ q) (λ_ q=>q) λ_ _ q=>q;rcases hc with z | z
  ·rw[z];exact Yy b u e
  ·exact Yy c _ z
theorem Inv.tok(I:Inv X p_ σ H s)(t:Nat):Inv X p_ σ H { s with toks:=t }:=I.un (h':=s.heap) (t':=t) Un.refl I.aQ
theorem Inv.kept{t':Nat}(I:Inv X p_ σ H s)(k:∀b u,s.heap.get? b=a_ u->h'.get? b=a_ u):Inv X p_ σ H { s with heap:=h',toks:=t' }:=I.un (Un.kept k) (I.aQ.kept k)
theorem Inv.laid{o:HO}{t':Nat}(I:Inv X p_ σ H s)(k:∀b u,s.heap.get? b=a_ u->h'.get? b=a_ u)(hp:s.heap.objs.size<=a)(new:hZ X.prog X.w (upd H a o) h' a o) :
  Inv X p_ σ (upd H a o) { s with heap:=h',toks:=t' }:=I.un (Un.laid k hp (I.aQ.fresh hp)) (I.aQ.laid k hp new)
theorem Inv.write{o:HO}{t':Nat}(I:Inv X p_ σ H s)(mu:Hf (H x))(he:e=x\/H e=a_ (.own x))(k:∀b u,b≠e->s.heap.get? b=a_ u->h'.get? b=a_ u)(A4:∃u,h'.get? e=a_ u)
  (new:hZ X.prog X.w (upd H x o) h' x o):Inv X p_ σ (upd H x o) { s with heap:=h',toks:=t' }:=I.un (Un.write mu he k A4) (I.aQ.write mu he k A4 new)
theorem Inv.weak{σ':List (Option V)}(I:Inv X p_ σ H s)(hl:σ'.length=σ.length)(w:∀(i:Nat) v,σ'[i]?=a_ (a_ v)->σ[i]?=a_ (a_ v)):Inv X p_ σ' H s:=
 ⟨I.ok,I.os,I.bare,I.base,let ⟨m,hn,Dx⟩:=I.loc;⟨m,hn,λi x v e1 e2 e3=>Dx i x v e1 (w i v e2) e3⟩,I.cell,I.free,I.lj,I.pin,I.aQ,hl.trans I.len⟩
theorem Inv.wd(I:Inv X p_ σ H s)(h:∀p∈ajY,s.heap.get? p.1=a_ p.2/\H p.1=b_/\p.1≠X.env.locals/\p.1∉X.fs/\∀v,p.2.data≠.cell v):Inv X ajY σ H s:=
 ⟨I.ok,I.os,I.bare,I.base,I.loc,I.cell,I.free,I.lj,λp hp=>(jA.mp hp).elim (λz=>I.pin p (pO _ z)) (h p),I.aQ,I.len⟩
theorem Ki{N:List Str}(hN:N.Nodup){i j:Nat}{x:Str}(a:N[i]?=a_ x)(b:N[j]?=a_ x):i=j:=by
 refine oE (dX.mp a) λh1 e1=>?_;refine oE (dX.mp b) λh2 e2=>?_;exact(List.getElem_inj hN).mp (e1.trans e2.symm)
theorem Ry{M:Model}{A:h_}{E:f_->g_->Prop}{i:Nat}{x:Str}{v:V}{u:f_}{Q:Unit->g_->Prop}(I:Inv X p_ σ H s)(hN:X.N.Nodup)(hi:X.N[i]?=a_ x)(hx:Loc X.env.scope x)(r:RelV v u)
  (h:∀s',Inv X p_ (σ.set i (a_ v)) H s'->(∃a,vW a s.heap s'.heap/\(a=X.env.locals\/X.env.cells.lookup x=a_ a))->Q () s') (hf:X.fn x=c_\/X.env.scope.names.lookup x=a_ .local:=by first | exact .inl rfl | exact .inr rfl | assumption):wpAny M A (storeName X.env x u) Q E s:=by
 refine af (id I.loc) λm hn hl=>?_;have N6:(X.env.scope.kind == .class||(X.env.scope.kind == .module&&X.env.locals != X.env.globals))=false:=by rw[I.ok.kind];rfl
 have Zd:i < σ.length:=by rw[I.len];exact(dX.mp hi).1
 have vo:=I.vo
 have tracked:∀{a:e_} {h':j_},(∃o,s.heap.get? a=a_ o/\H a=b_)->vW a s.heap h'->gz X.prog X.w H h':=λ{a h'} ha hs b ob e=>by
  refine af ha λ_ _ Wr=>(I.aQ b ob e).qO (λc w' hc q=>(hs.2 c ?_).trans q) (λ_ q=>q) λ_ _ q=>q;rintro rfl;rcases hc with rfl | hc
  ·rw[Wr]at e;cases e
  ·rw[Wr]at hc;cases hc
 rcases hx with hk | hk
 ·refine wpAny_storeName_local hk hn (λh' y0 hs=>?_) N6;refine eh (id hn) λoL _ _ hoL _=>h _ ⟨I.ok,I.os,I.bare,⟨λb o e n hb hx=>(hs.2 b (gh (gI (cH e) I.ok.above))).trans (I.base.keep b o e n hb hx),λb o e n hb hx=>oE (I.base.slot b o e n hb hx) λsl e1=>⟨sl,(hs.2 b (gh (gI (cH e) I.ok.above))).trans e1⟩,I.base.free,λb o e hx=>oE (I.base.there b o e hx) λo' e1=>⟨o',(hs.2 b (gh (gI (cH e) I.ok.above))).trans e1⟩,I.base.qN,I.base.p0,I.base.pX⟩,⟨_,y0,λj y v' e1 e2 e3=>?_⟩,λy c e=>?_,I.free,I.lj,λp hp=>?_,tracked ⟨oL,hoL,I.free⟩ hs,by simpa using I.len⟩ ⟨_,hs,.inl rfl⟩
  ·by_cases hj:j=i
   ·subst hj;rw[hi]at e1;cases e1;rw[jz Zd]at e2;cases e2;exact⟨u,r,.inl ⟨hk,by simp⟩⟩
   ·rw[zt (gq hj)]at e2;refine af (hl j y v' e1 e2 e3) λu' r' q=>⟨u',r',?_⟩;rcases q with ⟨k,e⟩ | ⟨k,c,e,z⟩
    ·refine .inl ⟨k,?_⟩;have:y≠x:=λe=>hj (Ki hN e1 (e ▸ hi));simp[this,e]
    ·exact .inr ⟨k,c,e,z.sameBut hs (vo y c e)⟩
  ·exact oE (I.cell y c e) λw' z=>⟨w',z.sameBut hs (vo y c e)⟩
  ·exact my (I.pin p hp) λe n ne nf d=>⟨(hs.2 p.1 ne).trans e,n,ne,nf,d⟩
 ·have O9:X.fn x=true:=by
   rcases hf with z | z
   ·exact z
   ·rw[z]at hk;cases hk
  refine oE (I.ok.has x (.inl hk)) λc hc=>oE (I.cell x c hc) λw' z=>wpAny_storeName_cell I.ok.kind hk hc z λh' sv hs=>af (id z) λoc yZ alA=>?_;refine h { s with heap:=h' } ⟨I.ok,I.os,I.bare,⟨λb o e n hb hx=>(hs.2 b (gh (gI (cH e) (I.ok.xC x c O9 hc)))).trans (I.base.keep b o e n hb hx),λb o e n hb hx=>oE (I.base.slot b o e n hb hx) λsl e1=>⟨sl,(hs.2 b (gh (gI (cH e) (I.ok.xC x c O9 hc)))).trans e1⟩,I.base.free,λb o e hx=>oE (I.base.there b o e hx) λo' e1=>⟨o',(hs.2 b (gh (gI (cH e) (I.ok.xC x c O9 hc)))).trans e1⟩,I.base.qN,I.base.p0,I.base.pX⟩,⟨m,hn.sameBut hs (gq (vo x c hc)),λj y v' e1 e2 e3=>?_⟩,λy c' e=>?_,I.free,I.lj,λp hp=>?_,tracked ⟨oc,yZ,I.lj x c hc⟩ hs,by simpa using I.len⟩ ⟨c,hs,.inr hc⟩
  ·by_cases hj:j=i
   ·subst hj;rw[hi]at e1;cases e1;rw[jz Zd]at e2;cases e2;exact⟨u,r,.inr ⟨.inl hk,c,hc,sv⟩⟩
   ·rw[zt (gq hj)]at e2;refine af (hl j y v' e1 e2 e3) λu' r' q=>⟨u',r',?_⟩;rcases q with q | ⟨k,c',e,z'⟩
    ·exact .inl q
    ·refine .inr ⟨k,c',e,z'.sameBut hs ?_⟩;rintro rfl;exact hj (Ki hN e1 (I.ok.inj _ _ _ e hc ▸ hi))
  ·by_cases Zh:c'=c
   ·subst Zh;exact⟨_,sv⟩
   ·exact oE (I.cell y c' e) λw2 z2=>⟨w2,z2.sameBut hs Zh⟩
  ·refine my (I.pin p hp) λe n ne nf d=>⟨(hs.2 p.1 ?_).trans e,n,ne,nf,d⟩;intro q;rw[q,yZ]at e;have q':=dq e;exact d w' (by rw[<-q'];exact alA)
theorem JW{M:Model}{i:Nat}{Q:Unit->g_->Prop}(I:Inv X p_ σ H s)(hN:X.N.Nodup)(hi:X.N[i]?=a_ x)(hx:Loc X.env.scope x)(r:RelV v u)
  (h:∀s',Inv X p_ (σ.set i (a_ v)) H s'->Q () s') (hf:X.fn x=c_\/X.env.scope.names.lookup x=a_ .local:=by first | exact .inl rfl | exact .inr rfl | assumption):wpAny M A (storeName X.env x u) Q E s:=
 Ry I hN hi hx r (λs' I' _=>h s' I') hf
theorem Inv.MT(I:Inv X p_ σ H s)(ho:s'.os=s.os)(u:Un (jP X.stack) ch H H' s.heap s'.heap)(aQ:gz X.prog X.w H' s'.heap)(hg:AllBare s'.gens)
  (nS:∀b∈ch,(b∈X.ex\/X.s₀.heap.objs.size<=b)/\b≠X.env.locals/\(∀x c,X.env.cells.lookup x=a_ c->c≠b)/\∀p∈X.pn++p_,p.1≠b):Inv X p_ σ H' s':=by
 obtain⟨h',g',d',t',o'⟩:=s';have e:o'=s.os:=ho;subst e;exact I.call (g':=g') (t':=t') (d':=d') u aQ hg nS
end
abbrev XK:=f_->Option e_->Hp->Prop
abbrev St:=List (Option V)
abbrev VK:=V->Hp->Prop
abbrev TE:=St->Hp->VK->Prop
abbrev TT:=St->Hp->(Bool->Hp->Prop)->Prop
abbrev TA:=St->Hp->(List V->Hp->Prop)->Prop
structure Ends where
 nx:St->Hp->Prop
 rt:VK
 bk:St->Hp->Prop:=λ_ _=>False
 ct:St->Hp->Prop:=λ_ _=>False
abbrev TS:=Ends->St->Hp->Prop
def EP(X:Cx)(p_:List (e_×Obj))(σ:St)(Q:VK)(u:f_)(s':g_):Prop:=∃v H',Inv X p_ σ H' s'/\RelV v u/\Q v H'
def TP(X:Cx)(p_:List (e_×Obj))(σ:St)(Q:Bool->Hp->Prop)(b:Bool)(s':g_):Prop:=∃H',Inv X p_ σ H' s'/\Q b H'
def AP(X:Cx)(p_:List (e_×Obj))(σ:St)(Q:List V->Hp->Prop)(us:List f_)(s':g_):Prop:=∃vs H',Inv X p_ σ H' s'/\Vals vs us/\Q vs H'
def SP(X:Cx)(p_:List (e_×Obj))(D:Ends)(f:Flow)(s':g_):Prop:=
 match f with
 | .next=>∃σ' H',Inv X p_ σ' H' s'/\D.nx σ' H'
 | .brk=>∃σ' H',Inv X p_ σ' H' s'/\D.bk σ' H'
 | .cont=>∃σ' H',Inv X p_ σ' H' s'/\D.ct σ' H'
 | .ret u=>∃v σ' H',Inv X p_ σ' H' s'/\RelV v u/\D.rt v H'
def PE(X:Cx)(e:Expr)(t:TE):Prop:=
 ∀(p_:List (e_×Obj)) (s:g_) (σ:St) (H:Hp) (Q:VK),Inv X p_ σ H s->t σ H Q->wpAny (model X.prog X.w) X.A (eval e X.env) (EP X p_ σ Q) X.xe s
def PT(X:Cx)(e:Expr)(t:TT):Prop:=
 ∀(p_:List (e_×Obj)) (s:g_) (σ:St) (H:Hp) (Q:Bool->Hp->Prop),Inv X p_ σ H s->t σ H Q->wpAny (model X.prog X.w) X.A (isTrue e X.env (eval e X.env)) (TP X p_ σ Q) X.xe s
def PW(X:Cx)(e:Expr)(t:TT):Prop:=
 ∀(whole:Sem f_) (p_:List (e_×Obj)) (s:g_) (σ:St) (H:Hp) (Q:Bool->Hp->Prop),Inv X p_ σ H s->t σ H Q->wpAny (model X.prog X.w) X.A (isTrue e X.env whole) (TP X p_ σ Q) X.xe s
theorem PW.pt{X:Cx}(h:PW X e t):PT X e t:=h _
def PA(X:Cx)(es:List Expr)(t:TA):Prop:=
 ∀(pos:Pos) (p_:List (e_×Obj)) (s:g_) (σ:St) (H:Hp) (Q:List V->Hp->Prop),Inv X p_ σ H s->t σ H Q->wpAny (model X.prog X.w) X.A (spliced (backTo pos (cQ es X.env))) (AP X p_ σ Q) X.xe s
def PS(X:Cx)(st:Stmt)(t:TS):Prop:=
 ∀(p_:List (e_×Obj)) (s:g_) (σ:St) (H:Hp) (D:Ends),Inv X p_ σ H s->t D σ H->wpAny (model X.prog X.w) X.A (exec st X.env) (SP X p_ D) X.xe s
def eV(X:Cx)(st:List Stmt)(t:TS):Prop:=
 ∀(p_:List (e_×Obj)) (s:g_) (σ:St) (H:Hp) (D:Ends),Inv X p_ σ H s->t D σ H->wpAny (model X.prog X.w) X.A (execs st X.env) (SP X p_ D) X.xe s
theorem eJ{α:Type}{t:Sem α}{Q Q':α->g_->Prop}{M:Model}(h:wpAny M A t Q E s)(hQ:∀a s,Q a s->Q' a s):wpAny M A t Q' E s:=ja h hQ λ_ _ x=>x
theorem dC{X:Cx}{K:VK}{t:Sem f_}{M:Model}(h:wpAny M A t (EP X p_ σ K) E s)(k:∀v s x H,Inv X p_ σ H s->RelV x v->K x H->Q' v s):wpAny M A t Q' E s:=eJ h λv s z=>cI z (k v s)
theorem AF{X:Cx}{K:Bool->Hp->Prop}{t:Sem Bool}{Q':Bool->g_->Prop}{M:Model}(h:wpAny M A t (TP X p_ σ K) E s)(k:∀v s H,Inv X p_ σ H s->K v H->Q' v s):wpAny M A t Q' E s:=eJ h λv s z=>af z (k v s)
theorem lU{X:Cx}{K:List V->Hp->Prop}{t:Sem (List f_)}{Q':List f_->g_->Prop}{M:Model}(h:wpAny M A t (AP X p_ σ K) E s)(k:∀v s x H,Inv X p_ σ H s->Vals x v->K x H->Q' v s):wpAny M A t Q' E s:=eJ h λv s z=>cI z (k v s)
section
variable{X:Cx}
def ib(i:Nat):TE:=λσ H Q=>∃v,σ[i]?=a_ (a_ v)/\Q v H
abbrev tC(v:V):TE:=λ_ H Q=>Q v H
theorem LI{i:Nat}(hN:X.N[i]?=a_ x)(hv:G' X.env.scope x)(hd:(x == ("__debug__" : Str))=false:=by decide)(jj:(x == ("__classdict__" : Str))=false:=by decide):PE X (.Name x pos) (ib i):=by
 intro p_ s σ H Q I h;refine af h λv e h=>af I.loc λm hn hl=>af (hl i x v hN e hv) λu r l=>?_;have fin:EP X p_ σ Q u s:=⟨v,H,I,r,h⟩;rcases l with ⟨hk,hm⟩ | ⟨hk,c,hc,uY⟩
 ·exact wpAny_Name (wpAny_loadName_local I.ok.kind hk hn hm fin) hd
 ·rcases hk with hk | hk
  ·exact wpAny_Name (wpAny_loadName_cell I.ok.kind hk hc uY fin) hd
  ·exact wpAny_Name (wpAny_loadName_free I.ok.kind hk hc uY fin jj) hd
theorem aq{i j pos}:PE X (.Constant (.int i) j pos) (tC (.int i)):=λ_ _ _ H _ I h=>wpAny_Constant_int ⟨.int i,H,I.tok _,⟨_,rfl⟩,h⟩
theorem nD{b j pos}:PE X (.Constant (.bool b) j pos) (tC (.bl b)):=λ_ _ _ H _ I h=>Constant_bool ⟨.bl b,H,I,rfl,h⟩
theorem lM{j pos}:PE X (.Constant .none j pos) (tC .aJ):=λ_ _ _ H _ I h=>Constant_none ⟨.aJ,H,I,rfl,h⟩
theorem cZ{x j pos}:PE X (.Constant (.str x) j pos) (tC (.str x)):=λ_ _ _ H _ I h=>Calls.Constant_str ⟨.str x,H,I.tok _,⟨_,rfl⟩,h⟩
def Gl(X:Cx)(x:Str):Prop:=X.env.kindOf x=a_ .globalImplicit
theorem uE(I:Inv X p_ σ H s)(hg:Gl X x)(hm:X.mg x=a_ u)(h:Q u s)
  (hd:(x == ("__debug__" : Str))=false:=by decide):wpAny (model X.prog X.w) X.A (eval (.Name x pos) X.env) Q E s:=
 aae I.ok.kind hg (Calls.loadGlobal_global (by rw[I.ok.glob];exact I.mod.glob.keeps I.bk) hm h) hd
theorem tf(I:Inv X p_ σ H s)(hg:Gl X x)(hm:X.mg x=b_)(hv:vS x=a_ u)(h:Q u s)
  (hn:x ≠ "__name__":=by decide) (hd:(x == ("__debug__" : Str))=false:=by decide):wpAny (model X.prog X.w) X.A (eval (.Name x pos) X.env) Q E s:=by
 exact af I.mod.blt λmb h1 h2=>aae I.ok.kind hg (Calls.loadGlobal_builtin (by rw[I.ok.glob];exact I.mod.glob.keeps I.bk) hm (by rw[I.ok.blt];exact h1.keeps I.bk) ((h2 x hn).trans hv) h) hd
theorem iq(hg:Gl X x)(hm:X.mg x=a_ u)(r:RelV v u)(hd:(x == ("__debug__" : Str))=false:=by decide):PE X (.Name x pos) (tC v):=
 λ_ _ _ H _ I h=>uE I hg hm ⟨v,H,I,r,h⟩ hd
theorem qH(hg:Gl X x)(hm:X.mg x=b_)(hv:vS x=a_ u)(r:RelV v u)(hn:x ≠ "__name__":=by decide)(hd:(x == ("__debug__" : Str))=false:=by decide):PE X (.Name x pos) (tC v):=
 λ_ _ _ H _ I h=>tf I hg hm hv ⟨v,H,I,r,h⟩ hn hd
variable{a b:Expr}{ta tb:TE}{pos:Pos}
def tB(t:TE):TT:=λσ H Q=>t σ H λx H1=>∃c,x=.bl c/\Q c H1
theorem gF(h:PE X e t)(he:∀whole,isTrue e X.env whole=(do let v <-whole;standAt e.pos;holding [v] (truthy v)):=by intro _;rfl):PT X e (tB t):=by
 intro p_ s σ H Q I hw;refine isTrue_plain (dC (h p_ s σ H _ I hw) λv s1 x H1 I1 r1 q1=>?_) (he _);refine af q1 λd aa q=>?_;clear q1;subst aa;cases r1;exact um ⟨H1,I1,q⟩
variable{tA Hk:TT}{rest:List Expr}
def akr(t u:TT):TT:=λσ H Q=>t σ H λc H1=>if c=c_ then u σ H1 Q else Q d_ H1
def XJ(t u:TT):TT:=λσ H Q=>t σ H λc H1=>if c=c_ then Q c_ H1 else u σ H1 Q
def akp(t:TT):TT:=λσ H Q=>t σ H λc H1=>Q (!c) H1
theorem pw_and1(ha:PT X a tA):PW X (.BoolOp .And [a] pos) tA:=by
 intro wh p_ s σ H Q I h;refine isTrue_and (eJ (ha p_ s σ H Q I h) λc s1 e=>?_);cases c with
 | true=>exact isTrue_and_nil e
 | false=>exact e
theorem pw_or1(ha:PT X a tA):PW X (.BoolOp .Or [a] pos) tA:=by
 intro wh p_ s σ H Q I h;refine isTrue_or (eJ (ha p_ s σ H Q I h) λc s1 e=>?_);cases c with
 | false=>exact isTrue_or_nil e
 | true=>exact e
theorem pw_and(ha:PT X a tA)(hb:PW X (.BoolOp .And (b::rest) pos) Hk):PW X (.BoolOp .And (a::b::rest) pos) (akr tA Hk):=by
 intro wh p_ s σ H Q I h;refine isTrue_and (AF (ha p_ s σ H _ I h) λc s1 H1 I1 q1=>?_);cases c with
 | true=>exact hb wh p_ s1 σ H1 Q I1 q1
 | false=>exact⟨H1,I1,q1⟩
theorem pw_or(ha:PT X a tA)(hb:PW X (.BoolOp .Or (b::rest) pos) Hk):PW X (.BoolOp .Or (a::b::rest) pos) (XJ tA Hk):=by
 intro wh p_ s σ H Q I h;refine isTrue_or (AF (ha p_ s σ H _ I h) λc s1 H1 I1 q1=>?_);cases c with
 | true=>exact⟨H1,I1,q1⟩
 | false=>exact hb wh p_ s1 σ H1 Q I1 q1
theorem kQ(ha:PT X a tA):PT X (.UnaryOp .Not a pos) (akp tA):=by
 intro p_ s σ H Q I h;exact isTrue_not (ha p_ s σ H (λc H1=>Q (!c) H1) I h)
def VE(ta tb:TE):TE:=λσ H Q=>ta σ H λx H1=>∃c,x=.bl c/\if c=c_ then tb σ H1 Q else Q (.bl d_) H1
def ako(ta tb:TE):TE:=λσ H Q=>ta σ H λx H1=>∃c,x=.bl c/\if c=c_ then Q (.bl c_) H1 else tb σ H1 Q
def ais(ta:TE):TE:=λσ H Q=>ta σ H λx H1=>∃c,x=.bl c/\Q (.bl (!c)) H1
theorem wC{op}(h:PE X a t):PE X (.BoolOp op [a] pos) t:=λp_ s σ H Q I hw=>BoolOp_one (h p_ s σ H Q I hw)
theorem wD(ha:PE X a ta)(hb:PE X (.BoolOp .And (b::rest) pos) tb):PE X (.BoolOp .And (a::b::rest) pos) (VE ta tb):=by
 intro p_ s σ H Q I h;refine BoolOp_and (dC (ha p_ s σ H _ I h) λv s1 x H1 I1 r1 q1=>?_);obtain⟨c,rfl,q1⟩:=q1;cases r1;refine um ?_;cases c with
 | true=>exact hb p_ s1 σ H1 Q I1 q1
 | false=>exact⟨.bl d_,H1,I1,rfl,q1⟩
theorem aiE(ha:PE X a ta)(hb:PE X (.BoolOp .Or (b::rest) pos) tb):PE X (.BoolOp .Or (a::b::rest) pos) (ako ta tb):=by
 intro p_ s σ H Q I h;refine BoolOp_or (dC (ha p_ s σ H _ I h) λv s1 x H1 I1 r1 q1=>?_);obtain⟨c,rfl,q1⟩:=q1;cases r1;refine um ?_;cases c with
 | false=>exact hb p_ s1 σ H1 Q I1 q1
 | true=>exact⟨.bl c_,H1,I1,rfl,q1⟩
theorem E3(ha:PE X a ta):PE X (.UnaryOp .Not a pos) (ais ta):=by
 intro p_ s σ H Q I h;refine UnaryOp_ (dC (ha p_ s σ H _ I h) λv s1 x H1 I1 r1 q1=>?_);obtain⟨c,rfl,q1⟩:=q1;cases r1;exact not_of (um ⟨.bl (!c),H1,I1,rfl,q1⟩)
def tIf(t:TT)(ta tb:TE):TE:=λσ H Q=>t σ H λc H1=>if c=c_ then ta σ H1 Q else tb σ H1 Q
theorem Kg(hc:PT X c tA)(ha:PE X a ta)(hb:PE X b tb):PE X (.IfExp c a b pos) (tIf tA ta tb):=by
 intro p_ s σ H Q I h;refine wpAny_IfExp (AF (hc p_ s σ H _ I h) λd s1 H1 I1 q1=>?_);cases d with
 | true=>exact ha p_ s1 σ H1 Q I1 q1
 | false=>exact hb p_ s1 σ H1 Q I1 q1
end
def aj(K:PySem.W.Frag)(H:Hp)(a:e_)(xs:List V):Prop:=
 Rd H a (.lst xs)\/
  ∃(o:Obj) (aw:Array f_) (n:Nat),K.lookup a=a_ o/\o.cls=.type "list"/\o.dict=b_/\o.data=.seq aw n/\aw.size<=cW/\Vals xs aw.toList
def aI(K:PySem.W.Frag)(H:Hp)(a:e_)(xs:List V):Prop:=
 Rd H a (.tup xs)\/
  ∃(o:Obj) (aw:Array f_) (n:Nat),K.lookup a=a_ o/\o.cls=.type "tuple"/\o.data=.seq aw n/\aw.size<=cW/\Vals xs aw.toList
def akO:f_->Option V
 | .none=>a_ .aJ
 | .bool b=>a_ (.bl b)
 | .int i _=>a_ (.int i)
 | .str x _=>a_ (.str x)
 | .bytes b _=>a_ (.q8 b)
 | .float b _=>a_ (.vk b)
 | .ref a=>a_ (.ref a)
 | .type n=>a_ (.ty n)
 | _=>b_
theorem RelV.abs(r:RelV x u):akO u=a_ x:=by
 cases x with
 | aJ=>cases r;rfl
 | bl _=>cases r;rfl
 | int _=>obtain⟨t,rfl⟩:=r;rfl
 | str _=>obtain⟨t,rfl⟩:=r;rfl
 | q8 _=>obtain⟨t,rfl⟩:=r;rfl
 | vk _=>obtain⟨t,rfl⟩:=r;rfl
 | ref _=>cases r;rfl
 | ty _=>cases r;rfl
theorem RelV.inj(r:RelV x u)(q:RelV y u):x=y:=dq (r.abs.symm.trans q.abs)
theorem Vals.inj:∀{xs ys:List V} {us:List f_},Vals xs us->Vals ys us->xs=ys
 | _,_,_,.nil,.nil=>rfl
 | _,_,_,.cons r t,.cons r' t'=>by rw[r.inj r',Vals.inj t t']
section
variable{X:Cx}{p_:List (e_×Obj)}{σ:St}{H:Hp}{s:g_}{a:e_}{xs ys:List V}
theorem aj.of{K:PySem.W.Frag}(h:H a=a_ (.lst xs)):aj K H a xs:=.inl (.inl h)
theorem aI.of{K:PySem.W.Frag}(h:H a=a_ (.tup xs)):aI K H a xs:=.inl (.inl h)
theorem Inv.list(I:Inv X p_ σ H s)(h:aj X.K H a xs):∃aw:List f_,Vals xs aw/\PlainL s.heap a aw.toArray/\xs.length<=cW:=by
 rcases h with h | ⟨o,aw,n,hk,hc,hd,hs,hz,r⟩
 ·exact oA (h.ok I.aQ) λz aa=>aW aa λaw n r e=>⟨aw,r,⟨_,n,e,rfl,rfl,rfl⟩,z⟩
 ·refine⟨aw.toList,r,⟨o,n,I.dF a o hk,hc,hd,by simpa using hs⟩,?_⟩;have e:=r.length;simp only[Bj]at e;exact w7
theorem Inv.tuple(I:Inv X p_ σ H s)(h:aI X.K H a xs):∃aw:List f_,Vals xs aw/\IsTup s.heap a aw.toArray/\xs.length<=cW:=by
 rcases h with h | ⟨o,aw,n,hk,hc,hs,hz,r⟩
 ·exact oA (h.ok I.aQ) λz aa=>af aa λaw r p=>⟨aw,r,p,z⟩
 ·refine⟨aw.toList,r,⟨o,I.dF a o hk,hc,n,by simpa using hs⟩,?_⟩;have e:=r.length;simp only[Bj]at e;exact w7
theorem Inv.S4(I:Inv X p_ σ H s)(h:aj X.K H a xs)(h':aj X.K H a ys):xs=ys:=by
 refine aG (I.list h) λaw r aa _=>kZ aa λo n e _ _ d=>aG (I.list h') λnI r' aa _=>kZ aa λo' n' e' _ _ d'=>?_;rw[e]at e';cases e';rw[d]at d';injection d' with d1 _
 have:aw=nI:=by simpa using congrArg Array.toList d1
 subst this;exact r.inj r'
theorem Inv.Rx(I:Inv X p_ σ H s)(h:aI X.K H a xs)(h':aI X.K H a ys):xs=ys:=by
 refine aG (I.tuple h) λaw r aa _=>aG aa λo e _ aa=>oE aa λn d=>aG (I.tuple h') λnI r' aa _=>aG aa λo' e' _ aa=>oE aa λn' d'=>?_;rw[e]at e';cases e';rw[d]at d';injection d' with d1 _
 have:aw=nI:=by simpa using congrArg Array.toList d1
 subst this;exact r.inj r'
end
abbrev Cx.tF(X:Cx)(E:f_->g_->Prop):Cx:={ X with xe:=E }
abbrev Cx.qW(X:Cx):Cx:=X.tF λ_ _=>False
theorem Cx.Ok.tF{X:Cx}(ok:X.Ok)(E:f_->g_->Prop):(X.tF E).Ok:=
 ⟨ok.mod,ok.kind,ok.glob,ok.blt,ok.above,ok.inj,ok.has,ok.xC,ok.hd,ok.frames,ok.yH,ok.vm,ok.bs,ok.oU,ok.xg,ok.vd,ok.oJ,ok.tT⟩
theorem Cx.Ok.wq{X:Cx}(ok:(X.tF E).Ok):X.Ok:=
 ⟨ok.mod,ok.kind,ok.glob,ok.blt,ok.above,ok.inj,ok.has,ok.xC,ok.hd,ok.frames,ok.yH,ok.vm,ok.bs,ok.oU,ok.xg,ok.vd,ok.oJ,ok.tT⟩
section
variable{X:Cx}{p_:List (e_×Obj)}{σ:St}{H:Hp}{s:g_}{E:f_->g_->Prop}
theorem Inv.tF(I:Inv X p_ σ H s)(E:f_->g_->Prop):Inv (X.tF E) p_ σ H s:=⟨I.ok.tF E,I.os,I.bare,I.base,I.loc,I.cell,I.free,I.lj,I.pin,I.aQ,I.len⟩
theorem Inv.wq(I:Inv (X.tF E) p_ σ H s):Inv X p_ σ H s:=⟨I.ok.wq,I.os,I.bare,I.base,I.loc,I.cell,I.free,I.lj,I.pin,I.aQ,I.len⟩
theorem SP.wq{f:Flow}(h:SP (X.tF E) p_ D f s'):SP X p_ D f s':=by
 cases f with
 | next=>obtain⟨σ',H',I,q⟩:=h;exact⟨σ',H',I.wq,q⟩
 | brk=>obtain⟨σ',H',I,q⟩:=h;exact⟨σ',H',I.wq,q⟩
 | cont=>obtain⟨σ',H',I,q⟩:=h;exact⟨σ',H',I.wq,q⟩
 | ret u=>obtain⟨v,σ',H',I,r,q⟩:=h;exact⟨v,σ',H',I.wq,r,q⟩
theorem eV.qW{st:List Stmt}(h:eV X.qW st t):eV X st t:=λp_ s σ H D I hw=>
 ja (h p_ s σ H D (I.tF _) hw) (λ_ _ q=>q.wq) λ_ _ z=>jm z
end
section
variable{X:Cx}{st:Stmt}{rest:List Stmt}{t u:TS}{e:Expr}{te:TE}{pos:Pos}
abbrev VB:TS:=λD σ H=>D.nx σ H
abbrev akn(t u:TS):TS:=λD σ H=>t { D with nx:=u D } σ H
theorem cD:eV X [] VB:=λ_ _ σ H _ I h=>Bn ⟨σ,H,I,h⟩
theorem aD(h1:PS X st t)(h2:eV X rest u):eV X (st::rest) (akn t u):=by
 intro p_ s σ H D I h;refine wpAny_execs_cons (eJ (h1 p_ s σ H { D with nx:=u D } I h) λf s1 q=>?_);cases f with
 | next=>
  exact aW q λσ' H' I' q=>h2 p_ s1 σ' H' D I' q
 | ret v=>exact q
 | brk=>exact q
 | cont=>exact q
theorem aE(h1:PS X st t):eV X [st] t:=by
 intro p_ s σ H D I h;refine wpAny_execs_cons (eJ (h1 p_ s σ H D I h) λf s1 q=>?_);cases f with
 | next=>exact Bn q
 | ret v=>exact q
 | brk=>exact q
 | cont=>exact q
theorem Inv.quiet(I:Inv X p_ σ H s):interactive X.env=false:=by simp[interactive,I.ok.kind]
abbrev aiu(te:TE):TS:=λD σ H=>te σ H λ_ H1=>D.nx σ H1
theorem dg(he:PE X e te)(hs:Ep e b_ pos.line X.env=pure false:=by rfl):PS X (.Expr e pos) (aiu te):=by
 intro p_ s σ H D I h;exact wpAny_Expr_any (dC (he p_ s σ H _ I h) λv s1 x H1 I1 r1 q1=>⟨σ,H1,I1,q1⟩) I.quiet hs
abbrev Cw(te:TE):TS:=λD σ H=>te σ H D.rt
theorem a8(he:PE X e te):PS X (.Return (a_ e) pos) (Cw te):=by
 intro p_ s σ H D I h;exact wpAny_Return_some (dC (he p_ s σ H _ I h) λv s1 x H1 I1 r1 q1=>⟨x,σ,H1,I1,r1,q1⟩)
abbrev Wv(c:TT)(t u:TS):TS:=λD σ H=>c σ H λb H1=>if b=c_ then t D σ H1 else u D σ H1
theorem b9{a b:List Stmt}(hc:PT X c tc)(ha:eV X a t)(hb:eV X b u):PS X (.If c a b pos) (Wv tc t u):=by
 intro p_ s σ H D I h;refine wpAny_If (AF (hc p_ s σ H _ I h) λd s1 H1 I1 q1=>?_);cases d with
 | true=>exact ha p_ s1 σ H1 D I1 q1
 | false=>exact hb p_ s1 σ H1 D I1 q1
def ago:TS:=λ_ _ _=>False
theorem zQ{sts:List Stmt}:eV X sts ago:=λ_ _ _ _ _ _ h=>h.elim
end
abbrev TG:=V->St->Hp->(St->Hp->Prop)->Prop
abbrev yM:=List V->St->Hp->(St->Hp->Prop)->Prop
def PG(X:Cx)(target:Expr)(t:TG):Prop:=
 ∀(p_:List (e_×Obj)) (s:g_) (σ:St) (H:Hp) (v:V) (u:f_) (Q:St->Hp->Prop),Inv X p_ σ H s->RelV v u->t v σ H Q->
  wpAny (model X.prog X.w) X.A (assign target X.env u) (λ_ s'=>∃σ' H',Inv X p_ σ' H' s'/\Q σ' H') X.xe s
def He(X:Cx)(ts:List Expr)(t:yM):Prop:=
 ∀(p_:List (e_×Obj)) (s:g_) (σ:St) (H:Hp) (vs:List V) (us:List f_) (Q:St->Hp->Prop),Inv X p_ σ H s->Vals vs us->t vs σ H Q->
  wpAny (model X.prog X.w) X.A (assignInOrder ((BB ts X.env).map (·.2)) us) (λ_ s'=>∃σ' H',Inv X p_ σ' H' s'/\Q σ' H') X.xe s
abbrev CG:=V->V->V->Hp->(Hp->Prop)->Prop
def NI(X:Cx)(t:CG):Prop:=
 ∀(p_:List (e_×Obj)) (s:g_) (σ:St) (H:Hp) (o i v:V) (ov iv u:f_) (Q:Hp->Prop),Inv X p_ σ H s->RelV o ov->RelV i iv->RelV v u->t o i v H Q->
  wpAny (model X.prog X.w) X.A (setItem ov iv u) (λ_ s'=>∃H',Inv X p_ σ H' s'/\Q H') X.xe s
abbrev Ha:=V->V->Hp->VK->Prop
def XY(X:Cx)(op:Operator)(t:Ha):Prop:=
 ∀(p_:List (e_×Obj)) (s:g_) (σ:St) (H:Hp) (x y:V) (v u:f_) (Q:VK),Inv X p_ σ H s->RelV x v->RelV y u->t x y H Q->
  wpAny (model X.prog X.w) X.A (inplaceOp op v u) (EP X p_ σ Q) X.xe s
section
variable{X:Cx}{pos:Pos}
abbrev jd(i:Nat):TG:=λv σ H Q=>Q (σ.set i (a_ v)) H
theorem de{i:Nat}(hN:X.N.Nodup)(hi:X.N[i]?=a_ x)(hx:Loc X.env.scope x)(hf:X.fn x=c_\/X.env.scope.names.lookup x=a_ .local:=by first | exact .inl rfl | exact .inr rfl | assumption):PG X (.Name x pos) (jd i):=by
 intro p_ s σ H v u Q I r h;exact wpAny_assign_Name (JW I hN hi hx r (λs' I'=>⟨_,H,I',h⟩) hf)
def WJ:yM:=λvs σ H Q=>vs=[]/\Q σ H
def MO(t:TG)(u:yM):yM:=λvs σ H Q=>∃v r,vs=v::r/\t v σ H λσ' H'=>u r σ' H' Q
theorem sW:He X [] WJ:=by
 intro p_ s σ H vs us Q I r h;obtain⟨e,h⟩:=h;subst e;cases r;exact assignInOrder_nil ⟨σ,H,I,h⟩
theorem jW{es:List Expr}{u:yM}(h1:PG X e t)(h2:He X es u)
  (hs:(BB (e::es) X.env).map (·.2)=assign e X.env::(BB es X.env).map (·.2):=by rfl):He X (e::es) (MO t u):=by
 intro p_ s σ H vs us Q I r h;obtain⟨v,vr,e1,h⟩:=h;subst e1;cases r with
 | cons r rr=>
  rw[hs];exact assignInOrder_cons (eJ (h1 p_ s σ H _ _ _ I r h) λ_ s1 ⟨σ1,H1,I1,q1⟩=>h2 p_ s1 σ1 H1 _ _ Q I1 rr q1)
def WI(K:PySem.W.Frag)(n:Nat)(t:yM):TG:=λv σ H Q=>∃a xs,v=.ref a/\aI K H a xs/\xs.length=n/\t xs σ H Q
theorem sZ{es:List Expr}{k:Nat}{t:yM}{n:Nat}(hc:X.calm=c_)(h:He X es t)
  (hn:(BB es X.env).length=n:=by rfl) (dn:(BB es X.env).findIdx? (·.1)=none:=by rfl):PG X (.Tuple es k pos) (WI X.K n t):=by
 intro p_ s σ H v u Q I r hw;obtain⟨a,xs,e1,hq,hl,hw⟩:=hw;subst e1;cases r;obtain⟨aw,rv,ht,hz⟩:=I.tuple hq;refine assign_Tuple_tuple (I.ok.hd hc) ht (by simp[hn,<-hl,rv.length]) dn λh' hx=>?_;have I1:=I.kept (t':=s.toks) λb o e=>hx b o (gh (cH e)) e;exact h p_ _ σ H xs _ Q I1 (by simpa using rv) hw
def akH(to ti:TE)(t:CG):TG:=λv σ H Q=>to σ H λo H1=>ti σ H1 λi H2=>t o i v H2 λH3=>Q σ H3
theorem ow{t:CG}(ho:PE X o to)(hi:PE X i ti)(hs:NI X t)
  (ha:∀v,assign (.Subscript o i pos) X.env v=(do
   let ov <-holding [v] (eval o X.env)
   let iv <-holding [v,ov] (eval i X.env)
   standAt pos
   holding [v,ov,iv] (setItem ov iv v)
   release [v,ov,iv] []):=by intro _;rfl):PG X (.Subscript o i pos) (akH to ti t):=by
 intro p_ s σ H v u Q I r h;rw[ha];exact ay (pP (dC (ho p_ s σ H _ I h) λov s1 x H1 I1 r1 q1=>ay (pP (dC (hi p_ s1 σ H1 _ I1 q1) λiv s2 y H2 I2 r2 q2=>ay (zy (ay (pP (eJ (hs p_ s2 σ H2 x y v ov iv u _ I2 r1 r2 r q2) λ_ s3 ⟨H3,I3,q3⟩=>wpAny_release ⟨σ,H3,I3,q3⟩))))))))
abbrev Ni(te:TE)(g:TG):TS:=λD σ H=>te σ H λx H1=>g x σ H1 D.nx
theorem mm(he:PE X e te)(hg:PG X tg g)(hs:swapsWithSole [tg] e pos.line X.env=pure false:=by rfl)(hw:swappedStores [tg] e X.env=pure none:=by rfl)
  (h1:(BB [tg] X.env).map (·.2)=[assign tg X.env]:=by rfl):PS X (.Assign [tg] e pos) (Ni te g):=by
 intro p_ s σ H D I h;refine wpAny_Assign_stores (dC (he p_ s σ H _ I h) λv s1 x H1 I1 r1 q1=>?_) hs hw;rw[h1];exact eJ (hg p_ s1 σ H1 x v _ I1 r1 q1) λ_ s2 q=>q
theorem bJ{i:Nat}(hN:X.N.Nodup)(hi:X.N[i]?=a_ x)(hx:Loc X.env.scope x)(he:PE X e te)(hs:Ep e (a_ (.Name x pos')) pos.line X.env=pure false:=by rfl)(hf:X.fn x=c_\/X.env.scope.names.lookup x=a_ .local:=by first | exact .inl rfl | exact .inr rfl | assumption) :
  PS X (.Assign [.Name x pos'] e pos) (Ni te (jd i)):=by
 intro p_ s σ H D I h;refine wpAny_Assign_Name (dC (he p_ s σ H _ I h) λv s1 y H1 I1 r1 q1=>?_) hs;exact JW I1 hN hi hx r1 (λs2 I2=>⟨_,H1,I2,q1⟩) hf
def aiv(to ti te:TE)(Ga:V->V->Hp->VK->Prop)(Hj:Ha)(F9:CG):TS:=λD σ H=>to σ H λo H1=>ti σ H1 λi H2=>Ga o i H2 λx H3=>te σ H3 λy H4=>Hj x y H4 λz H5=>F9 o i z H5 λH6=>D.nx σ H6
def WN(X:Cx)(t:V->V->Hp->VK->Prop):Prop:=
 ∀(p_:List (e_×Obj)) (s:g_) (σ:St) (H:Hp) (o i:V) (ov iv:f_) (Q:VK),Inv X p_ σ H s->RelV o ov->RelV i iv->t o i H Q->
  wpAny (model X.prog X.w) X.A (getItem ov iv) (EP X p_ σ Q) X.xe s
theorem afi{Ga:V->V->Hp->VK->Prop}{Hj:Ha}{F9:CG}{op:Operator}(ho:PE X o to)(hi:PE X i ti)(hg:WN X Ga)(he:PE X e te)(hp:XY X op Hj)(hs:NI X F9)
  (ha:∀ov iv new,augStore i ov iv new=(do holding [new,ov,iv] (setItem ov iv new);release [new,ov,iv] [];pure .next):=by intros;rfl):PS X (.AugAssign (.Subscript o i F') op e pos) (aiv to ti te Ga Hj F9):=by
 intro p_ s σ H D I h;refine wpAny_AugAssign_SubscriptAny (dC (ho p_ s σ H _ I h) λov s1 x1 H1 I1 r1 q1=>?_) ha;exact dC (hi p_ s1 σ H1 _ I1 q1) λiv s2 x2 H2 I2 r2 q2=>dC (hg p_ s2 σ H2 x1 x2 ov iv _ I2 r1 r2 q2) λold s3 x3 H3 I3 r3 q3=>dC (he p_ s3 σ H3 _ I3 q3) λv s4 x4 H4 I4 r4 q4=>dC (hp p_ s4 σ H4 x3 x4 old v _ I4 r3 r4 q4) λnew s5 x5 H5 I5 r5 q5=>eJ (hs p_ s5 σ H5 x1 x2 x5 ov iv new _ I5 r1 r2 r5 q5) λ_ s6 ⟨H6,I6,q6⟩=>⟨σ,H6,I6,q6⟩
def ipI(f:Int->Int->Int):Ha:=λx y H Q=>∃i j,x=.int i/\y=.int j/\Q (.int (f i j)) H
theorem ahl:XY X .Add (ipI λi j=>i+j):=by
 intro p_ s σ H x y v u Q I r1 r2 h;refine cI h λi j e1 e2 q=>?_;subst e1;subst e2;refine oE r1 λt aa=>?_;clear r1;subst aa;refine oE r2 λt' aa=>?_;clear r2;subst aa;exact iadd_int ⟨.int _,H,I.tok _,⟨_,rfl⟩,q⟩
end
section
variable{X:Cx}{pos:Pos}
def agl(c:TT)(tb:TS):TS:=λD σ H=>∃W:Nat->St->Hp->Prop,(∃m,W m σ H)/\∀m σ H,W m σ H->
 c σ H λb H1=>if b=c_ then ∃N:St->Hp->Prop,(∀σ' H',N σ' H'->∃m',m'<m/\W m' σ' H')/\tb { D with nx:=N,ct:=N,bk:=D.nx } σ H1 else D.nx σ H1
theorem BJ{body:List Stmt}(hp:iI (model X.prog X.w) X.A X.env X.xe)(hc:PT X c tc)(hb:eV X body tb):PS X (.While c body [] pos) (agl tc tb):=by
 intro p_ s σ H D I h;refine af h λW aa turn=>oE aa λm0 w0=>wpAny_While (codeAny_whileLoop (λn s'=>∃σ' H',Inv X p_ σ' H' s'/\W n σ' H') ?_ m0 ⟨σ,H,I,w0⟩);rintro n s1 ⟨σ1,H1,I1,w1⟩;refine zw hp (AF (hc p_ s1 σ1 H1 _ I1 (turn n σ1 H1 w1)) λb s2 H2 I2 q2=>?_);cases b with
 | true=>
  refine af q2 λN hN q2=>?_;rw[if_pos rfl];refine zw hp (eJ (hb p_ s2 σ1 H2 _ I2 q2) λf s3 q3=>?_);cases f with
  | next=>
   exact aW q3 λσ3 H3 I3 n3=>af (hN σ3 H3 n3) λm' hm w3=>⟨m',hm,σ3,H3,I3,w3⟩
  | cont=>
   exact aW q3 λσ3 H3 I3 n3=>af (hN σ3 H3 n3) λm' hm w3=>⟨m',hm,σ3,H3,I3,w3⟩
  | brk=>exact q3
  | ret v=>exact q3
 | false=>
  rw[if_neg dY];exact Bn ⟨σ1,H2,I2,q2⟩
end
structure It where
 go:Nat->Hp->Prop
 xw:Nat->Hp->V->Hp->Prop
 stop:Nat->Hp->Prop
def gU(X:Cx)(p_:List (e_×Obj))(H:Hp)(b:e_):Prop:=
 H b=b_/\b≠X.env.locals/\b∉X.fs/\(b∈X.ex\/X.s₀.heap.objs.size<=b)/\(∀x c,X.env.cells.lookup x=a_ c->c≠b)/\∀p∈X.pn++p_,p.1≠b
theorem Inv.iY{X:Cx}(I:Inv X p_ σ H s)(hb:s.heap.objs.size<=b)(hn:H' b=b_):gU X p_ H' b:=by
 exact⟨hn,ur (gI I.lt hb),I.WE hb,.inr (cC I.sz hb),λx c e z=>oE (I.cell x c e) λv q=>absurd (gI q.lt (by rw[z];exact hb)) (mh _),λp hp z=>absurd (gI (cH (I.pin p hp).1) (by rw[z];exact hb)) (mh _)⟩
structure Turn(P:l_)(w:k_)(K:PySem.W.Frag)(tg:Expr)(J:It)(fp:List e_)(it:e_)(tn:Nat->j_->Prop):Prop where
 mem:it∈fp
 obj:∀i h,tn i h->∀b∈fp,∃o,h.get? b=a_ o/\∀v,o.data≠.cell v
 keep:∀i h h',tn i h->(∀b∈fp,∀o,h.get? b=a_ o->h'.get? b=a_ o)->tn i h'
 item:∀(X:Cx),X.prog=P->X.w=w->X.K=K->X.calm=c_->∀(i:Nat) (p_:List (e_×Obj)) (s:g_) (σ:St) (H:Hp) (E:f_->g_->Prop),Inv X p_ σ H s->(∀b∈fp,gU X p_ H b)->tn i s.heap->J.go i H->
  wpAny (model P w) X.A (pyNext (.ref it)) (λr s1=>∃u,r=a_ u/\
   wpAny (model P w) X.A (IS tg (.ref it) u) (λ_ s2=>∃x H',Inv X p_ σ H' s2/\RelV x u/\J.xw i H x H'/\tn (i+1) s2.heap/\∀b∈fp,H' b=b_) E s1) E s
 done:∀(X:Cx),X.prog=P->X.w=w->X.K=K->X.calm=c_->∀(i:Nat) (p_:List (e_×Obj)) (s:g_) (σ:St) (H:Hp) (E:f_->g_->Prop),Inv X p_ σ H s->(∀b∈fp,gU X p_ H b)->tn i s.heap->J.stop i H->
  wpAny (model P w) X.A (pyNext (.ref it)) (λr s1=>r=b_/\Inv X p_ σ H s1) E s
 self:∀(A:h_) (i:Nat) (s:g_) (Q:f_->g_->Prop) (E:f_->g_->Prop),tn i s.heap->Q (.ref it) s->wpAny (model P w) A (pyIter (.ref it)) Q E s
abbrev TI:=St->Hp->(It->Hp->Prop)->Prop
def XZ(X:Cx)(p_:List (e_×Obj))(σ:St)(tg:Expr)(R:It->Hp->Prop)(HE:f_)(s2:g_):Prop:=
 ∃(it:e_) (fp:List e_) (tn:Nat->j_->Prop) (J:It) (H':Hp),HE=.ref it/\Inv X p_ σ H' s2/\Turn X.prog X.w X.K tg J fp it tn/\tn 0 s2.heap/\(∀b∈fp,gU X p_ H' b)/\R J H'
def PI(X:Cx)(tg iter:Expr)(wi:TI):Prop:=
 ∀(p_:List (e_×Obj)) (s:g_) (σ:St) (H:Hp) (R:It->Hp->Prop),Inv X p_ σ H s->wi σ H R->
  wpAny (model X.prog X.w) X.A (eval iter X.env) (λv s1=>wpAny (model X.prog X.w) X.A (pyIter v) (XZ X p_ σ tg R) X.xe s1) X.xe s
theorem MN{M:Model}{n:String}{vs:Array f_}{Q:Unit->g_->Prop}(ho:s.heap.get? it=a_ o)(hc:o.cls=.type n)(hd:o.data=.fields vs)
  (hn:["enumerate","zip","dict_itemiterator","dict_reverseitemiterator","odict_iterator","itertools.zip_longest","itertools.pairwise"].contains n=d_) (hQ:Q () s):wpAny M A (IS tg (.ref it) u) Q E s:=by
 unfold IS
 cases tg <;> first
  | exact a7 hQ
  | (cases u <;> first
    | exact a7 hQ
    | (refine ay (wpAny_load ho ?_);rw[hc,hd];show wpAny M A (if (["enumerate","zip","dict_itemiterator","dict_reverseitemiterator","odict_iterator","itertools.zip_longest","itertools.pairwise"].contains n&&vs[0]? == a_ (rawInt _))=c_ then _ else _) Q E s;rw[if_neg (by intro h;rw[hn,rH]at h;cases h)];exact a7 hQ))
def CW(K:PySem.W.Frag)(a:e_):It:=
 ⟨λi H=>∃xs x,aj K H a xs/\xs[i]?=a_ x,λi H x H'=>H'=H/\∀xs,aj K H a xs->xs[i]?=a_ x,λi H=>∃xs,aj K H a xs/\xs.length<=i⟩
def X1(K:PySem.W.Frag)(a:e_):It:=
 ⟨λi H=>∃xs x,aI K H a xs/\xs[i]?=a_ x,λi H x H'=>H'=H/\∀xs,aI K H a xs->xs[i]?=a_ x,λi H=>∃xs,aI K H a xs/\xs.length<=i⟩
def yN(lo:Int)(n:Nat):It:=⟨λi _=>i<n,λi H x H'=>H'=H/\x=.int (lo+i),λi _=>n<=i⟩
theorem acn{P:l_}{w:k_}{K:PySem.W.Frag}(a it:e_):Turn P w K tg (CW K a) [it] it (λi h=>h.IsListIter it a i) where
 mem:=by simp
 obj:=λi h st b hb=>by
  have e:b=it:=by simpa using hb
  subst e;exact aG st λo e c d=>⟨o,e,λv z=>by rw[d]at z;cases z⟩
 keep:=λi h h' st k=>st.at λo e=>k it (by simp) o e
 item:=by
  intro X hP hw hK hc i p_ s σ H E I hf st hg;subst hP hw hK;refine aW hg λxs x hq hx=>aG (I.list hq) λaw rv p hz=>af (rv.get hx) λu hu ru=>iO (hf it (by simp)) λf0 f1 f2 f3 f4 f5=>wpAny_pyNext_list_item st p.isList (x:=u) (by simpa using hu) λh' xE sb=>?_;have I1:=I.turned (t':=s.toks) (λb o hb e=>(sb.2 b hb).trans e) f0 f1 f3 f4 f5;exact aG (id xE) λo e c d=>⟨u,rfl,MN (s:={ s with heap:=h' }) e c d qc ⟨x,H,I1,ru,⟨rfl,λys hy=>by rw[I.S4 hy hq];exact hx⟩,xE,λb hb=>(hf b hb).1⟩⟩
 done:=by
  intro X hP hw hK hc i p_ s σ H E I hf st hg;subst hP hw hK;refine af hg λxs hq hx=>aG (I.list hq) λaw rv p hz=>iO (hf it (by simp)) λf0 f1 f2 f3 f4 f5=>?_;have hl:=rv.length;exact wpAny_pyNext_list_end (I.ok.hd hc) st p.isList (by simp;lia) λh' eb=>⟨rfl,I.turned (t':=s.toks) (λb o hb e=>eb b o hb e) f0 f1 f3 f4 f5⟩
 self:=λ_ _ _ _ _ st h=>wpAny_pyIter_listiter st h
theorem abO{P:l_}{w:k_}{K:PySem.W.Frag}(a it:e_):Turn P w K tg (X1 K a) [it] it (λi h=>h.IsTupleIter it a i) where
 mem:=by simp
 obj:=λi h st b hb=>by
  have e:b=it:=by simpa using hb
  subst e;exact aG st λo e c d=>⟨o,e,λv z=>by rw[d]at z;cases z⟩
 keep:=λi h h' st k=>st.at λo e=>k it (by simp) o e
 item:=by
  intro X hP hw hK hc i p_ s σ H E I hf st hg;subst hP hw hK;refine aW hg λxs x hq hx=>aG (I.tuple hq) λaw rv p hz=>af (rv.get hx) λu hu ru=>iO (hf it (by simp)) λf0 f1 f2 f3 f4 f5=>wpAny_pyNext_tuple_item st (show s.heap.IsTuple a aw.toArray from p) (x:=u) (by simpa using hu) λh' xE sb=>?_;have I1:=I.turned (t':=s.toks) (λb o hb e=>(sb.2 b hb).trans e) f0 f1 f3 f4 f5;exact aG (id xE) λo e c d=>⟨u,rfl,MN (s:={ s with heap:=h' }) e c d qc ⟨x,H,I1,ru,⟨rfl,λys hy=>by rw[I.Rx hy hq];exact hx⟩,xE,λb hb=>(hf b hb).1⟩⟩
 done:=by
  intro X hP hw hK hc i p_ s σ H E I hf st hg;subst hP hw hK;refine af hg λxs hq hx=>aG (I.tuple hq) λaw rv p hz=>iO (hf it (by simp)) λf0 f1 f2 f3 f4 f5=>?_;have hl:=rv.length;exact wpAny_pyNext_tuple_end (I.ok.hd hc) st (show s.heap.IsTuple a aw.toArray from p) (by simp;omega) λh' eb=>⟨rfl,I.turned (t':=s.toks) (λb o hb e=>eb b o hb e) f0 f1 f3 f4 f5⟩
 self:=λ_ _ _ _ _ st h=>wpAny_pyIter_tupleiter st h
theorem abP{P:l_}{w:k_}{K:PySem.W.Frag}(it:e_)(lo:Int)(n:Nat):Turn P w K tg (yN lo n) [it] it (λi h=>IsRangeIter h it (lo+(i:Nat)*1) ((n:Int)-(i:Nat)) 1) where
 mem:=by simp
 obj:=λi h st b hb=>by
  have e:b=it:=by simpa using hb
  subst e
  exact⟨_,st,λv z=>by
   have z':Data.fields _=Data.cell v:=z;cases z'⟩
 keep:=λi h h' st k=>k it (by simp) _ st
 item:=by
  intro X hP hw hK hc i p_ s σ H E I hf st hg;subst hP hw hK;refine iO (hf it (by simp)) λf0 f1 f2 f3 f4 f5=>?_;have W:=Walks.range (prog:=X.prog) (w:=X.w) (I.ok.hd hc) it lo 1 n;refine W.item i s _ _ hg st λv h' tk hv xE kk=>oE hv λt aa=>?_;clear hv;subst aa;have I1:Inv X p_ σ H { s with heap:=h',toks:=tk }:=I.turned (λb o hb e=>kk b o (by simpa using hb) e) f0 f1 f3 f4 f5;refine⟨_,rfl,MN (s:={ s with heap:=h',toks:=tk }) (n:="range_iterator") xE rfl rfl qc ⟨.int (lo+i),H,I1,⟨t,?_⟩,⟨rfl,rfl⟩,xE,λb hb=>(hf b hb).1⟩⟩;rw[Int.mul_one]
 done:=by
  intro X hP hw hK hc i p_ s σ H E I hf st hg;subst hP hw hK;exact iO (hf it (by simp)) λf0 f1 f2 f3 f4 f5=>wpAny_pyNext_range_end (I.ok.hd hc) st (by have:n<=i:=hg;lia) λh' eb=>⟨rfl,I.turned (t':=s.toks) (λb o hb e=>eb b o hb e) f0 f1 f3 f4 f5⟩
 self:=λ_ _ _ _ _ st h=>wpAny_pyIter_rangeiter st h
section
variable{X:Cx}{tg:Expr}
def ai4(K:PySem.W.Frag)(tl:TE):TI:=λσ H R=>tl σ H λx H1=>∃a,x=.ref a/\(∃xs,aj K H1 a xs)/\R (CW K a) H1
def WH(K:PySem.W.Frag)(tl:TE):TI:=λσ H R=>tl σ H λx H1=>∃a,x=.ref a/\(∃xs,aI K H1 a xs)/\R (X1 K a) H1
theorem rQ(hl:PE X l tl):PI X tg l (ai4 X.K tl):=by
 intro p_ s σ H R I h;refine dC (hl p_ s σ H _ I h) λv s1 x H1 I1 r1 q1=>aG q1 λa e aa q=>oE aa λxs hq=>?_;subst e;cases r1;refine aG (I1.list hq) λaw rv p hz=>IH p.isList ⟨s1.heap.objs.size,[s1.heap.objs.size],_,_,H1,rfl,I1.kept (t':=s1.toks) λb o e=>b8 _ e,acn a _,⟨_,ik _ rfl,rfl,rfl⟩,λb hb=>?_,q⟩;have e:b=s1.heap.objs.size:=by simpa using hb
 subst e;exact I1.iY (aN _) (I1.aQ.fresh (aN _))
theorem uJ(hl:PE X l tl):PI X tg l (WH X.K tl):=by
 intro p_ s σ H R I h;refine dC (hl p_ s σ H _ I h) λv s1 x H1 I1 r1 q1=>aG q1 λa e aa q=>oE aa λxs hq=>?_;subst e;cases r1;refine aG (I1.tuple hq) λaw rv p hz=>wpAny_pyIter_tuple (show s1.heap.IsTuple a aw.toArray from p) ⟨s1.heap.objs.size,[s1.heap.objs.size],_,_,H1,rfl,I1.kept (t':=s1.toks) λb o e=>b8 _ e,abO a _,⟨_,ik _ rfl,rfl,rfl⟩,λb hb=>?_,q⟩;have e:b=s1.heap.objs.size:=by simpa using hb
 subst e;exact I1.iY (aN _) (I1.aQ.fresh (aN _))
theorem SW{R:It->Hp->Prop}{lo hi:Int}{t u v:Tok}{tk:Nat}(I:Inv X p_ σ H s)(h1:-(2^62)<=lo)(h2:lo<2^62)(h3:-(2^62)<=hi)(h4:hi<2^62)
  (q:R (yN lo (hi-lo).toNat) H):wpAny (model X.prog X.w) X.A (pyIter (.ref s.heap.objs.size)) (XZ X p_ σ tg R) E { s with heap:=s.heap.push { cls:=.type "range",data:=.fields #[.int lo t,.int hi u,.int 1 v] },toks:=tk }:=by
 refine wpAny_pyIter_range (IsRange.new ..) (small_one h1 h2 h3 h4) ?_;have I1:Inv X p_ σ H { s with heap:=s.heap.push { cls:=.type "range",data:=.fields #[.int lo t,.int hi u,.int 1 v] },toks:=tk }:=I.kept λb o e=>b8 _ e;refine⟨(s.heap.push { cls:=.type "range",data:=.fields #[.int lo t,.int hi u,.int 1 v] }).objs.size,[(s.heap.push { cls:=.type "range",data:=.fields #[.int lo t,.int hi u,.int 1 v] }).objs.size],_,_,H,rfl,I1.kept (t':=tk) λb o e=>b8 _ e,abP _ lo (hi-lo).toNat,?_,λb hb=>?_,q⟩
 ·have e1:lo+((0:Nat):Int)*1=lo:=by simp
  have e2:(((hi-lo).toNat:Nat):Int)-((0:Nat):Int)=Builtin.Range.rangeSize lo hi 1:=by rw[rangeSize_one];split <;> lia
  show IsRangeIter _ _ (lo+((0:Nat):Int)*1) ((((hi-lo).toNat:Nat):Int)-((0:Nat):Int)) 1;rw[e1,e2];exact ik _ rfl
 ·have e:b=(s.heap.push { cls:=.type "range",data:=.fields #[.int lo t,.int hi u,.int 1 v] }).objs.size:=by simpa using hb
  subst e;exact I1.iY (aN _) (I1.aQ.fresh (aN _))
def ai3(ta:TA):TI:=λσ H R=>ta σ H λvs H1=>∃j:Int,vs=[.int j]/\-(2^62)<=j/\j<2^62/\R (yN 0 j.toNat) H1
def ai2(ta:TA):TI:=λσ H R=>ta σ H λvs H1=>∃i j:Int,vs=[.int i,.int j]/\(-(2^62)<=i/\i<2^62/\-(2^62)<=j/\j<2^62)/\R (yN i (j-i).toNat) H1
theorem sU(hg:Gl X "range")(hm:X.mg "range" = b_)(ha:PA X [a] ta)(hs:cQ [a] X.env=[(d_,eval a X.env)]:=by rfl):PI X tg (.Call (.Name "range" p) [a] [] pos) (ai3 ta):=by
 intro p_ s σ H R I h;refine Call_ (tf I hg hm boot_range (zm (lU (ha pos p_ s σ H _ I h) λus s1 vs H1 I1 r1 q1=>?_) hs rfl));obtain⟨j,e,q1,q2,q⟩:=q1;subst e;cases r1 with
 | cons r rr=>
  cases rr;obtain⟨t,rfl⟩:=r;exact call_range_1 (SW I1 li li q1 q2 (by simpa using q))
theorem RH(hg:Gl X "range")(hm:X.mg "range" = b_)(ha:PA X [a,b] ta)(hs:cQ [a,b] X.env=[(d_,eval a X.env),(d_,eval b X.env)]:=by rfl)(pM:cQ [b] X.env=[(d_,eval b X.env)]:=by rfl) :
  PI X tg (.Call (.Name "range" p) [a,b] [] pos) (ai2 ta):=by
 intro p_ s σ H R I h;refine Call_ (tf I hg hm boot_range (zm (lU (ha pos p_ s σ H _ I h) λus s1 vs H1 I1 r1 q1=>?_) (by rw[hs,pM]) (by rw[pM];rfl)));obtain⟨i,j,e,⟨q1,q2,q3,q4⟩,q⟩:=q1;subst e;cases r1 with
 | cons r rr=>
  cases rr with
  | cons r' rr=>
   cases rr;obtain⟨t,rfl⟩:=r;obtain⟨t',rfl⟩:=r';exact call_range_2 (SW I1 q1 q2 q3 q4 q)
def akq(wi:TI)(g:TG)(tb:TS):TS:=λD σ H=>wi σ H λJ H1=>∃W:Nat->Nat->St->Hp->Prop,(∃m,W 0 m σ H1)/\∀i m σ H,W i m σ H->
 (J.stop i H/\D.nx σ H)\/(J.go i H/\∃N:St->Hp->Prop,(∀σ' H',N σ' H'->∃m',m'<m/\W (i+1) m' σ' H')/\∀x H',J.xw i H x H'->g x σ H' λσ2 H2=>tb { D with nx:=N,ct:=N,bk:=D.nx } σ2 H2)
def Ca(fp:List e_)(h:j_):List (e_×Obj):=fp.filterMap λb=>(h.get? b).map λo=>(b,o)
theorem zO{fp:List e_}(hb:b∈fp)(e:h.get? b=a_ o):(b,o)∈Ca fp h:=IE.mpr ⟨b,hb,by rw[e];rfl⟩
theorem RK{fp:List e_}{p:e_×Obj}(hp:p∈Ca fp h):p.1∈fp/\h.get? p.1=a_ p.2:=by
 refine af (IE.mp hp) λb hb e=>?_;cases q:h.get? b with
 | none=>rw[q]at e;cases e
 | some o=>
  rw[q]at e;have e':(b,o)=p:=dq e;subst e';exact⟨hb,q⟩
theorem Inv.pinned{fp:List e_}(I:Inv X p_ σ H s)(hf:∀b∈fp,gU X p_ H b)(ho:∀b∈fp,∃o,s.heap.get? b=a_ o/\∀v,o.data≠.cell v):Inv X (p_++Ca fp s.heap) σ H s:=
 I.wd λp hp=>(jA.mp hp).elim (λz=>I.pin p (hG _ z)) λz=>by
  refine oA (RK z) λhb e=>iB (hf p.1 hb) λf0 f1 f2 _=>af (ho p.1 hb) λo e' d=>?_;rw[e]at e';cases e';exact⟨e,f0,f1,f2,d⟩
theorem Inv.Es(I:Inv X (p_++pl) σ H s):Inv X p_ σ H s:=I.wd λp hp=>I.pin p (hG _ (pO _ hp))
theorem pB{body:List Stmt}{wi:TI}(hp:iI (model X.prog X.w) X.A X.env X.xe)(hc:X.calm=c_)(hi:PI X tg iter wi)(hg:PG X tg g)(hb:eV X body tb)
  (hs:∀x,Qn iter X.env x=pure x:=by intro _;rfl):PS X (.For tg iter body [] pos) (akq wi g tb):=by
 intro p_ s σ H D I h;refine wpAny_For (eJ (hi p_ s σ H _ I h) λv s1 h1=>eJ h1 λHE s2 h2=>?_) hs;refine lG h2 λit fp tn J H2 e I2 T C8 f2 aa=>af aa λW aa turn=>oE aa λm0 w0=>?_;subst e;have NL:∀{H':Hp},(∀b∈fp,H' b=b_)->∀b∈fp,gU X p_ H' b:=λhn b hb=>⟨hn b hb,(f2 b hb).2⟩;refine codeAny_forLoop_any (λn s'=>∃i σ' H',Inv X p_ σ' H' s'/\tn i s'.heap/\(∀b∈fp,H' b=b_)/\W i n σ' H') ?_ m0 ⟨0,σ,H2,I2,C8,λb hb=>(f2 b hb).1,w0⟩;rintro n s3 ⟨i,σ3,H3,I3,C7,DG,w3⟩;rcases turn i n σ3 H3 w3 with ⟨stop,qn⟩ | ⟨go,N,hN,step⟩
 ·refine zw hp (eJ (T.done X rfl rfl rfl hc i p_ s3 σ3 H3 X.xe I3 (NL DG) C7 stop) λr s4 ⟨hr,I4⟩=>?_);subst hr;exact Bn ⟨σ3,H3,I4,qn⟩
 ·refine zw hp (eJ (T.item X rfl rfl rfl hc i p_ s3 σ3 H3 X.xe I3 (NL DG) C7 go) λr s4 ⟨u,hr,h4⟩=>?_);subst hr;refine zw hp (eJ h4 λ_ s5 ⟨x,H5,I5,r5,y5,vq,Py⟩=>?_);have PU:=I5.pinned (NL Py) (T.obj _ _ vq);refine zw hp (eJ (hg _ s5 σ3 H5 x u _ PU r5 (step x H5 y5)) λ_ s6 ⟨σ6,H6,I6,q6⟩=>zw hp (eJ (hb _ s6 σ6 H6 _ I6 q6) λf s7 q7=>?_))
  have again:∀{σ7:St} {H7:Hp},Inv X (p_++Ca fp s5.heap) σ7 H7 s7->N σ7 H7->∃m,m<n/\∃i σ' H',Inv X p_ σ' H' s7/\tn i s7.heap/\(∀b∈fp,H' b=b_)/\W i m σ' H':=λ{σ7 H7} I7 n7=>by
   refine af (hN σ7 H7 n7) λm' hm w7=>⟨m',hm,i+1,σ7,H7,I7.Es,T.keep _ _ _ vq λb hb o e=>(I7.pin (b,o) (hG _ (hG _ (zO hb e)))).1,λb hb=>?_,w7⟩;exact af (T.obj _ _ vq b hb) λo e d=>(I7.pin (b,o) (hG _ (hG _ (zO hb e)))).2.1
  cases f with
  | next=>obtain⟨σ7,H7,I7,n7⟩:=q7;exact again I7 n7
  | cont=>obtain⟨σ7,H7,I7,n7⟩:=q7;exact again I7 n7
  | brk=>obtain⟨σ7,H7,I7,q7⟩:=q7;exact⟨σ7,H7,I7.Es,q7⟩
  | ret v=>obtain⟨x7,σ7,H7,I7,r7,q7⟩:=q7;exact⟨x7,σ7,H7,I7.Es,r7,q7⟩
end
theorem Kl{K:PySem.W.Frag}{a:e_}{xs:List V}{g:TG}{tb:TS}{D:Ends}{σ:St}{H:Hp}(Pv:Nat->St->Hp->Prop)(h0:Pv 0 σ H)(hl:∀i σ H,i<=xs.length->Pv i σ H->aj K H a xs)
  (hs:∀i x σ H,xs[i]?=a_ x->Pv i σ H->g x σ H λσ2 H2=>tb { D with nx:=Pv (i+1),ct:=Pv (i+1),bk:=D.nx } σ2 H2) (hd:∀σ H,Pv xs.length σ H->D.nx σ H) :
  ∃W:Nat->Nat->St->Hp->Prop,(∃m,W 0 m σ H)/\∀i m σ H,W i m σ H->
   ((CW K a).stop i H/\D.nx σ H)\/((CW K a).go i H/\∃N:St->Hp->Prop,(∀σ' H',N σ' H'->∃m',m'<m/\W (i+1) m' σ' H')/\∀x H',(CW K a).xw i H x H'->g x σ H' λσ2 H2=>tb { D with nx:=N,ct:=N,bk:=D.nx } σ2 H2):=by
 refine⟨λi m σ H=>m=xs.length-i/\i<=xs.length/\Pv i σ H,⟨xs.length,by simp,cy _,h0⟩,?_⟩;rintro i m σ H ⟨rfl,hi,p⟩;have q:=hl i σ H hi p
 by_cases dJ:i<xs.length
 ·refine .inr ⟨⟨xs,xs[i],q,by simp[dJ]⟩,Pv (i+1),λσ' H' p'=>⟨xs.length-(i+1),om,rfl,dJ,p'⟩,λx H' y=>?_⟩;obtain⟨e,y⟩:=y;subst e;exact hs i x σ _ (y xs q) p
 ·have e:i=xs.length:=li;subst e;exact .inl ⟨⟨xs,q,aN _⟩,hd σ H p⟩
theorem yg{lo:Int}{n:Nat}{g:TG}{tb:TS}{D:Ends}{σ:St}{H:Hp}(Pv:Nat->St->Hp->Prop)(h0:Pv 0 σ H)
  (hs:∀i σ H,i<n->Pv i σ H->g (.int (lo+i)) σ H λσ2 H2=>tb { D with nx:=Pv (i+1),ct:=Pv (i+1),bk:=D.nx } σ2 H2) (hd:∀σ H,Pv n σ H->D.nx σ H) :
  ∃W:Nat->Nat->St->Hp->Prop,(∃m,W 0 m σ H)/\∀i m σ H,W i m σ H->
   ((yN lo n).stop i H/\D.nx σ H)\/((yN lo n).go i H/\∃N:St->Hp->Prop,(∀σ' H',N σ' H'->∃m',m'<m/\W (i+1) m' σ' H')/\∀x H',(yN lo n).xw i H x H'->g x σ H' λσ2 H2=>tb { D with nx:=N,ct:=N,bk:=D.nx } σ2 H2):=by
 refine⟨λi m σ H=>m=n-i/\i<=n/\Pv i σ H,⟨n,by simp,cy _,h0⟩,?_⟩;rintro i m σ H ⟨rfl,hi,p⟩
 by_cases dJ:i<n
 ·refine .inr ⟨dJ,Pv (i+1),λσ' H' p'=>⟨n-(i+1),om,rfl,dJ,p'⟩,λx H' y=>?_⟩;obtain⟨e,y⟩:=y;subst e y;exact hs i σ _ dJ p
 ·have e:i=n:=li;subst e;exact .inl ⟨aN _,hd σ H p⟩
abbrev R2:=V->V->Hp->VK->Prop
def gd(X:Cx)(f:f_->f_->Sem f_)(r:R2):Prop:=
 ∀(p_:List (e_×Obj)) (s:g_) (σ:St) (H:Hp) (x y:V) (v u:f_) (Q:VK),Inv X p_ σ H s->RelV x v->RelV y u->r x y H Q->
  wpAny (model X.prog X.w) X.A (f v u) (EP X p_ σ Q) X.xe s
def Oi(X:Cx)(f:f_->Sem f_)(r:V->Hp->VK->Prop):Prop:=
 ∀(p_:List (e_×Obj)) (s:g_) (σ:St) (H:Hp) (x:V) (v:f_) (Q:VK),Inv X p_ σ H s->RelV x v->r x H Q->
  wpAny (model X.prog X.w) X.A (f v) (EP X p_ σ Q) X.xe s
def oG(X:Cx)(f:f_)(r:List V->Hp->VK->Prop):Prop:=
 ∀(p_:List (e_×Obj)) (s:g_) (σ:St) (H:Hp) (xs:List V) (us:List f_) (Q:VK),Inv X p_ σ H s->Vals xs us->r xs H Q->
  wpAny (model X.prog X.w) X.A (call f us) (EP X p_ σ Q) X.xe s
abbrev lV(r:R2)(ta tb:TE):TE:=λσ H Q=>ta σ H λx H1=>tb σ H1 λy H2=>r x y H2 Q
abbrev tUn(r:V->Hp->VK->Prop)(ta:TE):TE:=λσ H Q=>ta σ H λx H1=>r x H1 Q
def rI(C:Int->Int->Prop)(g:Int->Int->V):R2:=λx y H Q=>∃i j,x=.int i/\y=.int j/\C i j/\Q (g i j) H
def xx(g:Int->Int->V):R2:=λx y H Q=>∃i j,x=.int i/\y=.int j/\Q (g i j) H
def rU(g:Int->V):V->Hp->VK->Prop:=λx H Q=>∃i,x=.int i/\Q (g i) H
section
variable{X:Cx}{a b c:Expr}{ta tb tc:TE}{pos:Pos}
theorem NH(ha:PE X a ta)(hb:PE X b tb){R:V->V->Hp->Prop}(I:Inv X p_ σ H s)
  (h:ta σ H λx H1=>tb σ H1 λy H2=>R x y H2) {f:f_->f_->Sem f_}
  (hf:∀v u s2 x y H2,Inv X p_ σ H2 s2->RelV x v->RelV y u->R x y H2->wpAny (model X.prog X.w) X.A (f v u) Q X.xe s2) :
  wpAny (model X.prog X.w) X.A (eval a X.env) (λv s₁=>wpAny (model X.prog X.w) X.A (eval b X.env) (λu s₂=>wpAny (model X.prog X.w) X.A (f v u) Q X.xe s₂) X.xe s₁) X.xe s:=by
 exact dC (ha p_ s σ H _ I h) λv s1 x H1 I1 r1 q1=>dC (hb p_ s1 σ H1 _ I1 q1) λu s2 y H2 I2 r2 q2=>hf v u s2 x y H2 I2 r1 r2 q2
theorem bb{op:Operator}{r:R2}(ho:gd X (v7 op) r)(ha:PE X a ta)(hb:PE X b tb):PE X (.BinOp a op b pos) (lV r ta tb):=by
 intro p_ s σ H Q I h;exact wpAny_BinOp (NH ha hb I h λv u s2 x y H2 I2 rx ry q=>ho p_ s2 σ H2 x y v u Q I2 rx ry q)
theorem Ci{op:UnaryOp}{r:V->Hp->VK->Prop}(ho:Oi X (unaryOp op) r)(ha:PE X a ta):PE X (.UnaryOp op a pos) (tUn r ta):=by
 intro p_ s σ H Q I h;exact UnaryOp_ (dC (ha p_ s σ H _ I h) λv s1 x H1 I1 r1 q1=>ho p_ s1 σ H1 x v Q I1 r1 q1)
theorem Gx{f:f_->f_->Sem f_}{C:Int->Int->Prop}{g:Int->Int->Int}
  (rule:∀(i j:Int) (t u:Tok) (s:g_) (Q:f_->g_->Prop) (E:f_->g_->Prop),C i j->Q (.int (g i j) s.toks) { s with toks:=s.toks+1 }->wpAny (model X.prog X.w) X.A (f (.int i t) (.int j u)) Q E s) :
  gd X f (rI C λi j=>.int (g i j)):=by
 intro p_ s σ H x y v u Q I rx ry h;refine kZ h λi j aa aH hc q=>?_;clear h;subst aa;subst aH;obtain⟨t,rfl⟩:=rx;obtain⟨t',rfl⟩:=ry;exact rule i j t t' s _ _ hc ⟨.int (g i j),H,I.tok _,⟨_,rfl⟩,q⟩
theorem WB{f:f_->f_->Sem f_}{g:Int->Int->Int}
  (rule:∀(i j:Int) (t u:Tok) (s:g_) (Q:f_->g_->Prop) (E:f_->g_->Prop),Q (.int (g i j) s.toks) { s with toks:=s.toks+1 }->wpAny (model X.prog X.w) X.A (f (.int i t) (.int j u)) Q E s) :
  gd X f (xx λi j=>.int (g i j)):=by
 intro p_ s σ H x y v u Q I rx ry h;refine cI h λi j aa aH q=>?_;clear h;subst aa;subst aH;obtain⟨t,rfl⟩:=rx;obtain⟨t',rfl⟩:=ry;exact rule i j t t' s _ _ ⟨.int (g i j),H,I.tok _,⟨_,rfl⟩,q⟩
theorem Nw{f:f_->f_->Sem f_}{g:Int->Int->Bool}
  (rule:∀(i j:Int) (t u:Tok) (s:g_) (Q:f_->g_->Prop) (E:f_->g_->Prop),Q (.bool (g i j)) s->wpAny (model X.prog X.w) X.A (f (.int i t) (.int j u)) Q E s) :
  gd X f (xx λi j=>.bl (g i j)):=by
 intro p_ s σ H x y v u Q I rx ry h;refine cI h λi j aa aH q=>?_;clear h;subst aa;subst aH;obtain⟨t,rfl⟩:=rx;obtain⟨t',rfl⟩:=ry;exact rule i j t t' s _ _ ⟨.bl (g i j),H,I,rfl,q⟩
def akQ(i j:Int):Prop:=0<j/\j<1073741824
def akP(i j:Int):Prop:=0<=j/\j<=1000000/\i.natAbs<2^64
def NK(i j:Int):Prop:=(-(2^64)<i/\i<2^64)\/(-(2^64)<j/\j<2^64)
theorem NK.ok{i j:Int}(h:NK i j):IntMulOk i j:=by
 rcases h with ⟨h1,h2⟩ | ⟨h1,h2⟩
 ·exact .of_left (intBits_le_64 h1 h2)
 ·exact .of_right (intBits_le_64 h1 h2)
theorem jc:gd X (v7 .Add) (xx λi j=>.int (i+j)):=WB λ_ _ _ _ _ _ _ q=>add_int q
theorem E4:gd X (v7 .Sub) (xx λi j=>.int (i-j)):=WB λ_ _ _ _ _ _ _ q=>sub_int q
theorem Ab:gd X (v7 .Mult) (rI NK λi j=>.int (i*j)):=Gx λ_ _ _ _ _ _ _ hc q=>mul_int q hc.ok
theorem pA:gd X (v7 .FloorDiv) (rI akQ λi j=>.int (i/j)):=Gx λi j _ _ _ _ _ hc q=>by
 have h1:=hc.1;have h2:=hc.2;exact floordiv_int li (by rw[Int.fdiv_eq_ediv_of_nonneg i li];exact q) (.inl (PyProof.noPylong_small om))
theorem iN:gd X (v7 .Mod) (rI (λ_ j=>0<j) λi j=>.int (i%j)):=Gx λi j _ _ _ _ _ hc q=>by
 have h1:=hc;exact mod_int' li (by rw[Int.fmod_eq_emod_of_nonneg i li];exact q)
theorem agO:gd X (v7 .Pow) (rI akP λi j=>.int (i^j.toNat)):=Gx λ_ _ _ _ _ _ _ hc q=>pow_int_small hc.1 hc.2.1 hc.2.2 q
theorem unI{f:f_->Sem f_}{g:Int->Int}
  (rule:∀(i:Int) (t:Tok) (s:g_) (Q:f_->g_->Prop) (E:f_->g_->Prop),Q (.int (g i) s.toks) { s with toks:=s.toks+1 }->wpAny (model X.prog X.w) X.A (f (.int i t)) Q E s) :
  Oi X f (rU λi=>.int (g i)):=by
 intro p_ s σ H x v Q I rx h;refine af h λi aa q=>?_;clear h;subst aa;obtain⟨t,rfl⟩:=rx;exact rule i t s _ _ ⟨.int (g i),H,I.tok _,⟨_,rfl⟩,q⟩
theorem B3:Oi X (unaryOp .USub) (rU λi=>.int (-i)):=unI λ_ _ _ _ _ q=>neg_int q
end
def Nk:V->V->Bool
 | .aJ,.aJ=>c_ | .aJ,.int _=>c_ | .int _,.aJ=>c_ | .aJ,.bl _=>c_ | .bl _,.aJ=>c_ | .aJ,.str _=>c_ | .str _,.aJ=>c_
 | .int _,.int _=>c_ | .bl _,.bl _=>c_ | .str _,.str _=>c_ | .q8 _,.q8 _=>c_
 | .int _,.str _=>c_ | .str _,.int _=>c_ | .bl _,.str _=>c_ | .str _,.bl _=>c_
 | _,_=>d_
def Od:R2:=λx y H Q=>Nk x y=c_/\Q (.bl (decide (x=y))) H
def XO:R2:=λx y H Q=>Nk x y=c_/\Q (.bl (!decide (x=y))) H
theorem ET{i j:Int}:decide (V.int i=V.int j)=(i == j):=by
 rw[IY];simp
theorem Vp{i j:Bool}:decide (V.bl i=V.bl j)=(i == j):=by
 rw[IY];simp
theorem Us:decide (V.str i=V.str j)=(i == j):=by
 rw[IY];simp
theorem Ut{i j:Array UInt8}:decide (V.q8 i=V.q8 j)=(i.toList == j.toList):=by
 rw[IY];cases i;cases j;simp
section
variable{X:Cx}{a b c:Expr}{ta tb tc:TE}{pos:Pos}
theorem fu{k k':Bool}(I:Inv X p_ σ H s)(q:Q (.bl k) H)(e:k=k'):EP X p_ σ Q (.bool k') s:=by
 subst e;exact⟨.bl k,H,I,rfl,q⟩
theorem dO:gd X (lJ .Eq) Od:=by
 intro p_ s σ H x y v u Q I rx ry h;refine oA h λhs q=>?_;cases x with
 | aJ=>
  cases rx;cases y with
  | aJ=>cases ry;exact PySem.EqNone.eq_none_none (fu I q (by simp))
  | bl j=>cases ry;exact PySem.EqNone.eq_none_bool (fu I q (by simp))
  | int j=>obtain⟨t',rfl⟩:=ry;exact PySem.EqNone.eq_none_int (fu I q (by simp))
  | str j=>obtain⟨t',rfl⟩:=ry;exact PySem.EqNone.eq_none_str (fu I q (by simp))
  | _=>exact absurd (show d_=c_ from hs) dY
 | bl i=>
  cases rx;cases y with
  | aJ=>cases ry;exact PySem.EqNone.eq_bool_none (fu I q (by simp))
  | bl j=>cases ry;exact eq_bool (fu I q Vp)
  | str j=>obtain⟨t',rfl⟩:=ry;exact PySem.EqMixed.eq_bool_str (fu I q (by simp))
  | _=>exact absurd (show d_=c_ from hs) dY
 | int i=>
  obtain⟨t,rfl⟩:=rx;cases y with
  | aJ=>cases ry;exact PySem.EqNone.eq_int_none (fu I q (by simp))
  | int j=>obtain⟨t',rfl⟩:=ry;exact eq_int (fu I q ET)
  | str j=>obtain⟨t',rfl⟩:=ry;exact PySem.EqMixed.eq_int_str (fu I q (by simp))
  | _=>exact absurd (show d_=c_ from hs) dY
 | str i=>
  obtain⟨t,rfl⟩:=rx;cases y with
  | aJ=>cases ry;exact PySem.EqNone.eq_str_none (fu I q (by simp))
  | bl j=>cases ry;exact PySem.EqMixed.eq_str_bool (fu I q (by simp))
  | int j=>obtain⟨t',rfl⟩:=ry;exact PySem.EqMixed.eq_str_int (fu I q (by simp))
  | str j=>obtain⟨t',rfl⟩:=ry;exact eq_str (fu I q Us)
  | _=>exact absurd (show d_=c_ from hs) dY
 | q8 i=>
  obtain⟨t,rfl⟩:=rx;cases y with
  | q8 j=>obtain⟨t',rfl⟩:=ry;exact W.eq_bytes (fu I q Ut)
  | _=>exact absurd (show d_=c_ from hs) dY
 | _=>cases y <;> exact absurd (show d_=c_ from hs) dY
theorem Fu:gd X (lJ .NotEq) XO:=by
 intro p_ s σ H x y v u Q I rx ry h;refine oA h λhs q=>?_;cases x with
 | aJ=>
  cases rx;cases y with
  | aJ=>cases ry;exact PySem.EqNone.ne_none_none (fu I q (by simp))
  | bl j=>cases ry;exact PySem.EqNone.ne_none_bool (fu I q (by simp))
  | int j=>obtain⟨t',rfl⟩:=ry;exact PySem.EqNone.ne_none_int (fu I q (by simp))
  | str j=>obtain⟨t',rfl⟩:=ry;exact PySem.EqNone.ne_none_str (fu I q (by simp))
  | _=>exact absurd (show d_=c_ from hs) dY
 | bl i=>
  cases rx;cases y with
  | aJ=>cases ry;exact PySem.EqNone.ne_bool_none (fu I q (by simp))
  | bl j=>cases ry;exact ne_bool (fu I q (congrArg not Vp))
  | str j=>obtain⟨t',rfl⟩:=ry;exact PySem.EqMixed.ne_bool_str (fu I q (by simp))
  | _=>exact absurd (show d_=c_ from hs) dY
 | int i=>
  obtain⟨t,rfl⟩:=rx;cases y with
  | aJ=>cases ry;exact PySem.EqNone.ne_int_none (fu I q (by simp))
  | int j=>obtain⟨t',rfl⟩:=ry;exact ne_int (fu I q (congrArg not ET))
  | str j=>obtain⟨t',rfl⟩:=ry;exact PySem.EqMixed.ne_int_str (fu I q (by simp))
  | _=>exact absurd (show d_=c_ from hs) dY
 | str i=>
  obtain⟨t,rfl⟩:=rx;cases y with
  | aJ=>cases ry;exact PySem.EqNone.ne_str_none (fu I q (by simp))
  | bl j=>cases ry;exact PySem.EqMixed.ne_str_bool (fu I q (by simp))
  | int j=>obtain⟨t',rfl⟩:=ry;exact PySem.EqMixed.ne_str_int (fu I q (by simp))
  | str j=>obtain⟨t',rfl⟩:=ry;exact ne_str (fu I q (congrArg not Us))
  | _=>exact absurd (show d_=c_ from hs) dY
 | q8 i=>
  obtain⟨t,rfl⟩:=rx;cases y with
  | q8 j=>obtain⟨t',rfl⟩:=ry;exact W.ne_bytes (fu I q (congrArg not Ut))
  | _=>exact absurd (show d_=c_ from hs) dY
 | _=>cases y <;> exact absurd (show d_=c_ from hs) dY
theorem rY:gd X (lJ .Lt) (xx λi j=>.bl (decide (i<j))):=Nw λ_ _ _ _ _ _ _ q=>lt_int q
theorem MF:gd X (lJ .LtE) (xx λi j=>.bl (decide (i<=j))):=Nw λ_ _ _ _ _ _ _ q=>le_int q
theorem yt:gd X (lJ .Gt) (xx λi j=>.bl (decide (j<i))):=Nw λ_ _ _ _ _ _ _ q=>gt_int q
theorem LK:gd X (lJ .Is) (λx y H Q=>y=.aJ/\Q (.bl (decide (x=.aJ))) H):=by
 intro p_ s σ H x y v u Q I rx ry h;refine oA h λaa q=>?_;clear h;subst aa;cases ry;refine is_none_gen (fu I q ?_)
 cases x <;> first
  | (cases rx;rfl)
  | (obtain⟨t,rfl⟩:=rx;rfl)
theorem afm:gd X (lJ .IsNot) (λx y H Q=>y=.aJ/\Q (.bl (!decide (x=.aJ))) H):=by
 intro p_ s σ H x y v u Q I rx ry h;refine oA h λaa q=>?_;clear h;subst aa;cases ry;refine isnot_none_gen (fu I q ?_)
 cases x <;> first
  | (cases rx;rfl)
  | (obtain⟨t,rfl⟩:=rx;rfl)
theorem bf(b:Expr){op:CmpOp}(h:op≠.In:=by decide)(h2:op≠.NotIn:=by decide):Jf op b=false:=by
 have e1:(op == CmpOp.In)=false:=by cases op <;> first | rfl | exact absurd rfl h
 have e2:(op == CmpOp.NotIn)=false:=by cases op <;> first | rfl | exact absurd rfl h2
 cases b <;> simp[Jf,e1,e2]
theorem qG{op:CmpOp}{r:R2}(ho:gd X (lJ op) r)(ha:PE X a ta)(hb:PE X b tb)(hm:Jf op b=d_):PE X (.Compare a [op] [b] pos) (lV r ta tb):=by
 intro p_ s σ H Q I h;exact wpAny_Compare1 (NH ha hb I h λv u s2 x y H2 I2 rx ry q=>ho p_ s2 σ H2 x y v u Q I2 rx ry q) hm
abbrev Fi(t:TE):TT:=λσ H Q=>t σ H λx H'=>∃k,x=.bl k/\Q k H'
theorem br{op:CmpOp}{r:R2}(ho:gd X (lJ op) r)(ha:PE X a ta)(hb:PE X b tb)(hm:Jf op b=d_):PT X (.Compare a [op] [b] pos) (Fi (lV r ta tb)):=by
 intro p_ s σ H Q I h
 refine wpAny_isTrue_Compare1 (dC (ha p_ s σ H _ I h) λv s1 x H1 I1 r1 q1=>dC (hb p_ s1 σ H1 _ I1 q1) λu s2 y H2 I2 r2 q2=>
  dC (ho p_ s2 σ H2 x y v u _ I2 r1 r2 q2) λc s3 z H3 I3 r3 zq=>?_) hm
 refine af zq λk e q3=>?_;subst e;cases r3;exact um ⟨H3,I3,q3⟩
def UE(r r':R2)(ta tb tc:TE):TE:=λσ H Q=>ta σ H λx H1=>tb σ H1 λy H2=>r x y H2 λz H3=>∃k,z=.bl k/\
 (if k=c_ then tc σ H3 λw' H4=>r' y w' H4 Q else Q (.bl d_) H3)
theorem adH{op yQ:CmpOp}{r r':R2}(ho:gd X (lJ op) r)(su:gd X (lJ yQ) r')(ha:PE X a ta)(hb:PE X b tb)(hc:PE X c tc)
  (hm:lastMarks [op,yQ] [b,c]=false:=by with_unfolding_all rfl):PE X (.Compare a [op,yQ] [b,c] pos) (UE r r' ta tb tc):=by
 intro p_ s σ H Q I h
 refine Compare_chain (dC (ha p_ s σ H _ I h) λv s1 x H1 I1 r1 q1=>chain_link (dC (hb p_ s1 σ H1 _ I1 q1) λu s2 y H2 I2 r2 q2=>
  dC (ho p_ s2 σ H2 x y v u _ I2 r1 r2 q2) λd s3 z H3 I3 r3 zq=>?_)) hm
 refine af zq λk e q3=>?_;subst e;cases r3;refine um ?_;cases k with
 | false=>exact ite_ff ⟨.bl d_,H3,I3,rfl,q3⟩
 | true=>exact ite_tt (chain_last (eJ (hc p_ s3 σ H3 _ I3 q3) λw' s4 ⟨z',H4,I4,r4,q4⟩=>su p_ s4 σ H4 y z' u w' Q I4 r2 r4 q4))
theorem adC{op yQ:CmpOp}{r r':R2}(ho:gd X (lJ op) r)(su:gd X (lJ yQ) r')(ha:PE X a ta)(hb:PE X b tb)(hc:PE X c tc)
  (hm:lastMarks [op,yQ] [b,c]=false:=by with_unfolding_all rfl):PT X (.Compare a [op,yQ] [b,c] pos) (Fi (UE r r' ta tb tc)):=by
 intro p_ s σ H Q I h
 refine isTrue_chain (dC (ha p_ s σ H _ I h) λv s1 x H1 I1 r1 q1=>test_link (dC (hb p_ s1 σ H1 _ I1 q1) λu s2 y H2 I2 r2 q2=>
  dC (ho p_ s2 σ H2 x y v u _ I2 r1 r2 q2) λd s3 z H3 I3 r3 zq=>?_)) hm
 refine af zq λk e q3=>?_;subst e;cases r3;refine um ?_;cases k with
 | false=>
  refine af q3 λk' e' q'=>?_;cases e';exact ite_ff ⟨H3,I3,q'⟩
 | true=>
  refine ite_tt (test_last (eJ (hc p_ s3 σ H3 _ I3 q3) λw' s4 ⟨z',H4,I4,r4,q4⟩=>eJ (su p_ s4 σ H4 y z' u w' _ I4 r2 r4 q4) λd' s5 ⟨z2,H5,I5,r5,k2,e2,q5⟩=>?_));subst e2;cases r5;exact um ⟨H5,I5,q5⟩
theorem wG:(cW:Nat)<2^63:=by rw[jl];decide
theorem vals1(r:Vals [x] us):∃u,us=[u]/\RelV x u:=by
 cases r with
 | cons r1 r2=>cases r2;exact⟨_,rfl,r1⟩
theorem vals2(r:Vals [x,y] us):∃u w',us=[u,w']/\RelV x u/\RelV y w':=by
 cases r with
 | cons r1 r2=>
  cases r2 with
  | cons r3 r4=>cases r4;exact⟨_,_,rfl,r1,r3⟩
theorem adf(hc:X.calm=c_):oG X (.builtin "max") (λxs H Q=>∃i j,xs=[.int i,.int j]/\Q (.int (if j > i then j else i)) H):=by
 intro p_ s σ H xs us Q I r h;refine aW h λi j aa q=>?_;clear h;subst aa;refine cI (vals2 r) λu w' aa aH oX=>?_;subst aa;refine oE aH λt aa=>?_;clear aH;subst aa;refine oE oX λt' aa=>?_;clear oX;subst aa;refine max_two_ints (I.ok.hd hc) λh' tk k=>⟨_,H,I.kept k,?_,q⟩
 by_cases hj:j > i
 ·rw[if_pos hj,if_pos hj];exact⟨_,rfl⟩
 ·rw[if_neg hj,if_neg hj];exact⟨_,rfl⟩
theorem Sj(hc:X.calm=c_):oG X (.builtin "min") (λxs H Q=>∃i j,xs=[.int i,.int j]/\Q (.int (if j<i then j else i)) H):=by
 intro p_ s σ H xs us Q I r h;refine aW h λi j aa q=>?_;clear h;subst aa;refine cI (vals2 r) λu w' aa aH oX=>?_;subst aa;refine oE aH λt aa=>?_;clear aH;subst aa;refine oE oX λt' aa=>?_;clear oX;subst aa;refine min_two_ints (I.ok.hd hc) λh' tk k=>⟨_,H,I.kept k,?_,q⟩
 by_cases hj:j<i
 ·rw[if_pos hj,if_pos hj];exact⟨_,rfl⟩
 ·rw[if_neg hj,if_neg hj];exact⟨_,rfl⟩
end
structure yB(h:j_)(x dx C:e_)(mA:Str->Option f_):Prop where
 obj:h.get? x=a_ (W.instObj C dx)
 ns:h.Ns1 dx mA
 ne:dx≠x
theorem RT{h:j_}{dx:e_}{mA:Str->Option f_}(n:h.Ns1 dx mA):∃od,h.get? dx=a_ od/\∀name,W.lookIn name od=a_ (mA name):=by
 refine gw n λo es ep ho hd aa=>bp aa λhk _ hm=>⟨o,ho,λname=>?_⟩;have e:=hm name;unfold nsFind findBy at e;rw[<-Array.find?_toList]at e;unfold W.lookIn;rw[hd];dsimp only
 split
 ·rename_i y q
  rw[q]at e;exact congrArg a_ e
 ·rename_i q
  rw[q]at e
  have a:es.toList.any (·.refKey)=false:=by
   rw[List.any_eq_false];intro y hy;refine xy (hk y (Array.mem_toList_iff.mp hy)) λz t Gi=>?_;simp[DictEntry.refKey,Gi]
  have a':¬es.toList.any (·.refKey)=true:=by rw[a];exact dY
  rw[if_neg a'];exact congrArg a_ e
theorem yB.look{mA:Str->Option f_}(I:yB h x dx C mA):∃od,W.InstAt h x (W.instObj C dx) C (a_ od)/\∀name,W.lookIn name od=a_ (mA name):=
 let ⟨od,ho,hl⟩:=RT I.ns
 ⟨od,⟨I.obj,rfl,rfl,ho⟩,hl⟩
section
variable{prog:l_}{w:k_}{A:h_}{E:f_->g_->Prop}{s:g_}{K:W.Frag}{x dx C f:e_}{mA:Str->Option f_}{name:Str}{v:f_}
theorem get_map{expr:Bool}(X:K.In s.heap)(I:yB s.heap x dx C mA)(hg:W.plainGet K C name=c_)(hh:W.hasDictIn K C=c_)
  (ha:W.findIn K (.ref C) name=a_ b_) (hv:mA name=a_ v) (OP:W.handedIn v=c_) (h:Q v { s with toks:=s.toks+1 }) :
  wpAny (model prog w) A (getAttr (.ref x) name expr) Q E s:=by
 exact af I.look λod J hl=>W.get_value X J (W.plainGet_of hg).1 (W.findObj_own hh ha rfl (by rw[hl,hv])) OP h
theorem aeh{pl:Sem Bool}{Q:f_×List f_->g_->Prop}(X:K.In s.heap)(I:yB s.heap x dx C mA)(hg:W.plainGet K C name=c_)
  (hf:W.findIn K (.ref C) name=a_ (a_ (.ref f))) (ht:W.isFn K (.ref f)=c_) (hv:mA name=b_) (h:Q (.ref f,[.ref x]) s) :
  wpAny (model prog w) A (BF (.ref x) name pl) Q E s:=by
 exact af I.look λod J hl=>W.method_fn X J (W.plainGet_of hg).1 (W.plainGet_of hg).2 hf (beq_iff_eq.mp ht) (by show (W.lookIn name od).map (·.isSome)=a_ d_;rw[hl,hv];rfl) h
theorem aeU{Q:Unit->g_->Prop}(X:K.In s.heap)(I:yB s.heap x dx C mA)
  (hs:W.findIn K (.ref C) "__setattr__" = a_ (a_ (.builtin "object.__setattr__"))) (hp:W.plainOver K C=c_) (ht:W.takerIn K C name=a_ b_) (hh:W.hasDictIn K C=c_)
  (hw:PySem.Within mA ns) (dP:ns.length<=cW)
  (h:∀h',yB h' x dx C (λy=>if y=name then a_ v else mA y)->vW dx s.heap h'->Q () { s with heap:=h',toks:=s.toks+2 }) :
  wpAny (model prog w) A (setAttr (.ref x) name v) Q E s:=by
 refine af I.look λod J hl=>W.set_plain X J hs (W.osa_open (s:={ s with toks:=s.toks+1 }) (r:=b_) X J hp ht λb=>af (W.any_some hh) λcd hc rq=>?_);have hx:s.heap.get? x=a_ ⟨.ref C,a_ dx,.plain,#[]⟩:=I.obj;refine ay (a7 (ay (ay (QA hx (ay (W.Looks.here (s:={ s with toks:=s.toks+1 }) (W.looks_clsIn X hc) ?_))))));rw[rq];exact a7 (a:=a_ dx) (ay (a7 (ay (wpAny_nsSet1 (s:={ s with toks:=s.toks+1 }) I.ns λh' AY pM=>gw (AY.count (PySem.Within.cons name v hw)) λoD esD epD OY Pd Ph=>ay (wpAny_lookBehind OY (by rw[Pd];exact pastItsLine_dict (cC Ph (by rw[jk];exact wb))) (a7 (h _ ⟨(pM.2 _ (gq I.ne)).trans I.obj,AY,I.ne⟩ pM)))))))
theorem ad8{R:Result->g_->Prop}{kw:List (Str×f_)}(X:K.In s.heap)(hm:W.makesIn K C=c_)
  (hi:W.findIn K (.ref C) "__init__" = a_ (a_ (.ref f))) (hf:W.typeIn K (.ref f)=a_ (.type "function"))
  (h:codeAny (model prog w) (A.under (.builtin "type.__call__" ⟨.ref C::vs,kw⟩)) (.call (.ref f) ⟨.ref (s.heap.objs.size+1)::vs,kw⟩) (W.InitBack (s.heap.objs.size+1) R)
   {s with heap:=(s.heap.push W.emptyDict).push (W.instObj C s.heap.objs.size) }) :
  codeAny (model prog w) A (.call (.ref C) ⟨vs,kw⟩) R s:=by
 obtain⟨hh,g,d,t,os⟩:=s;exact W.make_core (W.makes_of X hm) (W.looks_findIn X hi) (λself=>W.bind_fn X self hf) (.inl rfl) h
end
def aU(f:Str)(v:V):List (Str×V)->List (Str×V)
 | []=>[(f,v)]
 | (g,x)::r=>if g=f then (g,v)::r else (g,x)::aU f v r
theorem gQ(f g:Str)(v:V):∀fs:List (Str×V),(aU f v fs).lookup g=if g=f then a_ v else fs.lookup g
 | []=>by
  show yf g [(f,v)]=_
  by_cases h:g=f
  ·have hb:=beq_iff_eq.mpr h;simp only[yf,hb,if_pos h]
  ·have hb:=beq_eq_false_iff_ne.mpr h;simp only[yf,hb,if_neg h]
 | (k,x)::r=>by
  have ih:=gQ f g v r;rw[show aU f v ((k,x)::r)=(if k=f then (k,v)::r else (k,x)::aU f v r) from rfl]
  by_cases hk:k=f
  ·rw[if_pos hk]
   by_cases h:g=k
   ·have hb:=beq_iff_eq.mpr h;simp only[yf,hb,if_pos (h.trans hk)]
   ·have hb:=beq_eq_false_iff_ne.mpr h;simp only[yf,hb,if_neg λe:g=f=>h (e.trans hk.symm)]
  ·rw[if_neg hk]
   by_cases h:g=k
   ·have hb:=beq_iff_eq.mpr h;simp only[yf,hb,if_neg λe:g=f=>hk (h.symm.trans e)]
   ·have hb:=beq_eq_false_iff_ne.mpr h;simp only[yf,hb];exact ih
theorem JM(f:Str)(v:V):∀fs:List (Str×V),f∈(aU f v fs).map (·.1)/\∀g,g∈fs.map (·.1)->g∈(aU f v fs).map (·.1)
 | []=>⟨by simp[aU],λg h=>by simp at h⟩
 | (k,x)::r=>by
  refine oA (JM f v r) λi1 i2=>?_;rw[show aU f v ((k,x)::r)=(if k=f then (k,v)::r else (k,x)::aU f v r) from rfl]
  by_cases hk:k=f
  ·rw[if_pos hk];subst hk;exact⟨by simp,λg h=>by simpa using h⟩
  ·rw[if_neg hk];refine⟨?_,λg h=>?_⟩
   ·rw[gK];exact gE _ i1
   ·rw[gK]at h ⊢;rcases cV.mp h with e | e
    ·exact cV.mpr (.inl e)
    ·exact gE _ (i2 g e)
theorem sR(f:Str)(v:V):∀fs:List (Str×V),(aU f v fs).length<=fs.length+1
 | []=>by simp[aU]
 | (k,x)::r=>by
  have ih:=sR f v r;rw[show aU f v ((k,x)::r)=(if k=f then (k,v)::r else (k,x)::aU f v r) from rfl]
  by_cases hk:k=f
  ·rw[if_pos hk,jk,jk];exact xd
  ·rw[if_neg hk,jk,jk];lia
theorem oO.some_of{o:Option f_}(r:oO (a_ v) o):∃u,o=a_ u/\RelV v u:=by
 cases o with
 | none=>exact(show False from r).elim
 | some u=>exact⟨u,rfl,r⟩
theorem oO.none_of{o:Option f_}(r:oO b_ o):o=none:=by
 cases o with
 | none=>rfl
 | some u=>exact(show False from r).elim
theorem RX(r:RelV v u):W.handedIn u=true:=by
 cases v with
 | aJ=>cases (show u=mj from r);rfl
 | bl b=>cases (show u=vZ b from r);rfl
 | int i=>obtain⟨t,e⟩:=(show ∃t,u=nj i t from r);cases e;rfl
 | str x=>obtain⟨t,e⟩:=(show ∃t,u=BG x t from r);cases e;rfl
 | q8 b=>obtain⟨t,e⟩:=(show ∃t,u=Value.bytes b t from r);cases e;rfl
 | vk b=>obtain⟨t,e⟩:=(show ∃t,u=Q0 b t from r);cases e;rfl
 | ref a=>cases (show u=di a from r);rfl
 | ty n=>cases (show u=qB n from r);rfl
section
variable{P:l_}{w:k_}{H H':Hp}{h h':j_}{a C dx:e_}{fs nX:List (Str×V)}
theorem ER(aQ:gz P w H h)(e:H a=a_ (.ins C dx fs)):∃mA,yB h a dx C mA/\(∀f,oO (fs.lookup f) (mA f))/\PySem.Within mA (fs.map (·.1))/\fs.length<=1000/\H dx=a_ (.own a):=by
 exact my ((show hZ P w H h a (.ins C dx fs) from aQ a _ e)) λd z ne ob aa=>aG aa λmA n r q=>⟨mA,⟨ob,n,ne⟩,r,q,z,d⟩
end
structure fQ(K:W.Frag)(C:e_):Prop where
 pg:W.plainGet K C Str.empty=c_
 hd:W.hasDictIn K C=c_
 po:W.plainOver K C=c_
 sa:W.findIn K (.ref C) "__setattr__" = a_ (a_ (.builtin "object.__setattr__"))
theorem fQ.get{K:W.Frag}(c:fQ K C)(f:Str):W.plainGet K C f=true:=c.pg
def cj(K:W.Frag)(C:e_)(f:Str):Prop:=W.findIn K (.ref C) f=a_ b_
theorem cj.aiq{K:W.Frag}(n:cj K C f):W.takerIn K C f=a_ none:=by
 unfold W.takerIn;rw[show W.findIn K (.ref C) f=a_ b_ from n];rfl
structure Con(K:W.Frag)(C:e_)(f:Str)(v:V)(u:f_):Prop where
 at_:W.findIn K (.ref C) f=a_ (a_ u)
 rel:RelV v u
 get:W.specialIn K u "__get__" = a_ b_
 cp:W.copiedNames.contains f=d_
structure Meth(K:W.Frag)(C:e_)(m:Str)(f:e_):Prop where
 at_:W.findIn K (.ref C) m=a_ (a_ (.ref f))
 fn:W.isFn K (.ref f)=c_
 kp:W.keepIn K (.ref f)=c_
section
variable{X:Cx}{p_:List (e_×Obj)}{σ:St}{H:Hp}{s:g_}{a C dx:e_}{fs:List (Str×V)}{f:Str}{v:V}{A:h_}{E:f_->g_->Prop}
theorem Rb{b:Bool}(I:Inv X p_ σ H s)(e:H a=a_ (.ins C dx fs))(c:fQ X.K C)(n:cj X.K C f)(l:fs.lookup f=a_ v)
  (h:∀u s',Inv X p_ σ H s'->RelV v u->Q u s'):wpAny (model X.prog X.w) A (getAttr (.ref a) f b) Q E s:=by
 refine nA (ER I.aQ e) λmA O r _ _ _=>?_;obtain⟨u,hu,ru⟩:=oO.some_of (v:=v) (o:=mA f) (by rw[<-l];exact r f);exact get_map I.dF O (c.get f) c.hd n hu (RX ru) (h u _ (I.tok _) ru)
theorem Jw{pl:Sem Bool}{Q:f_×List f_->g_->Prop}(I:Inv X p_ σ H s)(e:H a=a_ (.ins C dx fs))(c:fQ X.K C)(k:Meth X.K C m g)(l:fs.lookup m=b_)
  (h:Q (.ref g,[.ref a]) s):wpAny (model X.prog X.w) A (BF (.ref a) m pl) Q E s:=by
 refine nA (ER I.aQ e) λmA O r _ _ _=>?_;have hn:=oO.none_of (by rw[<-l];exact r m);exact aeh I.dF O (c.get m) k.at_ k.fn hn h
theorem Q5{Q:Unit->g_->Prop}(I:Inv X p_ σ H s)(e:H a=a_ (.ins C dx fs))(c:fQ X.K C)(n:cj X.K C f)(hl:fs.length<1000)(ry:RelV y u)
  (h:∀s',Inv X p_ σ (upd H a (.ins C dx (aU f y fs))) s'->Q () s'):wpAny (model X.prog X.w) A (setAttr (.ref a) f u) Q E s:=by
 refine nA (ER I.aQ e) λmA O r wi _ ho=>?_;have hz:(fs.map (·.1)).length<=cW:=by rw[aO,jl];exact w4
 refine aeU I.dF O c.sa c.po n.aiq c.hd wi hz λh' O' sb=>h _ ?_;have hd:∃o,h'.get? dx=a_ o:=let ⟨o,_,_,e',_⟩:=O'.ns;⟨o,e'⟩
 refine I.write (x:=a) (e:=dx) (by rw[e];exact qC) (.inr ho) (λb q hb z=>(sb.2 b hb).trans z) hd ⟨by rw[au O.ne];exact ho,?_,O.ne,O'.obj,_,O'.ns,λg=>?_,λg hg=>?_⟩
 ·have:=sR f y fs;lia
 ·show oO ((aU f y fs).lookup g) (if g=f then a_ u else mA g);rw[gQ]
  by_cases q:g=f
  ·rw[if_pos q,if_pos q];exact ry
  ·rw[if_neg q,if_neg q];exact r g
 ·by_cases q:g=f
  ·rw[q];exact(JM f y fs).1
  ·refine(JM f y fs).2 g (wi g λz=>hg ?_);show (if g=f then a_ u else mA g)=b_;rw[if_neg q];exact z
theorem Inv.made(I:Inv X p_ σ H s):Inv X p_ σ (upd (upd H s.heap.objs.size (.own (s.heap.objs.size+1))) (s.heap.objs.size+1) (.ins C s.heap.objs.size []))
  {s with heap:=(s.heap.push W.emptyDict).push (W.instObj C s.heap.objs.size) }:=by
 have e1:(s.heap.push W.emptyDict).get? s.heap.objs.size=a_ W.emptyDict:=ik s.heap rfl
 have e2:((s.heap.push W.emptyDict).push (W.instObj C s.heap.objs.size)).get? (s.heap.objs.size+1)=a_ (W.instObj C s.heap.objs.size):=by
  have:=ik (s.heap.push W.emptyDict) (o:=W.instObj C s.heap.objs.size) rfl;rwa[qy]at this
 have e3:(s.heap.push W.emptyDict).Ns s.heap.objs.size (λ_=>b_):=⟨W.emptyDict,#[],_,e1,rfl,(λe he=>absurd he (by simp)),λ_=>rfl⟩;have I1:=I.laid (a:=s.heap.objs.size) (o:=.own (s.heap.objs.size+1)) (h':=s.heap.push W.emptyDict) (t':=s.toks) (λb u q=>b8 _ q) (aN _) ⟨_,e1⟩;refine I1.laid (a:=s.heap.objs.size+1) (o:=.ins C s.heap.objs.size []) (t':=s.toks) (λb u q=>b8 _ q) (rJ (qy _ _)) ?_;have ne:s.heap.objs.size≠s.heap.objs.size+1:=gh (vP _);refine⟨by rw[au ne,aA],cy _,ne,e2,λ_=>b_,(Heap.Ns1.of_empty e3).at λo q=>b8 _ q,λ_=>qC,λy hy=>absurd rfl hy⟩
theorem Uv{w:k_}{env:Env}(hb:Br e f env (eval e env)=eval e env)
  (h:wpAny (model prog w) A (eval e env) (λo s₁=>wpAny (model prog w) A (getAttr o f c_) Q E s₁) E s):wpAny (model prog w) A (eval (.Attribute e f pos) env) Q E s:=
 Attribute_any_ h (by rw[arm_eval_Attribute,hb])
end
def Nh(K:W.Frag)(ta:TE)(f:Str):TE:=λσ H Q=>ta σ H λx H1=>∃a C dx fs v,x=.ref a/\H1 a=a_ (.ins C dx fs)/\fQ K C/\cj K C f/\fs.lookup f=a_ v/\Q v H1
def Wy(K:W.Frag)(ta tv:TE)(f:Str):TS:=λD σ H=>tv σ H λy H1=>ta σ H1 λx H2=>∃a C dx fs,x=.ref a/\H2 a=a_ (.ins C dx fs)/\fQ K C/\cj K C f/\fs.length<1000/\
 D.nx σ (upd H2 a (.ins C dx (aU f y fs)))
def WO(X:Cx)(op:Operator)(rd:V->V->Hp->VK->Prop):Prop:=
 ∀(p_:List (e_×Obj)) (s:g_) (σ:St) (H:Hp) (x y:V) (u v:f_) (Q:VK),Inv X p_ σ H s->RelV x u->RelV y v->rd x y H Q->wpAny (model X.prog X.w) X.A (inplaceOp op u v) (EP X p_ σ Q) X.xe s
def ae9(K:W.Frag)(ta tv:TE)(rd:V->V->Hp->VK->Prop)(f:Str):TS:=λD σ H=>ta σ H λx H1=>∃a C dx fs v,x=.ref a/\H1 a=a_ (.ins C dx fs)/\fQ K C/\cj K C f/\fs.lookup f=a_ v/\
 tv σ H1 λy H2=>rd v y H2 λz H3=>∃zf nX,H3 a=a_ (.ins C zf nX)/\nX.length<1000/\D.nx σ (upd H3 a (.ins C zf (aU f z nX)))
section
variable{X:Cx}{o e value:Expr}{f:Str}{pos pos' F':Pos}{ta tv:TE}
theorem bu(he:PE X e ta)(hb:Br e f X.env (eval e X.env)=eval e X.env):PE X (.Attribute e f pos) (Nh X.K ta f):=by
 intro p_ s σ H Q I h;refine Uv hb (dC (he p_ s σ H _ I h) λu s1 x H1 I1 rx zq=>lG zq λa C dx fs v ex ea c n l q=>?_);subst ex;obtain rfl:u=di a:=rx;exact Rb I1 ea c n l λu' s2 I2 ru=>⟨v,H1,I2,ru,q⟩
theorem iu(ha:PE X o ta)(hv:PE X value tv)(hs:Ep value (a_ (.Attribute o f pos')) pos.line X.env=pure d_):PS X (.Assign [.Attribute o f pos'] value pos) (Wy X.K ta tv f):=by
 intro p_ s σ H D I h;refine Z8 (dC (hv p_ s σ H _ I h) λu s1 y H1 I1 ry q=>dC (ha p_ s1 σ H1 _ I1 q) λov s2 x H2 I2 rx zq=>?_) hs;obtain⟨a,C,dx,fs,ex,ea,c,n,l,q2⟩:=zq;subst ex;obtain rfl:ov=di a:=rx;exact Q5 I2 ea c n l ry λs3 I3=>⟨σ,_,I3,q2⟩
theorem acw{op:Operator}{rd:V->V->Hp->VK->Prop}(ha:PE X o ta)(hv:PE X value tv)(hop:WO X op rd):PS X (.AugAssign (.Attribute o f F') op value pos) (ae9 X.K ta tv rd f):=by
 intro p_ s σ H D I h;refine wpAny_AugAssign_AttributeAny (dC (ha p_ s σ H _ I h) λov s1 x H1 I1 rx zq=>lG zq λa C dx fs v ex ea c n l q=>?_);subst ex;obtain rfl:ov=di a:=rx;exact Rb I1 ea c n l λu s2 I2 ru=>dC (hv p_ s2 σ H1 _ I2 q) λw3 s3 y H2 I3 ry q3=>dC (hop p_ s3 σ H2 v y u w3 _ I3 ru ry q3) λw4 s4 z H3 I4 rz zq=>cI zq λzf nX ea' l' q4=>Q5 I4 ea' c n l' rz λs5 I5=>⟨σ,_,I5,q4⟩
def akz:V->V->Hp->VK->Prop:=λx y H Q=>∃i j,x=.int i/\y=.int j/\Q (.int (i+j)) H
theorem ahm:WO X .Add akz:=by
 rintro p_ s σ H x y u v Q I rx ry ⟨i,j,rfl,rfl,q⟩;refine oE ((show ∃t,u=nj i t from rx)) λt aa=>?_;subst aa;refine oE ((show ∃t',v=nj j t' from ry)) λt' aa=>?_;subst aa;exact PyProof.Rows.iadd_int ⟨.int (i+j),H,I.tok _,⟨_,rfl⟩,q⟩
end
section
variable{X:Cx}{p_:List (e_×Obj)}{σ:St}{H:Hp}{s:g_}{A:h_}{E:f_->g_->Prop}{Q:f_->g_->Prop}{c:f_}{b:Bool}
inductive ju (K:W.Frag) (H:Hp):V->f_->Prop where
 | aJ:ju K H .aJ (.type "NoneType")
 | bl (x:Bool):ju K H (.bl x) (.type "bool")
 | int (i:Int):ju K H (.int i) (.type "int")
 | str (x:Str):ju K H (.str x) (.type "str")
 | vk (x:UInt64):ju K H (.vk x) (.type "float")
 | lst {a:e_} {xs:List V} (e:H a=a_ (.lst xs)):ju K H (.ref a) (.type "list")
 | pK {a:e_} {o:Obj} {xs:List V} (e:H a=a_ (.pK o (.lst xs))):ju K H (.ref a) (.type "list")
 | tup {a:e_} {xs:List V} (e:H a=a_ (.tup xs)):ju K H (.ref a) (.type "tuple")
 | dK {a:e_} {iZ:List (Key×V)} (e:H a=a_ (.dK iZ)):ju K H (.ref a) (.type "dict")
 | dT {a:e_} {iZ:List (List Key×V)} (e:H a=a_ (.dT iZ)):ju K H (.ref a) (.type "dict")
 | ins {a C dx:e_} {fs:List (Str×V)} (e:H a=a_ (.ins C dx fs)) (cl:fQ K C) (ha:W.findIn K (.ref C) "__class__" = a_ (a_ (.builtin "object.__class__")))
   (hn:W.specialIn K (.builtin "object.__class__") "__get__" = a_ (a_ (.builtin "getset_descriptor.__get__"))) (HL:W.takesIn K (.builtin "object.__class__")=a_ c_)
   (hm:W.mroIn K C (.type "object")=a_ c_):ju K H (.ref a) (.ref C)
theorem acX(I:Inv X p_ σ H s)(rx:RelV x u)(ty:ju X.K H x t)(e:W.kitOne X.K t c=a_ b)(h:∀tk,Q (.bool b) { s with toks:=tk }) :
  wpAny (model X.prog X.w) A (call (.builtin "isinstance") [u,c]) Q E s:=by
 cases ty with
 | aJ=>cases (show u=mj from rx);exact W.kia_one W.kitx_none I.dF qC e (λz=>nomatch z) h
 | bl y=>cases (show u=vZ y from rx);exact W.kia_one W.kitx_bool I.dF qC e (λz=>nomatch z) h
 | int i=>obtain⟨t,q⟩:=(show ∃t,u=nj i t from rx);cases q;exact W.kia_one W.kitx_int I.dF qC e (λz=>nomatch z) h
 | str y=>obtain⟨t,q⟩:=(show ∃t,u=BG y t from rx);cases q;exact W.kia_one W.kitx_str I.dF qC e (λz=>nomatch z) h
 | vk y=>obtain⟨t,q⟩:=(show ∃t,u=Q0 y t from rx);cases q;exact W.kia_one W.kitx_float I.dF qC e (λz=>nomatch z) h
 | @lst a xs ea=>
  cases (show u=di a from rx);exact oA ((show hZ X.prog X.w H s.heap a (.lst xs) from I.aQ a _ ea)) λ_ aa=>aW aa λ_ n _ h1=>W.kia_one W.kitx_list I.dF ⟨_,h1,rfl⟩ e (λz=>nomatch z) h
 | @pK a ob xs ea=>
  cases (show u=di a from rx);exact bp ((show hZ X.prog X.w H s.heap a (.pK ob (.lst xs)) from I.aQ a _ ea)) λ_ _ aa=>aW aa λ_ n _ h1=>W.kia_one W.kitx_list I.dF ⟨_,h1,rfl⟩ e (λz=>nomatch z) h
 | @tup a xs ea=>
  cases (show u=di a from rx);exact oA ((show hZ X.prog X.w H s.heap a (.tup xs) from I.aQ a _ ea)) λ_ aa=>af aa λ_ _ p=>aG p λo h1 h2 _=>W.kia_one W.kitx_tuple I.dF ⟨o,h1,h2⟩ e (λz=>nomatch z) h
 | @dK a iZ ea=>
  cases (show u=di a from rx);exact bp ((show hZ X.prog X.w H s.heap a (.dK iZ) from I.aQ a _ ea)) λ_ _ aa=>af aa λvs _ p=>gw p λo es ep h1 h2 _=>W.kia_one W.kitx_dict I.dF ⟨o,h1,h2.1⟩ e (λz=>nomatch z) h
 | @dT a iZ ea=>
  cases (show u=di a from rx);exact bp ((show hZ X.prog X.w H s.heap a (.dT iZ) from I.aQ a _ ea)) λ_ _ aa=>af aa λxs _ aa=>gw aa λo es ep h1 h2 _=>W.kia_one W.kitx_dict I.dF ⟨o,h1,h2.1⟩ e (λz=>nomatch z) h
 | @ins a C dx fs ea cl ha hn HL hm=>
  cases (show u=di a from rx);exact af (ER I.aQ ea) λmA O _=>af O.look λod J _=>W.kia_one (W.kitx_own (cl.get _) cl.hd ha hn HL hm) I.dF J e (λz=>nomatch z) h
end
structure fJ(k:Nat)(A:h_):Prop where
 hd:A.handled=b_
 dp:A.depth+3*k+5<D2
 un:A.units+16*k+200<cLine
theorem fJ.mono{j k:Nat}(r:fJ k A)(h:j<=k):fJ j A:=⟨r.hd,by have:=r.dp;lia,by have:=r.un;lia⟩
theorem fJ.deeper{k:Nat}(r:fJ (k+1) A)(env:Env):fJ k (A.deeper env):=
 ⟨r.hd,by have:=r.dp;show A.depth+1+3*k+5<_;lia,by have:=r.un;show A.units+3+16*k+200<_;lia⟩
theorem ab9{A:h_}{C:e_}{us:List f_}{kw:List (Str×f_)}:(A.under (.builtin "type.__call__" ⟨.ref C::us,kw⟩)).depth=A.depth+1:=by
 first | rfl | simp[QR,Code.weight,Code.isCreation,Code.isGuard,Code.isCaller,Code.frames,Code.isFrame,guardIds]
theorem ab8{A:h_}{C:e_}{us:List f_}{kw:List (Str×f_)}:(A.under (.builtin "type.__call__" ⟨.ref C::us,kw⟩)).units=A.units+1:=by
 first | rfl | simp[QR,Code.cUnits,Code.frames,Code.isFrame]
theorem fJ.make{k:Nat}(r:fJ (k+1) A)(C:e_)(us:List f_)(kw:List (Str×f_)):fJ k (A.under (.builtin "type.__call__" ⟨.ref C::us,kw⟩)):=
 ⟨r.hd,by have:=r.dp;rw[ab9];lia,by have:=r.un;rw[ab8];lia⟩
theorem fJ.depth{k:Nat}(r:fJ k A):A.depth<D2:=by have:=r.dp;lia
theorem fJ.units{k:Nat}(r:fJ k A):A.units+64<cLine:=by have:=r.un;lia
abbrev An:TA:=λ_ H Q=>Q [] H
abbrev Fl(ta:TE)(tr:TA):TA:=λσ H Q=>ta σ H λx H1=>tr σ H1 λxs H2=>Q (x::xs) H2
section
variable{X:Cx}{e:Expr}{es:List Expr}{te:TE}{t:TA}{pos:Pos}
theorem ag:PA X [] An:=λ_ _ _ _ H Q I h=>aaR ⟨[],H,I,.nil,h⟩
theorem ae(ha:PE X e te)(hr:PA X es t)(hs:cQ (e::es) X.env=(d_,eval e X.env)::cQ es X.env:=by rfl):PA X (e::es) (Fl te t):=by
 intro pos p_ s σ H Q I h;rw[hs];show wpAny _ _ (spliced ((d_,eval e X.env)::backTo pos (cQ es X.env))) _ _ s;exact aaG (dC (ha p_ s σ H _ I h) λu s1 x H1 I1 r1 q1=>lU (hr pos p_ s1 σ H1 _ I1 q1) λus s2 xs H2 I2 r2 q2=>⟨x::xs,H2,I2,.cons r1 r2,q2⟩)
def akm(t:TA):TE:=λσ H Q=>t σ H λxs H1=>xs.length<=cW/\∀p,H1 p=b_->Q (.ref p) (upd H1 p (.tup xs))
def Ng(t:TA):TE:=λσ H Q=>t σ H λxs H1=>xs.length<=cW/\∀p,H1 p=b_->Q (.ref p) (upd H1 p (.lst xs))
theorem gu{x1}(h:PA X es t):PE X (.Tuple es x1 pos) (akm t):=by
 intro p_ s σ H Q I hq;refine wpAny_Tuple_spliced (lU (h pos p_ s σ H _ I hq) λus s1 xs H1 I1 r zq=>oA zq λz q=>⟨by rw[<-r.length];exact z,?_⟩);have hf:=I1.aQ.fresh (aN _);refine⟨.ref s1.heap.objs.size,upd H1 s1.heap.objs.size (.tup xs),I1.laid (t':=s1.toks) (λb u e=>b8 _ e) (aN _) ?_,rfl,q _ hf⟩;exact⟨z,us,r,⟨_,ik _ rfl,rfl,_,rfl⟩⟩
theorem dN(h:PA X es t):PE X (.List es pos) (Ng t):=by
 intro p_ s σ H Q I hq;refine wpAny_List_spliced (lU (h pos p_ s σ H _ I hq) λus s1 xs H1 I1 r zq=>oA zq λz q=>⟨by rw[<-r.length];exact z,?_⟩);have hf:=I1.aQ.fresh (aN _);refine⟨.ref s1.heap.objs.size,upd H1 s1.heap.objs.size (.lst xs),I1.laid (t':=s1.toks) (λb u e=>b8 _ e) (aN _) ?_,rfl,q _ hf⟩;exact⟨z,us,0,r,ik _ rfl⟩
end
abbrev Sp:=List V->Hp->VK->XK->Prop
abbrev pL:=List Env->Hp->g_->XK->f_->g_->Prop
structure yC(P:l_)(w:k_)(K:W.Frag)(mg:Str->Option f_)(base:j_)(A:h_)(outer:List Env)(s:g_)(H:Hp):Prop where
 frames:A.frames=a_ outer
 mod:Mod K mg base
 bs:∀b o,base.get? b=a_ o->s.heap.get? b=a_ o/\H b=b_
 oU:base.objs.size<=s.heap.objs.size
 oJ:s.heap.FunFrames base outer
 tT:∀b∈jP outer,H b=b_
 aQ:gz P w H s.heap
 bare:AllBare s.gens
def CE(outer:List Env)(P:l_)(w:k_)(H:Hp)(s:g_)(Q:VK)(u:f_)(s':g_):Prop:=
 ∃v H',s'.os=s.os/\AllBare s'.gens/\Un (jP outer) [] H H' s.heap s'.heap/\gz P w H' s'.heap/\RelV v u/\Q v H'
def CR(CX:pL)(outer:List Env)(P:l_)(w:k_)(H:Hp)(s:g_)(Q:VK)(E:XK)(r:Result)(s':g_):Prop:=
 match r with
 | .ok (.ret u)=>CE outer P w H s Q u s'
 | .ok _=>False
 | .error e=>CX outer H s E e s'
structure ax(P:l_)(w:k_)(K:W.Frag)(mg:Str->Option f_)(base:j_)(CX:pL)(k:Nat)(f:e_)(fd:iJ)(ps:List Str)(sp:Sp):Prop where
 len:∀vs H Q E,sp vs H Q E->vs.length=ps.length
 run:∀(A:h_) (outer:List Env) (s:g_) (H:Hp) (args:Args) (us:List f_) (vs:List V) (Q:VK) (E:XK),fJ k A->yC P w K mg base A outer s H->BindsTo s fd args (ps.zip us)->Vals vs us->sp vs H Q E->
  codeAny (model P w) A (.call (.ref f) args) (CR CX outer P w H s Q E) s
theorem yC.make{P:l_}{w:k_}{K:W.Frag}{mg:Str->Option f_}{base:j_}{outer:List Env}(e:yC P w K mg base A outer s H)(C:e_)(us:List f_)(kw:List (Str×f_)) :
  yC P w K mg base (A.under (.builtin "type.__call__" ⟨.ref C::us,kw⟩)) outer s H:=⟨by first | exact e.frames | (simpa[QR,Code.envs,Code.isFrame,pushEnvs]using e.frames),e.mod,e.bs,e.oU,e.oJ,e.tT,e.aQ,e.bare⟩
section
variable{X:Cx}{p_:List (e_×Obj)}{σ:St}{H:Hp}{s s':g_}
theorem Inv.FY(I:Inv X p_ σ H s):yC X.prog X.w X.K X.mg X.base X.A X.stack s H:=
 ⟨I.ok.frames,I.ok.mod,I.bs,cC I.ok.oU I.sz,I.stack,I.EJ,I.aQ,I.bare⟩
theorem Inv.after(I:Inv X p_ σ H s)(h:CE X.stack X.prog X.w H s Q u s'):EP X p_ σ Q u s':=by
 refine gc h λv H' os bare un aQ r q=>?_;obtain⟨hh,g,d,t,os'⟩:=s';obtain rfl:os'=s.os:=os;exact⟨v,H',I.call (h':=hh) (g':=g) (d':=d) (t':=t) (ch:=[]) un aQ bare λb z=>absurd z (by simp),r,q⟩
end
abbrev VD(sp:Sp)(dvs:List V)(E:XK)(t:TA):TE:=λσ H Q=>t σ H λvs H1=>sp (vs++dvs) H1 Q E
def Fj(C:e_)(m:Str)(sp:Sp)(dvs:List V)(E:XK)(ta:TE)(t:TA):TE:=λσ H Q=>ta σ H λx H1=>∃a dx fs,x=.ref a/\H1 a=a_ (.ins C dx fs)/\fs.lookup m=b_/\
 t σ H1 λvs H2=>sp (x::(vs++dvs)) H2 Q E
def ait(C:e_)(sp:Sp)(dvs:List V)(E:XK)(t:TA):TE:=λσ H Q=>t σ H λvs H1=>∀x dx,H1 x=b_->H1 dx=b_->dx≠x->
 sp (.ref x::(vs++dvs)) (upd (upd H1 dx (.own x)) x (.ins C dx [])) (λv H2=>v=.aJ/\Q (.ref x) H2) E
def Binds(K:W.Frag)(fd:iJ)(ps:List Str)(ds:List f_):Prop:=
 ∀(s:g_) (us:List f_),K.In s.heap->(us++ds).length=ps.length->BindsTo s fd ⟨us,[]⟩ (ps.zip (us++ds))
theorem Binds.all{K:W.Frag}(h:∀us:List f_,us.length=ps.length->uA fd ⟨us,[]⟩=pure (ps.zip us)):Binds K fd ps []:=λs us _ hl=>by
 rw[yb]at hl ⊢;exact .of_eq (h us hl)
def Passes(CX:pL)(X:Cx)(E:XK):Prop:=∀(p_:List (e_×Obj)) (σ:St) (H:Hp) (s:g_) (e:f_) (s':g_),Inv X p_ σ H s->CX X.stack H s E e s'->X.xe e s'
section
variable{X:Cx}{CX:pL}{k:Nat}{f C:e_}{fd:iJ}{ps:List Str}{sp:Sp}{dvs:List V}{ds:List f_}{E:XK}{x m:Str}{p pos apos:Pos}{e o:Expr}{es:List Expr}{ta:TE}{t:TA}
theorem B9(F:ax X.prog X.w X.K X.mg X.base CX k f fd ps sp)(hr:fJ k X.A)(hb:Binds X.K fd ps ds)(hd:Vals dvs ds)(hx:Passes CX X E)
  (I:Inv X p_ σ H s) (r:Vals vs us) (h:sp (vs++dvs) H Q E):wpAny (model X.prog X.w) X.A (call (.ref f) us) (EP X p_ σ Q) X.xe s:=by
 have r2:=r.append hd;have hl:(us++ds).length=ps.length:=by rw[<-r2.length];exact F.len _ _ _ _ h
 refine uw (zG (F.run X.A X.stack s H ⟨us,[]⟩ (us++ds) (vs++dvs) Q E hr I.FY (hb s us I.dF hl) r2 h) λr s' hq=>?_);cases r with
 | error e=>exact hx p_ σ H s e s' I hq
 | ok fl=>
  cases fl with
  | ret u=>exact I.after hq
  | next=>exact jm hq
  | brk=>exact jm hq
  | cont=>exact jm hq
theorem dr(F:ax X.prog X.w X.K X.mg X.base CX k f fd ps sp)(hr:fJ k X.A)(hg:Gl X x)(hm:X.mg x=a_ (.ref f))(hk:W.keepIn X.K (.ref f)=c_)(hb:Binds X.K fd ps ds)(hd:Vals dvs ds)(hx:Passes CX X E)
  (ha:PA X (e::es) t) (lD:(x == ("__debug__" : Str))=false:=by decide) (he:cQ (e::es) X.env=(d_,eval e X.env)::cQ es X.env:=by rfl) (ee:(backTo pos (cQ es X.env)).any (·.1)=false:=by rfl) :
  PE X (.Call (.Name x p) (e::es) [] pos) (VD sp dvs E t):=by
 intro p_ s σ H Q I h;refine uk (uE I hg hm ?_ lD);refine W.callWith_K (h₀:=X.base) I.ok.mod.qX hk (lU (ha pos p_ s σ H _ I h) λus s1 vs H1 I1 r q=>⟨I1.dF,?_⟩) he ee;exact B9 F hr hb hd hx I1 r q
theorem gm{pl:Sem Bool}(he:PE X o ta)(c:fQ X.K C)(hm:Meth X.K C m f)(F:ax X.prog X.w X.K X.mg X.base CX k f fd ps sp)(hr:fJ k X.A)(hb:Binds X.K fd ps ds)(hd:Vals dvs ds)(hx:Passes CX X E)(ha:PA X (e::es) t)
  (dn:cQ (e::es) X.env=(d_,eval e X.env)::cQ es X.env:=by rfl) (ee:(backTo pos (cQ es X.env)).any (·.1)=false:=by rfl)
  (ht:eval (.Call (.Attribute o m apos) (e::es) [] pos) X.env=(do
   let ov <-eval o X.env
   standAt apos.atName
   let (f,first) <-holding [ov] (BF ov m pl)
   callWith pos f first (backTo pos (cQ (e::es) X.env)) (EF pos (Ec [] X.env))):=by rfl) :
  PE X (.Call (.Attribute o m apos) (e::es) [] pos) (Fj C m sp dvs E ta t):=by
 intro p_ s σ H Q I h;refine W.methodCall_KW (pl:=pl) (dC (he p_ s σ H _ I h) λu s1 x H1 I1 rx zq=>?_) ht;obtain⟨a,dx,fs,ex,ea,l,q⟩:=zq;subst ex;obtain rfl:u=di a:=rx;refine Jw I1 ea c hm l (W.callWith_K (first:=[.ref a]) (h₀:=X.base) I.ok.mod.qX hm.kp (lU (ha pos p_ s1 σ H1 _ I1 q) λus s2 vs H2 I2 r q2=>⟨I2.dF,?_⟩) dn ee);exact B9 (us:=.ref a::us) (vs:=.ref a::vs) F hr hb hd hx I2 (.cons rfl r) q2
theorem ip{pl:Sem Bool}(he:PE X o ta)(c:fQ X.K C)(hm:Meth X.K C m f)(F:ax X.prog X.w X.K X.mg X.base CX k f fd ps sp)(hr:fJ k X.A)(hb:Binds X.K fd ps ds)(hd:Vals dvs ds)(hx:Passes CX X E)
  (ht:eval (.Call (.Attribute o m apos) [] [] pos) X.env=(do
   let ov <-eval o X.env
   standAt apos.atName
   let (f,first) <-holding [ov] (BF ov m pl)
   callWith pos f first (backTo pos (cQ [] X.env)) (EF pos (Ec [] X.env))):=by rfl) :
  PE X (.Call (.Attribute o m apos) [] [] pos) (Fj C m sp dvs E ta An):=by
 intro p_ s σ H Q I h;refine W.methodCall_KW (pl:=pl) (dC (he p_ s σ H _ I h) λu s1 x H1 I1 rx zq=>?_) ht;obtain⟨a,dx,fs,ex,ea,l,q⟩:=zq;subst ex;obtain rfl:u=di a:=rx;exact Jw I1 ea c hm l (W.callWith_K0 (first:=[.ref a]) I1.dF hm.kp (B9 (us:=[.ref a]) (vs:=[.ref a]) F hr hb hd hx I1 (.cons rfl .nil) q))
structure Mk(K:W.Frag)(C f:e_):Prop where
 makes:W.makesIn K C=c_
 init:W.findIn K (.ref C) "__init__" = a_ (a_ (.ref f))
 fn:W.isFn K (.ref f)=c_
 kp:W.keepIn K (.ref C)=c_
theorem adA(M:Mk X.K C f)(F:ax X.prog X.w X.K X.mg X.base CX k f fd ps sp)(hr:fJ (k+1) X.A)(hb:Binds X.K fd ps ds)(hd:Vals dvs ds)
  (hx:Passes CX X E) (I:Inv X p_ σ H s) (r:Vals vs us)
  (h:∀x dx,H x=b_->H dx=b_->dx≠x->sp (.ref x::(vs++dvs)) (upd (upd H dx (.own x)) x (.ins C dx [])) (λv H2=>v=.aJ/\Q (.ref x) H2) E) :
  wpAny (model X.prog X.w) X.A (call (.ref C) us) (EP X p_ σ Q) X.xe s:=by
 have hq:=h (s.heap.objs.size+1) s.heap.objs.size (I.aQ.fresh (lH _)) (I.aQ.fresh (aN _)) (gh (vP _));have I2:=Inv.made (C:=C) I;have r2:Vals (V.ref (s.heap.objs.size+1)::(vs++dvs)) (di (s.heap.objs.size+1)::(us++ds)):=.cons rfl (r.append hd)
 have hl:(di (s.heap.objs.size+1)::us++ds).length=ps.length:=by
  have e:=r2.length;rw[F.len _ _ _ _ hq]at e;exact e.symm
 refine uw (ad8 (f:=f) I.dF M.makes M.init (beq_iff_eq.mp M.fn) (zG (F.run _ X.stack _ _ ⟨di (s.heap.objs.size+1)::us,[]⟩ (di (s.heap.objs.size+1)::(us++ds)) _ _ E (hr.make C us []) (I2.FY.make C us []) (hb _ (di (s.heap.objs.size+1)::us) I2.dF hl) r2 hq) λr s' qk=>?_));cases r with
 | error e=>exact hx p_ σ _ _ e s' I2 qk
 | ok fl=>
  cases fl with
  | ret u=>
   refine kZ (I2.after qk) λv H' I3 rv ev q3=>?_;subst ev;exact⟨rv,⟨V.ref (s.heap.objs.size+1),H',I3,rfl,q3⟩⟩
  | next=>exact jm qk
  | brk=>exact jm qk
  | cont=>exact jm qk
theorem sX(M:Mk X.K C f)(F:ax X.prog X.w X.K X.mg X.base CX k f fd ps sp)(hr:fJ (k+1) X.A)(hg:Gl X x)(hm:X.mg x=a_ (.ref C))(hb:Binds X.K fd ps ds)(hd:Vals dvs ds)(hx:Passes CX X E)
  (ha:PA X (e::es) t) (lD:(x == ("__debug__" : Str))=false:=by decide) (he:cQ (e::es) X.env=(d_,eval e X.env)::cQ es X.env:=by rfl) (ee:(backTo pos (cQ es X.env)).any (·.1)=false:=by rfl) :
  PE X (.Call (.Name x p) (e::es) [] pos) (ait C sp dvs E t):=by
 intro p_ s σ H Q I h;refine uk (uE I hg hm ?_ lD);refine W.callWith_K (h₀:=X.base) I.ok.mod.qX M.kp (lU (ha pos p_ s σ H _ I h) λus s1 vs H1 I1 r q=>⟨I1.dF,?_⟩) he ee;exact adA M F hr hb hd hx I1 r q
end
section
variable{X:Cx}{CX:pL}{k:Nat}{f C:e_}{fd:iJ}{ps ks:List Str}{sp:Sp}{E:XK}{x m:Str}{p pos apos akY:Pos}{e o:Expr}{es:List Expr}{kws:List Keyword}{te ta:TE}{t tk:TA}{nm:Option Str}
structure am8(K:W.Frag)(fd:iJ)(ps ks:List Str)(g:List f_->List f_->List f_)(gV:List V->List V->List V):Prop where
 to:∀(s:g_) (us ws:List f_),K.In s.heap->(g us ws).length=ps.length->BindsTo s fd ⟨us,ks.zip ws⟩ (ps.zip (g us ws))
 rel:∀{vs:List V} {us:List f_} {zs:List V} {ws:List f_},Vals vs us->Vals zs ws->Vals (gV vs zs) (g us ws)
variable{g:List f_->List f_->List f_}{gV:List V->List V->List V}
end
structure ba(N P:List Str)(sc:i_):Prop where
 kind:sc.kind=.function
 co:sc.isCoroutine=d_
 gen:sc.isGenerator=d_
 nd:N.Nodup
 pre:N.take P.length=P
 par:∀x∈P,sc.names.lookup x=a_ .local\/sc.names.lookup x=a_ .cell
 ag0:∀y∈sc.names,y.2≠.free
theorem bg{N P:List Str}{sc:i_}(a:sc.kind=.function:=by rfl)(b:sc.isCoroutine=false:=by rfl)(c:sc.isGenerator=false:=by rfl)(d:N.Nodup:=by decide +kernel)(e:N.take P.length=P:=by rfl)(f:∀x∈P,sc.names.lookup x=a_ .local\/ sc.names.lookup x=a_ .cell:=by decide +kernel)(g:∀y∈sc.names,y.2≠.free:=by decide +kernel):ba N P sc:=⟨a,b,c,d,e,f,g⟩
theorem Sl{kindOf:Str->Option gR}:∀{binds:List (Str×f_)} {m:Str->Option f_},(∀v,(x,v)∉binds)->bindL kindOf binds m x=m x
 | [],_,_=>rfl
 | (n,v)::r,m,h=>by
  unfold bindL;rw[Sl λw hw=>h w (gE _ hw)]
  split
  ·have:x≠n:=by rintro rfl;exact h v hX
   simp[this]
  ·rfl
theorem Sn{kindOf:Str->Option gR}:∀{binds:List (Str×f_)} {m:Str->Option f_},(∀v,(x,v)∉binds)->bindC kindOf binds m x=m x
 | [],_,_=>rfl
 | (n,v)::r,m,h=>by
  unfold bindC;rw[Sn λw hw=>h w (gE _ hw)]
  split
  ·rfl
  ·have:x≠n:=by rintro rfl;exact h v hX
   simp[this]
theorem Sm{kindOf:Str->Option gR}:∀{P:List Str} {vs:List f_} {i:Nat} {m:Str->Option f_},P.Nodup->P[i]?=a_ x->vs[i]?=a_ v->kindOf x=a_ .local->
  bindL kindOf (P.zip vs) m x=a_ v
 | [],_,_,_,_,h,_,_=>by simp at h
 | _::_,[],_,_,_,_,h,_=>by simp at h
 | p::P,w::vs,0,m,nd,h1,h2,hk=>by
  simp at h1 h2;subst h1;subst h2;show bindL kindOf ((p,w)::P.zip vs) m p=_;unfold bindL;rw[Sl λv hv=>(IU.mp nd).1 (Qy hv).1,if_pos hk];simp
 | p::P,w::vs,i+1,m,nd,h1,h2,hk=>by
  show bindL kindOf ((p,w)::P.zip vs) m x=_;unfold bindL;exact Sm (i:=i) (IU.mp nd).2 (by simpa using h1) (by simpa using h2) hk
theorem So{kindOf:Str->Option gR}:∀{P:List Str} {vs:List f_} {i:Nat} {m:Str->Option f_},P.Nodup->P[i]?=a_ x->vs[i]?=a_ v->kindOf x≠a_ .local->
  bindC kindOf (P.zip vs) m x=a_ v
 | [],_,_,_,_,h,_,_=>by simp at h
 | _::_,[],_,_,_,_,h,_=>by simp at h
 | p::P,w::vs,0,m,nd,h1,h2,hk=>by
  simp at h1 h2;subst h1;subst h2;show bindC kindOf ((p,w)::P.zip vs) m p=_;unfold bindC;rw[Sn λv hv=>(IU.mp nd).1 (Qy hv).1,if_neg hk];simp
 | p::P,w::vs,i+1,m,nd,h1,h2,hk=>by
  show bindC kindOf ((p,w)::P.zip vs) m x=_;unfold bindC;exact So (i:=i) (IU.mp nd).2 (by simpa using h1) (by simpa using h2) hk
def start(N:List Str)(vs:List V):St:=vs.map a_++eD (N.length-vs.length) b_
def nG(CX:pL)(P:l_)(w:k_)(K:W.Frag)(mg:Str->Option f_)(base:j_)(N:List Str)(qual:Str)(scope:i_)(f:e_)(cd:f_)(A:h_)(outer:List Env)(s:g_)(H:Hp)(E:XK):Cx where
 prog:=P
 w:=w
 K:=K
 mg:=mg
 base:=base
 A:=A.deeper (envOfC qual scope s.heap.objs.size f cd)
 N:=N
 s₀:=s
 H₀:=H
 env:=envOfC qual scope s.heap.objs.size f cd
 outer:=outer
 stack:=envOfC qual scope s.heap.objs.size f cd::outer
 ex:=[]
 calm:=c_
 fn:=λ_=>c_
 pn:=[]
 xe:=λe s'=>wpAny (model P w) (A.deeper (envOfC qual scope s.heap.objs.size f cd)) (leaving (envOfC qual scope s.heap.objs.size f cd) e) (λ_ yO=>CX outer H s E e yO) (λe' yO=>CX outer H s E e' yO) s'
theorem Tn{sc:i_}{n:Nat}(h:sc.names.lookup x=a_ .cell):∃c,(cellsFrom n sc.names []).lookup x=a_ c:=by
 have q:=W.cellsFrom_some sc.names n [] (.inl h);exact aao.mp q
theorem acY{CX:pL}{P:l_}{w:k_}{K:W.Frag}{mg:Str->Option f_}{base:j_}{scope:i_}{outer:List Env}
  (S:ba N ps scope) (hd:A.handled=b_) (e0:yC P w K mg base A outer s H) (hl:vs.length=ps.length) (r:Vals vs us)
  (x:InCallC s s.heap.objs.size (bindL (envOfC qual scope s.heap.objs.size f cd).kindOf (ps.zip us) λ_=>b_) (cellsFrom (s.heap.objs.size+1) scope.names []) (bindC (envOfC qual scope s.heap.objs.size f cd).kindOf (ps.zip us) λ_=>b_) s1) :
  Inv (nG CX P w K mg base N qual scope f cd A outer s H E) [] (start N vs) H s1:=by
 have ee:ps.length<=N.length:=by have:=congrArg Jo S.pre;rw[i8]at this;lia
 refine aW x.done λh1 tk aa hk=>?_;subst aa;have tZ:∀b:e_,b∉(nG CX P w K mg base N qual scope f cd A outer s H E).ex:=λb z=>absurd (show b∈([]:List e_) from z) (by simp);refine⟨⟨e0.mod,S.kind,rfl,rfl,aN _,λy z c h1 h2=>?_,λy hy=>?_,λy c _ h=>?_,λ_=>hd,aay e0.frames,.inr ⟨rfl,rfl⟩,λb z=>absurd z (tZ b),e0.bs,e0.oU,λb _ _=>tZ b,λb z=>absurd z (tZ b),e0.oJ,e0.tT⟩,rfl,e0.bare,Un.kept hk,⟨_,x.toInCall.ns,λi y v h1 h2 h3=>?_⟩,λy c h=>⟨_,x.cell y c h⟩,e0.aQ.fresh (aN _),λy c h=>?_,λp hp=>absurd (show p∈([]:List (e_×Obj)) from hp) (by simp),e0.aQ.kept hk,?_⟩
 ·exact name_of_addr x.apart (PySem.mem_of_lookup h1) (PySem.mem_of_lookup h2)
 ·have hy:scope.names.lookup y=a_ .cell\/scope.names.lookup y=a_ .free:=hy;rcases hy with hy | hy
  ·exact Tn hy
  ·exact absurd rfl (S.ag0 _ (PySem.mem_of_lookup hy))
 ·exact dw (x.above y c (PySem.mem_of_lookup h))
 ·have hi:i<vs.length:=by
   unfold start at h2
   by_cases hi:i<vs.length
   ·exact hi
   ·rw[DR (by simpa using hi)]at h2;rw[aaq]at h2
    split at h2 <;> cases h2
  have ha:vs[i]?=a_ v:=by
   unfold start at h2;rw[P2 (by simpa using hi),f9]at h2;cases e:vs[i]? with
   | none=>rw[e]at h2;cases h2
   | some a=>rw[e]at h2;cases h2;rfl
  refine af (r.get ha) λu hu rv=>?_
  have hp:ps[i]?=a_ y:=by
   rw[<-S.pre,List.getElem?_take_of_lt wf];exact h1
  have YA:ps.Nodup:=by rw[<-S.pre];exact S.nd.sublist (List.take_sublist _ _)
  refine⟨u,rv,?_⟩;rcases S.par y (bo hp)with k | k
  ·exact .inl ⟨k,Sm YA hp hu k⟩
  ·refine oE (Tn (n:=s.heap.objs.size+1) k) λc e=>.inr ⟨.inl k,c,e,?_⟩;have q:=x.cell y c e;rw[So YA hp hu (by show scope.names.lookup y≠_;rw[k];decide)]at q;exact q
 ·exact e0.aQ.fresh (dw (x.above y c (PySem.mem_of_lookup h)))
 ·unfold start;show _=N.length;rw[dM,aO,IA];lia
theorem wO{CX:pL}{P:l_}{w:k_}{K:W.Frag}{mg:Str->Option f_}{base:j_}{k:Nat}{params:Arguments}{body:List Stmt}{scope:i_}{dV kV doc pm aL ct oc:f_}{an od:Option e_}
  {jG:Array (Option f_)} {sp:Sp} (lk:K.lookup f=a_ ⟨oc,od,.func (W.fnOf name qual params body scope dV kV doc pm an aL ct),jG⟩) (jj:W.codeIn K aL qual=c_) (S:ba N ps scope)
  (len:∀vs H Q E,sp vs H Q E->vs.length=ps.length)
  (uZ:∀(A:h_) (outer:List Env) (s:g_) (H:Hp) (vs:List V) (Q:VK) (E:XK),fJ k (A.deeper (envOfC qual scope s.heap.objs.size f aL))->sp vs H Q E->
   ∃t,eV (nG CX P w K mg base N qual scope f aL A outer s H E) body t/\t { nx:=λ_ H'=>Q .aJ H',rt:=Q } (start N vs) H) :
  ax P w K mg base CX (k+1) f (W.fnOf name qual params body scope dV kV doc pm an aL ct) ps sp:=by
 refine⟨len,λA outer s H args us vs Q E hr e0 hb r rh=>?_⟩;have hl:=len _ _ _ _ rh;have KX:=e0.mod.qX.keeps λb o e=>(e0.bs b o e).1;have lim:=e0.mod.nolimit.keeps λb o e=>(e0.bs b o e).1
 have aj3:∀y∈ps.zip us,scope.names.lookup y.1=a_ .local\/(scope.names.lookup y.1=a_ .cell/\((cellsFrom (s.heap.objs.size+1) scope.names []).lookup y.1).isSome=c_):=λ⟨n,v⟩ hy=>by
  rcases S.par n (Qy hy).1 with q | q
  ·exact .inl q
  ·exact .inr ⟨q,W.cellsFrom_some _ _ _ (.inl q)⟩
 refine codeAny_call_function hr.depth (KX _ _ lk) rfl S.co S.gen rfl (W.codeRec_of KX jj) (hb _ _ _ _ (wpAny_newFunctionEnv_cells S.kind aj3 λenv he s1 x=>?_));subst he;refine⟨lim.keeps x.toInCall.keep,codeAny_func (af (uZ A outer s H vs Q E (hr.deeper _) rh) λt ht hq=>?_)⟩;have I:Inv (nG CX P w K mg base N qual scope f aL A outer s H E) [] (start N vs) H s1:=acY S hr.hd e0 hl r x;refine ja (ht [] s1 (start N vs) H _ I hq) (λfl s' hs=>?_) λe s' hs=>hs
 have fin:∀{σ':St} {H':Hp} {v:V} {u:f_},Inv (nG CX P w K mg base N qual scope f aL A outer s H E) [] σ' H' s'->RelV v u->Q v H'->CE outer P w H s Q u s':=
  λ{σ' H' v u} J rv q=>⟨v,H',J.os,J.bare,J.base,J.aQ,rv,q⟩
 cases fl with
 | ret u=>
  exact gw hs λv σ' H' J rv q=>fin J rv q
 | next=>
  exact aW hs λσ' H' J q=>fin (v:=V.aJ) (u:=mj) J rfl q
 | brk=>
  exact aW hs λ_ _ _ q=>jm q
 | cont=>
  exact aW hs λ_ _ _ q=>jm q
section
variable{X:Cx}{x:Str}{p pos:Pos}{e:Expr}{es:List Expr}{t:TA}{id T:String}{r:List V->Hp->VK->Prop}
def Ob(r:List V->Hp->VK->Prop)(t:TA):TE:=λσ H Q=>t σ H λvs H1=>r vs H1 Q
theorem cg(hc:oG X (.builtin id) r)(hg:Gl X x)(hm:X.mg x=b_)(hv:vS x=a_ (.builtin id))(ha:PA X (e::es) t)(hn:x ≠ "__name__":=by decide)(lD:(x == ("__debug__" : Str))=false:=by decide)
  (he:cQ (e::es) X.env=(d_,eval e X.env)::cQ es X.env:=by rfl) (ee:(backTo pos (cQ es X.env)).any (·.1)=false:=by rfl):PE X (.Call (.Name x p) (e::es) [] pos) (Ob r t):=by
 intro p_ s σ H Q I h;refine uk (tf I hg hm hv ?_ hn lD);exact PyProof.Rows.callWith_builtin1 (lU (ha pos p_ s σ H _ I h) λus s1 vs H1 I1 r1 q1=>hc p_ s1 σ H1 vs us Q I1 r1 q1) he ee
theorem rO(hc:oG X (.type T) r)(hg:Gl X x)(hm:X.mg x=b_)(hv:vS x=a_ (.type T))(ha:PA X (e::es) t)(hn:x ≠ "__name__":=by decide)(lD:(x == ("__debug__" : Str))=false:=by decide)
  (he:cQ (e::es) X.env=(d_,eval e X.env)::cQ es X.env:=by rfl) (ee:(backTo pos (cQ es X.env)).any (·.1)=false:=by rfl):PE X (.Call (.Name x p) (e::es) [] pos) (Ob r t):=by
 intro p_ s σ H Q I h;refine uk (tf I hg hm hv ?_ hn lD);exact zm (lU (ha pos p_ s σ H _ I h) λus s1 vs H1 I1 r1 q1=>hc p_ s1 σ H1 vs us Q I1 r1 q1) he ee
end
end L2
namespace HT
open PySem PyProof.Rows
section
open PySem.SeqAt
open PySem.AutoSeq1 (wpAny_loadPart')
open PySem.MeetsSeq PySem.MeetsSeq2 PySem.MeetsSeq3
end
section
variable{prog:l_}{w:k_}{A:h_}{E:f_->g_->Prop}{s:g_}
def cA(n d:Nat):Option Int->Nat
 | none=>d
 | some v=>if v<0 then (v+(n:Int)).toNat else min v.toNat n
theorem J'(n d:Nat):cA n d b_=d:=rfl
theorem KS(n d k:Nat):cA n d (a_ (k:Int))=min k n:=by
 show (if (k:Int)<0 then ((k:Int)+(n:Int)).toNat else min (k:Int).toNat n)=min k n;rw[if_neg li,jJ]
theorem agE(n d:Nat)(hd:d<=n)(o:Option Int):cA n d o<=n:=by
 cases o with
 | none=>exact hd
 | some v=>
  show (if v<0 then (v+(n:Int)).toNat else min v.toNat n)<=n
  by_cases hv:v<0
  ·rw[if_pos hv];lia
  ·rw[if_neg hv];exact Nat.min_le_right _ _
theorem Uu(v:Int)(n d:Nat):(if v<0 then max (v+(n:Int)) 0 else min v (n:Int))=((cA n d (a_ v):Nat):Int):=by
 show (if v<0 then max (v+(n:Int)) 0 else min v (n:Int))=(((if v<0 then (v+(n:Int)).toNat else min v.toNat n):Nat):Int)
 by_cases hv:v<0
 ·simp only[if_pos hv];lia
 ·simp only[if_neg hv];lia
theorem ace(lo hi:Option Int)(n:Nat):P5 lo hi 1 (n:Int)=(((cA n 0 lo:Nat):Int),((cA n n hi:Nat):Int)):=by
 have h1:¬((1:Int)<0):=li;unfold P5;simp only[h1,if_false];refine Prod.ext ?_ ?_
 ·cases lo with
  | none=>rfl
  | some v=>exact Uu v n 0
 ·cases hi with
  | none=>rfl
  | some v=>exact Uu v n n
theorem abV(i j:Nat):Ir (i:Int) (j:Int) 1=j-i:=by
 unfold Ir;have h1:(1:Int) > 0:=li;simp only[h1,if_true,Int.ediv_one]
 split <;> lia
theorem Q4{o:Option Int}{Q:Option Int->g_->Prop}(p:IsPart v o)(h:Q o s):wpAny (model prog w) A (Builtin.Slice.slicePartIndex v) Q E s:=by
 cases p with
 | none=>exact slicePart_none h
 | int i t=>exact slicePart_int h
theorem aaS{sl:e_}{lo hi:Option Int}{n:Nat}{Q:Int×Int×Nat->g_->Prop}(hs:s.heap.IsSliceOf sl vl vu .none)(pl:IsPart vl lo)(pu:IsPart vu hi)
  (h:Q (((cA n 0 lo:Nat):Int),1,cA n n hi-cA n 0 lo) s):wpAny (model prog w) A (aaf (.ref sl) (pure (n:Int))) Q E s:=by
 obtain⟨os,yX,A7,A5⟩:=id hs;unfold aaf Builtin.Slice.sliceFields;refine ay (ay (kz yX A5 (x:=vl) rfl (ay (kz yX A5 (x:=vu) rfl (ay (kz yX A5 (x:=.none) rfl (a7 (ay (slicePart_none ?_)))))))));show wpAny _ _ (if ((1:Int) == 0)=c_ then _ else _) _ _ s;rw[if_neg qc];refine ay (Q4 pl (ay (Q4 pu (ay (a7 ?_)))));show wpAny _ _ (match P5 lo hi 1 (n:Int)with | (lo,hi)=>pure (lo,(1:Int),Ir lo hi 1)) _ _ s;rw[ace lo hi n];show wpAny _ _ (pure (((cA n 0 lo:Nat):Int),(1:Int),Ir ((cA n 0 lo:Nat):Int) ((cA n n hi:Nat):Int) 1)) _ _ s;rw[abV];exact a7 h
theorem adF(xs:Array f_)(i k:Nat):((List.range k).filterMap λ(m:Nat)=>xs[((i:Int)+(m:Int)*1).toNat]?).toArray=((xs.toList.drop i).take k).toArray:=by
 have e:(λ(m:Nat)=>xs[((i:Int)+(m:Int)*1).toNat]?)=λm=>xs[i+m]?:=by
  funext m
  have:((i:Int)+(m:Int)*1).toNat=i+m:=li;rw[this]
 rw[e];have:=pick_run xs i k;rw[List.filterMap_map]at this;have e2:((λx=>xs[x]?) ∘ λx=>i+x)=λm=>xs[i+m]?:=rfl;rw[e2]at this;rw[this]
theorem aaH{t sl:e_}{items:Array f_}{lo hi:Option Int}(ht:IsTup s.heap t items)(hs:s.heap.IsSliceOf sl vl vu .none)(pl:IsPart vl lo)(pu:IsPart vu hi)
  (hw:¬(cA items.size 0 lo=0/\cA items.size items.size hi=items.size))
  (h:Q (.ref s.heap.objs.size) { s with heap:=s.heap.push { cls:=.type "tuple",data:=.seq ((items.toList.drop (cA items.size 0 lo)).take (cA items.size items.size hi-cA items.size 0 lo)).toArray } })
  (dP:items.size<=cW):wpAny (model prog w) A (getItem (.ref t) (.ref sl)) Q E s:=by
 have FL:sizeOk (.seq ((items.toList.drop (cA items.size 0 lo)).take (cA items.size items.size hi-cA items.size 0 lo)).toArray):=by
  show ((items.toList.drop (cA items.size 0 lo)).take (cA items.size items.size hi-cA items.size 0 lo)).toArray.size<=cW;rw[eO,i8,vQ,Bj];omega
 have hj:cA items.size items.size hi<=items.size:=agE _ _ (aN _) hi;obtain⟨os,yX,A7,A5⟩:=id hs;have hTs:s.TypeIs (.ref sl) "slice":=⟨os,yX,A7⟩;unfold getItem
 try with_reducible refine pP ?_
 first | refine ay (a7 ?_) | skip
 refine ay (wpAny_sequenceKey ht.typeIs qc ?_);refine ay (Be (name:=gL "__getitem__") ht.typeIs PZ (zv PZ ht.typeIs entry_tuple_getitem ?_ (args_tuple_getitem _ _)));show wpAny _ _ (Builtin.Tuple.tupleItemsOf (.ref t) >>= _) _ _ s;refine ay (tupleItemsOf_ ht (ay (wpAny_typeOf hTs ?_)));rw[if_pos qc];refine ay (aaS hs pl pu ?_)
 have iH:¬((((cA items.size 0 lo:Nat):Int) == 0&&(1:Int) == 1&&(cA items.size items.size hi-cA items.size 0 lo) == items.size)=c_):=by
  intro q;rw[i9,i9]at q;have q1:=Er q.1.1;have q2:=Er q.2;exact hw ⟨li,om⟩
 show wpAny _ _ (if (((cA items.size 0 lo:Nat):Int) == 0&&(1:Int) == 1&&(cA items.size items.size hi-cA items.size 0 lo) == items.size)=c_ then _ else _) _ _ s;rw[if_neg iH,adF]
 first
  | exact ay (m:=Iu _) (x6 (a7 ⟨_,rfl,a7 h⟩) FL)
  | exact ay (m:=Iu _) (x6 (ay (a7 (a7 ⟨_,rfl,a7 h⟩))) FL)
  | exact ay (ay (m:=Iu _) (x6 (a7 (a7 ⟨_,rfl,a7 h⟩)) FL))
  | exact ay (ay (m:=Iu _) (x6 (a7 ⟨_,rfl,a7 h⟩) FL))
end
end HT
namespace L2
open PySem PySem.Spec PyProof.Rows
abbrev TO:=St->Hp->(Option Int->Hp->Prop)->Prop
def PO(X:Cx)(e:Option Expr)(t:TO):Prop:=
 ∀(p_:List (e_×Obj)) (s:g_) (σ:St) (H:Hp) (Q:Option Int->Hp->Prop),Inv X p_ σ H s->t σ H Q->
  wpAny (model X.prog X.w) X.A (evalPart e X.env) (λu s'=>∃o H',Inv X p_ σ H' s'/\IsPart u o/\Q o H') X.xe s
def BS:TO:=λ_ H Q=>Q b_ H
def Cf(t:TE):TO:=λσ H Q=>t σ H λx H1=>∃i,x=.int i/\Q (a_ i) H1
theorem intsAre_of:∀{us:List f_},Vals (ns.map V.int) us->IntsAre us ns:=by
 induction ns with
 | nil=>intro us r;rw[QQ]at r;cases r;exact .nil
 | cons n ns ih=>
  intro us r;rw[gK]at r;cases r with
  | cons r1 r2=>
   refine oE r1 λt e=>?_;subst e;exact .cons n t (ih r2)
section
variable{X:Cx}{e:Expr}{te:TE}{lo hi:Option Expr}{tl th:TO}{pos p2:Pos}
theorem oq:PO X b_ BS:=by
 intro p_ s σ H Q I h;rw[evalPart_none];exact a7 ⟨b_,H,I,.none,h⟩
theorem oo(h:PE X e te):PO X (a_ e) (Cf te):=by
 intro p_ s σ H Q I hw;rw[evalPart_some];refine dC (h p_ s σ H _ I hw) λu s1 x H1 I1 r1 q1=>af q1 λi aa q=>?_;clear q1;subst aa;refine oE r1 λt aa=>?_;clear r1;subst aa;exact⟨a_ i,H1,I1,.int i t,q⟩
def Hc(X:Cx)(r:V->Option Int->Option Int->Hp->VK->Prop):Prop:=
 ∀(p_:List (e_×Obj)) (s:g_) (σ:St) (H:Hp) (x:V) (v vl vu:f_) (lo hi:Option Int) (sl:e_) (Q:VK),Inv X p_ σ H s->RelV x v->s.heap.IsSliceOf sl vl vu .none->IsPart vl lo->IsPart vu hi->r x lo hi H Q->
  ∃T id,Ei (.type T) "__getitem__" = pure (a_ (.builtin id))/\s.TypeIs v T/\wpAny (model X.prog X.w) X.A (getItem v (.ref sl)) (EP X p_ σ Q) X.xe s
def CM(r:V->Option Int->Option Int->Hp->VK->Prop)(te:TE)(tl th:TO):TE:=λσ H Q=>te σ H λx H1=>tl σ H1 λl H2=>th σ H2 λu H3=>r x l u H3 Q
theorem og{r:V->Option Int->Option Int->Hp->VK->Prop}(hr:Hc X r)(he:PE X e te)(hl:PO X lo tl)(hu:PO X hi th):PE X (.Subscript e (.Slice lo hi b_ p2) pos) (CM r te tl th):=by
 intro p_ s σ H Q I h;refine Subscript_ (dC (he p_ s σ H _ I h) λv s1 x H1 I1 r1 q1=>wpAny_Slice (eJ (hl p_ s1 σ H1 _ I1 q1) λvl s2 zq=>cI zq λl H2 I2 pl q2=>eJ (hu p_ s2 σ H2 _ I2 q2) λvu s3 zq=>cI zq λu H3 I3 pu q3=>?_));rw[evalPart_none];refine a7 ?_;have I4:Inv X p_ σ H3 { s3 with heap:=s3.heap.push { cls:=.type "slice",data:=.fields #[vl,vu,.none] } }:=I3.kept (t':=s3.toks) λb ob q=>b8 _ q;refine cI (hr p_ { s3 with heap:=s3.heap.push { cls:=.type "slice",data:=.fields #[vl,vu,.none] } } σ H3 x v vl vu l u s3.heap.objs.size Q I4 r1 (Heap.IsSliceOf.new ..) pl pu q3) λT id hT ht hg=>?_;show wpAny (model X.prog X.w) X.A (subscriptTail e (.Slice lo hi b_ p2) v (.ref s3.heap.objs.size)) (EP X p_ σ Q) X.xe { s3 with heap:=s3.heap.push { cls:=.type "slice",data:=.fields #[vl,vu,.none] } };exact tail_any (ops:=[.ref s3.heap.objs.size,v]) ht hT hg (by with_unfolding_all rfl)
def jt(xs:List V)(lo hi:Option Int):List V:=(xs.drop (HT.cA xs.length 0 lo)).take (HT.cA xs.length xs.length hi-HT.cA xs.length 0 lo)
theorem QY(xs:List V)(lo hi:Option Int):(jt xs lo hi).length<=xs.length:=by
 unfold jt;rw[i8,vQ];lia
def Ao(K:W.Frag):V->Option Int->Option Int->Hp->VK->Prop:=λx lo hi H Q=>∃a xs,x=.ref a/\aI K H a xs/\
 ¬(HT.cA xs.length 0 lo=0/\HT.cA xs.length xs.length hi=xs.length)/\∀p,H p=b_->Q (.ref p) (upd H p (.tup (jt xs lo hi)))
theorem Ls:Hc X (Ao X.K):=by
 intro p_ s σ H x v vl vu lo hi sl Q I rx hs pl pu h;refine kZ h λa xs aa hx hw q=>?_;clear h;subst aa;cases rx;refine aG (I.tuple hx) λaw r ht hz=>?_;have hlen:aw.toArray.size=xs.length:=by rw[eO];exact r.length.symm
 refine⟨"tuple",_,PZ.lookup,ht.typeIs,HT.aaH ht hs pl pu (by rw[hlen];exact hw) ?_ (by rw[hlen];exact hz)⟩;rw[hlen];refine⟨.ref s.heap.objs.size,_,I.laid (t':=s.toks) (o:=.tup (jt xs lo hi)) (λb ob q=>b8 _ q) (aN _) ?_,rfl,q _ (I.aQ.fresh (aN _))⟩;exact⟨cC (QY xs lo hi) hz,_,(r.drop (HT.cA xs.length 0 lo)).take (HT.cA xs.length xs.length hi-HT.cA xs.length 0 lo),IsTup.new _ _⟩
end
def sf(n:Nat)(i:Int):Option Nat:=if 0<=i then (if i<n then a_ i.toNat else b_) else if -(n:Int)<=i then a_ (i+n).toNat else b_
def jg{α:Type}(xs:List α)(i:Int):Option α:=(sf xs.length i).bind λj=>xs[j]?
theorem Ug{n:Nat}{i:Int}{j:Nat}(h:sf n i=a_ j):JU i n=a_ j/\j<n/\-(n:Int)<=i/\i<n:=by
 unfold sf at h
 by_cases h0:0<=i
 ·rw[if_pos h0]at h
  by_cases h1:i<n
  ·rw[if_pos h1]at h;have e:=dq h;exact⟨by rw[seqIndex_of h0 h1,e],li,li,h1⟩
  ·rw[if_neg h1]at h;cases h
 ·rw[if_neg h0]at h
  by_cases h1:-(n:Int)<=i
  ·rw[if_pos h1]at h;have e:=dq h;exact⟨by rw[QN li h1,e],li,h1,li⟩
  ·rw[if_neg h1]at h;cases h
theorem Uw{α:Type}{xs:List α}{i:Int}{v:α}(h:jg xs i=a_ v):∃j,JU i xs.length=a_ j/\xs[j]?=a_ v/\j<xs.length/\-(xs.length:Int)<=i/\i<xs.length:=by
 unfold jg at h;cases e:sf xs.length i with
 | none=>rw[e]at h;cases h
 | some j=>
  rw[e]at h;exact iB (Ug e) λh1 h2 h3 h4=>⟨j,h1,h,h2,h3,h4⟩
theorem cb{α:Type}{xs:List α}{j:Nat}{v:α}(h:xs[j]?=a_ v):jg xs (j:Int)=a_ v:=by
 have hj:j<xs.length:=(dX.mp h).1
 have e:sf xs.length (j:Int)=a_ j:=by
  unfold sf;rw[if_pos li,if_pos li];simp
 unfold jg;rw[e];exact h
theorem BP{α:Type}(xs:List α)(v:α):jg (xs++[v]) (-1)=a_ v:=by
 have hl:(xs++[v]).length=xs.length+1:=by simp
 have e:sf (xs++[v]).length (-1)=a_ xs.length:=by
  unfold sf;rw[hl,if_neg qc,if_pos li]
  congr 1
  lia
 unfold jg;rw[e];show (xs++[v])[xs.length]?=a_ v;simp
def agg(b:Expr):Prop:=∀o i,subscripted b d_ o i=operate [o,i] (getItem o i)
def CV(X:Cx)(r:R2):Prop:=
 ∀(value slice:Expr) (p_:List (e_×Obj)) (s:g_) (σ:St) (H:Hp) (x y:V) (v u:f_) (Q:VK),Inv X p_ σ H s->RelV x v->RelV y u->r x y H Q->
  subscripted slice d_ v u=operate [v,u] (getItem v u)->wpAny (model X.prog X.w) X.A (subscriptTail value slice v u) (EP X p_ σ Q) X.xe s
def MtR(X:Cx)(id:String)(r:V->List V->Hp->VK->Prop):Prop:=
 ∀(p_:List (e_×Obj)) (s:g_) (σ:St) (H:Hp) (x:V) (xs:List V) (v:f_) (us:List f_) (Q:VK),Inv X p_ σ H s->RelV x v->Vals xs us->r x xs H Q->
  wpAny (model X.prog X.w) X.A (call (.builtin id) (v::us)) (EP X p_ σ Q) X.xe s
section
variable{X:Cx}{a b:Expr}{ta tb:TE}{pos:Pos}
theorem az{r:R2}(hr:CV X r)(ha:PE X a ta)(hb:PE X b tb)(hs:agg b:=by intro _ _;rfl):PE X (.Subscript a b pos) (lV r ta tb):=by
 intro p_ s σ H Q I h;exact Subscript_ (NH ha hb I h λv u s2 x y H2 I2 rx ry q=>hr a b p_ s2 σ H2 x y v u Q I2 rx ry q (hs _ _))
def vc(K:W.Frag):R2:=λx y H Q=>∃p xs i v,x=.ref p/\y=.int i/\aj K H p xs/\jg xs i=a_ v/\Q v H
def tG(K:W.Frag):R2:=λx y H Q=>∃p xs i v,x=.ref p/\y=.int i/\aI K H p xs/\jg xs i=a_ v/\Q v H
theorem aS:CV X (vc X.K):=by
 intro value slice p_ s σ H x y v u Q I rx ry h hs;refine oz h λp xs i z aa aH=>?_;clear h;subst aa;refine iB aH λaa hq he q=>?_;clear aH;subst aa;cases rx;refine oE ry λt aa=>?_;clear ry;subst aa;refine aG (I.list hq) λaw r pl hz=>nA (Uw he) λj h1 h2 h3 h4 h5=>af (r.get h2) λw ew qj=>?_;have hl:=r.length;have hn:=wG;have fin:EP X p_ σ Q w s:=⟨z,H,I,qj,q⟩
 by_cases h0:0<=i
 ·have hj:i.toNat=j:=by
   rw[seqIndex_of h0 h5]at h1;exact dq h1
  exact item_listR pl.isList h0 li (by rw[hj];simpa using ew) fin hs
 ·have hj:(i+(aw.toArray.size:Int)).toNat=j:=by
   rw[QN li h4]at h1;rw[eO,<-hl];exact dq h1
  exact aar (x:=w) pl.isList.typeIs slot_list_getitem.lookup
   (wpAny_getItem_list_neg (Q:=λr s'=>r=w/\EP X p_ σ Q r s') pl.isList om (by rw[eO] <;> lia) li (by rw[hj];simpa using ew) ⟨rfl,fin⟩) hs
theorem bh:CV X (tG X.K):=by
 intro value slice p_ s σ H x y v u Q I rx ry h hs;refine oz h λp xs i z aa aH=>?_;clear h;subst aa;refine iB aH λaa hq he q=>?_;clear aH;subst aa;cases rx;refine oE ry λt aa=>?_;clear ry;subst aa;refine aG (I.tuple hq) λaw r pl hz=>nA (Uw he) λj h1 h2 h3 h4 h5=>af (r.get h2) λw ew qj=>?_;have hl:=r.length;have hn:=wG;have fin:EP X p_ σ Q w s:=⟨z,H,I,qj,q⟩
 exact aar (x:=w) pl.typeIs slot_tuple_getitem.lookup
  (getItem_tuple (j:=j) (Q:=λr s'=>r=w/\EP X p_ σ Q r s') pl li li (by rw[eO,<-hl];exact h1) (by simpa using ew) ⟨rfl,fin⟩) hs
theorem ab7(aw:List f_)(n j:Nat)(u:f_):sT (·.setIfInBounds j u) { cls:=.type "list",data:=.seq aw.toArray n }={ cls:=.type "list",data:=.seq (aw.set j u).toArray n }:=by
 simp[sT]
theorem Inv.lst(I:Inv X p_ σ H s)(h:H p=a_ (.lst xs)) :
  ∃(aw:List f_) (n:Nat),Vals xs aw/\s.heap.get? p=a_ { cls:=.type "list",data:=.seq aw.toArray n }/\xs.length<=cW:=by
 exact oA (I.aQ p _ h) λz aa=>aW aa λaw n r e=>⟨aw,n,r,e,z⟩
theorem Inv.ag'{p_:List (e_×Obj)}{σ:St}{H:Hp}{s:g_}{p:e_}{xs ys:List V}{aw nI:List f_}{n n':Nat}{f:Obj->Obj}(I:Inv X p_ σ H s)(h:H p=a_ (.lst xs))
  (ho:s.heap.get? p=a_ { cls:=.type "list",data:=.seq aw.toArray n }) (hf:f { cls:=.type "list",data:=.seq aw.toArray n }={ cls:=.type "list",data:=.seq nI.toArray n' }) (r:Vals ys nI) (hz:ys.length<=cW) (t:Nat) :
  Inv X p_ σ (upd H p (.lst ys)) { s with heap:=s.heap.update p f,toks:=t }:=by
 have e:(s.heap.update p f).get? p=a_ { cls:=.type "list",data:=.seq nI.toArray n' }:=by
  rw[Bh f ho (by rw[hf] <;> rfl),hf]
 refine I.write (x:=p) (e:=p) (by rw[h];trivial) (.inl rfl) (λb u hb q=>(vI _ _ (gq hb)).trans q) ⟨_,e⟩ ?_;exact⟨hz,nI,n',r,e⟩
def aiD:V->V->V->Hp->(Hp->Prop)->Prop:=λo i v H Q=>∃p xs k j,o=.ref p/\i=.int k/\H p=a_ (.lst xs)/\sf xs.length k=a_ j/\Q (upd H p (.lst (xs.set j v)))
theorem set_list:NI X aiD:=by
 intro p_ s σ H o i v ov iv u Q I ro ri rv h;refine oz h λp xs k j aa aH=>?_;clear h;subst aa;refine iB aH λaa hp hj q=>?_;clear aH;subst aa;cases ro;refine oE ri λt aa=>?_;clear ri;subst aa;refine cI (I.lst hp) λaw n r ho hz=>iB (Ug hj) λh1 h2 h3 h4=>?_;have hl:=r.length;have hn:=wG
 have I':Inv X p_ σ (upd H p (.lst (xs.set j v))) { s with heap:=s.heap.update p (sT (·.setIfInBounds j u)) }:=
  I.ag' hp ho (ab7 aw n j u) (r.set rv j) (by rw[kv];exact hz) s.toks
 by_cases h0:0<=k
 ·have hk:k.toNat=j:=by
   rw[seqIndex_of h0 h4]at h1;exact dq h1
  exact W.ki_setAt ho h0 li (by rw[eO,<-hl];exact h4) (by rw[hk];exact⟨_,I',q⟩)
 ·have hk:(k+(aw.toArray.size:Int)).toNat=j:=by
   rw[QN li h3]at h1;rw[eO,<-hl];exact dq h1
  exact W.ki_setBack ho om (by rw[eO,<-hl];exact h3) li (by rw[hk];exact⟨_,I',q⟩)
theorem abq(lo hi:Option Int)(n:Nat):(zK lo hi b_ n).1=((HT.cA n 0 lo:Nat):Int)/\(zK lo hi b_ n).2.1=((HT.cA n n hi:Nat):Int)/\(zK lo hi b_ n).2.2=1:=by
 refine⟨?_,?_,rfl⟩
 ·cases lo with
  | none=>simp[zK,HT.cA]
  | some i=>
   simp only[zK,HT.cA,Option.getD_none,show (1:Int) > 0 by decide,if_true]
   by_cases h:i<0
   ·simp only[h,if_true] <;> lia
   ·simp only[h,if_false] <;> lia
 ·cases hi with
  | none=>simp[zK,HT.cA]
  | some i=>
   simp only[zK,HT.cA,Option.getD_none,show (1:Int) > 0 by decide,if_true]
   by_cases h:i<0
   ·simp only[h,if_true] <;> omega
   ·simp only[h,if_false] <;> omega
theorem abd(aw:List f_)(lo hi:Option Int):slicePick aw.toArray lo hi b_=((aw.drop (HT.cA aw.length 0 lo)).take (HT.cA aw.length aw.length hi-HT.cA aw.length 0 lo)).toArray:=by
 refine bp (abq lo hi aw.toArray.size) λh1 h2 h3=>?_;unfold slicePick;rw[h1,h2,h3];simp only[sliceRange_one,pick_run,eO] <;> rfl
def aku(K:W.Frag):V->Option Int->Option Int->Hp->VK->Prop:=λx lo hi H Q=>∃a xs,x=.ref a/\aj K H a xs/\∀p,H p=b_->Q (.ref p) (upd H p (.lst (jt xs lo hi)))
theorem yk:Hc X (aku X.K):=by
 intro p_ s σ H x v vl vu lo hi sl Q I rx hs pl pu h;refine cI h λa xs aa hx q=>?_;clear h;subst aa;cases rx;refine aG (I.list hx) λaw r ht hz=>?_;have hlen:=r.length;refine⟨"list",_,slot_list_getitem.lookup,ht.isList.typeIs,?_⟩;refine wpAny_getItem_list_slice ht.isList hs pl pu .none (by simp) ?_ (by rw[eO] <;> lia);rw[abd,<-hlen];refine⟨.ref s.heap.objs.size,_,I.laid (t':=s.toks) (o:=.lst (jt xs lo hi)) (λb ob q=>b8 _ q) (aN _) ?_,rfl,q _ (I.aQ.fresh (aN _))⟩;exact⟨cC (QY xs lo hi) hz,_,0,(r.drop (HT.cA xs.length 0 lo)).take (HT.cA xs.length xs.length hi-HT.cA xs.length 0 lo),ik _ rfl⟩
def uV:V->Bool
 | .aJ=>c_
 | .bl _=>c_
 | .int _=>c_
 | .str _=>c_
 | _=>d_
def qd:V->V->Bool
 | .aJ,.aJ=>c_
 | .bl a,.bl b=>a == b
 | .bl a,.int b=>(if a then 1 else 0) == b
 | .int a,.bl b=>a == (if b then 1 else 0)
 | .int a,.int b=>a == b
 | .str a,.str b=>a == b
 | _,_=>d_
theorem ahx(ry:RelV y u)(rx:RelV x v)(fy:uV y=c_)(fx:uV x=c_):kI A s u v (qd y x):=by
 cases y with
 | aJ=>
  cases ry;cases x with
  | aJ=>cases rx;exact kI.same _
  | bl b=>cases rx;exact kI.none_bool b
  | int b=>obtain⟨t,rfl⟩:=rx;exact kI.none_int b t
  | str b=>obtain⟨t,rfl⟩:=rx;exact kI.none_str b t
  | _=>exact absurd (show d_=c_ from fx) dY
 | bl a=>
  cases ry;cases x with
  | aJ=>cases rx;exact kI.bool_none a
  | bl b=>cases rx;exact kI.bool_bool a b
  | int b=>obtain⟨t,rfl⟩:=rx;exact kI.bool_int a b t
  | str b=>obtain⟨t,rfl⟩:=rx;exact kI.bool_str a b t
  | _=>exact absurd (show d_=c_ from fx) dY
 | int a=>
  obtain⟨t',rfl⟩:=ry;cases x with
  | aJ=>cases rx;exact kI.int_none a t'
  | bl b=>cases rx;exact kI.int_bool a t' b
  | int b=>obtain⟨t,rfl⟩:=rx;exact kI.int_int a t' b t
  | str b=>obtain⟨t,rfl⟩:=rx;exact aaC a t' b t
  | _=>exact absurd (show d_=c_ from fx) dY
 | str a=>
  obtain⟨t',rfl⟩:=ry;cases x with
  | aJ=>cases rx;exact kI.str_none a t'
  | bl b=>cases rx;exact kI.str_bool a t' b
  | int b=>obtain⟨t,rfl⟩:=rx;exact aaB a t' b t
  | str b=>obtain⟨t,rfl⟩:=rx;exact kI.str_str a t' b t
  | _=>exact absurd (show d_=c_ from fx) dY
 | _=>exact absurd (show d_=c_ from fy) dY
def vn(x:V)(u:f_):Bool:=match u with
 | .none=>qd .aJ x
 | .bool b=>qd (.bl b) x
 | .int i _=>qd (.int i) x
 | .str z _=>qd (.str z) x
 | _=>d_
theorem Vn(r:RelV y u)(f:uV y=c_):vn x u=qd y x:=by
 cases y with
 | aJ=>cases r;rfl
 | bl b=>cases r;rfl
 | int i=>obtain⟨t,rfl⟩:=r;rfl
 | str z=>obtain⟨t,rfl⟩:=r;rfl
 | _=>exact absurd (show d_=c_ from f) dY
theorem Lh:∀{xs:List V} {us:List f_},Vals xs us->xs.all uV=c_->us.any (vn x)=xs.any λy=>qd y x
 | _,_,.nil,_=>rfl
 | y::xs,u::us,.cons r t,f=>by
  rw[zC,i9]at f;rw[zB,zB,Vn r f.1,Lh t f.2]
theorem Kj(rx:RelV x v)(fx:uV x=c_):∀{xs:List V} {us:List f_},Vals xs us->xs.all uV=c_->∀u∈us,kI A s u v (vn x u)
 | _,_,.nil,_=>λu hu=>by cases hu
 | y::xs,u::us,.cons r t,f=>λu' hu=>by
  rw[zC,i9]at f;rcases cV.mp hu with rfl | hu
  ·rw[Vn r f.1];exact ahx r rx f.1 fx
  ·exact Kj rx fx t f.2 u' hu
def AH(x:V)(xs:List V):Bool:=xs.any λy=>qd y x
def rIn(K:W.Frag)(neg:Bool):R2:=λx y H Q=>∃p xs,y=.ref p/\(aj K H p xs\/aI K H p xs)/\uV x=c_/\xs.all uV=c_/\Q (.bl (if neg then !AH x xs else AH x xs)) H
theorem QJ:gd X (lJ .NotIn) (rIn X.K c_):=by
 intro p_ s σ H x y v u Q I rx ry h;obtain⟨p,xs,aa,hq,fx,fs,q⟩:=h;subst aa;cases ry;rcases hq with hq | hq
 ·refine aG (I.list hq) λaw r pl hz=>SeqAt.notIn_listAt (vn x) pl.isList (λw hw=>Kj rx fx r fs w (by simpa using hw)) ⟨.bl _,H,I,rfl,?_⟩;rw[show aw.toArray.any (vn x)=aw.any (vn x) by simp,Lh r fs];exact q
 ·refine aG (I.tuple hq) λaw r pl hz=>SeqAt.notIn_tupleAt (vn x) pl (λw hw=>Kj rx fx r fs w (by simpa using hw)) ⟨.bl _,H,I,rfl,?_⟩;rw[show aw.toArray.any (vn x)=aw.any (vn x) by simp,Lh r fs];exact q
theorem fg:oG X (.builtin "len") (λxs H Q=>∃p ys,xs=[.ref p]/\(aj X.K H p ys\/aI X.K H p ys)/\Q (.int ys.length) H):=by
 intro p_ s σ H xs us Q I r h;obtain⟨p,ys,rfl,hq,q⟩:=h;obtain⟨u,rfl,rx⟩:=vals1 r;cases rx;have hn:=wG;rcases hq with hq | hq
 ·obtain⟨aw,r',pl,hz⟩:=I.list hq;have hlen:=r'.length;exact Calls.call_len_list pl.isList (by simp only[eO] <;> lia) ⟨.int ys.length,H,I.tok _,⟨s.toks+1,by rw[eO,hlen]⟩,q⟩
 ·obtain⟨aw,r',pl,hz⟩:=I.tuple hq;have hlen:=r'.length;exact len_tuple pl (by simp only[eO] <;> omega) ⟨.int ys.length,H,I.tok _,⟨s.toks+1,by rw[eO,hlen]⟩,q⟩
theorem zF:oG X (.type "list") (λxs H Q=>∃p ys,xs=[.ref p]/\(aj X.K H p ys\/aI X.K H p ys)/\∀l,H l=b_->Q (.ref l) (upd H l (.lst ys))):=by
 intro p_ s σ H xs us Q I r h;obtain⟨p,ys,rfl,hq,q⟩:=h;obtain⟨u,rfl,rx⟩:=vals1 r;cases rx
 have fin:∀(aw:List f_),Vals ys aw->ys.length<=cW->∀(h':j_) (c':Nat),(∀b o',s.heap.get? b=a_ o'->h'.get? b=a_ o')->
   h'.get? s.heap.objs.size=a_ { cls:=.type "list",dict:=b_,data:=.seq aw.toArray c',slots:=#[] }->EP X p_ σ Q (.ref s.heap.objs.size) { s with heap:=h' }:=λaw r' hz h' c' kp e=>
  ⟨.ref s.heap.objs.size,_,I.laid (t':=s.toks) kp (aN _) (show hZ X.prog X.w _ h' _ (.lst ys) from ⟨hz,aw,c',r',e⟩),rfl,q _ (I.aQ.fresh (aN _))⟩
 rcases hq with hq | hq
 ·obtain⟨aw,r',pl,hz⟩:=I.list hq;have hlen:=r'.length;obtain⟨o,ho,hc,n,hd⟩:=pl.isList;exact call_list_seq p (.inl rfl) ho hc hd (λh' c' kp e=>fin aw r' hz h' c' kp e) (by simp only[eO] <;> omega)
 ·obtain⟨aw,r',pl,hz⟩:=I.tuple hq;have hlen:=r'.length;obtain⟨o,ho,hc,n,hd⟩:=pl;exact call_list_seq p (.inr rfl) ho hc hd (λh' c' kp e=>fin aw r' hz h' c' kp e) (by simp only[eO] <;> omega)
theorem Bq:oG X (.type "tuple") (λxs H Q=>∃p ys,xs=[.ref p]/\((aj X.K H p ys/\∀l,H l=b_->Q (.ref l) (upd H l (.tup ys)))\/(aI X.K H p ys/\Q (.ref p) H))):=by
 intro p_ s σ H xs us Q I r h;obtain⟨p,ys,rfl,h⟩:=h;obtain⟨u,rfl,rx⟩:=vals1 r;cases rx;rcases h with ⟨hq,q⟩ | ⟨hq,q⟩
 ·obtain⟨aw,r',pl,hz⟩:=I.list hq;have hlen:=r'.length;refine call_tuple_list pl.isList (λh' kp=>?_) (by simp only[eO] <;> omega);have I1:=I.kept (t':=s.toks) kp
  have I2:Inv X p_ σ (upd H h'.objs.size (.tup ys)) { s with heap:=h'.push { cls:=.type "tuple",data:=.seq aw.toArray } }:=
   I1.laid (t':=s.toks) (λb o e=>b8 _ e) (aN _) (show hZ X.prog X.w _ _ _ (.tup ys) from ⟨hz,aw,r',IsTup.new _ _⟩)
  exact⟨.ref h'.objs.size,_,I2,rfl,q _ (I1.aQ.fresh (aN _))⟩
 ·obtain⟨aw,r',pl,hz⟩:=I.tuple hq;exact call_tuple_same pl ⟨.ref p,H,I,rfl,q⟩
def XI(K:W.Frag)(T:String)(x:V)(H:Hp):Prop:=match x with
 | .str _=>T = "str"
 | .int _=>T = "int"
 | .ref p=>(T = "list"/\∃xs,aj K H p xs)\/(T = "tuple"/\∃o,K.lookup p=a_ o/\o.cls=.type "tuple"/\o.dict=b_)\/
   (T = "dict"/\((∃iZ,H p=a_ (.dK iZ))\/∃iZ,H p=a_ (.dT iZ)))\/(T = "set"/\∃S n,H p=a_ (.set S n))
 | _=>False
theorem agk{T:String}(I:Inv X p_ σ H s)(r:RelV x v)(ty:XI X.K T x H) :
  s.TypeIs v T/\∀a,v=.ref a->∃ob,s.heap.get? a=a_ ob/\ob.dict=none:=by
 cases x with
 | str z=>
  obtain⟨t,rfl⟩:=r;cases (show T = "str" from ty);exact⟨typeIs_str s z t,λ_ e=>nomatch e⟩
 | int i=>
  obtain⟨t,rfl⟩:=r;cases (show T = "int" from ty);exact⟨typeIs_int s i t,λ_ e=>nomatch e⟩
 | ref p=>
  cases r;rcases ty with ⟨rfl,xs,hq⟩ | ⟨rfl,o,hk,hc,hd⟩ | ⟨rfl,hk⟩ | ⟨rfl,S,n,hk⟩
  ·refine aG (I.list hq) λaw _ pl _=>⟨pl.isList.typeIs,λa e=>?_⟩;cases e;exact kZ pl λo n e c hd _=>⟨o,e,hd⟩
  ·refine⟨⟨o,I.dF p o hk,hc⟩,λa e=>?_⟩;cases e;exact⟨o,I.dF _ o hk,hd⟩
  ·have z:∃o,s.heap.get? p=a_ o/\o.ExactDict:=by
    rcases hk with ⟨iZ,hk⟩ | ⟨iZ,hk⟩
    ·exact bp (I.aQ p _ hk) λ_ _ aa=>af aa λ_ _ aa=>gw aa λo _ _ e ex _=>⟨o,e,ex⟩
    ·exact bp (I.aQ p _ hk) λ_ _ aa=>af aa λ_ _ aa=>gw aa λo _ _ e ex _=>⟨o,e,ex⟩
   refine af z λo e ex=>⟨⟨o,e,ex.1⟩,λa e2=>?_⟩;cases e2;exact⟨o,e,ex.2.1⟩
  ·refine oz (I.aQ p _ hk) λo _ _ _ e aa=>oA aa λex _=>⟨⟨o,e,ex.1⟩,λa e2=>?_⟩;cases e2;exact⟨o,e,ex.2.1⟩
 | _=>exact jm ty
abbrev tBM(K:W.Frag)(T:String)(r:V->List V->Hp->VK->Prop)(to:TE)(t:TA):TE:=λσ H Q=>to σ H λx H1=>XI K T x H1/\t σ H1 λxs H2=>r x xs H2 Q
variable{o e:Expr}{es:List Expr}{to:TE}{t:TA}{name:Str}{apos oQ:Pos}{T id:String}{r:V->List V->Hp->VK->Prop}
theorem jZ(pa:PlainAttrs T)(slot:Slot T name id)(sr:typeOf (.builtin id)=pure (.type "method_descriptor"))(hm:MtR X id r)(ho:PE X o to)(ha:PA X (e::es) t)
  (aj5:Br o name X.env (eval o X.env)=eval o X.env:=by rfl)
  (alM:((backTo oQ (cQ (e::es) X.env)).all (λx=>!x.1)&&(EF oQ (Ec [] X.env)).all (λx=>x.1.isSome)
   && decide ((e::es).length+([]:List Keyword).length+(if ([]:List Keyword).isEmpty then 0 else 1)<30))=true:=by rfl)
  (aj2:(apos.endLine == oQ.line)=true:=by rfl) (hs:cQ (e::es) X.env=(d_,eval e X.env)::cQ es X.env:=by rfl) (aib:(backTo oQ (cQ es X.env)).any (·.1)=false:=by rfl) :
  PE X (.Call (.Attribute o name apos) (e::es) [] oQ) (tBM X.K T r to t):=by
 intro p_ s σ H Q I h;refine wpAny_Call_method_late aj5 alM aj2 rfl (dC (ho p_ s σ H _ I h) λv s1 x H1 I1 r1 zq=>oA zq λty q1=>oA (agk I1 r1 ty) λh1 h2=>⟨T,id,pa,slot,sr,h1,h2,?_⟩);have hA:=ha oQ p_ s1 σ H1 _ I1 q1;rw[hs]at hA ⊢;refine Calls.callWith_builtin (by show (d_||(backTo oQ (cQ es X.env)).any (·.1))=d_;rw[aib] <;> rfl) (Calls.evalArgs_plain ?_);exact lU hA λus s2 vs H2 I2 r2 q2=>hm p_ s2 σ H2 x vs v us Q I2 r1 r2 q2
end
def Hg(X:Cx)(id:String)(r:V->List V->Hp->VK->Prop):Prop:=
 ∀(p_:List (e_×Obj)) (s:g_) (σ:St) (H:Hp) (x:V) (xs:List V) (v:f_) (us:List f_) (Q:VK),Inv X p_ σ H s->RelV x v->Vals xs us->r x xs H Q->
  wpAny (model X.prog X.w) X.A (call (.builtin id) (v::us)) (EP X p_ σ Q) X.xe s
theorem Vals.one:∀{x:V} {us:List f_},Vals [x] us->∃u,us=[u]/\RelV x u
 | _,_,.cons r .nil=>⟨_,rfl,r⟩
theorem Vals.eraseIdx:∀{xs:List V} {us:List f_} (i:Nat),Vals xs us->Vals (xs.eraseIdx i) (us.eraseIdx i)
 | _,_,_,.nil=>.nil
 | _,_,0,.cons _ t=>t
 | _,_,i+1,.cons r t=>.cons r (Vals.eraseIdx i t)
theorem Vals.rep(h:Vals xs us):∀k:Nat,Vals (eD k xs).flatten (eD k us).flatten
 | 0=>.nil
 | k+1=>by
  rw[Bi,Bi,IK,IK];exact Vals.append h (Vals.rep h k)
theorem RU{α:Type}:∀(l:List α) (i:Nat),(l.eraseIdx i).length<=l.length
 | [],_=>aN _
 | _::_,0=>lH _
 | _::r,i+1=>DW (RU r i)
theorem foldl_rep(aw:List f_):∀(k:Nat) (acc:List f_),Rr (λx1 x2=>x1++x2) acc.toArray (eD k aw.toArray)=(acc++(eD k aw).flatten).toArray
 | 0,acc=>by simp
 | k+1,acc=>by
  have e:acc.toArray++aw.toArray=(acc++aw).toArray:=by simp
  have e2:(acc++aw)++(eD k aw).flatten=acc++(eD (k+1) aw).flatten:=by
   rw[Bi,IK,aaP]
  rw[<-e2,<-foldl_rep aw k (acc++aw),<-e,Bi,List.foldl_cons]
section
variable{X:Cx}{p_:List (e_×Obj)}{σ:St}{H:Hp}{s:g_}{l b:e_}{xs ys zs:List V}
theorem Inv.FU{aw nI:List f_}{n:Nat}{f:Array f_->Array f_}{t':Nat}(I:Inv X p_ σ H s)(hH:H l=a_ (.lst xs))
  (e:s.heap.get? l=a_ { cls:=.type "list",data:=.seq aw.toArray n }) (hf:f aw.toArray=nI.toArray) (hv:Vals ys nI) (hz:ys.length<=cW) :
  Inv X p_ σ (upd H l (.lst ys)) { s with heap:=s.heap.update l (sT f),toks:=t' }:=by
 have q:=PySem.IsL.update e f;rw[hf]at q;refine I.write (x:=l) (e:=l) (by rw[hH];exact trivial) (.inl rfl) (λb' u hb hu=>(vI s.heap (sT f) (gq hb)).trans hu) ⟨_,q⟩ ?_;exact⟨hz,nI,_,hv,q⟩
theorem Inv.WG{t':Nat}(I:Inv X p_ σ H s)(hv:Vals ys aw)(hz:ys.length<=cW) :
  Inv X p_ σ (upd H s.heap.objs.size (.lst ys)) { s with heap:=s.heap.push { cls:=.type "list",data:=.seq aw.toArray },toks:=t' }:=
 I.laid (λ_ _ q=>b8 _ q) (aN _) ⟨hz,aw,0,hv,ik _ rfl⟩
theorem Inv.fresh(I:Inv X p_ σ H s):H s.heap.objs.size=none:=I.aQ.fresh (aN _)
theorem Inv.qQ(I:Inv X p_ σ H s)(hH:H l=a_ (.lst xs)):xs.length<=cW/\∃(aw:List f_) (n:Nat),Vals xs aw/\xs.length=aw.length/\s.heap.get? l=a_ { cls:=.type "list",data:=.seq aw.toArray n }:=by
 exact oA (I.aQ l _ hH) λz aa=>aW aa λaw n r e=>⟨z,aw,n,r,r.length,e⟩
theorem S2{n:Nat}(h:n<=cW):Iw n=false:=by
 unfold Iw;exact decide_eq_false li
end
section
variable{X:Cx}
def afg:V->List V->Hp->VK->Prop:=λx vs H Q=>∃l xs y,x=.ref l/\vs=[y]/\H l=a_ (.lst xs)/\xs.length<cW/\Q .aJ (upd H l (.lst (xs++[y])))
theorem ni:Hg X "list.append" afg:=by
 intro p_ s σ H x vs v us Q I rx rv h;obtain⟨l,xs,y,aa,aH,hH,hz,q⟩:=h;subst aa;subst aH;cases rx;refine af rv.one λu aa ru=>?_;subst aa;refine oA (I.qQ hH) λz aa=>cI aa λaw n r hl e=>BA F.slot_list_append ⟨_,e,rfl⟩ F.entry_list_append (F.args_list_append_2 _ _) (PySem.list_append l aw.toArray n u (by rw[eO];exact w9)) ⟨e,⟨.aJ,_,I.FU (nI:=aw++[u]) hH e (by simp) (r.append (.cons ru .nil)) ?_,rfl,q⟩⟩;rw[dM,Qa];exact wa
def aff:V->List V->Hp->VK->Prop:=λx vs H Q=>∃l b xs zs,x=.ref l/\vs=[.ref b]/\H l=a_ (.lst xs)/\H b=a_ (.lst zs)/\xs.length+zs.length<=cW/\Q .aJ (upd H l (.lst (xs++zs)))
theorem RP:Hg X "list.extend" aff:=by
 intro p_ s σ H x vs v us Q I rx rv h;refine oz h λl b xs zs aa aH=>?_;clear h;subst aa;refine my aH λaa hH hB hz q=>?_;clear aH;subst aa;cases rx;refine af rv.one λu aa ru=>?_;subst aa;cases ru;refine oA (I.qQ hH) λz aa=>cI aa λaw n r hl e=>oA (I.qQ hB) λz2 aa=>cI aa λvi n2 r2 ng e2=>?_;have dP:aw.toArray.size+vi.toArray.size<=cW:=by rw[eO,eO];lia
 have Na:¬(!aw.toArray.isEmpty&&Iw (aw.toArray.size+vi.toArray.size))=true:=by
  rw[S2 dP,Bp];exact dY
 refine BA F.slot_list_extend ⟨_,e,rfl⟩ F.entry_list_extend (F.args_list_extend_2 _ _)
  (AutoSeq1.list_extend_list_list_0 l aw.toArray n b vi.toArray n2 Na (by rw[eO];exact w9) w4) ⟨e,e2,?_⟩
 refine⟨.aJ,_,I.FU (nI:=aw++vi) hH e (by simp) (r.append r2) ?_,rfl,q⟩;rw[dM];exact w0
def agJ:V->List V->Hp->VK->Prop:=λx vs H Q=>∃l xs i k y,x=.ref l/\vs=[.int i]/\H l=a_ (.lst xs)/\-(2^63)<=i/\i<2^63/\JU i xs.length=a_ k/\xs[k]?=a_ y/\Q y (upd H l (.lst (xs.eraseIdx k)))
theorem ad3:Hg X "list.pop" agJ:=by
 intro p_ s σ H x vs v us Q I rx rv h;refine lG h λl xs i k y aa aH hH h1 h2 oX=>?_;subst aa;subst aH;refine bp oX λhk hy q=>?_;cases rx;refine af rv.one λu aa ru=>?_;subst aa;refine oE ru λt aa=>?_;clear ru;subst aa;refine oA (I.qQ hH) λz aa=>cI aa λaw n r hl e=>af (r.get hy) λw hw qj=>?_
 refine BA F.slot_list_pop ⟨_,e,rfl⟩ F.entry_list_pop (F.args_list_pop_2 _ _)
  (MeetsSeq.list_pop_at l aw.toArray n i t k w (fitsIndex_both h1 h2) (by rw[eO,<-hl];exact hk) (by rw[<-Qc];exact hw) (by rw[eO];exact w9)) ⟨e,?_⟩
 refine⟨y,_,I.FU (nI:=aw.eraseIdx k) hH e ?_ (r.eraseIdx k) ?_,qj,q⟩
 ·show aw.toArray.eraseIdxIfInBounds k=(aw.eraseIdx k).toArray;rw[List.eraseIdxIfInBounds_toArray]
 ·have:=RU xs k;exact wj
def akx:R2:=λx y H Q=>∃l b xs zs,x=.ref l/\y=.ref b/\H l=a_ (.lst xs)/\H b=a_ (.lst zs)/\xs.length+zs.length<=cW/\∀p,H p=b_->Q (.ref p) (upd H p (.lst (xs++zs)))
theorem wF:gd X (v7 .Add) akx:=by
 intro p_ s σ H x y v u Q I rx ry h;refine oz h λl b xs zs aa aH=>?_;clear h;subst aa;refine my aH λaa hH hB hz q=>?_;clear aH;subst aa;cases rx;cases ry;refine oA (I.qQ hH) λz aa=>cI aa λaw n r hl e=>oA (I.qQ hB) λz2 aa=>cI aa λvi n2 r2 ng e2=>PySem.P.add_list e e2 ?_ (by rw[eO,eO];omega);have ea:aw.toArray++vi.toArray=(aw++vi).toArray:=by simp
 rw[ea];exact⟨.ref _,_,I.WG (t':=s.toks) (r.append r2) (by rw[dM];exact w0),rfl,q _ I.fresh⟩
def akv:R2:=λx y H Q=>∃l k xs,x=.ref l/\y=.int k/\H l=a_ (.lst xs)/\-(2^63)<=k/\k<2^63/\xs.length*k.toNat<=cW/\
 ∀p,H p=b_->Q (.ref p) (upd H p (.lst (eD k.toNat xs).flatten))
theorem len_rep{α:Type}(xs:List α)(k:Nat):(eD k xs).flatten.length=k*xs.length:=by
 induction k with
 | zero=>simp
 | succ k ih=>rw[Bi,IK,dM,ih,QP,Nat.add_comm]
theorem LJ:gd X (v7 .Mult) akv:=by
 intro p_ s σ H x y v u Q I rx ry h;obtain⟨l,k,xs,aa,aH,hH,h1,h2,hz,q⟩:=h;subst aa;subst aH;cases rx;refine oE ry λt aa=>?_;clear ry;subst aa;refine oA (I.qQ hH) λz aa=>cI aa λaw n r hl e=>?_;have hlen:aw.toArray.size*k.toNat<=cW:=by rw[eO,<-hl];exact hz
 have alS:¬aw.toArray.size*k.toNat > (2^63-1)/8:=by
  have:(cW:Nat)<=(2^63-1)/8:=qc;lia
 have alK:¬(!Io k)=true:=by
  rw[fitsIndex_both h1 h2];exact dY
 have Na:¬Iw (aw.toArray.size*k.toNat)=true:=by
  rw[S2 hlen];exact dY
 have alB:Rr (λx1 x2=>x1++x2) #[] (eD (if aw.toArray.isEmpty=c_ then 0 else k.toNat) aw.toArray)=(eD k.toNat aw).flatten.toArray:=by
  have f0:∀m:Nat,Rr (λx1 x2=>x1++x2) #[] (eD m aw.toArray)=(eD m aw).flatten.toArray:=λm=>by
   have:=foldl_rep aw m [];rw[Bo]at this;exact this
  rw[f0];cases aw with
  | nil=>simp
  | cons a r'=>rw[if_neg (by simp)]
 refine wpAny_binaryOp_repeat_ref (T:="list") (U:="int") qc ⟨_,e,rfl⟩ (λs'=>typeIs_int s' k t) noFill_list_mul F.fills_int_mul F.slot_int_rmul repeat_list F.slot_int_index.lookup
  (BA F.slot_int_rmul (typeIs_int s k t) F.entry_int_rmul (F.args_int_rmul_2 _ _) (int___rmul___int_list k t l aw.toArray n) ⟨e,rfl,⟨_,e,rfl⟩,BA F.slot_list_mul ⟨_,e,rfl⟩ F.entry_list_mul (F.args_list_mul_2 _ _) (AutoListH.list___mul___list_int_3 l aw.toArray n k t alK alS Na) ⟨e,?_⟩⟩)
 rw[alB];exact⟨.ref _,_,I.WG (t':=s.toks) (r.rep k.toNat) (by rw[len_rep,Nat.mul_comm];exact hz),rfl,q _ I.fresh⟩
end
section
variable{prog:l_}{w:k_}{A:h_}{E:f_->g_->Prop}{s:g_}
end
section
variable{X:Cx}
end
end L2
namespace Att
open PySem PySem.W PySem.Calls PyProof.Rows
theorem aa2{P:Params}:∀(ns:List Int) (vs:List f_),WellAll P h vs (ns.map WData.int)->IntsAre vs ns:=by
 intro ns
 induction ns with
 | nil=>
  intro vs w;rw[QQ]at w;cases w;exact .nil
 | cons n ns ih=>
  intro vs w;rw[gK]at w;cases w with
  | cons a b=>
   cases a;exact .cons _ _ (ih _ b)
theorem acs{l:OpenLaw}{n:Nat}(hn:l.most=a_ n){P:Params}{args:List WData}
  (Ge:l.row.toRowW.claim.pre args=c_) (kj:WellAll P h vals args) :
  ∃a vs ns,vals=[di a]/\args=[WData.list (ns.map WData.int)]/\h.get? a=a_ { cls:=.type "list",data:=.seq vs.toArray }/\IntsAre vs ns/\ns.length<=n:=by
 have hsh:WShape.hasAll [] args [.list .int]=true:=(pre_splitW Ge).1;have hc:l.pre.holds [] { args:=args }=true:=(pre_splitW Ge).2;obtain⟨d,r,rfl,h1,h2⟩:=hasAllW_cons hsh;obtain rfl:=hasAllW_nil h2;obtain⟨xs,rfl,h3⟩:=hasW_list h1;obtain⟨ns,rfl⟩:=items_int h3
 have hlen:ns.length<=n:=by
  unfold OpenLaw.pre at hc
  have h4:(WTm.not (.lt (.lit (.int (n:Int))) (.len (.arg 0)))).holds [] { args:=[.list (ns.map .int)] }=true:=by
   have h4:=(holds_andW hc).1;rw[hn]at h4;exact h4
  have h5:=condW_of h4 (w_not (w_lt w_lit (w_len_list (w_arg rfl))));rw[aO]at h5;refine Nat.le_of_not_lt λq=>?_;have q':(n:Int)<((ns.length:Nat):Int):=om
  first
   | (rw[decide_eq_true q']at h5;exact absurd h5 qc)
   | (simp at h5;omega)
 cases kj with
 | cons w1 w2=>
  cases w2;cases w1 with
  | list ho alT=>exact⟨_,_,ns,rfl,rfl,ho,aa2 ns _ alT,hlen⟩
theorem acx(l:OpenLaw)(args:List WData):l.row.toRowW.claim.post args (.bool c_) args=true:=
 postW_of (r:=l.row.toRowW) (X:=(c_ == c_))
  (show WShape.has [] (.bool c_) .bool=c_ by first | rfl | decide | simp[WShape.has,WShape.arms,WShape.armsAll])
  (show (WTm.eq .res (.lit (.bool c_))).value [] { args:=args,res:=a_ (.bool c_),after:=args }=a_ (.bool (c_ == c_)) from w_eq_bool (w_res rfl) w_lit) rfl
theorem abJ{l:OpenLaw}{n:Nat}{XP:(Str->Option f_)->j_->Prop}{YP:k_->j_->Prop}{d:DefRec}
  (hn:l.most=a_ n) (Pc:d.params.defaults=[])
  (call:∀(w:k_) (s₀ s₁:g_) (mg mb:Str->Option f_) (fa:e_) (o:Obj) (pm cd doc:f_) (a:e_) (vs:List f_) (ns:List Int),Ground q loose [] XP w s₀ mg mb s₁.heap->YP w s₁.heap->
   s₁.heap.get? fa=a_ o->o.data=.func (docDef d.name d.params d.body d.scope pm cd doc)->s₁.heap.CodeRec cd d.name->mg d.name=a_ (.ref fa)->
   s₁.heap.get? a=a_ { cls:=.type "list",data:=.seq vs.toArray }->IntsAre vs ns->ns.length<=n->s₁.gens=#[]->
   codeAny (model l.prog w) callerA (.call (.ref fa) ⟨[.ref a],[]⟩) (λr s'=>r=.ok (.ret (.bool c_))/\OldK s₁.heap s'.heap/\s'.os=s₁.os/\AllBare s'.gens) s₁) :
  WalkO q loose XP YP l.row.toRowW d [] (λf vs=>PySem.call f vs):=by
 intro w s₀ s₁ mg mb G Y fa o pm cd doc dV kV ho hd jj hD A0 hg args vals as Ge anC hrd kj xR;obtain rfl:dV=.none:=Dflts.none hD Pc;obtain rfl:kV=.none:=Dflts.noKw hD;obtain⟨a,vs,ns,rfl,rfl,NU,hints,hlen⟩:=acs hn Ge kj;refine enter_call (zG (call w s₀ s₁ mg mb fa o pm cd doc a vs ns G Y ho (fd_plain hd) jj A0 NU hints hlen hg) λr s' hq=>?_);obtain⟨rfl,h2,h3,h4⟩:=hq;exact⟨.inl ⟨.bool c_,.bool c_,[],rfl,λ_=>rfl,.bool c_,acx l _,λ_=>⟨aaQ,λ_ hm=>(nomatch hm)⟩⟩,h2,h3,h4⟩
section
variable{prog:l_}{w:k_}{A:h_}{E:f_->g_->Prop}{s:g_}{K:Frag}
end
end Att
namespace L2
open PySem PySem.Spec PyProof.Rows
theorem JC:∀{vs:List f_} {ns:List Int},IntsAre vs ns->Vals (ns.map V.int) vs
 | _,_,.nil=>.nil
 | _,_,.cons n t h=>.cons ⟨t,rfl⟩ (JC h)
abbrev aB:pL:=λ_ _ _ _ _ _=>False
abbrev E0:XK:=λ_ _ _=>False
theorem aR{X:Cx}:Passes aB X E0:=λ_ _ _ _ _ _ _ h=>h.elim
structure aV(K:W.Frag)(x qual:Str)(st:Stmt)(f:e_)(fd:iJ):Prop where
 ex:∃(oc:f_) (od:Option e_) (kV doc pm:f_) (an:Option e_) (aL ct:f_) (jG:Array (Option f_)),fd=W.fnOf x qual (nz st) (ir st) (aT st) .none kV doc pm an aL ct/\K.lookup f=a_ ⟨oc,od,.func fd,jG⟩/\W.codeIn K aL qual=c_
 kp:W.keepIn K (.ref f)=c_
section
variable{P:l_}{w:k_}{K:W.Frag}{mg:Str->Option f_}{base:j_}
theorem aV.ok{st:Stmt}{k:Nat}{sp:Sp}(F:aV K x qual st f fd)(S:ba N ps (aT st))(len:∀vs H Q E,sp vs H Q E->vs.length=ps.length)
  (uZ:∀(aL:f_) (A:h_) (outer:List Env) (s:g_) (H:Hp) (vs:List V) (Q:VK) (E:XK),fJ k (A.deeper (envOfC qual (aT st) s.heap.objs.size f aL))->sp vs H Q E->
   ∃t,eV (nG aB P w K mg base N qual (aT st) f aL A outer s H E).qW (ir st) t/\t { nx:=λ_ H'=>Q .aJ H',rt:=Q } (start N vs) H):ax P w K mg base aB (k+1) f fd ps sp:=by
 obtain⟨oc,od,kV,doc,pm,an,aL,ct,jG,aa,aH⟩:=F.ex;subst aa;exact oA aH λlk jj=>wO lk jj S len λA outer s H vs Q E hr rh=>af (uZ aL A outer s H vs Q E hr rh) λt h q=>⟨t,h.qW,q⟩
theorem aV.binds{st:Stmt}(F:aV K x qual st f fd)
  (h:∀(kV doc pm:f_) (an:Option e_) (aL ct:f_) (us:List f_),us.length=ps.length->uA (W.fnOf x qual (nz st) (ir st) (aT st) .none kV doc pm an aL ct) ⟨us,[]⟩=pure (ps.zip us)):Binds K fd ps []:=by
 obtain⟨oc,od,kV,doc,pm,an,aL,ct,jG,aa,aH⟩:=F.ex;subst aa;exact oA aH λlk jj=>.all (h kV doc pm an aL ct)
theorem Vi{st:Stmt}{od an:Option e_}{jG:Array (Option f_)}{kV doc pm aL ct:f_}(l:K.lookup f=a_ ⟨oc,od,.func (W.fnOf x qual (nz st) (ir st) (aT st) .none kV doc pm an aL ct),jG⟩)
  (c:W.codeIn K aL qual=c_) (k:W.keepIn K (.ref f)=c_):aV K x qual st f (W.fnOf x qual (nz st) (ir st) (aT st) .none kV doc pm an aL ct):=⟨⟨oc,od,kV,doc,pm,an,aL,ct,jG,rfl,l,c⟩,k⟩
end
theorem dZ{n:Nat}(h:n<=1000):n<cW:=sI h qc
section
variable{X:Cx}
theorem pv(i:Nat)(hN:X.N[i]?=a_ x:=by rfl)(hv:G' X.env.scope x:=by first | exact aP rfl | exact Or.inr (aP rfl) | exact Or.inr (Or.inr rfl))(hd:(x == ("__debug__" : Str))=false:=by decide)
  (jj:(x == ("__classdict__" : Str))=false:=by decide):PE X (.Name x pos) (ib i):=LI hN hv hd jj
end
theorem fj{A B:Prop}(h:B):if d_=c_ then A else B:=by
 rw[if_neg dY];exact h
theorem je{A B:Prop}(h:A):if c_=c_ then A else B:=by
 rw[if_pos rfl];exact h
def ai(H H':Hp):Prop:=∀b o,H b=a_ o->H' b=a_ o
theorem ai.refl(H:Hp):ai H H:=λ_ _ h=>h
theorem ai.trans(a:ai H H1)(b:ai H1 H2):ai H H2:=λc o h=>b c o (a c o h)
theorem ai.free(e:ai H H')(h:H' l=Option.none):H l=Option.none:=by
 cases q:H l with
 | none=>rfl
 | some o=>
  rw[e l o q]at h;cases h
section
variable{K:W.Frag}{σ:St}{H:Hp}{Q:VK}{p C dx:e_}{xs:List V}{v:V}{i:Nat}{j:Int}{fs:List (Str×V)}{f:Str}
theorem vr(h:σ[i]?=a_ (a_ v))(q:Q v H):ib i σ H Q:=⟨v,h,q⟩
theorem rT(s:aI K H p xs)(a:jg xs j=a_ v)(q:Q v H):tG K (.ref p) (.int j) H Q:=⟨_,_,_,_,rfl,rfl,s,a,q⟩
theorem rL(s:aj K H p xs)(a:jg xs j=a_ v)(q:Q v H):vc K (.ref p) (.int j) H Q:=⟨_,_,_,_,rfl,rfl,s,a,q⟩
theorem cT(s:aI K H p xs)(a:jg xs j=a_ v)(q:Q v H):tC (.int j) σ H λy H2=>tG K (.ref p) y H2 Q:=⟨_,_,_,_,rfl,rfl,s,a,q⟩
theorem cL(s:aj K H p xs)(a:jg xs j=a_ v)(q:Q v H):tC (.int j) σ H λy H2=>vc K (.ref p) y H2 Q:=⟨_,_,_,_,rfl,rfl,s,a,q⟩
theorem vT(h:σ[i]?=a_ (a_ (.ref p)))(s:aI K H p xs)(a:jg xs j=a_ v)(q:Q v H):lV (tG K) (ib i) (tC (.int j)) σ H Q:=⟨_,h,_,_,_,_,rfl,rfl,s,a,q⟩
theorem vL(h:σ[i]?=a_ (a_ (.ref p)))(s:aj K H p xs)(a:jg xs j=a_ v)(q:Q v H):lV (vc K) (ib i) (tC (.int j)) σ H Q:=⟨_,h,_,_,_,_,rfl,rfl,s,a,q⟩
theorem vF(h:σ[i]?=a_ (a_ (.ref p)))(e:H p=a_ (.ins C dx fs))(c:fQ K C)(n:cj K C f)(l:fs.lookup f=a_ v)(q:Q v H):Nh K (ib i) f σ H Q:=⟨_,h,_,_,_,_,_,rfl,e,c,n,l,q⟩
theorem vM{sp:Sp}(h:σ[i]?=a_ (a_ (.ref p)))(e:H p=a_ (.ins C dx fs))(l:fs.lookup m=b_)(q:t σ H λvs H2=>sp (.ref p::(vs++dvs)) H2 Q E):Fj C m sp dvs E (ib i) t σ H Q:=⟨_,h,_,_,_,rfl,e,l,q⟩
end
section
variable{K:W.Frag}{σ:St}{H:Hp}{Q:VK}{p C dx:e_}{v:V}{fs:List (Str×V)}{f:Str}
theorem rM{R:Prop}(e:H p=a_ (.ins C dx fs))(l:fs.lookup m=b_)(q:R):∃a dx fs,V.ref p=.ref a/\H a=a_ (.ins C dx fs)/\fs.lookup m=b_/\R:=⟨_,_,_,rfl,e,l,q⟩
theorem tk{R:Bool->Prop}{k:Bool}(q:R k):∃k',V.bl k=.bl k'/\R k':=⟨k,rfl,q⟩
end
theorem lS{X:Cx}{ss:List Stmt}(h:eV X ss t)(q:t D σ H):∃t,eV X ss t/\t D σ H:=⟨t,h,q⟩
section
variable{K:W.Frag}{σ:St}{H:Hp}{Q:VK}{p:e_}{xs:List V}{v:V}{i j:Nat}
theorem dm(h:σ[i]?=a_ (a_ (.ref p)))(e:H p=a_ (.tup xs))(a:xs[j]?=a_ v)(q:Q v H):lV (tG K) (ib i) (tC (.int (j:Int))) σ H Q:=vT h (aI.of e) (cb a) q
theorem ic(h:σ[i]?=a_ (a_ (.ref p)))(e:H p=a_ (.lst xs))(a:xs[j]?=a_ v)(q:Q v H):lV (vc K) (ib i) (tC (.int (j:Int))) σ H Q:=vL h (aj.of e) (cb a) q
theorem XT(e:H p=a_ (.tup xs))(a:xs[j]?=a_ v)(q:Q v H):tC (.int (j:Int)) σ H λy H2=>tG K (.ref p) y H2 Q:=cT (σ:=σ) (aI.of e) (cb a) q
theorem GZ(e:H p=a_ (.lst xs))(a:xs[j]?=a_ v)(q:Q v H):tC (.int (j:Int)) σ H λy H2=>vc K (.ref p) y H2 Q:=cL (σ:=σ) (aj.of e) (cb a) q
theorem eK{A B:Hp->Prop}(h:σ[i]?=a_ (a_ (.ref p)))(e:H p=a_ (.tup xs))(a:xs[0]?=a_ (.str r))(n:r≠s)(q:B H):lV (tG K) (ib i) (tC (.int 0)) σ H λx H1=>tC (.str s) σ H1 λy H2=>Od x y H2 λz H3=>∃k,z=.bl k/\if k=c_ then A H3 else B H3:=
 vT h (aI.of e) (cb (j:=0) a) ⟨rfl,_,rfl,by rw[if_neg];exact q;intro z;exact n (V.str.inj (of_decide_eq_true z))⟩
end
end L2
namespace L3
open PySem
def tests(ifs:List Expr)(env:Env):Sem Bool:=
 forIn ifs c_ λc r=>if r=c_ then (do let ok <-isTrue c env (eval c env);pure (IW ok)) else pure (IW r)
section
variable{prog:l_}{w:k_}{A:h_}{R:Result->g_->Prop}{s:g_}
theorem adb{ifs:List Expr}{sc:i_}{env:Env}(J:Nat->g_->Prop)
  (Pp:∀e s',EE e s'->notedBy (model prog w) A env (λe s'=>R (.error e) s') e s')
  (turn:∀n s,J n s->wpAny (model prog w) A (pyNext it) (λr s₁=>(r=b_->R (.ok .next) s₁)/\∀v,r=a_ v->
   wpAny (model prog w) A (IS tg it v) (λ_ s₂=>wpAny (model prog w) A (assign tg env v) (λ_ s₃=>wpAny (model prog w) A (tests ifs env) (λok s₄=> (ok=c_->wpAny (model prog w) A (eval elt env) (λx s₅=>wpAny (model prog w) A (call (.builtin "list.append") [acc,x]) (λ_ s₆=>∃m,m<n/\J m s₆) EE s₅) EE s₄)/\ (ok=d_->∃m,m<n/\J m s₄)) EE s₃) EE s₂) EE s₁) EE s)
  (n:Nat) (h:J n s):codeAny (model prog w) A (.compLoop (.ListComp elt [⟨tg,iter,ifs,0⟩] sc pos) 0 it acc env) R s:=by
 refine codeAny_loop rfl J (λn s hJ=>?_) n h;show wpAny _ A ((compTurn (.ListComp elt [⟨tg,iter,ifs,0⟩] sc pos) 0 it acc env).onRaise _) _ _ s;refine wpAny_noted (ja (E:=EE) ?_ (λ_ _ q=>q) λe s' q=>Pp e s' q);rw[compTurn_list];refine ay (zy (ay (ja (turn n s hJ) (λr s₁ h₁=>?_) λ_ _ q=>q)));cases r with
 | none=>exact a7 (h₁.1 rfl)
 | some v=>
  refine ay (ja (h₁.2 v rfl) (λ_ s₂ h₂=>?_) λ_ _ q=>q);refine ay (ja h₂ (λ_ s₃ h₃=>?_) λ_ _ q=>q);refine ay (ja h₃ (λok s₄ h₄=>?_) λ_ _ q=>q);cases ok with
  | false=>exact a7 ⟨rfl,h₄.2 rfl⟩
  | true=>
   refine ay (ay (ja (h₄.1 rfl) (λx s₅ h₅=>?_) λ_ _ q=>q));exact ay (ja h₅ (λ_ s₆ h₆=>a7 (a7 ⟨rfl,h₆⟩)) λ_ _ q=>q)
theorem acq{env:Env}{Q:Bool->g_->Prop}(h:Q c_ s):wpAny (model prog w) A (tests [] env) Q E s:=a7 h
theorem acp{env:Env}{Q:Bool->g_->Prop}(h:wpAny (model prog w) A (isTrue c env (eval c env)) Q E s):wpAny (model prog w) A (tests [c] env) Q E s:=by
 unfold tests;rw[zx];exact ay (ay (ja h (λok s' q=>a7 (a7 q)) λ_ _ q=>q))
def iD(cells:List (Str×e_)):List (Str×gR)->List (Str×e_)->List (Str×e_)
 | [],acc=>acc
 | (n,k)::r,acc=>if k == .free then iD cells r (match cells.lookup n with | some c=>(n,c)::acc | none=>acc) else iD cells r acc
theorem Rm{env:Env}:∀(names:List (Str×gR)) (acc:List (Str×e_)),(∀p∈names,p.2=.free->∃c,env.cells.lookup p.1=a_ c)->
  (forIn names acc λ(x:Str×gR) (cs:List (Str×e_))=>match x with
   | (name,kind)=>if (kind == sP)=c_ then (do let c <-cellOf env name;pure (IW ((name,c)::cs))) else (pure (IW cs):Sem (ForInStep (List (Str×e_)))))=pure (iD env.cells names acc)
 | [],acc,_=>rfl
 | (n,k)::r,acc,h=>by
  have ih:=λacc=>Rm r acc λp hp=>h p (gE _ hp);rw[zx]
  by_cases hk:(k == sP)=c_
  ·obtain⟨c,hc⟩:=h (n,k) hX (by simpa using hk);have e:cellOf env n=pure c:=by unfold cellOf;rw[hc]
   dsimp only;rw[if_pos hk,e];unfold iD;rw[if_pos hk,hc];exact ih _
  ·dsimp only;rw[if_neg hk];unfold iD;rw[if_neg hk];exact ih _
theorem Jy{env:Env}{sc:i_}(h:∀p∈sc.names,p.2=.free->∃c,env.cells.lookup p.1=a_ c):closureFor sc env=pure (iD env.cells sc.names []):=by
 unfold closureFor;have e:=Rm (env:=env) sc.names [] h;simp only[e];rfl
theorem EA{cells:List (Str×e_)}:∀(names:List (Str×gR)) (acc:List (Str×e_)),(∀x c,acc.lookup x=a_ c->cells.lookup x=a_ c)->∀x c,(iD cells names acc).lookup x=a_ c->cells.lookup x=a_ c
 | [],acc,h,x,c,e=>h x c e
 | (n,k)::r,acc,h,x,c,e=>by
  unfold iD at e
  split at e
  ·refine EA r _ (λy d q=>?_) x c e
   split at q
   ·rename_i c' sv
    by_cases hy:y=n
    ·subst hy;rw[zr]at q;cases q;exact sv
    ·have hb:=beq_eq_false_iff_ne.mpr hy;rw[sL,hb]at q;exact h y d q
   ·exact h y d q
  ·exact EA r acc h x c e
theorem JS{cells:List (Str×e_)}:∀(names:List (Str×gR)) (acc:List (Str×e_)) (x:Str),(∃c,acc.lookup x=a_ c)->∃c,(iD cells names acc).lookup x=a_ c
 | [],acc,x,h=>h
 | (n,k)::r,acc,x,h=>by
  unfold iD
  split
  ·refine JS r _ x ?_
   split
   ·rename_i c' sv
    by_cases hy:x=n
    ·subst hy;exact⟨c',zr⟩
    ·have hb:=beq_eq_false_iff_ne.mpr hy;rw[sL,hb];exact h
   ·exact h
  ·exact JS r acc x h
theorem EB{cells:List (Str×e_)}:∀(names:List (Str×gR)) (acc:List (Str×e_)) (x:Str),(x,sP)∈names->(∃c,cells.lookup x=a_ c)->∃c,(iD cells names acc).lookup x=a_ c
 | [],acc,x,h,_=>by cases h
 | (n,k)::r,acc,x,h,hc=>by
  unfold iD;rcases cV.mp h with e | e
  ·cases e;obtain⟨c,hc⟩:=hc;rw[if_pos (beq_self_eq_true _),hc];exact JS r _ n ⟨c,zr⟩
  ·split
   ·exact EB r _ x e hc
   ·exact EB r acc x e hc
end
end L3
namespace L2
open PySem PySem.Spec PyProof.Rows L3
def pG(X:Cx)(sc:i_)(N:List Str)(s:g_)(H:Hp)(ex:List e_)(C:e_)(EE:f_->g_->Prop):Cx:=
 {X with N:=N,s₀:=s,H₀:=H,env:=compEnvC sc (iD X.env.cells sc.names []) C X.env,outer:=X.stack,ex:=ex,fn:=λ_=>d_,pn:=[],xe:=EE }
def AJ(X:Cx)(sc:i_)(N:List Str)(s:g_)(H:Hp)(ex:List e_)(C:e_):Cx:=pG X sc N s H ex C λ_ _=>False
structure eT(X:Cx)(sc:i_)(N:List Str)(idx:List Nat):Prop where
 kind:sc.kind=.function
 E5:∀y∈sc.names,y.2≠.cell
 locs:∀y∈sc.names,y.2=.local->sc.names.lookup y.1=a_ .local
 frees:∀y∈sc.names,y.2=.free->X.env.scope.names.lookup y.1=a_ .cell
 le:idx.length<=N.length
 XW:∀(k i:Nat) (x:Str),idx[k]?=a_ i->N[k]?=a_ x->X.N[i]?=a_ x/\sc.names.lookup x=a_ .free
def nH(idx:List Nat)(n:Nat)(σ:St):St:=idx.map (λi=>(σ[i]?).join)++eD (n-idx.length) b_
theorem Ku{idx:List Nat}{n:Nat}(h:idx.length<=n):(nH idx n σ).length=n:=by
 unfold nH;rw[dM,aO,IA];lia
theorem Kv{idx:List Nat}{n k:Nat}(h:(nH idx n σ)[k]?=a_ (a_ v)):∃i,idx[k]?=a_ i/\σ[i]?=a_ (a_ v):=by
 unfold nH at h
 by_cases hk:k<idx.length
 ·rw[P2 (by simpa using hk),f9]at h;cases e:idx[k]? with
  | none=>rw[e]at h;cases h
  | some i=>
   rw[e]at h;have h':(σ[i]?).join=a_ v:=dq h;refine ak i rfl ?_;cases e2:σ[i]? with
   | none=>rw[e2]at h';cases h'
   | some o=>rw[e2]at h';rw[show o=a_ v from h']
 ·rw[DR (by simpa using hk),aaq]at h
  split at h
  ·cases h
  ·cases h
def rl(env:Env)(p:Str×gR):Str×gR:=if (p.2 == sP&&env.scope.kind == .function&&env.kindOf p.1 == a_ .cell)=c_ then (p.1,gR.cell) else p
theorem LH{env:Env}{k:gR}(h:(k == sP&&env.scope.kind == .function&&env.kindOf n == a_ .cell)=c_):rl env (n,k)=(n,.cell):=if_pos h
theorem TR{env:Env}{k:gR}(h:¬(k == sP&&env.scope.kind == .function&&env.kindOf n == a_ .cell)=c_):rl env (n,k)=(n,k):=if_neg h
theorem QH{env:Env}(hf:env.scope.kind=.function):∀{names:List (Str×gR)} {x:Str},names.lookup x=a_ .free->env.kindOf x=a_ .cell->(names.map (rl env)).lookup x=a_ .cell
 | [],_,h,_=>by simp at h
 | (n,k)::r,x,h,hc=>by
  have ih:=@QH env hf r x;rw[gK]
  by_cases hx:x=n
  ·subst hx;rw[zr]at h;cases h;rw[LH (by rw[hf,hc];decide),zr]
  ·have hb:=beq_eq_false_iff_ne.mpr hx;rw[sL,hb]at h;have e:=ih h hc
   by_cases q:(k == sP&&env.scope.kind == .function&&env.kindOf n == a_ .cell)=c_
   ·rw[LH q,sL,hb];exact e
   ·rw[TR q,sL,hb];exact e
theorem Ji{env:Env}:∀{names:List (Str×gR)} {x:Str} {kd:gR},(names.map (rl env)).lookup x=a_ kd->(x,kd)∈names\/(x,sP)∈names
 | [],_,_,h=>by simp at h
 | (n,k)::r,x,kd,h=>by
  have ih:=@Ji env r x kd;rw[gK]at h
  by_cases q:(k == sP&&env.scope.kind == .function&&env.kindOf n == a_ .cell)=c_
  ·rw[LH q]at h
   by_cases hx:x=n
   ·subst hx
    have hk:k=.free:=by
     rw[i9,i9]at q;exact Er q.1.1
    subst hk;exact .inr hX
   ·have hb:=beq_eq_false_iff_ne.mpr hx;rw[sL,hb]at h;exact(ih h).elim (λe=>.inl (gE _ e)) λe=>.inr (gE _ e)
  ·rw[TR q]at h
   by_cases hx:x=n
   ·subst hx;rw[zr]at h;cases h;exact .inl hX
   ·have hb:=beq_eq_false_iff_ne.mpr hx;rw[sL,hb]at h;exact(ih h).elim (λe=>.inl (gE _ e)) λe=>.inr (gE _ e)
theorem Inv.adopt{X:Cx}{o:HO}(I:Inv X p_ σ H s)(hn:H a=b_)(ya:X.s₀.heap.objs.size<=a)(hL:a≠X.env.locals)
  (hc:∀x c,X.env.cells.lookup x=a_ c->c≠a) (hp:∀p∈X.pn++p_,p.1≠a) (new:hZ X.prog X.w (upd H a o) s.heap a o):Inv X p_ σ (upd H a o) s:=by
 have ne:∀b u,H b=a_ u->b≠a:=λb u e=>bw e hn;refine⟨I.ok,I.os,I.bare,⟨I.base.keep,I.base.slot,λb u q n hx=>?_,I.base.there,λb xs q=>?_,λb u xs q=>?_,λb ps q=>?_⟩,I.loc,I.cell,?_,λx c e=>?_,λp hq=>?_,λb u q=>?_,I.len⟩
 ·rw[au (gh (gI (cH q) ya))];exact I.base.free b u q n hx
 ·have e:=I.base.qN b xs q;rw[au (ne b _ e)];exact e
 ·have e:=I.base.p0 b u xs q;rw[au (ne b _ e)];exact e
 ·exact oE (I.base.pX b ps q) λm e=>⟨m,by rw[au (ne b _ e)];exact e⟩
 ·rw[au (gq hL)];exact I.free
 ·rw[au (hc x c e)];exact I.lj x c e
 ·exact bp (I.pin p hq) λe1 e2 e3=>eM e1 (by rw[au (hp p hq)];exact e2) e3
 ·by_cases hb:b=a
  ·subst hb;rw[aA]at q;cases q;exact new
  ·rw[au hb]at q;exact(I.aQ b u q).qO (λ_ _ _ z=>z) (λc z=>by rw[au (ne c _ z)];exact z) λc xs z=>by rw[au (ne c _ z)];exact z
section
variable{X:Cx}{p_:List (e_×Obj)}{σ:St}{H:Hp}{s:g_}{sc:i_}{N:List Str}{idx:List Nat}{fp:List e_}
abbrev fq:Obj:={ cls:=.type "list",data:=.seq ([]:List f_).toArray }
abbrev oj(s:g_):Shared:={ s with heap:=s.heap.push fq }
theorem adm(I:Inv X p_ σ H s)(h:gU X p_ H b):X.base.get? b=none:=by
 cases e:X.base.get? b with
 | none=>rfl
 | some o=>
  rcases h.2.2.2.1 with z | z
  ·exact absurd z (I.ok.xg b o e)
  ·exact absurd (gI (cH e) (cC I.ok.oU z)) (mh _)
theorem aeG(I:Inv X p_ σ H s)(S:eT X sc N idx)(hf:∀b∈fp,gU X p_ H b)(ho:∀b∈fp,∃o,s.heap.get? b=a_ o){m:Str->Option f_}{t:Nat}
  (pN:h'.Ns (s.heap.push fq).objs.size m) (hk:∀b o,(s.heap.push fq).get? b=a_ o->h'.get? b=a_ o) :
  Inv (pG X sc N (oj s) H (s.heap.objs.size::fp) (s.heap.push fq).objs.size EE) [] (nH idx N.length σ) H { oj s with heap:=h',toks:=t }:=by
 have I3:Inv X p_ σ H (oj s):=I.kept (t':=s.toks) λb o e=>b8 _ e;have hC:(s.heap.push fq).objs.size=s.heap.objs.size+1:=qy _ _;have pV:∀x c,(iD X.env.cells sc.names []).lookup x=a_ c->X.env.cells.lookup x=a_ c:=EA sc.names [] (λx c e=>by cases e)
 have clt:∀x c,(iD X.env.cells sc.names []).lookup x=a_ c->c<s.heap.objs.size:=λx c e=>by
  exact oE (I.cell x c (pV x c e)) λv z=>z.lt
 have vk:∀b∈fp,b<s.heap.objs.size:=λb hb=>by
  exact oE (ho b hb) λo e=>cH e
 have back:∀x,((relabel sc X.env).names.lookup x=a_ .cell\/(relabel sc X.env).names.lookup x=a_ .free)->(x,sP)∈sc.names:=λx h=>by
  rcases h with h | h
  ·rcases Ji (env:=X.env) (names:=sc.names) (show (sc.names.map (rl X.env)).lookup x=_ from h)with e | e
   ·exact absurd rfl (S.E5 _ e)
   ·exact e
  ·rcases Ji (env:=X.env) (names:=sc.names) (show (sc.names.map (rl X.env)).lookup x=_ from h)with e | e
   ·exact e
   ·exact e
 have has:∀x,(x,sP)∈sc.names->∃c,(iD X.env.cells sc.names []).lookup x=a_ c:=λx e=>
  EB sc.names [] x e (I.ok.has x (.inl (S.frees _ e rfl)))
 refine⟨⟨I.ok.mod,S.kind,I.ok.glob,I.ok.blt,aN _,λx y c e1 e2=>I.ok.inj x y c (pV x c e1) (pV y c e2),λx h=>has x (back x h),λx c h=>(by cases h),I.ok.hd,I.ok.frames,.inl rfl,λb hb=>?_,I3.bs,cC I.ok.oU I3.sz,λb o e hb=>?_,λb hb=>?_,I3.stack,I3.EJ⟩,I.os ▸ rfl,I.bare,Un.kept hk,⟨m,pN,λk x v e1 e2 e3=>?_⟩,λx c e=>?_,I3.aQ.fresh (aN _),λx c e=>I.lj x c (pV x c e),λp hp=>absurd (show p∈([]:List (e_×Obj)) from hp) (by simp),I3.aQ.kept hk,Ku S.le⟩
 ·rcases cV.mp hb with e | hb
  ·subst e;exact⟨by rw[hC];exact gh (vP _),λx c e=>gh (clt x c e)⟩
  ·refine⟨by rw[hC];exact gh (Qo (vk b hb)),λx c e=>(hf b hb).2.2.2.2.1 x c (pV x c e)⟩
 ·rcases cV.mp hb with z | hb
  ·subst z;exact absurd (cH (I.bk _ _ e)) (mh _)
  ·have e':X.base.get? b=a_ o:=e;rw[adm I (hf b hb)]at e';cases e'
 ·intro hs;have Y8:=I.EV b hs;rcases cV.mp hb with z | hb
  ·subst z;rcases cV.mp Y8 with e | e
   ·exact absurd I.lt (by rw[<-e];exact mh _)
   ·exact I.WE (aN _) e
  ·rcases cV.mp Y8 with e | e
   ·exact(hf b hb).2.1 e
   ·exact(hf b hb).2.2.1 e
 ·refine af (Kv e2) λi h1 h2=>oA (S.XW k i x h1 e1) λh3 h4=>?_;have jy:=PySem.mem_of_lookup h4;have uY:X.env.scope.names.lookup x=a_ .cell:=S.frees _ jy rfl;refine af I.loc λm' y0 Dx=>af (Dx i x v h3 h2 (.inr (.inl uY))) λu r l=>ak u r (.inr ⟨.inl (QH I.ok.kind h4 uY),?_⟩);rcases l with ⟨q,_⟩ | ⟨_,c,ec,z⟩
  ·have q':X.env.scope.names.lookup x=a_ .local:=q;rw[uY]at q';cases q'
  ·refine oE (has x jy) λc' DL=>?_;have:=pV x c' DL;rw[ec]at this;cases this;exact ak c DL (z.keeps λb o e=>hk b o (b8 _ e))
 ·exact oE (I.cell x c (pV x c e)) λv z=>⟨v,z.keeps λb o e=>hk b o (b8 _ e)⟩
theorem aeF(I:Inv X p_ σ H s)(hf:∀b∈fp,gU X p_ H b)
  (I':Inv (pG X sc N (oj s) H (s.heap.objs.size::fp) (s.heap.push fq).objs.size EE) pl σ' H' s'):Inv X p_ σ H' s':=by
 have I3:Inv X p_ σ H (oj s):=I.kept (t':=s.toks) λb o e=>b8 _ e;have fa:=I.iY (aN _) (I.aQ.fresh (aN _));refine I3.MT (ch:=s.heap.objs.size::fp) (I'.os.trans rfl) I'.base I'.aQ I'.bare λb hb=>?_
 have q:gU X p_ H b:=by
  rcases cV.mp hb with e | hb
  ·subst e;exact fa
  ·exact hf b hb
 exact lR q.2.2.2.1 q.2.1 q.2.2.2.2.1 q.2.2.2.2.2
end
abbrev AN:=St->Hp->(Bool->Hp->Prop)->Prop
def j':AN:=λ_ H Q=>Q c_ H
def CU(X:Cx)(ifs:List Expr)(t:AN):Prop:=
 ∀(p_:List (e_×Obj)) (s:g_) (σ:St) (H:Hp) (Q:Bool->Hp->Prop),Inv X p_ σ H s->t σ H Q->wpAny (model X.prog X.w) X.A (tests ifs X.env) (TP X p_ σ Q) X.xe s
theorem jK{X:Cx}:CU X [] j':=λ_ _ _ H _ I h=>acq ⟨H,I,h⟩
theorem La{X:Cx}(h:PT X c t):CU X [c] t:=λp_ s σ H Q I q=>acp (h p_ s σ H Q I q)
def Cq(n:Nat)(σ σ2:St):Prop:=σ2.length=σ.length/\∀i,i<n->σ2[i]?=σ[i]?
def MY(J:It)(g:TG)(tc:AN)(te:TE)(σ0:St)(H1:Hp)(K:List V->Hp->Prop):Prop:=
 ∃W:Nat->Nat->List V->Hp->Prop,(∃m,W 0 m [] H1)/\∀i m ys H,W i m ys H->
  (J.stop i H/\K ys H)\/
  (J.go i H/\ys.length<cW/\∃N:List V->Hp->Prop,(∀zs H',N zs H'->∃m',m'<m/\W (i+1) m' zs H')/\
   ∀x H',J.xw i H x H'->g x σ0 H' λσ2 H2=>tc σ2 H2 λb H3=>if b=c_ then te σ2 H3 (λy H4=>N (ys++[y]) H4) else N ys H3)
def Mi(wi:TI)(g:TG)(tc:AN)(te:TE)(idx:List Nat)(n:Nat):TE:=λσ H Q=>wi σ H λJ H1=>
 MY J g tc te (nH idx n σ) H1 λys H2=>ys.length<=cW/\∀p,H2 p=b_->Q (.ref p) (upd H2 p (.lst ys))
def Cr(n:Nat)(g:TG):Prop:=∀x σ H Q,g x σ H Q->g x σ H λσ2 H2=>Q σ2 H2/\Cq n σ σ2
theorem Kk{n k:Nat}{v:Option V}(h:n<=k):Cq n σ (σ.set k v):=⟨kv,λi hi=>zt li⟩
theorem jV{n k:Nat}(h:n<=k):Cr n (jd k):=λx σ H Q q=>⟨q,Kk h⟩
theorem Eh{K:PySem.W.Frag}{n k l:Nat}(h:n<=k)(h':n<=l):Cr n (WI K 2 (MO (jd k) (MO (jd l) WJ))):=λx σ H Q q=>by
 refine kZ q λa xs e1 e2 e3 aa=>aW aa λv r e4 aa=>cI aa λv' r' e5 e6 q=>⟨a,⟨xs,e1,e2,e3,v,r,e4,v',r',e5,e6,q,?_⟩⟩;have k1:Cq n σ (σ.set k (a_ v)):=Kk h;have k2:Cq n (σ.set k (a_ v)) ((σ.set k (a_ v)).set l (a_ v')):=Kk h';exact⟨k2.1.trans k1.1,λi hi=>(k2.2 i hi).trans (k1.2 i hi)⟩
theorem Su{X:Cx}{idx:List Nat}{n:Nat}(I:Inv X p_ σ2 H s)(k:Cq idx.length (nH idx n σ) σ2):Inv X p_ (nH idx n σ) H s:=
 I.weak k.1.symm λi v e=>by
  refine af (Kv e) λj h1 _=>?_;rw[k.2 i (dX.mp h1).1];exact e
theorem jn{J:It}{tc:AN}{K:List V->Hp->Prop}{n:Nat}(P:Nat->List V->Hp->Prop)(hn:n<=cW)(h0:P 0 [] H1)(hle:∀i ys H,P i ys H->ys.length<=i)
  (O6:∀i ys H,i<n->P i ys H->J.go i H) (dn:∀ys H,P n ys H->J.stop n H)
  (hs:∀i ys H,i<n->P i ys H->∀x H',J.xw i H x H'->g x σ0 H' λσ2 H2=>tc σ2 H2 λb H3=>if b=c_ then te σ2 H3 (λy H4=>P (i+1) (ys++[y]) H4) else P (i+1) ys H3)
  (hd:∀ys H,P n ys H->K ys H):MY J g tc te σ0 H1 K:=by
 refine⟨λi m ys H=>m=n-i/\i<=n/\P i ys H,⟨n,by simp,cy _,h0⟩,?_⟩;rintro i m ys H ⟨rfl,hi,p⟩
 by_cases dJ:i<n
 ·refine .inr (eM (O6 i ys H dJ p) (by have:=hle i ys H p;lia) ⟨P (i+1),λzs H' p'=>⟨n-(i+1),om,rfl,dJ,p'⟩,hs i ys H dJ p⟩)
 ·have e:i=n:=li;subst e;exact .inl ⟨dn ys H p,hd ys H p⟩
section
variable{X:Cx}{tg elt iter:Expr}{ifs:List Expr}{wi:TI}{g:TG}{tc:AN}{te:TE}{sc:i_}{N:List Str}{idx:List Nat}{pos:Pos}
theorem Th{K:List V->Hp->Prop}{RR:e_->f_->Result->g_->Prop}(hc:X.calm=c_)(S:eT X sc N idx)(gk:Cr idx.length g)
  {fp:List e_} {tn:Nat->j_->Prop} {J:It} (hg:PG (pG X sc N (oj s) H (s.heap.objs.size::fp) (s.heap.push fq).objs.size EE) tg g) (ht:CU (pG X sc N (oj s) H (s.heap.objs.size::fp) (s.heap.push fq).objs.size EE) ifs tc) (he:PE (pG X sc N (oj s) H (s.heap.objs.size::fp) (s.heap.push fq).objs.size EE) elt te) (I:Inv X p_ σ H s) (T:Turn X.prog X.w X.K tg J fp it tn) (st:tn 0 s.heap) (hf:∀b∈fp,gU X p_ H b) (hW:MY J g tc te (nH idx N.length σ) H K)
  (Pp:∀e s',EE e s'->notedBy (model X.prog X.w) X.A (compEnvC sc (iD X.env.cells sc.names []) (s.heap.push fq).objs.size X.env) (λe s'=>RR (s.heap.push fq).objs.size (.ref s.heap.objs.size) (.error e) s') e s')
  (hR:∀(s':g_) (ys:List V) (H':Hp) (m:Str->Option f_) (aw:List f_) (n:Nat),K ys H'->Inv X p_ σ H' s'->s'.heap.Ns (s.heap.push fq).objs.size m->H' (s.heap.push fq).objs.size=b_->H' s.heap.objs.size=b_->Vals ys aw->
   s'.heap.get? s.heap.objs.size=a_ { cls:=.type "list",data:=.seq aw.toArray n }->RR (s.heap.push fq).objs.size (.ref s.heap.objs.size) (.ok .next) s') :
  wpAny (model X.prog X.w) X.A (newList []) (λacc s₃=>wpAny (model X.prog X.w) X.A (newFunctionEnv sc X.env.globals (iD X.env.cells sc.names []) [] X.env.qual b_ .none (a_ X.env)) (λXp s₄=>
   codeAny (model X.prog X.w) X.A (.compStart (.ListComp elt [⟨tg,iter,ifs,0⟩] sc pos) 0 (.ref it) acc { Xp with scope:=relabel sc X.env }) (RR Xp.locals acc) s₄) E s₃) E s:=by
 refine af hW λW aa turn=>oE aa λm0 w0=>x6 (wpAny_newFunctionEnv S.E5 (by intro y hy;cases hy) (λh' pN HN=>?_) S.kind);have hC:(s.heap.push fq).objs.size=s.heap.objs.size+1:=qy _ _;have hk:∀b o,(s.heap.push fq).get? b=a_ o->h'.get? b=a_ o:=λb o e=>(HN.2 b (gh (cH e))).trans (b8 _ e);have ho:∀b∈fp,∃o,s.heap.get? b=a_ o:=λb hb=>let ⟨o,e,_⟩:=T.obj _ _ st b hb;⟨o,e⟩
 have I0:=aeG (EE:=EE) (t:=s.toks+([]:List (Str×f_)).length) I S hf ho pN hk
 have fn:∀b∈fp,b≠s.heap.objs.size:=λb hb=>by
  exact oE (ho b hb) λo e=>gh (cH e)
 have accN:=I.aQ.fresh (aN _)
 have Pz:∀{H':Hp} {pl:List (e_×Obj)},(∀b∈fp,H' b=b_)->(∀p∈pl,p.1=s.heap.objs.size)->∀b∈fp,gU (pG X sc N (oj s) H (s.heap.objs.size::fp) (s.heap.push fq).objs.size EE) pl H' b:=λ{H' pl} hn hp b hb=>by
  refine⟨(hn b hb),((I0.ok.vm b (gE _ hb)).1),(I0.ok.vd b (gE _ hb)),(.inl (gE _ hb)),((I0.ok.vm b (gE _ hb)).2),(λp hq=>?_)⟩;have qk:p∈pl:=by simpa[pG]using hq
  rw[hp p qk];exact gq (fn b hb)
 have loop:codeAny (model X.prog X.w) X.A (.compLoop (.ListComp elt [⟨tg,iter,ifs,0⟩] sc pos) 0 (.ref it) (.ref s.heap.objs.size) (compEnvC sc (iD X.env.cells sc.names []) (s.heap.push fq).objs.size X.env))
   (RR (s.heap.push fq).objs.size (.ref s.heap.objs.size)) { oj s with heap:=h',toks:=s.toks+([]:List (Str×f_)).length }:=by
  refine adb (EE:=EE) (λn s'=>∃i ys H' aw k,Inv (pG X sc N (oj s) H (s.heap.objs.size::fp) (s.heap.push fq).objs.size EE) [] (nH idx N.length σ) H' s'/\tn i s'.heap/\(∀b∈fp,H' b=b_)/\H' s.heap.objs.size=b_/\
   Vals ys aw/\s'.heap.get? s.heap.objs.size=a_ { cls:=.type "list",data:=.seq aw.toArray k }/\W i n ys H') Pp ?_ m0 ?_
  ·rintro n s3 ⟨i,ys,H3,aw,kk,I3,C7,DG,Ih,Hn,ac3,w3⟩
   have Gn:∀{H':Hp},H' s.heap.objs.size=b_->gU (pG X sc N (oj s) H (s.heap.objs.size::fp) (s.heap.push fq).objs.size EE) [] H' s.heap.objs.size:=λ{H'} hn=>
    ⟨hn,(I0.ok.vm _ hX).1,I0.ok.vd _ hX,.inl hX,(I0.ok.vm _ hX).2,λp hq=>absurd (show p∈([]:List (e_×Obj)) from hq) (by simp)⟩
   have P3:Inv (pG X sc N (oj s) H (s.heap.objs.size::fp) (s.heap.push fq).objs.size EE) [(s.heap.objs.size,{ cls:=.type "list",data:=.seq aw.toArray kk })] (nH idx N.length σ) H3 s3:=I3.wd λp hp=>by
    have e:p=(s.heap.objs.size,{ cls:=.type "list",data:=.seq aw.toArray kk }):=by simpa using hp
    subst e;exact⟨ac3,Ih,((Gn Ih).2.1),((Gn Ih).2.2.1),(λv z=>by cases z)⟩
   have one:∀p∈[((s.heap.objs.size,{ cls:=.type "list",data:=.seq aw.toArray kk }):e_×Obj)],p.1=s.heap.objs.size:=λp hp=>by
    have e:p=(s.heap.objs.size,{ cls:=.type "list",data:=.seq aw.toArray kk }):=by simpa using hp
    rw[e]
   rcases turn i n ys H3 w3 with ⟨stop,kq⟩ | ⟨go,hz,NN,Zo,step⟩
   ·refine eJ (T.done (pG X sc N (oj s) H (s.heap.objs.size::fp) (s.heap.push fq).objs.size EE) rfl rfl rfl hc i _ s3 _ H3 _ P3 (Pz DG one) C7 stop) λr s4 ⟨hr,I4⟩=>⟨λ_=>?_,λv e=>(by rw[hr]at e;cases e)⟩;exact af I4.loc λm' y0 _=>hR s4 ys H3 m' aw kk kq (aeF I hf I4) y0 I4.free Ih Hn (I4.pin _ (hG _ hX)).1
   ·refine eJ (T.item (pG X sc N (oj s) H (s.heap.objs.size::fp) (s.heap.push fq).objs.size EE) rfl rfl rfl hc i _ s3 _ H3 _ P3 (Pz DG one) C7 go) λr s4 ⟨u,hr,h4⟩=>⟨λe=>(by rw[hr]at e;cases e),λv e=>?_⟩;rw[hr]at e;cases e;refine eJ h4 λ_ s5 ⟨x,H5,I5,r5,y5,vq,Py⟩=>?_;have PU:=I5.pinned (Pz Py one) (T.obj _ _ vq);refine eJ (hg _ s5 _ H5 x u _ PU r5 (gk _ _ _ _ (step x H5 y5))) λ_ s6 zq=>cI zq λσ6 H6 I6 q6 k6=>AF (ht _ s6 σ6 H6 _ I6 q6) λok s7 H7 I7 q7=>⟨λe=>?_,λe=>?_⟩
    ·subst e;rw[if_pos rfl]at q7;refine dC (he _ s7 σ6 H7 _ I7 q7) λv s8 y H8 I8 r8 n8=>af (Zo _ _ n8) λm' hm w8=>?_;have pa:=I8.pin (s.heap.objs.size,{ cls:=.type "list",data:=.seq aw.toArray kk }) (hG _ (pO _ hX));have hlen:=Hn.length;refine wpAny_list_append_plain (items:=aw.toArray) ⟨kk,pa.1⟩ (λh9 pl9 X8=>?_) (by rw[eO];lia);have PR:=I8.wd λp hp=>I8.pin p (hG _ (hG _ hp))
     have I9:=PR.turned (h':=h9) (t':=s8.toks) (it:=s.heap.objs.size) (λb o hb e=>(X8.2 b hb).trans e) pa.2.1 (Gn pa.2.1).2.1 (.inl hX) (Gn pa.2.1).2.2.2.2.1 (λp hp=>by
      have fZ:p∈Ca fp s5.heap:=by simpa[pG]using hp
      exact fn p.1 (RK fZ).1)
     refine oE pl9 λk9 e9=>⟨m',⟨hm,i+1,ys++[y],H8,aw++[v],k9,Su (I9.wd λp hp=>absurd hp (by simp)) k6,T.keep _ _ _ vq λb hb o e=>?_,λb hb=>?_,pa.2.1,Hn.append (.cons r8 .nil),?_,w8⟩⟩
     ·have q:=(PR.pin (b,o) (hG _ (zO hb e))).1;exact(X8.2 b (fn b hb)).trans q
     ·exact af (T.obj _ _ vq b hb) λo e _=>(PR.pin (b,o) (hG _ (zO hb e))).2.1
     ·rw[e9];simp
    ·subst e;rw[if_neg dY]at q7;refine af (Zo _ _ q7) λm' hm w7=>?_;have pa:=I7.pin (s.heap.objs.size,{ cls:=.type "list",data:=.seq aw.toArray kk }) (hG _ (pO _ hX));exact⟨m',⟨hm,i+1,ys,H7,aw,kk,Su (I7.wd λp hp=>absurd hp (by simp)) k6,T.keep _ _ _ vq λb hb o e=>(I7.pin (b,o) (hG _ (hG _ (zO hb e)))).1,λb hb=>af (T.obj _ _ vq b hb) λo e _=>(I7.pin (b,o) (hG _ (hG _ (zO hb e)))).2.1,pa.2.1,Hn,pa.1,w7⟩⟩
  ·exact⟨0,([]),H,([]),0,I0,(T.keep _ _ _ st λb hb o e=>hk b o (b8 _ e)),(λb hb=>(hf b hb).1),accN,.nil,(hk _ _ (ik _ rfl)),w0⟩
 exact codeAny_compStart_list loop (T.self _ 0 _ _ _ (T.keep _ _ _ st λb hb o e=>hk b o (b8 _ e)) loop)
theorem jX(hc:X.calm=c_)(S:eT X sc N idx)(gk:Cr idx.length g)(hi:PI X tg iter wi)
  (hg:∀s H ex C,PG (AJ X sc N s H ex C) tg g) (ht:∀s H ex C,CU (AJ X sc N s H ex C) ifs tc) (he:∀s H ex C,PE (AJ X sc N s H ex C) elt te)
  (hs:∀x,Qn iter X.env x=pure x:=by intro _;rfl):PE X (.ListComp elt [⟨tg,iter,ifs,0⟩] sc pos) (Mi wi g tc te idx N.length):=by
 intro p_ s σ H Q I h;rw[eval_ListComp];have rA:=Jy λp hp e=>I.ok.has p.1 (.inl (S.frees p hp e));refine aan (use:=b_) rfl hs rA S.kind S.locs (eJ (hi p_ s σ H _ I h) λv s1 h1=>eJ h1 λHE s2 h2=>lG h2 λit fp tn J H2 e I2 T C8 f2 hW=>?_);subst e;refine Th (EE:=λ_ _=>False) (RR:=λC acc=>compPost (model X.prog X.w) X.A X.xe b_ (EP X p_ σ Q) acc C) hc S gk (hg _ _ _ _) (ht _ _ _ _) (he _ _ _ _) I2 T C8 f2 hW (λ_ _ z=>z.elim) λs' ys H' m aw n kq I' pN Pq DE rv ea=>?_;have hC:(s2.heap.push fq).objs.size=s2.heap.objs.size+1:=qy _ _;have fa:=I2.iY (aN _) (I2.aQ.fresh (aN _));have fC:gU X p_ H2 (s2.heap.push fq).objs.size:=I2.iY (by rw[hC];exact lH _) (I2.aQ.fresh (by rw[hC];exact lH _));have ya:=I2.sz;have I1:=Inv.adopt (o:=.lst ys) I' DE ya fa.2.1 fa.2.2.2.2.1 fa.2.2.2.2.2 ⟨kq.1,aw,n,rv,ea⟩;refine ak m pN λh' sb=>(dS (.ref s2.heap.objs.size) _ (I1.turned (h':=h') (t':=s'.toks) (it:=(s2.heap.push fq).objs.size) (λb o hb e=>(sb.2 b hb).trans e) ?_ fC.2.1 (.inr (by rw[hC];exact vO ya)) fC.2.2.2.2.1 fC.2.2.2.2.2) rfl (kq.2 _ DE));rw[au (by rw[hC];exact IP _)];exact Pq
theorem Eg{i:Nat}(hN:X.N.Nodup)(hx:X.N[i]?=a_ x)(hl:X.env.scope.names.lookup x=a_ .local)(hc:X.calm=c_)(S:eT X sc N idx)(gk:Cr idx.length g)(hi:PI X tg iter wi)
  (hg:∀s H ex C,PG (AJ X sc N s H ex C) tg g) (ht:∀s H ex C,CU (AJ X sc N s H ex C) ifs tc) (he:∀s H ex C,PE (AJ X sc N s H ex C) elt te)
  (hsw:Ep (.ListComp elt [⟨tg,iter,ifs,0⟩] sc pos) (a_ (.Name x pos')) akR.line X.env=pure true:=by rfl)
  (hs:∀x,Qn iter X.env x=pure x:=by intro _;rfl):PS X (.Assign [.Name x pos'] (.ListComp elt [⟨tg,iter,ifs,0⟩] sc pos) akR) (Ni (Mi wi g tc te idx N.length) (jd i)):=by
 intro p_ s σ H D I h;rw[exec_Assign_Name_used _ _ _ _ hsw];refine ay (zy (ay ?_));have rA:=Jy λp hp e=>I.ok.has p.1 (.inl (S.frees p hp e));show wpAny _ X.A (do let _ <-comprehension (.ListComp elt [⟨tg,iter,ifs,0⟩] sc pos) sc X.env _ (newList []) d_ (eval iter X.env) (a_ (assign (.Name x pos') X.env))) _ _ s;refine ay (ja (aan (use:=a_ (assign (.Name x pos') X.env)) (Q:=λ_ s'=>SP X p_ D .next s') rfl hs rA S.kind S.locs (eJ (hi p_ s σ H _ I h) λv s1 h1=>eJ h1 λHE s2 h2=>?_)) (λ_ s' q=>a7 (a7 q)) λ_ _ q=>q);refine lG h2 λit fp tn J H2 e I2 T C8 f2 hW=>?_;subst e;refine Th (EE:=λ_ _=>False) (RR:=λC acc=>compPost (model X.prog X.w) X.A X.xe (a_ (assign (.Name x pos') X.env)) (λ_ s'=>SP X p_ D .next s') acc C) hc S gk (hg _ _ _ _) (ht _ _ _ _) (he _ _ _ _) I2 T C8 f2 hW (λ_ _ z=>z.elim) λs' ys H' m aw n kq I' pN Pq DE rv ea=>?_;have hC:(s2.heap.push fq).objs.size=s2.heap.objs.size+1:=qy _ _;have fa:=I2.iY (aN _) (I2.aQ.fresh (aN _));have fC:gU X p_ H2 (s2.heap.push fq).objs.size:=I2.iY (by rw[hC];exact lH _) (I2.aQ.fresh (by rw[hC];exact lH _));have ya:=I2.sz;have I1:=Inv.adopt (o:=.lst ys) I' DE ya fa.2.1 fa.2.2.2.2.1 fa.2.2.2.2.2 ⟨kq.1,aw,n,rv,ea⟩
 have alU:upd H' s2.heap.objs.size (.lst ys) (s2.heap.push fq).objs.size=none:=by
  rw[au (by rw[hC];exact IP _)];exact Pq
 show wpAny (model X.prog X.w) X.A (assign (.Name x pos') X.env (.ref s2.heap.objs.size)) _ X.xe s';refine wpAny_assign_Name (Ry (v:=.ref s2.heap.objs.size) I1 hN hx (.inl hl) rfl (λs3 I3 ⟨a,sb,ha⟩=>?_) (.inr hl))
 have aC:(s2.heap.push fq).objs.size≠a:=by
  rcases ha with e | e
  ·rw[e];exact fC.2.1
  ·exact gq (fC.2.2.2.2.1 x a e)
 refine ak m (pN.sameBut sb aC) λh' sb'=>(eG _ _ (I3.turned (h':=h') (t':=s3.toks) (it:=(s2.heap.push fq).objs.size) (λb o hb e=>(sb'.2 b hb).trans e) alU fC.2.1 (.inr (by rw[hC];exact vO ya)) fC.2.2.2.2.1 fC.2.2.2.2.2) (kq.2 _ DE))
end
end L2
namespace L2
open PySem PySem.W PyProof.Rows
section
variable{cmp:Nat->Nat->(Bool->g_->Prop)->g_->Prop}{r:Nat->Int}{n:Nat}{p:Array Nat}{s:g_}
def rk(r:Nat->Int)(p:Array Nat)(k:Nat):Int:=r (p.getD k 0)
def jC(n:Nat)(p:Array Nat):Prop:=p.Perm (List.range n).toArray
def uS(r:Nat->Int)(p:Array Nat)(m:Nat):Prop:=∀i j,i<j->j<m->rk r p i<rk r p j
theorem jC.size(g:jC n p):p.size=n:=by
 have:=g.size_eq;simpa using this
theorem jC.lt(g:jC n p){k:Nat}(hk:k<n):p.getD k 0<n:=by
 have hs:=g.size;have hm:p[k]'(by exact wg)∈p:=Array.getElem_mem _;have:=(g.mem_iff).mp hm;simp only[Rt,show k<p.size by exact wg,dif_pos];simpa using this
theorem jC.ne(g:jC n p){i j:Nat}(hi:i<n)(hj:j<n)(h:i≠j):p.getD i 0≠p.getD j 0:=by
 have hs:=g.size;have nd:=(aag.mp g).nodup_iff.mpr (by simpa using List.nodup_range);intro e;simp only[Rt,show i<p.size by exact wg,show j<p.size by exact wg,dif_pos]at e;have e':p.toList[i]'(by simpa using (by exact wg:i<p.size))=p.toList[j]'(by simpa using (by exact wg:j<p.size)):=by simpa using e
 rcases aaD h with q | q
 ·exact qu.mp nd i j _ _ q e'
 ·exact qu.mp nd j i _ _ q e'.symm
variable(hr:∀i j,i<n->j<n->r i=r j->i=j)(hc:∀i j (C:Bool->g_->Prop),i<n->j<n->i≠j->C (decide (r i<r j)) s->cmp i j C s)
include hr hc
theorem MD(g:jC n p){i j:Nat}(hi:i<n)(hj:j<n)(h:i≠j):rk r p i≠rk r p j:=λe=>g.ne hi hj h (hr _ _ (g.lt hi) (g.lt hj) e)
theorem L8(g:jC n p){Q:Nat->g_->Prop}:∀f m,1<=m->m+f<=n->uS r p m->(∀m',m<=m'->m'<=m+f->uS r p m'->(m'<m+f->rk r p m'<rk r p (m'-1))->Q m' s)->(kas_asc p f m).kasWp cmp Q s
 | 0,m,h1,h2,ri,k=>k m (aN _) (aN _) ri λh=>absurd h (mh _)
 | f+1,m,h1,h2,ri,k=>by
  refine hc _ _ _ (g.lt li) (g.lt li) (g.ne om om li) ?_
  by_cases hb:r (p.getD m 0)<r (p.getD (m-1) 0)
  ·simp only[hb,decide_true,if_true];exact k m (aN _) li ri λ_=>hb
  ·simp only[hb,decide_false,xZ,if_false];refine L8 g f (m+1) li li (λi j qp hj=>?_) λm' a b c d=>k m' li li c λh=>d li
   by_cases e:j=m
   ·subst e
    have h3:rk r p (j-1)<rk r p j:=by
     have:=MD hr hc g (i:=j-1) (j:=j) li li li;unfold rk at this ⊢;omega
    by_cases e2:i=j-1
    ·subst e2;exact h3
    ·have:=ri i (j-1) li om;lia
   ·exact ri i j qp li
theorem Ur(g:jC n p){Q:Array Nat×Nat×Nat->g_->Prop}:∀f m,1<=m->m+f<=n->(∀i j,i<j->j<m->rk r p j<rk r p i)->
  (∀m',m<=m'->m'<=m+f->(∀i j,i<j->j<m'->rk r p j<rk r p i)->Q (p,m',0) s)->(kas_desc f p m 0).kasWp cmp Q s
 | 0,m,h1,h2,ri,k=>k m (aN _) (aN _) ri
 | f+1,m,h1,h2,ri,k=>by
  refine hc _ _ _ (g.lt om) (g.lt om) (g.ne om om om) ?_
  by_cases hb:r (p.getD m 0)<r (p.getD (m-1) 0)
  ·simp only[hb,decide_true,if_true];rw[if_neg li];refine Ur g f (m+1) om om (λi j qp hj=>?_) λm' a b c=>k m' om om c
   by_cases e:j=m
   ·subst e;have h3:rk r p j<rk r p (j-1):=hb
    by_cases e2:i=j-1
    ·subst e2;exact h3
    ·have:=ri i (j-1) om om;lia
   ·exact ri i j qp om
  ·simp only[hb,decide_false,xZ,if_false];refine hc _ _ _ (g.lt li) (g.lt li) (g.ne om om li) ?_
   have h3:r (p.getD (m-1) 0)<r (p.getD m 0):=by
    have:=MD hr hc g (i:=m-1) (j:=m) om om om;unfold rk at this;omega
   simp only[h3,decide_true,if_true];exact k m (aN _) om ri
theorem U2(g:jC n p){m k:Nat}(hm:m<=n)(hk:k<m):rk r (kas_rev p 0 m) k=rk r p (m-1-k):=by
 have hs:=g.size;unfold rk kas_rev;rw[Il,getElem?_mirror_all li,if_pos ⟨cy _,hk⟩,Il]
 congr 3
 lia
theorem adp(g:jC n p){m:Nat}(h1:1<=m)(hm:m<=n)(ri:∀i j,i<j->j<m->rk r p j<rk r p i){Q:Nat×Array Nat->g_->Prop}
  (k:∀m' p',1<=m'->m'<=n->jC n p'->uS r p' m'->Q (m',p') s):(kas_tail3 m n p).kasWp cmp Q s:=by
 unfold kas_tail3;rw[D0];have g':jC n (kas_rev p 0 m):=(mirror_perm _ _ _ _).trans g;refine L8 hr hc g' _ _ h1 li (λi j qp hj=>?_) λm' a b c _=>k m' _ (by exact wj) li g' c;rw[U2 hr hc g hm li,U2 hr hc g hm hj];exact ri _ _ om om
theorem aeE(g:jC n p)(h1:1<=n){Q:Nat×Array Nat->g_->Prop}(k:∀m' p',1<=m'->m'<=n->jC n p'->uS r p' m'->Q (m',p') s):(kas_count n p).kasWp cmp Q s:=by
 unfold kas_count;rw[D0];refine L8 hr hc g _ _ (aN _) om (λi j qp hj=>absurd qp li) λm a b ri hb=>?_
 by_cases e:m=n
 ·rw[if_pos (by simpa using e)];exact k m p (by exact w0) li g ri
 ·rw[if_neg (by simpa using e)]
  by_cases h2:m > 1
  ·rw[if_pos h2];refine hc _ _ _ (g.lt li) (g.lt li) (g.ne om om li) ?_;have h3:=ri 0 (m-1) om om;unfold rk at h3;simp only[h3,decide_true,if_true];exact k m p (by exact w0) li g ri
  ·rw[if_neg h2];have hm:m=1:=li;subst hm;have h3:=hb li;unfold kas_descPart;rw[D0];refine Ur hr hc g _ _ (by exact xd) li (λi j qp hj=>?_) λm' a b ri'=>?_
   ·have:i=0/\j=1:=li;rw[this.1,this.2];exact h3
   ·simp only[mh,gt_iff_lt,if_false];exact adp hr hc g li li ri' k
theorem Ke(g:jC n p){k:Nat}(hk:k<n)(ri:uS r p k){Q:Nat->g_->Prop}:∀f l u,l<=u->u<=k->u-l<=f->(∀i,i<l->rk r p i<rk r p k)->(∀i,u<=i->i<k->rk r p k<rk r p i)->
  (∀l,l<=k->(∀i,i<l->rk r p i<rk r p k)->(∀i,l<=i->i<k->rk r p k<rk r p i)->Q l s)->(kas_place p k f l u).kasWp cmp Q s
 | 0,l,u,h1,h2,h3,a,b,q=>q l (by exact wj) a λi hi hk=>b i li hk
 | f+1,l,u,h1,h2,h3,a,b,q=>by
  unfold kas_place
  by_cases e:l ≥ u
  ·rw[if_pos e];exact q l (by exact wj) a λi hi hk=>b i (by exact wj) hk
  ·rw[if_neg e];refine hc _ _ _ (g.lt hk) (g.lt li) (g.ne hk om li) ?_;have hm:(l+u)/2<u:=li;have hl:l<=(l+u)/2:=li
   by_cases hb:r (p.getD k 0)<r (p.getD ((l+u)/2) 0)
   ·simp only[hb,decide_true,if_true];refine Ke g hk ri f l ((l+u)/2) hl li om a (λi hi Dy=>?_) q
    by_cases e2:i=(l+u)/2
    ·subst e2;exact hb
    ·have:=ri ((l+u)/2) i li Dy;have y8:rk r p k<rk r p ((l+u)/2):=hb;lia
   ·simp only[hb,decide_false,xZ,if_false]
    have y8:rk r p ((l+u)/2)<rk r p k:=by
     have:=MD hr hc g (i:=(l+u)/2) (j:=k) li hk li;unfold rk at this ⊢;omega
    refine Ke g hk ri f ((l+u)/2+1) u (by exact xf) h2 om (λi hi=>?_) b q
    by_cases e2:i=(l+u)/2
    ·subst e2;exact y8
    ·have:=ri i ((l+u)/2) li (by exact wh);lia
theorem Vr(g:jC n p){k l:Nat}(hk:k<n)(hl:l<=k)(j:Nat):rk r (bubble p k (k-l)) j=if j=l then rk r p k else if l<j/\j<=k then rk r p (j-1) else rk r p j:=by
 have hs:=g.size;unfold rk;rw[Il,getElem?_bubble (by exact wg) _ li,show k-(k-l)=l by lia];simp only[Il]
 repeat' split
 all_goals first | rfl | (exfalso;omega)
theorem Vs{Q:Array Nat->g_->Prop}(q:∀p',jC n p'->uS r p' n->Q p' s):∀f k (p:Array Nat),jC n p->k+f=n->uS r p k->(kas_bin f p k).kasWp cmp Q s
 | 0,k,p,g,h,ri=>q p g (by have:k=n:=om;rwa[this]at ri)
 | f+1,k,p,g,h,ri=>by
  unfold kas_bin;rw[D0];refine Ke hr hc g li ri k 0 k (cy _) (aN _) (by exact w1) (λi hi=>absurd hi li) (λi hi hk=>absurd hk li) λl hl a b=>Vs q f (k+1) _ ((bubble_perm _ _ _).trans g) li λi j qp hj=>?_;rw[Vr hr hc g li hl,Vr hr hc g om hl]
  by_cases e1:i=l
  ·rw[if_pos e1,if_neg li,if_pos li];exact b _ li li
  ·rw[if_neg e1]
   by_cases e2:j=l
   ·rw[if_pos e2,if_neg li];exact a i (by exact wf)
   ·rw[if_neg e2]
    by_cases h3:l<i/\i<=k
    ·rw[if_pos h3,if_pos li];exact ri _ _ om li
    ·rw[if_neg h3]
     by_cases h4:l<j/\j<=k
     ·rw[if_pos h4]
      by_cases e5:i=j-1
      ·lia
      ·exact ri _ _ li om
     ·rw[if_neg h4];exact ri _ _ qp li
theorem aeT(h1:1<=n){Q:Array Nat->g_->Prop}(q:∀p',jC n p'->uS r p' n->Q p' s):(kas_sort n).kasWp cmp Q s:=by
 unfold kas_sort;rw[D0];refine aeE hr hc (aa7 _) h1 λm p' a b g ri=>?_;dsimp only
 by_cases h:m<n
 ·rw[if_pos h];exact Vs hr hc q _ _ _ g li (by rw[show max m 1=m by lia];exact ri)
 ·rw[if_neg h];have:m=n:=li;rw[this]at ri;exact q p' g ri
end
end L2
namespace L2
open PySem PySem.Spec PySem.W PyProof.Rows
theorem afK{h:j_}{a:e_}{m m':Str->Option f_}(x:h.Ns a m)(y:h.Ns a m'):m=m':=by
 obtain⟨o,es,ep,e,d,_,f⟩:=x;obtain⟨o',Ib,Ic,e',d',_,f'⟩:=y;rw[e]at e';cases e';rw[d]at d';cases d'
 funext n
 exact(f n).symm.trans (f' n)
section
variable{X:Cx}{p_:List (e_×Obj)}{σ:St}{H:Hp}{s:g_}
theorem Inv.regrown{h':j_}{m:Str->Option f_}{t':Nat}{d':Drawn}(I:Inv X p_ σ H s)(h1:s.heap.Ns X.env.locals m)(h2:h'.Ns X.env.locals m)(k:∀b o,b≠X.env.locals->s.heap.get? b=a_ o->h'.get? b=a_ o) :
  Inv X p_ σ H { s with heap:=h',drawn:=d',toks:=t' }:=by
 refine I.step (g':=s.gens) (d':=d') (ch:=[]) (λ_ z=>nomatch z) (λb o hL _ _ e _=>k b o hL e) (λb o hL _ _ e _=>⟨o.slots,k b o hL e⟩) (λ_ _ _ _ n=>n) (λb o _ e=>?_) (λ_ _ e=>e) (λ_ _ _ e=>e)
  (λb ps e=>⟨#[],by rw[e];simp⟩) (λm' hm=>by rw[afK hm h1];exact h2) (λb u e=>?_) I.bare
 ·by_cases z:b=X.env.locals
  ·obtain⟨o',_,_,q,_⟩:=h2;exact⟨o',by rw[z];exact q⟩
  ·exact⟨o,k b o z e⟩
 ·refine(I.aQ b u e).qO (λd v hd q=>k d v (λz=>?_) q) (λ_ q=>q) λ_ _ q=>q;have fr:=I.free;rw[<-z]at fr;rcases hd with y | y
  ·rw[y,e]at fr;cases fr
  ·rw[y]at fr;cases fr
structure Srt(P:l_)(w:k_)(L:e_)(h:j_)(vs:List f_)(r:Nat->Int):Prop where
 small:vs.length<64
 inj:∀i j,i<vs.length->j<vs.length->r i=r j->i=j
 ask:2<=vs.length->∃κ,∀(A:h_) (s':g_),(∀b o,b≠L->h.get? b=a_ o->s'.heap.get? b=a_ o)->
  (∀Q:SortKind->g_->Prop,Q κ s'->wpAny (model P w) A (keyKind' vs.toArray) Q (λ_ _=>False) s')/\
  ∀i j (C:Bool->g_->Prop),i<vs.length->j<vs.length->i≠j->C (decide (r i<r j)) s'->kas_ask P w A κ vs i j C s'
def L'(ys:List V)(r:Nat->Int)(zs:List V):Prop:=∃p:Array Nat,jC ys.length p/\uS r p ys.length/\zs=p.toList.map λi=>ys.getD i .aJ
theorem abR{P:l_}{w:k_}{A:h_}{E:f_->g_->Prop}{a:e_}{vs:List f_}{n:Nat}{R:PySem.Fin->g_->Prop}(ho:s.heap.get? a=a_ (seqObj "list" vs.toArray n))(h1:vs.length<2)
  (k:∀h' e,(∀b o,b≠a->s.heap.get? b=a_ o->h'.get? b=a_ o)->h'.get? a=a_ (seqObj "list" vs.toArray e)->R (.done (.ret .none)) { s with heap:=h' }) :
  wpAny (model P w) A (Builtin.«list.sort» ⟨[.ref a],[]⟩) R E s:=by
 have la:=cH ho;have hn:vs.toArray.size<2:=by rw[eO];exact h1
 have zs:∀m:Nat,m<2->m<=cW:=λm hm=>by rw[jl];exact w5
 obtain⟨e1,q1⟩:∃e1,(s.heap.update a (sT λ_=>(#[]:Array f_))).get? a=a_ (seqObj "list" #[] e1):=⟨_,Qx ho λ_=>#[]⟩;rw[list_sort_plain];refine ay (listItems_at ho rfl (ay (listUpdate_at ho rfl (ay (seqEpoch_at q1 rfl (ay (wpAny_newTuple (ay (QF (pP ?_) (cy _))) (zs _ (by simpa using h1)))))) (zs _ (by simpa using h1)) (cy _))));have q3:=b8 (seqObj "list" #[] 0) (b8 (seqObj "tuple" vs.toArray 0) q1);dsimp only;rw[if_pos hn,if_pos hn];refine ay (a7 ?_);rw[StateT.run_pure];refine ay (a7 ?_);dsimp only
 have eo:(arrOf (SortSt.mk' general' (vs.toArray.zip vs.toArray) #[] 7 b_)).map (·.2)=vs.toArray:=by
  show (vs.toArray.zip vs.toArray).map (·.2)=vs.toArray;apply aa1.mp;rw[Array.toList_map,Array.toList_zip];show (vs.zip vs).map Prod.snd=vs;rw[List.map_snd_zip (aN _)]
 rw[eo];refine ay (seqEpoch_at q3 rfl (ay (listUpdate_at q3 rfl ?_ (cy _) (cC (zs _ (by simpa using h1)) (lH _)))));rw[if_neg (by simp)];refine a7 (k _ _ (λb o hb e=>?_) (Qx q3 λ_=>vs.toArray));rw[Qi _ _ _ _ hb];exact b8 _ (b8 _ (by rw[Qi _ _ _ _ hb];exact e))
theorem Rv(rv:Vals ys vs):∀l:List Nat,Vals (l.map λi=>ys.getD i .aJ) (l.map λi=>vs.getD i mj)
 | []=>.nil
 | i::l=>by
  refine .cons ?_ (Rv rv l);dsimp only;rw[nh,nh];cases e:ys[i]? with
  | none=>rw[rv.none_of e];rfl
  | some y=>obtain⟨u,e',q⟩:=rv.get e;rw[e'];exact q
theorem abW(ys:List V):(List.range ys.length).map (λi=>ys.getD i .aJ)=ys:=by
 apply aaZ
 ·simp
 ·intro i h1 h2;simp[h2]
theorem RQ{n:Nat}{p:Array Nat}(g:jC n p):p.toList.length=n:=by rw[Bj,g.size]
theorem acr(alR:wpAny (model X.prog X.w) X.A.in1 (collect x) (λvs s1=>∃ys r,Inv X p_ σ H s1/\Vals ys vs/\Srt X.prog X.w X.env.locals s1.heap vs r/\∀l zs,H l=b_->L' ys r zs->Q (.ref l) (upd H l (.lst zs))) X.xe s) :
  wpAny (model X.prog X.w) X.A (call (.builtin "sorted") [x]) (EP X p_ σ Q) X.xe s:=by
 refine Calls.call_function_entry kind_sorted plain_sorted entry_sorted (args_sorted1 _) ?_;unfold Builtin.«sorted»;refine ay (a7 (a:=()) (ay (ja alR (λvs s1 hq=>?_) λ_ _ z=>z)));obtain⟨ys,r,I,rv,S,q⟩:=hq;have hlen:=rv.length;have line:vs.length<=cW:=by have:=S.small;rw[jl];exact w5
 refine ay (QF ?_ line);obtain⟨dW,g,d,tk,os⟩:=s1;dsimp only at I S ⊢;have q0:(dW.push (seqObj "list" vs.toArray 0)).get? dW.objs.size=a_ (seqObj "list" vs.toArray 0):=ik _ rfl;obtain⟨m,F0⟩:=I.fr;have hL:X.env.locals<dW.objs.size:=I.lt;have hb:X.base.objs.size<=dW.objs.size:=cC I.ok.oU I.sz
 have fin:∀(h2:j_) (c:Nat) (zs:List V) (out:List f_),h2.Ns X.env.locals m->(∀b o,b≠X.env.locals->dW.get? b=a_ o->h2.get? b=a_ o)->h2.get? dW.objs.size=a_ (seqObj "list" out.toArray c)->
   Vals zs out->zs.length<=cW->L' ys r zs->EP X p_ σ Q (.ref dW.objs.size) ⟨h2,g,d,tk,os⟩:=λh2 c zs out n2 k2 e2 v2 l2 so=>by
  have hn:H dW.objs.size=none:=I.aQ.fresh (aN _);have f:=I.iY (b:=dW.objs.size) (aN _) hn;have J:=Inv.regrown (s:=⟨dW,g,d,tk,os⟩) (t':=tk) (d':=d) I F0.ns n2 k2;exact⟨.ref dW.objs.size,_,Inv.adopt (o:=.lst zs) J hn I.sz f.2.1 f.2.2.2.2.1 f.2.2.2.2.2 ⟨l2,out,c,v2,e2⟩,rfl,q _ _ hn so⟩
 refine ay (pP (zv slot_list_sort ⟨_,q0,rfl⟩ entry_list_sort ?_ (args_list_sort _)));have kp:∀b o,dW.get? b=a_ o->(dW.push (seqObj "list" vs.toArray 0)).get? b=a_ o:=λb o e=>b8 _ e
 by_cases h2:vs.length<2
 ·refine abR (s:=⟨dW.push (seqObj "list" vs.toArray 0),g,d,tk,os⟩) q0 h2 λh' e k' e'=>⟨_,rfl,a7 ⟨_,rfl,?_⟩⟩;have ne:∀b o,dW.get? b=a_ o->b≠dW.objs.size:=λb o z=>gh (cH z);refine fin h' e ys vs ?_ (λb o _ z=>k' b o (ne b o z) (kp b o z)) e' rv w7 ⟨(List.range ys.length).toArray,aa7 _,λi j qp hj=>absurd qp li,(abW ys).symm⟩;obtain⟨o,es,ep,z,rr⟩:=F0.ns;exact⟨o,es,ep,k' _ _ (ne _ _ z) (kp _ _ z),rr⟩
 ·have h3:2<=vs.length:=li
  refine kat_list_sort (s:=⟨dW.push (seqObj "list" vs.toArray 0),g,d,tk,os⟩) (h₀:=X.base) (L:=X.env.locals) (m:=m) (news:=rest X.base (dW.push (seqObj "list" vs.toArray 0)) X.env.locals dW.objs.size) (F0.push _)
   (λp hp=>S3 p (rG.mp hp).1) q0 (ur hL) (aaw hb) TU h3 S.small λe1 h' F1 N1=>?_
  have keep:∀h3:j_,Fr X.base X.env.locals h3 m->News X.base X.env.locals h3 (rest X.base (dW.push (seqObj "list" vs.toArray 0)) X.env.locals dW.objs.size)->∀b o,b≠X.env.locals->dW.get? b=a_ o->h3.get? b=a_ o:=λh3 F3 N3 b o hb z=>
   abx (λb o z=>kp b o (I.bk b o z)) F3 N3 b o hb (gh (cH z)) (kp b o z)
  obtain⟨κ,hκ⟩:=S.ask h3;have hk:=hκ X.A.in1.in1 ⟨h',g,d,tk,os⟩ (keep h' F1 λp hp=>N1 p (.tail _ hp));refine hk.1 _ (aeT (r:=r) S.inj (λi j C hi hj ne c=>hk.2 i j C hi hj ne c) li λp' gp ri=>KasFin.intro F1 N1 (.head TU) λh4 c F4 N4=>⟨_,rfl,a7 ⟨_,rfl,fin h4 c (p'.toList.map λi=>ys.getD i .aJ) _ F4.ns (keep h4 F4 λp hp=>N4 p (.tail _ hp)) (N4 _ (.head _)).1 (Rv rv _) ?_ ⟨p',by rw[hlen];exact gp,by rw[hlen];exact ri,rfl⟩⟩⟩);rw[aO,RQ gp];exact line
end
end L2
namespace L2
open PySem PySem.Spec PySem.W PyProof.Rows L3
abbrev LU(X:Cx)(sc:i_)(qual:Str)(f:e_)(cd:f_)(L:e_):Env:=envX qual sc L f cd (iD X.env.cells sc.names [])
def GQ(X:Cx)(A:h_)(sc:i_)(N:List Str)(qual:Str)(f:e_)(cd:f_)(s:g_)(H:Hp):Cx:=
 {X with A:=A.deeper (LU X sc qual f cd s.heap.objs.size),N:=N,s₀:=s,H₀:=H,env:=LU X sc qual f cd s.heap.objs.size,outer:=X.stack,stack:=LU X sc qual f cd s.heap.objs.size::X.stack,ex:=[],fn:=λ_=>d_,calm:=c_,pn:=[],xe:=λ_ _=>False }
section
variable{X:Cx}{p_:List (e_×Obj)}{σ:St}{H:Hp}{s:g_}{sc:i_}{N:List Str}{idx:List Nat}{A:h_}{f:e_}{cd:f_}{qual px:Str}{k:Nat}{v:V}{u:f_}
theorem afX(I:Inv X p_ σ H s)(S:eT X sc N idx)(hA:A.frames=a_ X.stack)(hh:A.handled=b_)(hk:N[k]?=a_ px)(hl:sc.names.lookup px=a_ .local)(hi:idx.length<=k)(r:RelV v u){m:Str->Option f_}{t:Nat}
  (pN:h'.Ns s.heap.objs.size m) (hm:m px=a_ u) (kp:∀b o,s.heap.get? b=a_ o->h'.get? b=a_ o) :
  Inv (GQ X A sc N qual f cd s H) [] ((nH idx N.length σ).set k (a_ v)) H { s with heap:=h',toks:=t }:=by
 have pV:∀x c,(iD X.env.cells sc.names []).lookup x=a_ c->X.env.cells.lookup x=a_ c:=EA sc.names [] (λx c e=>by cases e);have has:=λx e=>EB sc.names [] x e (I.ok.has x (.inl (S.frees _ e rfl)));have tZ:∀b:e_,b∉(GQ X A sc N qual f cd s H).ex:=λb z=>absurd (show b∈([]:List e_) from z) (by simp);refine⟨⟨I.ok.mod,S.kind,rfl,rfl,aN _,λx y c e1 e2=>I.ok.inj x y c (pV x c e1) (pV y c e2),λx h=>?_,λx c h=>(by cases h),λ_=>hh,aay hA,.inr ⟨rfl,rfl⟩,λb z=>absurd z (tZ b),I.bs,cC I.ok.oU I.sz,λb _ _=>tZ b,λb z=>absurd z (tZ b),I.stack,I.EJ⟩,rfl,I.bare,Un.kept kp,⟨m,pN,λj x w e1 e2 e3=>?_⟩,λx c e=>?_,I.aQ.fresh (aN _),λx c e=>I.lj x c (pV x c e),λp hp=>absurd (show p∈([]:List (e_×Obj)) from hp) (by simp),I.aQ.kept kp,by rw[kv];exact Ku S.le⟩
 ·have h2:sc.names.lookup x=a_ .cell\/sc.names.lookup x=a_ .free:=h;rcases h2 with z | z
  ·exact absurd rfl (S.E5 _ (PySem.mem_of_lookup z))
  ·exact has x (PySem.mem_of_lookup z)
 ·have DN:N[j]?=a_ x:=e1
  by_cases hj:j=k
  ·subst hj;rw[hk]at DN;cases DN;have dJ:j<(nH idx N.length σ).length:=by rw[Ku S.le];exact(dX.mp hk).1
   rw[jz dJ]at e2;cases e2;exact⟨u,r,.inl ⟨hl,hm⟩⟩
  ·rw[zt (gq hj)]at e2;obtain⟨i,h1,h2⟩:=Kv e2;obtain⟨h3,h4⟩:=S.XW j i x h1 DN;have jy:=PySem.mem_of_lookup h4;have uY:X.env.scope.names.lookup x=a_ .cell:=S.frees _ jy rfl;obtain⟨m',y0,Dx⟩:=I.loc;obtain⟨u',r',l⟩:=Dx i x w h3 h2 (.inr (.inl uY));refine⟨u',r',.inr ⟨.inr h4,?_⟩⟩;rcases l with ⟨q,_⟩ | ⟨_,c,ec,z⟩
   ·have q':X.env.scope.names.lookup x=a_ .local:=q;rw[uY]at q';cases q'
   ·obtain⟨c',DL⟩:=has x jy;have:=pV x c' DL;rw[ec]at this;cases this;exact⟨c,DL,z.keeps λb o e=>kp b o e⟩
 ·obtain⟨v',z⟩:=I.cell x c (pV x c e);exact⟨v',z.keeps λb o e=>kp b o e⟩
theorem aea{params:Arguments}{body:Expr}(I:Inv X p_ σ H s)(S:eT X sc N idx)(hA:A.frames=a_ X.stack)(hh:A.handled=b_)(aj0:A.depth<D2)(hk:N[k]?=a_ px)
  (hl:sc.names.lookup px=a_ .local) (hi:idx.length<=k) (r:RelV v u) (ho:s.heap.get? f=a_ (kla_obj "<lambda>" qual params body sc (iD X.env.cells sc.names []) pm c' rB)) (jj:s.heap.CodeRec (.ref c') qual)
  (Cv:uA (kla_fn "<lambda>" qual params body sc (iD X.env.cells sc.names []) pm (.ref c') rB) ⟨[u],[]⟩=pure [(px,u)]) (Pg:sc.isCoroutine=d_) (NZ:sc.isGenerator=d_)
  (hb:PE (GQ X A sc N qual f (.ref c') s H) body te) (q:te ((nH idx N.length σ).set k (a_ v)) H Q):wpAny (model X.prog X.w) A (call (.ref f) [u]) (EP X p_ σ Q) E s:=by
 refine uw (kla_callFunE aj0 ho rfl Pg NZ rfl jj ?_);rw[Cv];refine a7 (wpAny_newFunctionEnv S.E5 (λy hy=>?_) (λh1 pN HN=>⟨I.nolimit.fresh _ HN,?_⟩) S.kind)
 ·have e:y=(px,u):=by simpa using hy
  rw[e];exact hl
 ·have kp:∀b o,s.heap.get? b=a_ o->h1.get? b=a_ o:=λb o e=>HN.extBut b o (gh (cH e)) (b8 _ e);have J:=afX (A:=A) (f:=f) (cd:=.ref c') (qual:=qual) (t:=s.toks+[(px,u)].length) I S hA hh hk hl hi r pN (by simp[sL]) kp;refine kla_codeExpr (ja (hb [] _ _ H _ J q) (λw s2 hw=>?_) λ_ _ z=>jm z);obtain⟨v2,H2,J2,r2,q2⟩:=hw;exact⟨v2,H2,I.MT (ch:=[]) (J2.os.trans rfl) J2.base J2.aQ J2.bare λb z=>absurd z (by simp),r2,q2⟩
end
def AK(c:e_)(qual:Str):HO:=.ext λh=>h.CodeRec (.ref c) qual
theorem ahF{P:l_}{w:k_}(x:h.CodeRec (.ref c) qual):hZ P w H h c (AK c qual):=by
 obtain⟨c0,o,vs,t,e,q,r⟩:=id x;cases e;refine⟨x,⟨o,q⟩,λh1 h2 y k=>?_⟩;obtain⟨c1,o1,C0,t1,e1,q1,r1⟩:=y;cases e1;exact⟨c,o1,C0,t1,rfl,k _ q1,r1⟩
def cq(P:e_)(pos:Pos)(qual:Str)(H:Hp):Prop:=∃ps,H P=a_ (.gx ps)/\(ps=#[]\/∃c,ps=#[rawInt pos.line,rawInt pos.col,.ref c]/\H c=a_ (AK c qual))
def wV(P:e_)(H H':Hp):Prop:=∀b o,b≠P->H b=a_ o->H' b=a_ o
theorem wV.refl{P:e_}(H:Hp):wV P H H:=λ_ _ _ e=>e
def vh(mg:Str->Option f_)(base:j_):Prop:=∃bm ob,mg "__builtins__" = a_ (.ref bm)/\bm≠sS/\bm≠gi/\base.get? bm=a_ ob/\ob.cls=.type "module"/\ob.dict=a_ sS/\ob.data=.plain
section
variable{X:Cx}{p_:List (e_×Obj)}{σ:St}{H:Hp}{s:g_}
theorem Inv.grow{P:e_}{ps more:Array f_}{t':Nat}(I:Inv X p_ σ H s)(hP:H P=a_ (.gx ps))(k:∀b o,b≠P->s.heap.get? b=a_ o->h'.get? b=a_ o)(e:h'.get? P=a_ (tabObj (ps++more))) :
  Inv X p_ σ (upd H P (.gx (ps++more))) { s with heap:=h',toks:=t' }:=by
 have ne:∀b,H b=b_->b≠P:=λb n z=>by rw[z,hP]at n;cases n
 refine I.step (g':=s.gens) (d':=s.drawn) (ch:=[]) (λ_ z=>nomatch z) (λb o _ _ _ q n=>k b o (ne b n) q) (λb o _ _ _ q n=>⟨o.slots,k b o (ne b n) q⟩) (λb o _ q n=>by rw[au (ne b n)];exact n) (λb o _ q=>?_) (λb xs q=>?_) (λb o u q=>?_) (λb qs q=>?_)
  (λm hm=>?_) (λb u q=>?_) I.bare
 ·by_cases z:b=P
  ·exact⟨_,by rw[z];exact e⟩
  ·exact⟨o,k b o z q⟩
 ·rw[au (hY q hP (by intro z;cases z))];exact q
 ·rw[au (hY q hP (by intro z;cases z))];exact q
 ·by_cases z:b=P
  ·subst z;rw[hP]at q;cases q;exact⟨more,aA⟩
  ·exact⟨#[],by rw[au z,q];simp⟩
 ·obtain⟨o,es,ep,q,r⟩:=hm;exact⟨o,es,ep,k _ o (ne _ I.free) q,r⟩
 ·by_cases z:b=P
  ·subst z;rw[aA]at q;cases q;exact e
  ·rw[au z]at q;refine(I.aQ b u q).qO (λd v hd y=>k d v (λw=>?_) y) (λc y=>?_) λc xs y=>?_
   ·rcases hd with y1 | y1
    ·exact z (y1.symm.trans w)
    ·rw[w,hP]at y1;cases y1
   ·rw[au (hY y hP (by intro z;cases z))];exact y
   ·rw[au (hY y hP (by intro z;cases z))];exact y
theorem Inv.FT(I:Inv X p_ σ H s)(g:gU X p_ H f)(e:s.heap.get? f=a_ o)(n:∀v,o.data≠.cell v):Inv X (p_++[(f,o)]) σ H s:=
 I.wd λp hp=>by
  rcases jA.mp hp with z | z
  ·exact I.pin p (hG _ z)
  ·have z':p=(f,o):=by simpa using z
   rw[z'];exact⟨e,g.1,g.2.1,g.2.2.1,n⟩
theorem ad'{sc:i_}{idx:List Nat}{params:Arguments}{body:Expr}{c P:e_}(I:Inv X p_ σ H s)(S:eT X sc N idx)(FN:X.env.code=.ref c)(C:CodeHd X.base c P)(B:vh X.mg X.base)
  (N0:defaultsOf params X.env=([],[])) (h:cq P pos (X.env.qual ++ "<lambda>") H)
  (k:∀f c' H' pm rB s',Inv X (p_++[(f,kla_obj "<lambda>" (X.env.qual ++ "<lambda>") params body sc (iD X.env.cells sc.names []) pm c' rB)]) σ H' s'->wV P H H'->cq P pos (X.env.qual ++ "<lambda>") H'->H' c'=a_ (AK c' (X.env.qual ++ "<lambda>"))->R (.ref f) s') :
  wpAny (model X.prog X.w) X.A (eval (.Lambda params body sc pos) X.env) R E s:=by
 have rA:=Jy λp hp e=>I.ok.has p.1 (.inl (S.frees p hp e));obtain⟨ps,hP,km⟩:=h;have oP:s.heap.get? P=a_ (tabObj ps):=I.aQ P _ hP;obtain⟨bm,ob,b1,b2,b3,b4,b5,b6,b7⟩:=B
 have nP:∀b o,X.base.get? b=a_ o->b≠P:=λb o e z=>by
  have:=(I.bs b o e).2;rw[z,hP]at this;cases this
 have Ze:=I.mod.glob.keeps I.bk
 have gP:gi≠P:=by
  obtain⟨o,es,ep,e,_⟩:=I.mod.glob;exact nP _ _ e
 have hb:s.heap.BuiltinsAt X.mg P:=⟨bm,ob,b1,b2,b3,nP _ _ b4,I.bk _ _ b4,b5,b6,b7⟩;have CC:=C.keeps I.bk;refine kla_eval N0 ?_;rcases km with rfl | ⟨c0,rfl,Pj⟩
 ·refine kla_makeFunction (mg:=X.mg) rA I.ok.glob Ze FN CC oP qC rfl gP hb λc' rB h' tk hx vA dJ als htb=>?_
  have I1:Inv X p_ σ (upd H P (.gx (#[] ++ #[rawInt pos.line,rawInt pos.col,.ref c']))) { s with heap:=h'.push (kla_obj "<lambda>" (X.env.qual ++ "<lambda>") params body sc (iD X.env.cells sc.names []) ((X.mg "__name__").getD .none) c' rB),toks:=tk }:=
   I.grow hP (λb o n e=>b8 _ (hx b o n e)) (b8 _ htb)
  have YN:=cH oP;have nc:=I.aQ.fresh vA;have cP:=ur (gI YN vA);have OC:upd H P (.gx (#[] ++ #[rawInt pos.line,rawInt pos.col,.ref c'])) c'=none:=by rw[au cP];exact nc
  have fc:=I.iY (b:=c') vA nc;have I2:=Inv.adopt (o:=AK c' (X.env.qual ++ "<lambda>")) I1 OC (cC I.sz vA) fc.2.1 fc.2.2.2.2.1 fc.2.2.2.2.2 (ahF (als.push _));have O7:=cC vA (dw dJ);have fP:=ur (gI YN O7)
  have nf:upd (upd H P (.gx (#[] ++ #[rawInt pos.line,rawInt pos.col,.ref c']))) c' (AK c' (X.env.qual ++ "<lambda>")) h'.objs.size=none:=by
   rw[au (ur dJ),au fP];exact I.aQ.fresh O7
  have I3:=I2.FT (I.iY (b:=h'.objs.size) O7 nf) (ik _ rfl) (λv z=>by cases z);refine k _ c' _ _ rB _ I3 (λb o n e=>?_) ⟨_,by rw[au (gq cP),aA],.inr ⟨c',by simp,aA⟩⟩ aA;rw[au (bw e nc),au n];exact e
 ·have Pf:s.heap.CodeRec (.ref c0) (X.env.qual ++ "<lambda>"):=(I.aQ c0 _ Pj).1;have hf:codeAmong pos (#[rawInt pos.line,rawInt pos.col,di c0]:Array f_).toList=a_ (.ref c0):=by simp[codeAmong,rawInt]
  refine kla_makeFunctionHit (mg:=X.mg) rA I.ok.glob Ze FN CC oP (show TriplesOk [rawInt pos.line,rawInt pos.col,di c0] from qC) hf hb λrB h' tk kk vA=>?_;have I1:Inv X p_ σ H { s with heap:=h'.push (kla_obj "<lambda>" (X.env.qual ++ "<lambda>") params body sc (iD X.env.cells sc.names []) ((X.mg "__name__").getD .none) c0 rB),toks:=tk }:=I.kept λb o e=>b8 _ (kk b o e);have I3:=I1.FT (I.iY (b:=h'.objs.size) vA (I.aQ.fresh vA)) (ik _ rfl) (λv z=>by cases z);exact k _ c0 _ _ rB _ I3 (wV.refl H) ⟨_,hP,.inr ⟨c0,rfl,Pj⟩⟩ Pj
end
end L2
namespace L2
open PySem PySem.Spec PySem.W PyProof.Rows
def Wf(ts:List e_)(H:Hp):Prop:=(∀b,H b=b_\/(∃o xs,H b=a_ (.pK o (.lst xs)))\/(b∈ts/\H b=a_ (.gx #[])))/\∀b∈ts,H b=a_ (.gx #[])
theorem acS{P:l_}{w:k_}{K:W.Frag}{mg mb:Str->Option f_}{CX:pL}{k:Nat}{sp:Sp}
  (KX:K.In s₁.heap) (pN:s₁.heap.Ns gi mg) (hb:s₁.heap.Ns sS mb) (hbb:∀x:Str,x ≠ "__name__"->mb x=vS x) (alG:s₁.heap.NoLimit) (hg:s₁.gens=#[]) (nV:vh mg s₁.heap)
  (yW:∀b∈ts,s₁.heap.get? b=a_ (tabObj #[])) (htc:∀b∈ts,isCodeTable s₁.heap b) (HL:∀b∈ts,K.lookup b=b_)
  (ha:s₁.heap.get? a=a_ { cls:=.type "list",data:=.seq vs.toArray }) (hi:IntsAre vs ns) (hl:ns.length<=cW) (hr:fJ k callerA)
  (F:∀base:j_,K.In base->base.Ns gi mg->vh mg base->ax P w K mg base CX k fa fd [x] sp) (Cv:∀(s:g_) (u:f_),BindsTo s fd ⟨[u],[]⟩ [(x,u)])
  (rh:∀H:Hp,Wf ts H->aj K H a (ns.map V.int)->sp [.ref a] H (λv _=>v=.bl c_) λ_ _ _=>False)
  (hCX:∀H e s',CX [] H s₁ (λ_ _ _=>False) e s'->False) :
  codeAny (model P w) callerA (.call (.ref fa) ⟨[.ref a],[]⟩) (λr s'=>r=.ok (.ret (.bool c_))/\OldK s₁.heap s'.heap/\s'.os=s₁.os/\AllBare s'.gens) s₁:=by
 have rv:=JC hi;have akU:=hi.length
 have ZR:a∉ts:=λz=>by
  have e:=yW a z;rw[ha]at e;cases e
 have core:∀H:Hp,Wf ts H->aj K H a (ns.map V.int)->gz P w H s₁.heap->(∀b,H b≠b_->b=a\/b∈ts)->(H a≠b_->K.lookup a=b_)->
   codeAny (model P w) callerA (.call (.ref fa) ⟨[.ref a],[]⟩) (λr s'=>r=.ok (.ret (.bool c_))/\OldK s₁.heap s'.heap/\s'.os=s₁.os/\AllBare s'.gens) s₁:=by
  intro H hO hS aQ hA hK;have base_of:∀{b:e_} {o:Obj},s₁.heap.get? b=a_ o->H b=b_->(tI s₁.heap H).get? b=a_ o:=λe n=>aeg e n
  have tZ:∀{b:e_} {o:Obj},s₁.heap.get? b=a_ o->(∀xs n,o.data≠.seq xs n)->(∀xs,o.data≠.fields xs)->H b=none:=λ{b o} e d1 d2=>by
   cases q:H b with
   | none=>rfl
   | some u=>
    rcases hA b (by rw[q];simp)with z | z
    ·subst z;rw[ha]at e;cases e;exact absurd rfl (d1 _ _)
    ·rw[yW b z]at e;cases e;exact absurd rfl (d2 _)
  have Hr:∀{b:e_} {m:Str->Option f_},s₁.heap.Ns b m->(tI s₁.heap H).Ns b m:=λ{b m} ⟨o,es,ep,e,d,r⟩=>⟨o,es,ep,base_of e (tZ e (λ_ _ z=>by rw[d]at z;cases z) λ_ z=>by rw[d]at z;cases z),d,r⟩
  have Zp:K.In (tI s₁.heap H):=λb o e=>base_of (KX b o e) (by
   cases q:H b with
   | none=>rfl
   | some u=>
    rcases hA b (by rw[q];simp)with z | z
    ·subst z;rw[hK (by rw[q];simp)]at e;cases e
    ·rw[HL b z]at e;cases e)
  have hB:vh mg (tI s₁.heap H):=by
   obtain⟨bm,ob,b1,b2,b3,b4,b5,b6,b7⟩:=nV;exact⟨bm,ob,b1,b2,b3,base_of b4 (tZ b4 (λ_ _ z=>by rw[b7]at z;cases z) λ_ z=>by rw[b7]at z;cases z),b5,b6,b7⟩
  have hM:Mod K mg (tI s₁.heap H):=⟨Zp,Hr pN,⟨mb,Hr hb,hbb⟩,let ⟨mc,h1,h2⟩:=alG;⟨mc,Hr h1,h2⟩⟩;have e0:yC P w K mg (tI s₁.heap H) callerA [] s₁ H:=⟨rfl,hM,λb o e=>afJ e,rJ (acZ _ _),trivial,λb hb=>absurd (show b∈([]:List e_) from hb) (by simp),aQ,.of_eq hg⟩;refine zG ((F _ Zp (Hr pN) hB).run callerA [] s₁ H ⟨[.ref a],[]⟩ [.ref a] [.ref a] _ _ hr e0 (Cv s₁ (.ref a)) (.cons rfl .nil) (rh H hO hS)) λr s' h=>?_;cases r with
  | error e=>exact(hCX H e s' h).elim
  | ok fl=>
   cases fl with
   | next=>exact jm h
   | brk=>exact jm h
   | cont=>exact jm h
   | ret u=>
    obtain⟨v,H',os,bare,un,Xb,r',q⟩:=h;have q':=q;subst q';obtain rfl:u=vZ true:=r'
    have old:∀b o,s₁.heap.get? b=a_ o->asItWas s₁.heap s'.heap b o/\∃o',s'.heap.get? b=a_ o':=λb o e=>by
     cases q:H b with
     | none=>
      have:=un.keep b o e q (by intro z;exact absurd (show b∈([]:List e_) from z) (by simp)) (by simp);exact⟨.inl this,_,this⟩
     | some u=>
      rcases hO.1 b with z | ⟨ob,xs,z⟩ | ⟨hm,z⟩
      ·rw[q]at z;cases z
      ·have z2:=un.p0 b ob _ z;obtain⟨e1,_⟩:=aQ b _ z;obtain⟨e2,_⟩:=Xb b _ z2;rw[e]at e1;cases e1;exact⟨.inl e2,_,e2⟩
      ·obtain⟨more,z2⟩:=un.pX b _ z;have e2:s'.heap.get? b=a_ (tabObj (#[]++more)):=Xb b _ z2;have e1:=yW b hm;rw[e]at e1;cases e1;exact⟨.inr (.inl ⟨htc b hm,rfl,#[],more,rfl,e2⟩),_,e2⟩
    exact⟨rfl,⟨λb o e=>(old b o e).1,λb o e=>(old b o e).2⟩,os,bare⟩
 have tok:∀b,b∈ts->hZ P w (λb=>if b=a then b_ else if b∈ts then a_ (.gx #[]) else b_) s₁.heap b (.gx #[]):=λb hb=>yW b hb;cases hk:K.lookup a with
 | some o=>
  have e:=KX a o hk;rw[ha]at e;cases e;have hta:∀b∈ts,(λb=>if b∈ts then a_ (HO.gx #[]) else b_) b=a_ (.gx #[]):=λb hb=>if_pos hb;refine core (λb=>if b∈ts then a_ (.gx #[]) else b_) ⟨λb=>?_,hta⟩ (.inr ⟨_,vs.toArray,_,hk,rfl,rfl,rfl,by rw[eO,akU];exact hl,by simpa using rv⟩) (λb u z=>?_) (λb z=>?_) λz=>absurd (if_neg ZR) z
  ·by_cases hb:b∈ts
   ·exact .inr (.inr ⟨hb,if_pos hb⟩)
   ·exact .inl (if_neg hb)
  ·by_cases hb:b∈ts
   ·have z':=(if_pos hb).symm.trans z;cases z';exact yW b hb
   ·have z':=(if_neg hb).symm.trans z;cases z'
  ·by_cases hb:b∈ts
   ·exact .inr hb
   ·exact absurd (if_neg hb) z
 | none=>
  have ne:∀b∈ts,b≠a:=λb hb z=>ZR (z ▸ hb);refine core (λb=>if b=a then a_ (.pK { cls:=.type "list",data:=.seq vs.toArray } (.lst (ns.map V.int))) else if b∈ts then a_ (.gx #[]) else b_) ⟨λb=>?_,λb hb=>?_⟩ (.inl (.inr ⟨{ cls:=.type "list",data:=.seq vs.toArray },if_pos rfl⟩)) (λb u z=>?_) (λb z=>?_) λ_=>hk
  ·by_cases hb:b=a
   ·exact .inr (.inl ⟨_,_,if_pos hb⟩)
   ·by_cases hc:b∈ts
    ·exact .inr (.inr ⟨hc,by dsimp only;rw[if_neg hb,if_pos hc]⟩)
    ·exact .inl (by dsimp only;rw[if_neg hb,if_neg hc])
  ·dsimp only;rw[if_neg (ne b hb),if_pos hb]
  ·dsimp only at z
   by_cases hb:b=a
   ·rw[if_pos hb]at z;cases z;subst hb;exact⟨ha,by rw[aO];exact hl,vs,_,rv,ha⟩
   ·rw[if_neg hb]at z
    by_cases hc:b∈ts
    ·rw[if_pos hc]at z;cases z;exact yW b hc
    ·rw[if_neg hc]at z;cases z
  ·by_cases hb:b=a
   ·exact .inl hb
   ·by_cases hc:b∈ts
    ·exact .inr hc
    ·exact absurd (show (if b=a then _ else if b∈ts then _ else b_)=b_ by rw[if_neg hb,if_neg hc]) z
end L2
namespace HT
open PySem PySem.W L2
theorem QG:∀{us:List f_} {xs:List Str},sV us xs=c_->Vals (xs.map V.str) us/\us.length=xs.length
 | [],[],_=>⟨.nil,rfl⟩
 | .str y t::us,x::xs,h=>by
  have h:(decide (y=x)&&sV us xs)=true:=h;rw[i9]at h;obtain⟨a,b⟩:=QG h.2;have e:=of_decide_eq_true h.1;subst e;exact⟨.cons ⟨t,rfl⟩ a,by rw[jk,jk,b]⟩
 | [],_::_,h=>by simp[sV]at h
 | u::us,[],h=>by cases u <;> simp[sV]at h
 | .none::_,_::_,h=>by simp[sV]at h
 | .ref _::_,_::_,h=>by simp[sV]at h
 | .int _ _::_,_::_,h=>by simp[sV]at h
 | .bool _::_,_::_,h=>by simp[sV]at h
theorem aeP{K:Frag}(h:tupS K a xs=c_)(hz:xs.length<=cW)(H:Hp):aI K H a (xs.map V.str):=by
 unfold tupS at h
 split at h
 ·rename_i d aw n sl e
  obtain⟨r,l⟩:=QG h;exact .inr ⟨_,aw,n,e,rfl,rfl,by rw[<-Bj,l];exact hz,r⟩
 ·cases h
end HT
namespace L3
open PySem
def iy(b:Bool)(h:j_)(it l:e_)(i:Nat):Prop:=if b=c_ then h.IsListIter it l i else h.IsTupleIter it l i
def iz(b:Bool)(h:j_)(l:e_)(xs:Array f_):Prop:=if b=c_ then h.IsList l xs else h.IsTuple l xs
theorem iy.ext{b:Bool}{i:Nat}(x:iy b h it l i)(e:Jp c h h')(n:it≠c):iy b h' it l i:=by
 cases b with
 | true=>exact(show h.IsListIter it l i from x).extBut e n
 | false=>exact(show h.IsTupleIter it l i from x).extBut e n
theorem iz.ext{b:Bool}{xs:Array f_}(x:iz b h l xs)(e:Jp c h h')(n:l≠c):iz b h' l xs:=by
 cases b with
 | true=>exact(show h.IsList l xs from x).extBut e n
 | false=>exact(show h.IsTuple l xs from x).extBut e n
theorem iy.at{b:Bool}{i:Nat}(x:iy b h it l i)(e:∀o,h.get? it=a_ o->h'.get? it=a_ o):iy b h' it l i:=by
 cases b with
 | true=>exact(show h.IsListIter it l i from x).at e
 | false=>obtain⟨o,ho,r⟩:=(show h.IsTupleIter it l i from x);exact⟨o,e o ho,r⟩
theorem iz.at{b:Bool}{xs:Array f_}(x:iz b h l xs)(e:∀o,h.get? l=a_ o->h'.get? l=a_ o):iz b h' l xs:=by
 cases b with
 | true=>exact(show h.IsList l xs from x).at e
 | false=>obtain⟨o,ho,r⟩:=(show h.IsTuple l xs from x);exact⟨o,e o ho,r⟩
theorem iy.obj{b:Bool}{i:Nat}(x:iy b h it l i):∃o vs,h.get? it=a_ o/\o.data=.fields vs:=by
 cases b with
 | true=>obtain⟨o,e,_,d⟩:=(show h.IsListIter it l i from x);exact⟨o,_,e,d⟩
 | false=>obtain⟨o,e,_,d⟩:=(show h.IsTupleIter it l i from x);exact⟨o,_,e,d⟩
section
variable{prog:l_}{w:k_}{A:h_}{E:f_->g_->Prop}{s:g_}
theorem abf{i:Nat}{aw:Array f_}(a1:s.heap.IsTupleIter it t i)(a2:s.heap.IsTuple t aw)(a3:aw[i]?=a_ x)
  (k:∀h',h'.IsTupleIter it t (i+1)->vW it s.heap h'->Q x { s with heap:=h' }):wpAny (model prog w) A (uj (.ref it)) Q E s:=by
 obtain⟨o,e,c,d⟩:=id a1;obtain⟨ot,et,_,nt,dt⟩:=a2;unfold uj;refine ay (Be (name:=gL "__next__") a1.typeIs Im (zv Im a1.typeIs aac ?_ (aab _)));show wpAny _ _ (field (.ref it) 0 >>= _) _ _ s;refine ay (kz e d (x:=.ref t) rfl ?_);show wpAny _ _ (if (di t == mj)=c_ then _ else _) _ _ s;rw[if_neg (by exact dY)];show wpAny _ _ (field (.ref it) 1 >>= _) _ _ s;refine ay (kz e d (x:=.int i 0) rfl ?_);show wpAny _ _ (JT (.ref t) >>= _) _ _ s;refine ay (uq et dt ?_);simp only[jJ,a3];refine ay (D1 e d (by simp) (a7 ⟨x,rfl,a7 (k _ ⟨_,Bh _ e (P' (DT d _)),(aaO ..).trans c,?_⟩ (ID ..))⟩));rw[DT d];simp[rawInt]
theorem abw{i:Nat}{aw:Array f_}(hh:A.handled=b_)(a1:s.heap.IsTupleIter it t i)(a2:s.heap.IsTuple t aw)(a3:aw[i]?=b_)
  (k:∀h' x,Jp it s.heap h'->(∃o,h'.get? x=a_ o/\o.cls=.type "StopIteration")->E (.ref x) { s with heap:=h' }):wpAny (model prog w) A (uj (.ref it)) Q E s:=by
 obtain⟨o,e,c,d⟩:=id a1;obtain⟨ot,et,_,nt,dt⟩:=a2;unfold uj;refine ay (Be (name:=gL "__next__") a1.typeIs Im (zv Im a1.typeIs aac ?_ (aab _)));show wpAny _ _ (field (.ref it) 0 >>= _) _ _ s;refine ay (kz e d (x:=.ref t) rfl ?_);show wpAny _ _ (if (di t == mj)=c_ then _ else _) _ _ s;rw[if_neg (by exact dY)];show wpAny _ _ (field (.ref it) 1 >>= _) _ _ s;refine ay (kz e d (x:=.int i 0) rfl ?_);show wpAny _ _ (JT (.ref t) >>= _) _ _ s;refine ay (uq et dt ?_);simp only[jJ,a3];refine ay (wpAny_rule (ay (D1 e d (by simp) ?_)));show wpAny _ _ (newExc (.type "StopIteration") [] >>= _) _ _ _;refine ay ?_;unfold newExc newTuple;refine ay (x6 ?_ (by size_fits));refine ay (m:=firstArgMember _ _) (wpAny_of_eq (a:=mj) (by first | rfl | (simp only[firstArgMember];rfl)) (x6 ?_ (by size_fits)));unfold raiseNew;refine ay (wpAny_handled ?_)
 first | rw[show A.in1.handled=b_ from hh] | rw[hh]
 exact ay (a7 (wpAny_throw (k _ _ (((ID ..).extBut.push _).push _) ⟨_,ik _ rfl,rfl⟩)))
theorem next_item{b:Bool}{i:Nat}{xs:Array f_}(a1:iy b s.heap it l i)(a2:iz b s.heap l xs)(a3:xs[i]?=a_ x)
  (k:∀h',iy b h' it l (i+1)->vW it s.heap h'->Q x { s with heap:=h' }):wpAny (model prog w) A (uj (.ref it)) Q E s:=by
 cases b with
 | true=>exact wpAny_nextOf_list_item a1 a2 a3 k
 | false=>exact abf a1 a2 a3 k
theorem next_end{b:Bool}{i:Nat}{xs:Array f_}(hh:A.handled=b_)(a1:iy b s.heap it l i)(a2:iz b s.heap l xs)(a3:xs[i]?=b_)
  (k:∀h' x,Jp it s.heap h'->(∃o,h'.get? x=a_ o/\o.cls=.type "StopIteration")->E (.ref x) { s with heap:=h' }):wpAny (model prog w) A (uj (.ref it)) Q E s:=by
 cases b with
 | true=>exact wpAny_nextOf_list_end hh a1 a2 a3 k
 | false=>exact abw hh a1 a2 a3 k
theorem adk{b1 b2:Bool}{z TI TO i1 i2 l1 l2:e_}{k1 k2:Nat}{xs ys:Array f_}{Q:Option f_->g_->Prop}(D:ZipApart z TI TO i1 i2 l1 l2)
  (hz:IsZip s.heap z TI TO .none) (Pn:IsPair s.heap TI (.ref i1) (.ref i2)) (Pm:IsPair s.heap TO a b) (n1:iy b1 s.heap i1 l1 k1) (n2:iy b2 s.heap i2 l2 k2) (m1:iz b1 s.heap l1 xs) (m2:iz b2 s.heap l2 ys)
  (hx:xs[k1]?=a_ x) (hy:ys[k2]?=a_ y)
  (hQ:∀h',IsZip h' z TI TO (rawInt s.heap.objs.size)->IsPair h' TO x y->iy b1 h' i1 l1 (k1+1)->iy b2 h' i2 l2 (k2+1)->IsPair h' s.heap.objs.size x y-> (∀c o,c≠z->c≠TO->c≠i1->c≠i2->s.heap.get? c=a_ o->h'.get? c=a_ o)->Q (a_ (.ref s.heap.objs.size)) { s with heap:=h' }):wpAny (model prog w) A (pyNext (.ref z)) Q E s:=by
 have hT:s.TypeIs (.ref z) "zip":=⟨_,hz,rfl⟩;unfold pyNext;refine ay (D3 (Be (name:=gL "__next__") hT IX (zv IX hT F.entry_zip_next ?_ (F.args_zip_next_1 _))));show wpAny _ _ (field (.ref z) 2 >>= _) _ _ s;refine ay (kz hz rfl (x:=.bool d_) rfl ?_);show wpAny _ _ (field (.ref z) 3 >>= _) _ _ s;refine ay (kz hz rfl (x:=.ref TI) rfl (ay (uq Pn rfl ?_)));show wpAny _ _ (Ik (.ref z) >>= _) _ _ s;unfold Ik;refine ay (ay (kz hz rfl (x:=.none) rfl (a7 ?_)));simp only[if_true];refine ay (wpAny_rule (ay (kz hz rfl (x:=.ref TO) rfl (ay (Bk hz (by simp) λg1 dG s1=>?_)))));have dG:IsZip g1 z TI TO .ellipsis:=dG;simp only[List.zipIdx_cons,List.zipIdx_nil,zx,List.forIn_nil];refine ay (ay (ay (Jd ?_)));show wpAny _ _ (uj (.ref i1) >>= _) _ _ _;refine ay (next_item (n1.ext s1.extBut D.i1z) (m1.ext s1.extBut D.l1z) hx λg2 YL s2=>a7 ?_);have t2:IsPair g2 TO a b:=s2.extBut _ _ D.TOi1 (s1.extBut _ _ D.TOz Pm);refine ay (uq t2 rfl (ay (Qe t2 λg3 t3 s3=>ay (zJ (a7 ?_)))));have t3:IsPair g3 TO x b:=t3;refine ay (ay (Jd ?_));show wpAny _ _ (uj (.ref i2) >>= _) _ _ _;refine ay (next_item (((n2.ext s1.extBut D.i2z).ext s2.extBut D.i12.symm).ext s3.extBut D.TOi2.symm) (((m2.ext s1.extBut D.l2z).ext s2.extBut D.l2i1).ext s3.extBut D.l2TO) hy λg4 n2' s4=>a7 ?_);have t4:IsPair g4 TO x b:=s4.extBut _ _ D.TOi2 t3;refine ay (uq t4 rfl (ay (Qe t4 λg5 t5 s5=>ay (zJ (a7 (a7 ?_))))));have t5:IsPair g5 TO x y:=t5;refine ay (uq t5 rfl (ay (wpAny_newTuple ?_)));have dP:g5.objs.size=s.heap.objs.size:=by rw[s5.1,s4.1,s3.1,s2.1,s1.1]
 have Y0:IsZip g5 z TI TO .ellipsis:=s5.extBut _ _ D.TOz.symm (s4.extBut _ _ D.i2z.symm (s3.extBut _ _ D.TOz.symm (s2.extBut _ _ D.i1z.symm dG)))
 have k5:∀c o,c≠z->c≠TO->c≠i1->c≠i2->s.heap.get? c=a_ o->g5.get? c=a_ o:=λc o c1 c2 c3 c4 e=>
  s5.extBut _ _ c2 (s4.extBut _ _ c4 (s3.extBut _ _ c2 (s2.extBut _ _ c3 (s1.extBut _ _ c1 e))))
 have Di:=((YL.ext s3.extBut D.TOi1.symm).ext s4.extBut D.i12).ext s5.extBut D.TOi1.symm;have n25:=n2'.ext s5.extBut D.TOi2.symm;have X4:=cH Y0;show wpAny _ _ (Z7 (.ref z) (.ref g5.objs.size) >>= _) _ _ _;unfold Z7;have OM:IsZip (g5.push { cls:=.type "tuple",data:=.seq #[x,y] }) z TI TO .ellipsis:=b8 _ Y0;refine ay (ay (Bk OM (by simp) λg7 OL s7=>?_));have OL:IsZip g7 z TI TO (rawInt g5.objs.size):=OL;refine Bk OL (by simp) λg8 HF s8=>?_;have HF:IsZip g8 z TI TO (rawInt g5.objs.size):=HF;have up:∀c o,c≠z->g5.get? c=a_ o->g8.get? c=a_ o:=λc o c1 e=>s8.extBut _ _ c1 (s7.extBut _ _ c1 (b8 _ e));have Zl:IsPair g8 g5.objs.size x y:=s8.extBut _ _ (ur X4) (s7.extBut _ _ (ur X4) (ik _ rfl));rw[dP]at HF Zl;refine a7 ⟨_,rfl,?_⟩;show wpAny _ _ (pure (a_ (di g5.objs.size)):Sem (Option f_)) _ _ _;rw[dP];exact a7 (hQ g8 HF (up _ _ D.TOz t5) (Di.at λo e=>up _ o D.i1z e) (n25.at λo e=>up _ o D.i2z e) Zl λc o c1 c2 c3 c4 e=>up c o c1 (k5 c o c1 c2 c3 c4 e))
theorem aeL{b1 b2:Bool}{z TI TO i1 i2 l1 l2:e_}{k1 k2:Nat}{xs ys:Array f_}{Q:Option f_->g_->Prop}(hh:A.handled=b_)(D:ZipApart z TI TO i1 i2 l1 l2)
  (hz:IsZip s.heap z TI TO .none) (Pn:IsPair s.heap TI (.ref i1) (.ref i2)) (Pm:IsPair s.heap TO a b) (n1:iy b1 s.heap i1 l1 k1) (n2:iy b2 s.heap i2 l2 k2) (m1:iz b1 s.heap l1 xs) (m2:iz b2 s.heap l2 ys)
  (Gj:xs[k1]?=b_\/ys[k2]?=b_)
  (hQ:∀h',(∀c o,c≠z->c≠TO->c≠i1->c≠i2->s.heap.get? c=a_ o->h'.get? c=a_ o)->Q b_ { s with heap:=h' }):wpAny (model prog w) A (pyNext (.ref z)) Q E s:=by
 have hT:s.TypeIs (.ref z) "zip":=⟨_,hz,rfl⟩
 have fin:∀(h':j_) (e:e_),(∀c o,c≠z->c≠TO->c≠i1->c≠i2->s.heap.get? c=a_ o->h'.get? c=a_ o)->(∃o,h'.get? e=a_ o/\o.cls=.type "StopIteration")->
   wpAny (model prog w) A (do if <-Bz (.ref e) (.type "StopIteration") then pure b_ else throw (.ref e)) Q E { s with heap:=h' }:=λh' e hk ⟨o,ho,hc⟩=>
  ay (wpAny_isInstance (T:="StopIteration") (b:=c_) ⟨o,ho,hc⟩ isSubtype_stop (a7 (hQ _ hk)))
 unfold pyNext;refine ay (D3 (Be (name:=gL "__next__") hT IX (zv IX hT F.entry_zip_next ?_ (F.args_zip_next_1 _))));show wpAny _ _ (field (.ref z) 2 >>= _) _ _ s;refine ay (kz hz rfl (x:=.bool d_) rfl ?_);show wpAny _ _ (field (.ref z) 3 >>= _) _ _ s;refine ay (kz hz rfl (x:=.ref TI) rfl (ay (uq Pn rfl ?_)));show wpAny _ _ (Ik (.ref z) >>= _) _ _ s;unfold Ik;refine ay (ay (kz hz rfl (x:=.none) rfl (a7 ?_)));simp only[if_true];refine ay (wpAny_rule (ay (kz hz rfl (x:=.ref TO) rfl (ay (Bk hz (by simp) λg1 dG s1=>?_)))));have dG:IsZip g1 z TI TO .ellipsis:=dG;simp only[List.zipIdx_cons,List.zipIdx_nil,zx,List.forIn_nil];refine ay (ay (ay (Jd ?_)));show wpAny _ _ (uj (.ref i1) >>= _) _ _ _;cases hx:xs[k1]? with
 | none=>
  refine ay (next_end hh (n1.ext s1.extBut D.i1z) (m1.ext s1.extBut D.l1z) hx λg2 e s2 he=>?_);obtain⟨oe,yY,xV⟩:=he;have sq:IsZip g2 z TI TO .ellipsis:=s2 _ _ D.i1z.symm dG;have Pa:e≠z:=λq=>by subst q;rw[sq]at yY;cases yY;simp at xV
  exact Bk sq (by simp) λg3 _ s3=>fin g3 e (λc o c1 _ c3 _ q=>s3.extBut _ _ c1 (s2 _ _ c3 (s1.extBut _ _ c1 q))) ⟨oe,s3.extBut _ _ Pa yY,xV⟩
 | some x=>
  have hy:ys[k2]?=none:=by
   rcases Gj with q | q
   ·rw[hx]at q;cases q
   ·exact q
  refine ay (next_item (n1.ext s1.extBut D.i1z) (m1.ext s1.extBut D.l1z) hx λg2 YL s2=>a7 ?_);have t2:IsPair g2 TO a b:=s2.extBut _ _ D.TOi1 (s1.extBut _ _ D.TOz Pm);refine ay (uq t2 rfl (ay (Qe t2 λg3 t3 s3=>ay (zJ (a7 (ay (ay (Jd ?_))))))));show wpAny _ _ (uj (.ref i2) >>= _) _ _ _;refine ay (next_end hh (((n2.ext s1.extBut D.i2z).ext s2.extBut D.i12.symm).ext s3.extBut D.TOi2.symm) (((m2.ext s1.extBut D.l2z).ext s2.extBut D.l2i1).ext s3.extBut D.l2TO) hy λg4 e s4 he=>?_);obtain⟨oe,yY,xV⟩:=he;have Y1:IsZip g4 z TI TO .ellipsis:=s4 _ _ D.i2z.symm (s3.extBut _ _ D.TOz.symm (s2.extBut _ _ D.i1z.symm dG));have Pa:e≠z:=λq=>by subst q;rw[Y1]at yY;cases yY;simp at xV
  exact Bk Y1 (by simp) λg5 _ s5=>fin g5 e (λc o c1 c2 c3 c4 q=>s5.extBut _ _ c1 (s4 _ _ c4 (s3.extBut _ _ c2 (s2.extBut _ _ c3 (s1.extBut _ _ c1 q))))) ⟨oe,s5.extBut _ _ Pa yY,xV⟩
abbrev tD(b:Bool)(l:e_):Obj:={ cls:=.type (if b=c_ then "list_iterator" else "tuple_iterator"),data:=.fields #[.ref l,.int 0 0] }
theorem Ex{b:Bool}{xs:Array f_}(m:iz b s.heap l xs)(k:Q (.ref s.heap.objs.size) { s with heap:=s.heap.push (tD b l) }):wpAny (model prog w) A (pyIter (.ref l)) Q E s:=by
 cases b with
 | true=>exact IH m k
 | false=>exact wpAny_pyIter_tuple m k
theorem S6{b:Bool}(e:h.get? a=a_ (tD b l)):iy b h a l 0:=by
 cases b with
 | true=>exact⟨_,e,rfl,rfl⟩
 | false=>exact⟨_,e,rfl,rfl⟩
end
abbrev Gs(b1:Bool)(h:j_)(l1:e_):Heap:=h.push (tD b1 l1)
abbrev Gr(b1 b2:Bool)(h:j_)(l1 l2:e_):Heap:=(Gs b1 h l1).push (tD b2 l2)
abbrev Gq(b1 b2:Bool)(h:j_)(l1 l2:e_):Heap:=(Gr b1 b2 h l1 l2).push { cls:=.type "tuple",data:=.seq #[.ref h.objs.size,.ref (Gs b1 h l1).objs.size] }
abbrev Gp(b1 b2:Bool)(h:j_)(l1 l2:e_):Heap:=(Gq b1 b2 h l1 l2).push { cls:=.type "tuple",data:=.seq #[.none,.none] }
abbrev AE(b1 b2:Bool)(h:j_)(l1 l2:e_):Heap:=(Gp b1 b2 h l1 l2).push { cls:=.type "zip",data:=.fields #[.none,.bool d_,.bool d_,.ref (Gr b1 b2 h l1 l2).objs.size,.ref (Gq b1 b2 h l1 l2).objs.size] }
theorem iz.push{b:Bool}{xs:Array f_}(x:iz b h l xs)(o:Obj):iz b (h.push o) l xs:=x.at λ_ e=>b8 _ e
theorem aeK(b1 b2:Bool)(l1 l2:e_)(xs ys:Array f_) :
  Meets (Builtin.«zip.__new__» ⟨[.type "zip",.ref l1,.ref l2],[]⟩) (λ_ R s=>iz b1 s.heap l1 xs/\iz b2 s.heap l2 ys/\R (.ok (.ret (.ref (Gp b1 b2 s.heap l1 l2).objs.size))) { s with heap:=AE b1 b2 s.heap l1 l2 }):=
 .of_wp λprog w A R s h=>by
  obtain⟨hp,g,d,tk,os⟩:=s;obtain⟨m1,m2,h⟩:=h;have alm:=sub_zip;have M1:=m1;have M2:iz b2 (Shared.heap ⟨hp.push (tD b1 l1),g,d,tk,os⟩) l2 ys:=iz.push m2 _
  wp_walk using Ex M1,Ex M2
  exact⟨_,rfl,h⟩
section
variable{prog:l_}{w:k_}{A:h_}{E:f_->g_->Prop}{s:g_}
theorem adl{b1 b2:Bool}{l1 l2:e_}{xs ys:Array f_}(m1:iz b1 s.heap l1 xs)(m2:iz b2 s.heap l2 ys)
  (k:∀h',IsZip h' (s.heap.objs.size+4) (s.heap.objs.size+2) (s.heap.objs.size+3) .none->IsPair h' (s.heap.objs.size+2) (.ref s.heap.objs.size) (.ref (s.heap.objs.size+1))->
   IsPair h' (s.heap.objs.size+3) .none .none->iy b1 h' s.heap.objs.size l1 0->iy b2 h' (s.heap.objs.size+1) l2 0->(∀c o,s.heap.get? c=a_ o->h'.get? c=a_ o)->Q (.ref (s.heap.objs.size+4)) { s with heap:=h' }) :
  wpAny (model prog w) A (call (.type "zip") [.ref l1,.ref l2]) Q E s:=by
 refine callType_new F.called_zip qc (F.typeCall_zip_2 _ _) (F.newCall_zip_2 _ _) (λobj=>F.args_object_init_3 obj _ _) F.entry_zip_new (aeK b1 b2 l1 l2 xs ys) ⟨m1,m2,?_⟩;have z1:(Gs b1 s.heap l1).objs.size=s.heap.objs.size+1:=qy ..;have z2:(Gr b1 b2 s.heap l1 l2).objs.size=s.heap.objs.size+2:=by rw[qy,z1]
 have z3:(Gq b1 b2 s.heap l1 l2).objs.size=s.heap.objs.size+3:=by rw[qy,z2]
 have z4:(Gp b1 b2 s.heap l1 l2).objs.size=s.heap.objs.size+4:=by rw[qy,z3]
 have q5:(AE b1 b2 s.heap l1 l2).get? (Gp b1 b2 s.heap l1 l2).objs.size=a_ _:=ik _ rfl;have q4:(AE b1 b2 s.heap l1 l2).get? (Gq b1 b2 s.heap l1 l2).objs.size=a_ _:=b8 _ (ik _ rfl);have q3:(AE b1 b2 s.heap l1 l2).get? (Gr b1 b2 s.heap l1 l2).objs.size=a_ _:=b8 _ (b8 _ (ik _ rfl));have q2:(AE b1 b2 s.heap l1 l2).get? (Gs b1 s.heap l1).objs.size=a_ _:=b8 _ (b8 _ (b8 _ (ik _ rfl)));have q1:(AE b1 b2 s.heap l1 l2).get? s.heap.objs.size=a_ _:=b8 _ (b8 _ (b8 _ (b8 _ (ik _ rfl))));show _/\_;rw[z2,z3,z4]at q5;rw[z1,z2]at q3;rw[z3]at q4;rw[z1]at q2;rw[z4];exact⟨⟨_,q5,rfl⟩,k _ q5 q3 q4 (S6 q1) (S6 q2) λc o x=>b8 _ (b8 _ (b8 _ (b8 _ (b8 _ x))))⟩
end
end L3
namespace L3
open PySem
open AutoSeq1 (wpAny_loadPart')
theorem ac7(l:e_)(aw:Array f_)(n:Nat)(PK:Option e_)(sl:Array (Option f_)) :
  Meets (Builtin.«enumerate.__new__» ⟨[.type "enumerate",.ref l],[]⟩) (λ_ R s=>s.heap.get? l=a_ { cls:=.type "tuple",dict:=PK,data:=.seq aw n,slots:=sl }/\
   R (.ok (.ret (.ref (s.heap.push (tD d_ l)).objs.size))) { s with heap:=(s.heap.push (tD d_ l)).push { cls:=.type "enumerate",data:=.fields #[.none,.bool d_,.ref s.heap.objs.size,rawInt 0,.none,.none] } }):=
 .of_wp λprog w A R s h=>by
  obtain⟨hp,g,d,tk,os⟩:=s;obtain⟨q,h⟩:=h;have alm:=sub_enumerate;have M:iz d_ (Shared.heap ⟨hp,g,d,tk,os⟩) l aw:=⟨_,q,rfl,n,rfl⟩
  wp_walk using Qw q
  refine wpAny_stack_any λst=>a7 ?_
  split
  ·rename_i c _ _ _ _ _
   cases (c == qB "enumerate") <;> (wp_walk using Qw q,Ex M;exact⟨_,rfl,h⟩)
  ·wp_walk using Qw q,Ex M
   exact⟨_,rfl,h⟩
section
variable{prog:l_}{w:k_}{A:h_}{E:f_->g_->Prop}{s:g_}
theorem ac8{b:Bool}{xs:Array f_}(m:iz b s.heap l xs)
  (k:∀h',IsEnum h' (s.heap.objs.size+1) s.heap.objs.size 0 .none->iy b h' s.heap.objs.size l 0->(∀c o,s.heap.get? c=a_ o->h'.get? c=a_ o)->Q (.ref (s.heap.objs.size+1)) { s with heap:=h' }) :
  wpAny (model prog w) A (call (.type "enumerate") [.ref l]) Q E s:=by
 cases b with
 | true=>exact call_enumerate_list (show s.heap.IsList l xs from m) λh' a1 a2 _ a4=>k h' a1 a2 a4
 | false=>
  obtain⟨⟨c,PK,dt,sl⟩,hl,hc,n,hd⟩:=(show s.heap.IsTuple l xs from m);have hc:c=.type "tuple":=hc;have hd:dt=.seq xs n:=hd;subst hc hd;refine callType_new F.called_enumerate qc (F.typeCall_enumerate_1 _) (F.newCall_enumerate_1 _) (λobj=>F.args_object_init_2 obj _) F.entry_enumerate_new (ac7 l xs n PK sl) ⟨hl,?_⟩;have hz:(s.heap.push (tD d_ l)).objs.size=s.heap.objs.size+1:=qy ..
  have he:IsEnum ((s.heap.push (tD d_ l)).push { cls:=.type "enumerate",data:=.fields #[.none,.bool d_,.ref s.heap.objs.size,rawInt 0,.none,.none] }) (s.heap.objs.size+1) s.heap.objs.size 0 .none:=by
   have q:=ik (s.heap.push (tD d_ l)) (o:={ cls:=.type "enumerate",data:=.fields #[.none,.bool d_,.ref s.heap.objs.size,rawInt 0,.none,.none] }) rfl;rw[hz]at q;exact q
  show _/\_;rw[hz];exact⟨⟨_,he,rfl⟩,k _ he ⟨_,b8 _ (ik _ rfl),rfl,rfl⟩ λc o x=>b8 _ (b8 _ x)⟩
theorem ac9{b:Bool}(hh:A.handled=b_)(it l:e_)(lC:l≠it)(xs:Array f_):Draws prog w A it [it,l] xs.size (λi v=>xs[i]?=a_ v) (λi h=>iy b h it l i/\iz b h l xs) where
 live:=λ_ _ st=>let ⟨o,_,e,_⟩:=st.1.obj;⟨o,e⟩
 frame:=λ_ _ _ st hk=>⟨st.1.at λo e=>hk it (by simp) o e,st.2.at λo e=>hk l (by simp) o e⟩
 item:=λi s Q E hi st hQ=>next_item st.1 st.2 (x:=xs[i]) (by simp[hi]) λh' n' sb=>hQ _ h' s.toks (by simp[hi]) ⟨n',st.2.ext sb.extBut lC⟩ sb
 done:=λs Q E st hE=>next_end hh st.1 st.2 (by simp) hE
end
end L3
namespace L2
open PySem PySem.Spec PyProof.Rows L3
theorem Inv.Kw{X:Cx}{p_:List (e_×Obj)}{σ:St}{H:Hp}{s:g_}{h':j_}{t':Nat}{ch:List e_}(I:Inv X p_ σ H s)(k:∀b o,b∉ch->s.heap.get? b=a_ o->h'.get? b=a_ o)
  (hc:∀b∈ch,gU X p_ H b):Inv X p_ σ H { s with heap:=h',toks:=t' }:=by
 have xK:∀b u,H b=a_ u->b∉ch:=λb u e z=>by rw[(hc b z).1]at e;cases e
 refine I.step (g':=s.gens) (d':=s.drawn) (ch:=ch) (λb hb=>⟨(hc b hb).2.2.2.1,(hc b hb).2.1,(hc b hb).2.2.2.2.1,(hc b hb).2.2.2.2.2⟩) (λb o _ _ z e _=>k b o z e) (λb o _ _ z e _=>⟨o.slots,k b o z e⟩) (λ_ _ _ _ n=>n)
  (λb o z e=>⟨o,k b o z e⟩) (λ_ _ e=>e) (λ_ _ _ e=>e) (λb ps e=>⟨#[],by rw[e];simp⟩) (λm hm=>?_) (λb u e=>?_) I.bare
 ·exact eh hm λo es ep ho r=>⟨o,es,ep,(k _ o (λz=>(hc _ z).2.1 rfl) ho),r⟩
 ·refine(I.aQ b u e).qO (λc v hq q=>k c v ?_ q) (λ_ q=>q) λ_ _ q=>q;rcases hq with z | z
  ·rw[z];exact xK b u e
  ·exact xK c _ z
def Sq(b:Bool)(K:W.Frag)(H:Hp)(a:e_)(xs:List V):Prop:=if b=c_ then aj K H a xs else aI K H a xs
theorem tw{X:Cx}{b:Bool}(I:Inv X p_ σ H s)(h:Sq b X.K H a xs):∃aw:List f_,Vals xs aw/\iz b s.heap a aw.toArray/\xs.length<=cW:=by
 cases b with
 | true=>
  exact aG (I.list h) λaw r p z=>du aw r p.isList z
 | false=>
  exact aG (I.tuple h) λaw r p z=>du aw r p z
theorem Lo{X:Cx}{b:Bool}(I:Inv X p_ σ H s)(h:Sq b X.K H a xs)(h':Sq b X.K H a ys):xs=ys:=by
 cases b with
 | true=>exact I.S4 h h'
 | false=>exact I.Rx h h'
theorem Mm{X:Cx}{b:Bool}(I:Inv X p_ σ H s)(h:Sq b X.K H a xs):a<s.heap.objs.size:=by
 refine aG (tw I h) λaw r p z=>?_;cases b with
 | true=>obtain⟨o,e,_⟩:=(show s.heap.IsList a aw.toArray from p);exact cH e
 | false=>obtain⟨o,e,_⟩:=(show s.heap.IsTuple a aw.toArray from p);exact cH e
def X0(b1 b2:Bool)(K:W.Frag)(l1 l2:e_):It:=
 ⟨λi H=>∃xs ys x y,Sq b1 K H l1 xs/\Sq b2 K H l2 ys/\xs[i]?=a_ x/\ys[i]?=a_ y,λi H v H'=>∃p x y,H p=b_/\v=.ref p/\H'=upd H p (.tup [x,y])/\∀xs ys,Sq b1 K H l1 xs->Sq b2 K H l2 ys->xs[i]?=a_ x/\ys[i]?=a_ y,λi H=>∃xs ys,Sq b1 K H l1 xs/\Sq b2 K H l2 ys/\(xs.length<=i\/ys.length<=i)⟩
theorem zL{b:Bool}{i:Nat}(x:iy b h it l i):∃o,h.get? it=a_ o/\∀v,o.data≠.cell v:=by
 exact aW x.obj λo vs e d=>ak o e (λv z=>by rw[d]at z;cases z)
theorem adn{P:l_}{w:k_}{K:W.Frag}{es:List Expr}{x1:Nat}{pos:Pos}{b1 b2:Bool}{z TI TO i1 i2 l1 l2:e_}(D:ZipApart z TI TO i1 i2 l1 l2) :
  Turn P w K (.Tuple es x1 pos) (X0 b1 b2 K l1 l2) [z,TI,TO,i1,i2] z (λi h=>IsZip h z TI TO .none/\IsPair h TI (.ref i1) (.ref i2)/\(∃a b,IsPair h TO a b)/\iy b1 h i1 l1 i/\iy b2 h i2 l2 i) where
 mem:=by simp
 obj:=λi h ⟨a1,a2,⟨a,b,a3⟩,a4,a5⟩ c hc=>by
  simp only[cV,rE,or_false]at hc;rcases hc with rfl | rfl | rfl | rfl | rfl
  ·exact ak _ a1 (λv z=>by cases z)
  ·exact ak _ a2 (λv z=>by cases z)
  ·exact ak _ a3 (λv z=>by cases z)
  ·exact zL a4
  ·exact zL a5
 keep:=λi h h' ⟨a1,a2,⟨a,b,a3⟩,a4,a5⟩ k=>⟨k z (by simp) _ a1,k TI (by simp) _ a2,⟨a,b,k TO (by simp) _ a3⟩,a4.at λo e=>k i1 (by simp) o e,a5.at λo e=>k i2 (by simp) o e⟩
 item:=by
  intro X hP hw hK hc i p_ s σ H E I hf ⟨a1,a2,⟨a,b,a3⟩,a4,a5⟩ hg;subst hP hw hK;refine yi hg λxs ys x y q1 q2 hx hy=>aG (tw I q1) λC0 r1 m1 _=>aG (tw I q2) λX7 r2 m2 _=>af (r1.get hx) λu hu ru=>af (r2.get hy) λv hv rv=>adk D a1 a2 a3 a4 a5 m1 m2 (x:=u) (y:=v) (by simpa using hu) (by simpa using hv) λh' c1 c2 c3 c4 c5 kk=>?_;have hp:=I.aQ.fresh (aN _)
  have lts:∀c∈[z,TI,TO,i1,i2],c<s.heap.objs.size:=λc hc=>by
   simp only[cV,rE,or_false]at hc;rcases hc with rfl | rfl | rfl | rfl | rfl
   ·exact cH a1
   ·exact cH a2
   ·exact cH a3
   ·obtain⟨o,e,_⟩:=zL a4;exact cH e
   ·obtain⟨o,e,_⟩:=zL a5;exact cH e
  refine ak _ rfl (wpAny_letOwnedTupleGo_zip c1 λy' d1 sb=>?_);have sz:∀c∈[z,TI,TO,i1,i2],c≠s.heap.objs.size:=λc hc=>gh (lts c hc)
  have k2:∀c o,c∉[z,TO,i1,i2]->s.heap.get? c=a_ o->y'.get? c=a_ o:=λc o hc e=>by
   simp only[cV,rE,or_false,not_or]at hc;exact(sb.2 c hc.1).trans (kk c o hc.1 hc.2.1 hc.2.2.1 hc.2.2.2 e)
  have fz:∀c∈[z,TO,i1,i2],gU X p_ H c:=λc hc=>hf c (by
   simp only[cV,rE,or_false]at hc ⊢;rcases hc with rfl | rfl | rfl | rfl <;> simp)
  have I1:=Inv.Kw (t':=s.toks) I k2 fz;have pT:IsPair y' s.heap.objs.size u v:=(sb.2 _ (gq (sz z (by simp)))).trans c5;have fT:=I.iY (aN _) hp;have I2:Inv X p_ σ (upd H s.heap.objs.size (.tup [x,y])) { s with heap:=y' }:=Inv.adopt I1 hp I.sz fT.2.1 fT.2.2.2.2.1 fT.2.2.2.2.2 ⟨by show 2<=cW;decide,[u,v],.cons ru (.cons rv .nil),⟨_,pT,rfl,_,rfl⟩⟩;refine⟨.ref s.heap.objs.size,_,I2,rfl,⟨_,x,y,hp,rfl,rfl,λxs' Hh p1 p2=>⟨by rw[Lo I p1 q1];exact hx,by rw[Lo I p2 q2];exact hy⟩⟩,⟨d1,(sb.2 _ D.TIz).trans (kk _ _ D.TIz D.TITO D.TIi1 D.TIi2 a2),⟨u,v,(sb.2 _ D.TOz).trans c2⟩,c3.at λo e=>(sb.2 _ D.i1z).trans e,c4.at λo e=>(sb.2 _ D.i2z).trans e⟩,λc hc=>?_⟩;rw[au (sz c hc)];exact(hf c hc).1
 done:=by
  intro X hP hw hK hc i p_ s σ H E I hf ⟨a1,a2,⟨a,b,a3⟩,a4,a5⟩ hg;subst hP hw hK;refine cI hg λxs ys q1 q2 Gj=>aG (tw I q1) λC0 r1 m1 _=>aG (tw I q2) λX7 r2 m2 _=>?_;have l1':=r1.length;have l2':=r2.length;refine aeL (I.ok.hd hc) D a1 a2 a3 a4 a5 m1 m2 (by rcases Gj with q | q;exact .inl (by simp;lia);exact .inr (by simp;lia)) λh' kk=>⟨rfl,?_⟩
  refine Inv.Kw (t':=s.toks) (ch:=[z,TO,i1,i2]) I (λc o hc e=>?_) λc hc=>hf c (by
   simp only[cV,rE,or_false]at hc ⊢;rcases hc with rfl | rfl | rfl | rfl <;> simp)
  simp only[cV,rE,or_false,not_or]at hc;exact kk c o hc.1 hc.2.1 hc.2.2.1 hc.2.2.2 e
 self:=λ_ _ _ _ _ st h=>wpAny_pyIter_zip st.1 h
section
variable{X:Cx}{pos:Pos}
def akG(b1 b2:Bool)(K:W.Frag)(ta:TA):TI:=λσ H R=>ta σ H λvs H1=>∃l1 l2 xs ys,vs=[.ref l1,.ref l2]/\Sq b1 K H1 l1 xs/\Sq b2 K H1 l2 ys/\R (X0 b1 b2 K l1 l2) H1
theorem agK{b1 b2:Bool}{es:List Expr}{x1:Nat}(hg:Gl X "zip")(hm:X.mg "zip" = b_)(ha:PA X [a,b] ta)
  (hs:cQ [a,b] X.env=[(d_,eval a X.env),(d_,eval b X.env)]:=by rfl) (pM:cQ [b] X.env=[(d_,eval b X.env)]:=by rfl):PI X (.Tuple es x1 F') (.Call (.Name "zip" p) [a,b] [] pos) (akG b1 b2 X.K ta):=by
 intro p_ s σ H R I h;refine Call_ (tf I hg hm boot_zip (zm (lU (ha pos p_ s σ H _ I h) λus s1 vs H1 I1 r1 q1=>?_) (by rw[hs,pM]) (by rw[pM];rfl)));obtain⟨l1,l2,xs,ys,e,q1,q2,q⟩:=q1;subst e;cases r1 with
 | cons r rr=>
  cases rr with
  | cons r' rr=>
   cases rr;cases r;cases r';obtain⟨C0,_,m1,_⟩:=tw I1 q1;obtain⟨X7,_,m2,_⟩:=tw I1 q2;have n1:=Mm I1 q1;have n2:=Mm I1 q2;refine adl m1 m2 λh' c1 c2 c3 c4 c5 kk=>wpAny_pyIter_zip c1 (qA _ _ _ _ H1 rfl (I1.kept (t':=s1.toks) kk) (adn (D:=zipApart_new n1 n2)) ⟨c1,c2,⟨_,_,c3⟩,c4,c5⟩ (λc hc=>?_) q)
   have sv:s1.heap.objs.size<=c:=by
    simp only[cV,rE,or_false]at hc;rcases hc with rfl | rfl | rfl | rfl | rfl <;> lia
   exact I1.iY sv (I1.aQ.fresh sv)
def X2(b:Bool)(K:W.Frag)(l:e_):It:=
 ⟨λi H=>∃xs x,Sq b K H l xs/\xs[i]?=a_ x,λi H v H'=>∃p x,H p=b_/\v=.ref p/\H'=upd H p (.tup [.int i,x])/\∀xs,Sq b K H l xs->xs[i]?=a_ x,λi H=>∃xs,Sq b K H l xs/\xs.length<=i⟩
end
theorem aco{P:l_}{w:k_}{K:W.Frag}{es:List Expr}{x1:Nat}{pos:Pos}{b:Bool}{e it l:e_}(n1:e≠it)(n2:l≠it)(n3:e≠l) :
  Turn P w K (.Tuple es x1 pos) (X2 b K l) [e,it] e (λi h=>(∃old,IsEnum h e it i old)/\iy b h it l i) where
 mem:=by simp
 obj:=λi h ⟨⟨old,a1⟩,a2⟩ c hc=>by
  simp only[cV,rE,or_false]at hc;rcases hc with rfl | rfl
  ·exact ak _ a1 (λv z=>by cases z)
  ·exact zL a2
 keep:=λi h h' ⟨⟨old,a1⟩,a2⟩ k=>⟨⟨old,k e (by simp) _ a1⟩,a2.at λo q=>k it (by simp) o q⟩
 item:=by
  intro X hP hw hK hc i p_ s σ H E I hf ⟨⟨old,a1⟩,a2⟩ hg;subst hP hw hK;refine aW hg λxs x q1 hx=>aG (tw I q1) λvs r1 m1 _=>af (r1.get hx) λu hu ru=>?_
  have O4:i<vs.toArray.size:=by
   have:=(dX.mp hu).1;simpa using this
  have hh:X.A.in1.handled=none:=I.ok.hd hc;refine wpAny_pyNext_enum_itemD (n:=vs.toArray.size) (ac9 (b:=b) hh it l n2 vs.toArray) a1 ⟨a2,m1⟩ O4 n1 (by simp;exact⟨n1,n3⟩) λy h' tk hy c1 c2 c3 c4 kk=>?_
  have ey:y=u:=by
   have:vs[i]?=a_ y:=by simpa using hy
   rw[hu]at this;exact(dq this).symm
  subst ey;have hp:=I.aQ.fresh (aN _);have eS:e≠s.heap.objs.size:=gh (cH a1)
  have iS:it≠s.heap.objs.size:=by
   exact af (zL a2) λo q _=>gh (cH q)
  refine ak _ rfl (wpAny_letOwnedTupleGo_enum c1 λy' d1 sb=>?_)
  have k2:∀c o,c∉[e,it]->s.heap.get? c=a_ o->y'.get? c=a_ o:=λc o hc q=>by
   simp only[cV,rE,or_false,not_or]at hc;exact(sb.2 c hc.1).trans (kk c o hc.1 hc.2 q)
  have I1:Inv X p_ σ H { s with heap:=y',toks:=tk+1 }:=Inv.Kw I k2 hf;have pT:=(sb.2 _ (gq eS)).trans c3;have fT:=I.iY (aN _) hp
  have I2:Inv X p_ σ (upd H s.heap.objs.size (.tup [.int i,x])) { s with heap:=y',toks:=tk+1 }:=Inv.adopt I1 hp I.sz fT.2.1 fT.2.2.2.2.1 fT.2.2.2.2.2
   ⟨by show 2<=cW;decide,[.int i tk,y],.cons ⟨_,rfl⟩ (.cons ru .nil),⟨_,pT,rfl,_,rfl⟩⟩
  refine⟨(.ref s.heap.objs.size),_,I2,rfl,⟨_,x,hp,rfl,rfl,λxs' p1=>by rw[Lo I p1 q1];exact hx⟩,⟨⟨_,by simpa using d1⟩,c2.1.at λo q=>(sb.2 _ (gq n1)).trans q⟩,(λc hc=>?_)⟩;simp only[cV,rE,or_false]at hc;rcases hc with rfl | rfl
  ·rw[au eS];exact(hf _ (by simp)).1
  ·rw[au iS];exact(hf _ (by simp)).1
 done:=by
  intro X hP hw hK hc i p_ s σ H E I hf ⟨⟨old,a1⟩,a2⟩ hg;subst hP hw hK;refine af hg λxs q1 Gj=>aG (tw I q1) λvs r1 m1 _=>?_;have hl:=r1.length;have hT:s.TypeIs (.ref e) "enumerate":=⟨_,a1,rfl⟩;unfold pyNext;refine ay (D3 (Be (name:=gL "__next__") hT aav (zv aav hT F.entry_enumerate_next ?_ (F.args_enumerate_next_1 _))));show wpAny _ _ (field (.ref e) 2 >>= _) _ _ s;refine ay (kz a1 rfl (x:=.ref it) rfl (ay (next_end (show X.A.in1.handled=b_ from I.ok.hd hc) a2 m1 (by simp;lia) λh' y hk ⟨o,ho,yZ⟩=>ay (wpAny_isInstance (T:="StopIteration") (b:=c_) ⟨o,ho,yZ⟩ isSubtype_stop (a7 ⟨rfl,I.turned (t':=s.toks) (it:=it) (λc q hc z=>hk c q hc z) (hf it (by simp)).1 (hf it (by simp)).2.1 (hf it (by simp)).2.2.2.1 (hf it (by simp)).2.2.2.2.1 (hf it (by simp)).2.2.2.2.2⟩)))))
 self:=λ_ _ _ _ _ st h=>let ⟨_,a1⟩:=st.1;wpAny_pyIter_enum a1 h
section
variable{X:Cx}{pos:Pos}
def ai5(b:Bool)(K:W.Frag)(ta:TA):TI:=λσ H R=>ta σ H λvs H1=>∃l xs,vs=[.ref l]/\Sq b K H1 l xs/\R (X2 b K l) H1
theorem BW{b:Bool}{es:List Expr}{x1:Nat}(hg:Gl X "enumerate")(hm:X.mg "enumerate" = b_)(ha:PA X [a] ta)
  (hs:cQ [a] X.env=[(d_,eval a X.env)]:=by rfl):PI X (.Tuple es x1 F') (.Call (.Name "enumerate" p) [a] [] pos) (ai5 b X.K ta):=by
 intro p_ s σ H R I h;refine Call_ (tf I hg hm boot_enumerate (zm (lU (ha pos p_ s σ H _ I h) λus s1 vs H1 I1 r1 q1=>?_) hs rfl));obtain⟨l,xs,e,q1,q⟩:=q1;subst e;cases r1 with
 | cons r rr=>
  cases rr;cases r;obtain⟨C0,_,m1,_⟩:=tw I1 q1;have n1:=Mm I1 q1;refine ac8 m1 λh' c1 c2 kk=>wpAny_pyIter_enum c1 (qA _ _ _ _ H1 rfl (I1.kept (t':=s1.toks) kk) (aco (IP _) (gh n1) (gq (gh (Qo n1)))) ⟨⟨_,c1⟩,c2⟩ (λc hc=>?_) q)
  have sv:s1.heap.objs.size<=c:=by
   simp only[cV,rE,or_false]at hc;rcases hc with rfl | rfl <;> lia
  exact I1.iY sv (I1.aQ.fresh sv)
end
end L2
namespace L2
open PySem PySem.Spec PyProof.Rows PySem.SeqAt L3
def NG:V->Option f_
 | .ty n=>a_ (.type n)
 | .ref a=>a_ (.ref a)
 | _=>b_
theorem Tj(h:NG c=a_ cv)(r:RelV c u):u=cv:=by
 cases c with
 | ty n=>cases h;exact r
 | ref a=>cases h;exact r
 | _=>cases h
def Wz(K:W.Frag):List V->Hp->VK->Prop:=λxs H Q=>∃x c t cv b,xs=[x,c]/\ju K H x t/\NG c=a_ cv/\W.kitOne K t cv=a_ b/\Q (.bl b) H
section
variable{X:Cx}
theorem lL:oG X (.builtin "isinstance") (Wz X.K):=by
 intro p_ s σ H xs us Q I r h;refine kY h λx c t cv b aa=>my aa λe ty hc hk q=>?_;subst e;cases r with
 | cons r1 r2=>
  cases r2 with
  | cons r2 r3=>
   cases r3;cases Tj hc r2;exact acX I r1 ty hk λtk=>(dS (.bl b) H (I.tok tk) rfl q)
theorem range_all(bs:List Bool):(List.range bs.length).all (λi=>bs.getD i d_)=bs.all id:=by
 induction bs with
 | nil=>rfl
 | cons b r ih=>
  rw[jk,List.range_succ_eq_map,zC,zH,zC];simp only[List.getD_cons_zero,id]
  congr 1
theorem Sk:∀{bs:List Bool} {us:List f_},Vals (bs.map V.bl) us->us=bs.map vZ
 | [],_,r=>by cases r;rfl
 | b::bs,_,r=>by
  cases r with
  | cons r1 r2=>
   cases r1;rw[gK,Sk r2]
theorem abB(bs:List Bool):TruthOf X.prog X.w A (λi v=>(bs.map vZ).toArray[i]?=a_ v) (λi=>bs.getD i d_):=by
 intro i v s Q E h q;have h':(bs.map vZ)[i]?=a_ v:=by simpa using h
 rw[f9]at h';cases e:bs[i]? with
 | none=>rw[e]at h';cases h'
 | some b=>
  rw[e]at h';have hv:=(dq h').symm;subst hv;have hq:bs.getD i d_=b:=by rw[nh,e];rfl
  have q':Q (bs.getD i d_) s:=q;rw[hq]at q';exact um q'
def aky(K:W.Frag):List V->Hp->VK->Prop:=λxs H Q=>∃(p:e_) (bs:List Bool),xs=[.ref p]/\aj K H p (bs.map V.bl)/\Q (.bl (bs.all id)) H
theorem BO(hc:X.calm=c_):oG X (.builtin "all") (aky X.K):=by
 intro p_ s σ H xs us Q I r h;refine cI h λp bs e hq q=>?_;subst e;refine af (vals1 r) λu aa rx=>?_;subst aa;cases rx;refine aG (I.list hq) λaw rv pl hz=>?_;have ei:=Sk rv;subst ei
 have lC:p≠s.heap.objs.size:=by
  exact af pl.isList λo e _=>gh (cH e)
 refine call_all_walk (IH pl.isList (⟨_,_,_,_,_,_,(gG _ rfl (Rq (show X.A.in1.handled=b_ from I.ok.hd hc) _ p lC (bs.map vZ).toArray) ⟨⟨_,ik _ rfl,rfl,rfl⟩,pl.isList.push _⟩ (abB bs) λh' tk kk=>?_)⟩))
 have e2:(List.range (bs.map vZ).toArray.size).all (λi=>bs.getD i d_)=bs.all id:=by
  rw[eO,aO];exact range_all bs
 rw[e2];refine dS (.bl _) H (I.kept λb o e=>kk b o (λz=>?_) (b8 _ e)) rfl q;have z':b=s.heap.objs.size:=by simpa using z
 rw[z']at e;exact absurd (cH e) (mh _)
mutual
inductive iE (K:W.Frag) (H:Hp):V->PyData->Prop
 | aJ:iE K H .aJ .none
 | bl (b:Bool):iE K H (.bl b) (.bool b)
 | int (i:Int):iE K H (.int i) (.int i)
 | str (x:Str):iE K H (.str x) (.str x)
 | lst {a:e_} {xs:List V} {ds:List PyData}:aj K H a xs->oF K H xs ds->iE K H (.ref a) (.list ds)
 | tup {a:e_} {xs:List V} {ds:List PyData}:aI K H a xs->oF K H xs ds->iE K H (.ref a) (.tuple ds)
inductive oF (K:W.Frag) (H:Hp):List V->List PyData->Prop
 | nil:oF K H [] []
 | cons {x:V} {d:PyData} {xs:List V} {ds:List PyData}:iE K H x d->oF K H xs ds->oF K H (x::xs) (d::ds)
end
variable{p_:List (e_×Obj)}{σ:St}{H:Hp}{s:g_}
mutual
theorem iE.reads(I:Inv X p_ σ H s):∀{v:V} {d:PyData} {u:f_},iE X.K H v d->RelV v u->∃as,Reads s.heap u d as
 | _,_,_,.aJ,r=>by cases r;exact⟨_,.none⟩
 | _,_,_,.bl b,r=>by cases r;exact⟨_,.bool b⟩
 | _,_,_,.int i,r=>by obtain⟨t,e⟩:=r;subst e;exact⟨_,.int i t⟩
 | _,_,_,.str x,r=>by obtain⟨t,e⟩:=r;subst e;exact⟨_,.str x t⟩
 | _,_,_,.lst hq hs,r=>by
  cases r;exact aG (I.list hq) λaw rv pl hz=>oE (oF.reads I hs rv) λas h=>aG pl.isList λo ho hc aa=>oE aa λn hd=>⟨_,.list ho hc hd (by simpa using h)⟩
 | _,_,_,.tup hq hs,r=>by
  cases r;exact aG (I.tuple hq) λaw rv pl hz=>oE (oF.reads I hs rv) λas h=>aG pl λo ho hc aa=>oE aa λn hd=>⟨_,.tuple ho hc hd (by simpa using h)⟩
theorem oF.reads(I:Inv X p_ σ H s):∀{vs:List V} {ds:List PyData} {us:List f_},oF X.K H vs ds->Vals vs us->∃as,ReadsAll s.heap us ds as
 | _,_,_,.nil,r=>by cases r;exact⟨_,.nil⟩
 | _,_,_,.cons h t,r=>by
  cases r with
  | cons r1 r2=>
   exact oE (iE.reads I h r1) λas q1=>oE (oF.reads I t r2) λbs q2=>⟨_,.cons q1 q2⟩
end
def Ap(K:W.Frag)(neg:Bool):R2:=λx y H Q=>∃d e,iE K H x d/\iE K H y e/\shaped d=c_/\shaped e=c_/\noMix d e=c_/\Q (.bl (if neg=c_ then !same d e else same d e)) H
theorem Cb(hu:X.A.units+64<cLine):gd X (lJ .Eq) (Ap X.K d_):=by
 intro p_ s σ H x y v u Q I rx ry h;exact gc h λd e h1 h2 h3 h4 h5 q=>oE (h1.reads I rx) λas q1=>oE (h2.reads I ry) λbs q2=>eq_dataH_same q1 q2 h3 h4 hu h5 (dS (.bl _) H I rfl q)
theorem uK(hu:X.A.units+64<cLine):gd X (lJ .NotEq) (Ap X.K c_):=by
 intro p_ s σ H x y v u Q I rx ry h;exact gc h λd e h1 h2 h3 h4 h5 q=>oE (h1.reads I rx) λas q1=>oE (h2.reads I ry) λbs q2=>ne_dataH_same q1 q2 h3 h4 hu h5 (dS (.bl _) H I rfl q)
end
structure MZ(K:W.Frag)(C:e_)(m:Str)(f:e_):Prop where
 sp:W.specialIn K (.ref C) "__getattribute__" = a_ (a_ (.builtin "type.__getattribute__"))
 rd:W.readsIn K C (.type "type")=c_
 fc:W.findCls K (.ref C) (.type "type") m=a_ (.val (.ref f))
 kp:W.keepIn K (.ref f)=c_
section
variable{X:Cx}{CX:pL}{k:Nat}{f C:e_}{fd:iJ}{ps:List Str}{sp:Sp}{dvs:List V}{ds:List f_}{E:XK}{x m:Str}{p pos apos:Pos}{e o:Expr}{es:List Expr}{ta:TE}{t:TA}
theorem zM{pl:Sem Bool}(c:MZ X.K C m f)(F:ax X.prog X.w X.K X.mg X.base CX k f fd ps sp)(hr:fJ k X.A)(hg:Gl X x)(hm:X.mg x=a_ (.ref C))(hb:Binds X.K fd ps ds)(hd:Vals dvs ds)(hx:Passes CX X E)(ha:PA X (e::es) t)
  (lD:(x == ("__debug__" : Str))=false:=by decide) (dn:cQ (e::es) X.env=(d_,eval e X.env)::cQ es X.env:=by rfl) (ee:(backTo pos (cQ es X.env)).any (·.1)=false:=by rfl)
  (ht:eval (.Call (.Attribute (.Name x p) m apos) (e::es) [] pos) X.env=(do
   let ov <-eval (.Name x p) X.env
   standAt apos.atName
   let (f,first) <-holding [ov] (BF ov m pl)
   callWith pos f first (backTo pos (cQ (e::es) X.env)) (EF pos (Ec [] X.env))):=by rfl) :
  PE X (.Call (.Attribute (.Name x p) m apos) (e::es) [] pos) (VD sp dvs E t):=by
 intro p_ s σ H Q I h;refine W.methodCall_KW (pl:=pl) (uE I hg hm ?_ lD) ht;refine W.method_cls I.dF c.sp (W.cls_value I.dF c.rd c.fc rfl ?_);have I1:=I.tok (s.toks+1);refine W.callWith_K (first:=[]) (h₀:=X.base) I.ok.mod.qX c.kp (lU (ha pos p_ _ σ H _ I1 h) λus s2 vs H2 I2 r q2=>⟨I2.dF,?_⟩) dn ee;exact B9 F hr hb hd hx I2 r q2
def agp(P:l_)(w:k_)(K:W.Frag)(mg:Str->Option f_)(base:j_)(CX:pL)(k:Nat)(m:Str)(E:XK)(ta:TE):TE:=λσ H Q=>ta σ H λx H1=>∃a C dx fs f fd ps sp,x=.ref a/\H1 a=a_ (.ins C dx fs)/\fs.lookup m=b_/\fQ K C/\Meth K C m f/\
 ax P w K mg base CX k f fd ps sp/\Binds K fd ps []/\sp [.ref a] H1 Q E
theorem adG{P:l_}{w:k_}{K:W.Frag}{mg:Str->Option f_}{base:j_}{pl:Sem Bool}(he:PE X o ta)(hr:fJ k X.A)(hx:Passes CX X E)(hP:X.prog=P:=by rfl)(hw:X.w=w:=by rfl)(hK:X.K=K:=by rfl)(A0:X.mg=mg:=by rfl)(hbs:X.base=base:=by rfl)
  (ht:eval (.Call (.Attribute o m apos) [] [] pos) X.env=(do
   let ov <-eval o X.env
   standAt apos.atName
   let (f,first) <-holding [ov] (BF ov m pl)
   callWith pos f first (backTo pos (cQ [] X.env)) (EF pos (Ec [] X.env))):=by rfl) :
  PE X (.Call (.Attribute o m apos) [] [] pos) (agp P w K mg base CX k m E ta):=by
 subst hP hw hK A0 hbs;intro p_ s σ H Q I h;refine W.methodCall_KW (pl:=pl) (eJ (he p_ s σ H _ I h) λu s1 hh=>?_) ht;refine cI hh λx H1 I1 rx aa=>kY aa λa C dx fs f aa=>gw aa λfd ps sp ex ea aa=>iO aa λl c hm F hb q=>?_;subst ex;obtain rfl:u=di a:=rx;exact Jw I1 ea c hm l (W.callWith_K0 (first:=[.ref a]) I1.dF hm.kp (B9 (us:=[.ref a]) (vs:=[.ref a]) (dvs:=[]) (ds:=[]) F hr hb .nil hx I1 (.cons rfl .nil) q))
end
theorem bq{c A B:Prop}[Decidable c](h1:c->A)(h2:¬c->B):if decide c=c_ then A else B:=by
 by_cases h:c
 ·rw[decide_eq_true h];exact je (h1 h)
 ·rw[decide_eq_false h];exact fj (h2 h)
theorem wL{c A B:Prop}[Decidable c](h1:¬c->A)(h2:c->B):if (!decide c)=c_ then A else B:=by
 by_cases h:c
 ·rw[decide_eq_true h];exact fj (h2 h)
 ·rw[decide_eq_false h];exact je (h1 h)
theorem Aw{b:Bool}{A B:Prop}(h1:b=c_->A)(h2:b=d_->B):if b=c_ then A else B:=by
 cases b with
 | true=>exact je (h1 rfl)
 | false=>exact fj (h2 rfl)
theorem Cj{b:Bool}{A B:Prop}(h1:b=d_->A)(h2:b=c_->B):if (!b)=c_ then A else B:=by
 cases b with
 | true=>exact fj (h2 rfl)
 | false=>exact je (h1 rfl)
def Wx(sc out:i_)(XN N:List Str)(idx:List Nat):Bool:=
 decide (sc.kind=.function)&&(sc.names.all (λy=>decide (y.2≠.cell))&&(sc.names.all (λy=>decide (y.2≠.local)||decide (sc.names.lookup y.1=a_ .local)) && (sc.names.all (λy=>decide (y.2≠.free)||decide (out.names.lookup y.1=a_ .cell))&&(decide (idx.length<=N.length)&&(idx.zip N).all λp=>decide (XN[p.1]?=a_ p.2)&&decide (sc.names.lookup p.2=a_ .free)))))
theorem eT.of{X:Cx}{sc:i_}{idx:List Nat}(h:Wx sc X.env.scope X.N N idx=c_):eT X sc N idx:=by
 unfold Wx at h;simp only[i9,decide_eq_true_eq,DY,Bool.or_eq_true]at h;refine iO h λh1 h2 h3 h4 h5 h6=>⟨h1,h2,λy hy e=>?_,λy hy e=>?_,h5,λk i x a b=>?_⟩
 ·rcases h3 y hy with z | z
  ·exact absurd e z
  ·exact z
 ·rcases h4 y hy with z | z
  ·exact absurd e z
  ·exact z
 ·have hm:(i,x)∈idx.zip N:=by
   have:(idx.zip N)[k]?=a_ (i,x):=by rw[aam];exact⟨a,b⟩
   exact bo this
  exact h6 (i,x) hm
end L2
namespace TL
open PySem PySem.Spec PyProof.Rows L2 L3
def kinds:List String:=["NoneType","bool","int","str","list","tuple"]
def Ve:List String:=["int","bool","str","tuple","list"]
def tH(T U:String):Bool:=T == U||(T == "bool" && U == "int")
theorem ahe(K:W.Frag)(T U:String):W.kitOne K (.type T) (.type U) =
  (if (qB T == qB U)=c_ then a_ c_ else if W.kitMeta U=c_ then (fastBuiltinMro T).map (·.contains (.type U)) else b_):=rfl
theorem afY:∀T∈kinds,∀U∈Ve,(if (qB T == qB U)=c_ then a_ c_ else if W.kitMeta U=c_ then (fastBuiltinMro T).map (·.contains (.type U)) else b_)=a_ (tH T U):=dk
def tyName(H:Hp):V->Option String
 | .aJ=>a_ "NoneType"
 | .bl _=>a_ "bool"
 | .int _=>a_ "int"
 | .str _=>a_ "str"
 | .ref a=>match H a with
  | some (.lst _)=>a_ "list"
  | some (.tup _)=>a_ "tuple"
  | _=>b_
 | _=>b_
theorem Rw{K:W.Frag}{T:String}(h:tyName H v=a_ T):ju K H v (.type T)/\T∈kinds:=by
 cases v with
 | aJ=>cases h;exact⟨.aJ,qc⟩
 | bl b=>cases h;exact⟨.bl b,qc⟩
 | int i=>cases h;exact⟨.int i,qc⟩
 | str x=>cases h;exact⟨.str x,qc⟩
 | ref a=>
  unfold tyName at h;cases e:H a with
  | none=>simp only[e]at h;cases h
  | some o=>
   cases o with
   | lst xs=>simp only[e]at h;cases h;exact⟨.lst e,qc⟩
   | tup xs=>simp only[e]at h;cases h;exact⟨.tup e,qc⟩
   | _=>simp only[e]at h;cases h
 | _=>cases h
theorem qR{K:W.Frag}{T U:String}(h:tyName H v=a_ T)(hU:U∈Ve):W.kitOne K (.type T) (.type U)=a_ (tH T U):=by
 rw[ahe];exact afY T (Rw (K:=K) h).2 U hU
theorem qU{K:W.Frag}{T:String}(h:tyName H v=a_ T):ju K H v (.type T):=(Rw h).1
theorem QS{T:String}(s:ai H H')(h:tyName H v=a_ T):tyName H' v=a_ T:=by
 cases v with
 | ref a=>
  unfold tyName at h ⊢;cases e:H a with
  | none=>simp only[e]at h;cases h
  | some o=>simp only[s a o e];simp only[e]at h;exact h
 | _=>exact h
def sg:V->Bool
 | .int _=>c_
 | _=>d_
theorem Vg{T:String}(h:tyName H v=a_ T):(tH T "int" && !tH T "bool")=sg v:=by
 cases v with
 | aJ=>cases h;rfl
 | bl b=>cases h;rfl
 | int i=>cases h;rfl
 | str x=>cases h;rfl
 | ref a=>
  unfold tyName at h;cases e:H a with
  | none=>simp only[e]at h;cases h
  | some o=>
   cases o with
   | lst xs=>simp only[e]at h;cases h;rfl
   | tup xs=>simp only[e]at h;cases h;rfl
   | _=>simp only[e]at h;cases h
 | _=>cases h
def eE(w:Str):Option (List Int):=
 if w = "put" then a_ [4,jD] else if w = "add" then a_ [4,4] else if w = "set" then a_ [12,4] else if w = "look" then a_ [4,12] else if w = "swap" then a_ [4,12]
 else if w = "clear" then a_ [] else if w = "skip" then a_ [4,121] else b_
def p8:V->Int->Bool
 | .int i,b=>decide (0<=i)&&decide (i<b)
 | _,_=>d_
def stepOk:List V->Bool
 | .str w::ps=>match eE w with
  | none=>d_
  | some bs=>decide (ps.length=bs.length)&&(ps.zip bs).all λp=>p8 p.1 p.2
 | _=>d_
def uU(H:Hp):V->Option (List V)
 | .ref a=>match H a with
  | some (.tup xs)=>a_ xs
  | _=>b_
 | _=>b_
def Ad(H:Hp)(v:V):Bool:=match uU H v with
 | some xs=>stepOk xs
 | none=>d_
theorem acm(h:uU H v=a_ xs):∃a,v=.ref a/\H a=a_ (.tup xs):=by
 cases v with
 | ref a=>
  refine ak a rfl ?_;unfold uU at h;cases e:H a with
  | none=>simp only[e]at h;cases h
  | some o=>
   cases o with
   | tup ys=>simp only[e]at h;cases h;rfl
   | _=>simp only[e]at h;cases h
 | _=>cases h
theorem Sv(h:H a=a_ (.tup xs)):uU H (.ref a)=a_ xs:=by
 unfold uU;simp only[h]
theorem Ed(h:H a=a_ (.tup xs)):tyName H (.ref a)=a_ "tuple":=by
 unfold tyName;simp only[h]
theorem U6{T:String}(h:tyName H v=a_ T):tH T "tuple" = (uU H v).isSome:=by
 cases v with
 | aJ=>cases h;rfl
 | bl b=>cases h;rfl
 | int i=>cases h;rfl
 | str x=>cases h;rfl
 | ref a=>
  unfold tyName at h;unfold uU;cases e:H a with
  | none=>simp only[e]at h;cases h
  | some o=>
   cases o with
   | lst xs=>simp only[e]at h ⊢;cases h;rfl
   | tup xs=>simp only[e]at h ⊢;cases h;rfl
   | _=>simp only[e]at h;cases h
 | _=>cases h
theorem Fc{T:String}(h:tyName H v=a_ T):tH T "str" = c_↔∃x,v=.str x:=by
 cases v with
 | str x=>cases h;exact⟨λ_=>⟨x,rfl⟩,λ_=>rfl⟩
 | aJ=>cases h;exact⟨λz=>(by cases z),λ⟨_,z⟩=>(by cases z)⟩
 | bl b=>cases h;exact⟨λz=>(by cases z),λ⟨_,z⟩=>(by cases z)⟩
 | int i=>cases h;exact⟨λz=>(by cases z),λ⟨_,z⟩=>(by cases z)⟩
 | ref a=>
  refine⟨λz=>?_,λ⟨_,z⟩=>by cases z⟩;unfold tyName at h;cases e:H a with
  | none=>simp only[e]at h;cases h
  | some o=>
   cases o with
   | lst xs=>simp only[e]at h;cases h;cases z
   | tup xs=>simp only[e]at h;cases h;cases z
   | _=>simp only[e]at h;cases h
 | _=>cases h
theorem aM{o:HO}(s:ai H H')(h:H' p=b_):ai H (upd H' p o):=λb u e=>by
 rw[au (bw (s b u e) h)];exact s b u e
end TL
namespace L2
open PySem PySem.Spec PyProof.Rows TL
theorem nw{o:HO}(n:H l=b_):∃H',upd H l o=H'/\ai H H'/\H' l=a_ o:=⟨_,rfl,aM (ai.refl _) n,aA⟩
theorem sl{n:Nat}(h:n<=1000:=by decide):n<=cW:=by rw[jl];exact cC h qc
end L2
set_option autoImplicit true
namespace L2
abbrev IV:=Nat->St->Hp->Prop
theorem pR{X:Cx}{l:List PySem.Stmt}(R:TS)(h:eV X l R):eV X l R:=h
end L2
namespace TL
open PySem PySem.Spec PyProof.Rows L2 L3
structure Bl(mg:Str->Option f_):Prop where
 lA:mg "isinstance" = b_
 int:mg "int" = b_
 bool:mg "bool" = b_
 str:mg "str" = b_
 tuple:mg "tuple" = b_
 len:mg "len" = b_
 all:mg "all" = b_
 zip:mg "zip" = b_
structure Cn(mg:Str->Option f_):Prop where
 top:∃u,mg "TOP" = a_ u/\RelV (.int jD) u
 names:∃u,mg "NAMES" = a_ u/\RelV (.int 12) u
 fw:∃u,mg "REGISTERS" = a_ u/\RelV (.int 4) u
 long:∃u,mg "LONGEST" = a_ u/\RelV (.int 120) u
section
variable{P:l_}{w:k_}{K:W.Frag}{mg:Str->Option f_}{base:j_}
def EK:Sp:=λvs H Q _=>∃v T,vs=[v]/\tyName H v=a_ T/\Q (.bl (sg v)) H
theorem aeW:ba zLF zLF (aT B7):=bg
theorem Kh(F:aV K "is_whole" "is_whole" B7 f fd)(B:Bl mg):ax P w K mg base aB 1 f fd zLF EK:=by
 refine F.ok aeW (λvs H Q E h=>?_) λaL A _ s H vs Q E hr h=>?_
 ·refine aW h λv T aa _=>?_;clear h;subst aa;rfl
 ·refine cI h λv T aa ht k=>?_;clear h;subst aa;refine⟨_,aE (a8 (wD (cg lL rfl B.lA kr (ae (pv 0) (ae (qH (v:=.ty "int") rfl B.int boot_int rfl) ag))) (wC (E3 (cg lL rfl B.lA kr (ae (pv 0) (ae (qH (v:=.ty "bool") rfl B.bool boot_bool rfl) ag))))))),?_⟩;have e:=Vg ht;refine ak v rfl (eY _ _ _ _ (gG _ rfl (qU ht) rfl (qR ht qc) (ak _ rfl (Aw (λh1=>?_) λh1=>?_))))
  ·refine ak v rfl (eY _ _ _ _ (gG _ rfl (qU ht) rfl (qR ht qc) (ak _ rfl ?_)));rw[h1,zD]at e;rw[e];exact k
  ·rw[h1,rH]at e;rw[e];exact k
def SQ:Sp:=λvs H Q _=>∃x,vs=[.str x]/\(eE x=b_->Q .aJ H)/\∀bs,eE x=a_ bs->∀p,H p=b_->Q (.ref p) (upd H p (.lst (bs.map V.int)))
theorem adz:ba ["word"] ["word"] (aT BU):=bg
theorem str_inj(h:V.str x=V.str y):x=y:=by injection h
theorem acE(F:aV K "bounds_of" "bounds_of" BU f fd)(C:Cn mg):ax P w K mg base aB 1 f fd ["word"] SQ:=by
 refine F.ok adz (λvs H Q E h=>?_) λaL A _ s H vs Q E hr h=>?_
 ·refine af h λv aa _=>?_;clear h;subst aa;rfl
 ·refine aG h λx aa k0 k1=>?_;clear h;subst aa;refine af C.top λuT mT rT=>af C.names λuN mN rN=>af C.fw λuR mR rR=>af C.long λuL mL rL=>?_;refine let R1:TS:=_;let R2:TS:=_;let R3:TS:=_;let R4:TS:=_;let R5:TS:=_;let R6:TS:=_;let R7:TS:=_;let R8:TS:=_;let R9:TS:=_;let ij:TS:=_;let qt:TS:=_;⟨_,aD (b9 (br dO (pv 0) cZ (bf _)) (pR R1 (aE (a8 (dN (ae (iq rfl mR rR) (ae (iq rfl mT rT) ag)))))) cD) (pR qt (aD (b9 (br dO (pv 0) cZ (bf _)) (pR R2 (aE (a8 (dN (ae (iq rfl mR rR) (ae (iq rfl mR rR) ag)))))) cD) (pR ij (aD (b9 (br dO (pv 0) cZ (bf _)) (pR R3 (aE (a8 (dN (ae (iq rfl mN rN) (ae (iq rfl mR rR) ag)))))) cD) (pR R9 (aD (b9 (PW.pt (pw_or (br dO (pv 0) cZ (bf _)) (pw_or1 (br dO (pv 0) cZ (bf _))))) (pR R4 (aE (a8 (dN (ae (iq rfl mR rR) (ae (iq rfl mN rN) ag)))))) cD) (pR R8 (aD (b9 (br dO (pv 0) cZ (bf _)) (pR R5 (aE (a8 (dN ag)))) cD) (pR R7 (aD (b9 (br dO (pv 0) cZ (bf _)) (pR R6 (aE (a8 (dN (ae (iq rfl mR rR) (ae (bb jc (iq rfl mL rL) aq) ag)))))) cD) (aE (a8 lM)))))))))))),?_⟩
  refine vr rfl ⟨rfl,⟨_,rfl,bq (λe=>?_) λn1=>?_⟩⟩
  ·cases str_inj e;exact⟨qc,λp hp=>k1 [4,jD] (by unfold eE;rw[if_pos rfl]) p hp⟩
  refine ak _ rfl ⟨rfl,⟨_,rfl,bq (λe=>?_) λn2=>?_⟩⟩
  ·cases str_inj e;exact⟨qc,λp hp=>k1 [4,4] (by unfold eE;rw[if_neg dk,if_pos rfl]) p hp⟩
  refine ak _ rfl ⟨rfl,⟨_,rfl,bq (λe=>?_) λn3=>?_⟩⟩
  ·cases str_inj e;exact⟨qc,λp hp=>k1 [12,4] (by unfold eE;rw[if_neg dk,if_neg dk,if_pos rfl]) p hp⟩
  refine ak _ rfl ⟨rfl,⟨_,rfl,bq (λe=>?_) λn4=>?_⟩⟩
  ·cases str_inj e;exact je ⟨qc,λp hp=>k1 [4,12] (by unfold eE;rw[if_neg dk,if_neg dk,if_neg dk,if_pos rfl]) p hp⟩
  refine vr rfl ⟨rfl,⟨_,rfl,bq (λe=>?_) λn5=>?_⟩⟩
  ·cases str_inj e;exact⟨qc,λp hp=>k1 [4,12] (by unfold eE;rw[if_neg dk,if_neg dk,if_neg dk,if_neg dk,if_pos rfl]) p hp⟩
  refine ak _ rfl ⟨rfl,⟨_,rfl,bq (λe=>?_) λn6=>?_⟩⟩
  ·cases str_inj e;exact⟨qc,λp hp=>k1 [] (by unfold eE;rw[if_neg dk,if_neg dk,if_neg dk,if_neg dk,if_neg dk,if_pos rfl]) p hp⟩
  refine ak _ rfl ⟨rfl,⟨_,rfl,bq (λe=>?_) λn7=>?_⟩⟩
  ·cases str_inj e;exact⟨_,⟨_,rfl,rfl,qc,λp hp=>k1 [4,121] (by unfold eE;rw[if_neg dk,if_neg dk,if_neg dk,if_neg dk,if_neg dk,if_neg dk,if_pos rfl]) p hp⟩⟩
  refine k0 ?_;have nn:∀{y:Str},¬V.str x=V.str y->¬x=y:=λh e=>h (by rw[e]);unfold eE;rw[if_neg (nn n1),if_neg (nn n2),if_neg (nn n3),if_neg (nn n4),if_neg (nn n5),if_neg (nn n6),if_neg (nn n7)]
def SI:Sp:=λvs H Q _=>∃v T,vs=[v]/\tyName H v=a_ T/\(∀xs,uU H v=a_ xs->xs.length<=1000/\∀x∈xs,∃T,tyName H x=a_ T)/\∀H',ai H H'->Q (.bl (Ad H v)) H'
theorem SU:ba ["told","bounds"] ["told"] (aT EM):=bg
theorem Nt(y:V)(ps:List V):HT.cA (y::ps).length 0 (a_ 1)=1:=by
 simp only[HT.cA,jk]
 first | omega | (simp;done) | (split <;> omega)
theorem WK(y:V)(ps:List V):jt (y::ps) (a_ 1) b_=ps:=by
 unfold jt;rw[Nt];show List.take (HT.cA (y::ps).length (y::ps).length b_-1) ps=ps;exact lE (by simp[HT.cA])
theorem Rn{bs:List Int}(h:eE x=a_ bs):bs.length<=2:=by
 unfold eE at h
 repeat (first | (split at h;(cases h;decide)) | (cases h;done))
theorem VX:(["part","bound"]:List Str).Nodup:=dk
theorem acD(F:aV K "is_step" "is_step" EM f fd)(B:Bl mg)(C:Cn mg)
  (FW:aV K "is_whole" "is_whole" B7 fW qb) (bW:Binds K qb zLF []) (mW:mg "is_whole" = a_ (.ref fW)) (FB:aV K "bounds_of" "bounds_of" BU fB qZ) (bB:Binds K qZ ["word"] []) (mB:mg "bounds_of" = a_ (.ref fB)) :
  ax P w K mg base aB 2 f fd ["told"] SI:=by
 have GW:ax P w K mg base aB 1 fW qb zLF EK:=Kh FW B;have GB:ax P w K mg base aB 1 fB qZ ["word"] SQ:=acE FB C;refine F.ok SU (λvs H Q E h=>?_) λaL A _ s H vs Q E hr h=>?_
 ·refine aW h λv T aa _=>?_;clear h;subst aa;rfl
 ·refine kZ h λv T aa ht hx k=>?_;clear h;subst aa
  refine let R1:TS:=_;let R2:TS:=_;let R3:TS:=_;⟨_,aD (b9 (PW.pt (pw_or (kQ (gF (cg lL rfl B.lA kr (ae (pv 0) (ae (qH (v:=.ty "tuple") rfl B.tuple vY rfl) ag))))) (pw_or (br dO (cg fg rfl B.len PySem.boot_len (ae (pv 0) ag)) aq (bf _)) (pw_or1 (kQ (gF (cg lL rfl B.lA kr (ae (az bh (pv 0) aq) (ae (qH (v:=.ty "str") rfl B.str boot_str rfl) ag))))))))) (aE (a8 nD)) cD) (pR R3 (aD (bJ (i:=1) SU.nd rfl (aP rfl) (dr GB hr rfl mB FB.kp bB .nil aR (ae (az bh (pv 0) aq) ag))) (pR R2 (aD (b9 (PW.pt (pw_or (br LK (pv 1) lM (bf _)) (pw_or1 (br Fu (cg fg rfl B.len PySem.boot_len (ae (pv 0) ag)) (bb jc (cg fg rfl B.len PySem.boot_len (ae (pv 1) ag)) aq) (bf _))))) (aE (a8 nD)) cD) (pR R1 (aE (a8 (cg (BO rfl) rfl B.all ED (ae (jX (N:=["part","bound"]) (idx:=[]) rfl (eT.of (by kernel_rfl)) (Eh (cy _) (cy _))
    (agK (b1:=d_) (b2:=c_) rfl B.zip (ae (og Ls (pv 0) (oo aq) oq) (ae (pv 1) ag)))
    (λ_ _ _ _=>sZ rfl (jW (de (i:=0) VX rfl (aP rfl) (.inr rfl)) (jW (de (i:=1) VX rfl (aP rfl) (.inr rfl)) sW)))
    (λ_ _ _ _=>jK)
    λ_ _ _ _=>wD (dr GW hr rfl mW FW.kp bW .nil aR (ae (pv 0) ag)) (wC (adH MF rY aq (pv 0) (pv 1)))) ag))))))))),?_⟩
  cases hv:uU H v with
  | none=>
   have hi:tH T "tuple" = false:=by rw[U6 ht,hv];rfl
   have dn:Ad H v=false:=by unfold Ad;rw[hv]
   have kk:=k H (ai.refl H);rw[dn]at kk;refine ak v rfl (eY _ _ _ _ (gG _ rfl (qU ht) rfl (qR ht qc) (ak _ rfl ?_)));rw[hi];exact je (je kk)
  | some xs=>
   refine af (acm hv) λa e0 ha=>?_;subst e0;refine oA (hx xs hv) λhl sr=>?_;have hi:tH T "tuple" = true:=by rw[U6 ht,hv];rfl
   have kk:∀H',ai H H'->Q (.bl (stepOk xs)) H':=λH' s=>by
    have q:=k H' s;unfold Ad at q;rw[hv]at q;exact q
   refine vr rfl (eY _ _ _ _ (gG _ rfl (qU ht) rfl (qR ht qc) (ak _ rfl ?_)));rw[hi];refine fj ?_;cases xs with
   | nil=>
    refine vr rfl (dS a ([]) rfl (.inr (aI.of ha)) ⟨rfl,⟨_,rfl,bq (λe=>?_) λn0=>absurd rfl n0⟩⟩);exact je (kk H (ai.refl H))
   | cons y ps=>
    refine vr rfl (dS a (y::ps) rfl (.inr (aI.of ha)) ⟨rfl,⟨_,rfl,bq (λe=>?_) λn0=>?_⟩⟩)
    ·injection e with e
     exact absurd e (by simp only[jk];omega)
    refine oE (sr y hX) λTy hy=>dm (v:=y) (j:=0) rfl ha rfl (eY _ _ _ _ (gG _ rfl (qU hy) rfl (qR hy qc) (ak _ rfl (Cj (λh1=>?_) λh1=>?_))))
    ·have e:stepOk (y::ps)=false:=by
      cases y with
      | str x=>exact absurd ((Fc hy).mpr ⟨x,rfl⟩) (by rw[h1];exact dY)
      | _=>rfl
     have q:=kk H (ai.refl H);rw[e]at q;exact q
    refine oE ((Fc hy).mp h1) λx0 e0=>?_;subst e0;refine dm (v:=.str x0) (j:=0) rfl ha rfl (du x0 rfl (λhb=>?_) λbs hb p hp=>?_)
    ·refine ak _ rfl ⟨rfl,⟨_,rfl,bq (λ_=>?_) λn=>absurd rfl n⟩⟩
     have e:stepOk (.str x0::ps)=false:=by
      show (match eE x0 with | none=>d_ | some bs=>decide (ps.length=bs.length)&&(ps.zip bs).all λp=>p8 p.1 p.2)=d_;rw[hb]
     have q:=kk H (ai.refl H);rw[e]at q;exact je q
    have s1:ai H (upd H p (.lst (bs.map V.int))):=aM (ai.refl H) hp;have Zj:=s1 _ _ ha
    have eS:stepOk (.str x0::ps)=(decide (ps.length=bs.length)&&(ps.zip bs).all λp=>p8 p.1 p.2):=by
     show (match eE x0 with | none=>d_ | some bs=>decide (ps.length=bs.length)&&(ps.zip bs).all λp=>p8 p.1 p.2)=_;rw[hb]
    rw[eS]at kk;refine ak _ rfl ⟨rfl,⟨_,rfl,bq (λz=>by cases z) λ_=>vr rfl ⟨a,⟨_,rfl,.inr (aI.of Zj),_,rfl,p,_,rfl,.inl (aj.of aA),_,_,rfl,rfl,rfl,_,rfl,wL (λne=>?_) λeq=>?_⟩⟩⟩⟩
    ·have e:decide (ps.length=bs.length)=false:=decide_eq_false λz=>ne (by rw[jk,aO,z];rfl);rw[e,rH]at kk;exact kk _ s1
    have hlen:ps.length=bs.length:=by
     injection eq with eq
     rw[jk,aO]at eq;omega
    rw[decide_eq_true hlen,zD]at kk;refine ak _ rfl (ak 1 rfl ⟨a,⟨_,rfl,aI.of Zj,?_,λq hq=>?_⟩⟩)
    ·intro z;have z1:=z.1;rw[Nt]at z1;cases z1
    rw[WK];have s2:ai H (upd (upd H p (.lst (bs.map V.int))) q (.tup ps)):=aM s1 hq;have jw:=bw aA hq;have vz:upd (upd H p (.lst (bs.map V.int))) q (.tup ps) p=a_ (.lst (bs.map V.int)):=by rw[au jw];exact aA
    refine vr rfl (⟨q,p,ps,(bs.map V.int),rfl,(aI.of aA),(aj.of vz),?_⟩);generalize hH3:upd (upd H p (.lst (bs.map V.int))) q (.tup ps)=H3 at s2 vz;have vy:H3 q=a_ (.tup ps):=by rw[<-hH3];exact aA
    refine jn (n:=bs.length) (λi ys H'=>i<=bs.length/\ai H3 H'/\ys=((ps.zip bs).take i).map λz=>V.bl (p8 z.1 z.2)) ?_ ?_ ?_ ?_ ?_ ?_ ?_
    ·have dE:=Rn hb;exact dw (dZ w4)
    ·exact eM (cy _) (ai.refl _) rfl
    ·rintro i ys H' ⟨_,_,e⟩;rw[e,aO,i8];exact xl
    ·rintro i ys H' hi ⟨_,s3,_⟩;exact⟨ps,(bs.map V.int),(ps[i]'wg),(V.int bs[i]),(aI.of (s3 _ _ vy)),(aj.of (s3 _ _ vz)),(by simp[hlen,hi]),(by simp[hi])⟩
    ·rintro ys H' ⟨_,s3,_⟩;exact dS ps (bs.map V.int) (aI.of (s3 _ _ vy)) (aj.of (s3 _ _ vz)) (.inr (by rw[aO];exact aN _))
    ·rintro i ys H' hi ⟨_,s3,e⟩ v i0 ⟨r,x,y,dD,ev,eH,hxy⟩;refine oA (hxy ps (bs.map V.int) (aI.of (s3 _ _ vy)) (aj.of (s3 _ _ vz))) λlB vv=>?_;subst ev;subst eH
     have xW:y=V.int bs[i]:=by
      rw[f9,aX hi]at vv;exact(dq vv).symm
     subst xW;have s4:ai H3 (upd H' r (.tup [x,V.int bs[i]])):=aM s3 dD;refine oE (sr x (gE _ (bo lB))) λTx Pl=>?_;have N7:=QS (s2.trans s4) Pl
     have zi:(ps.zip bs)[i]?=a_ (x,bs[i]):=by
      rw[aam];exact⟨lB,aX hi⟩
     have fin:∀c,c=p8 x bs[i]->i+1<=bs.length/\ai H3 (upd H' r (.tup [x,V.int bs[i]]))/\ys++[V.bl c]=((ps.zip bs).take (i+1)).map λz=>V.bl (p8 z.1 z.2):=λc hc=>by
      refine eM hi s4 ?_;rw[qw,zi,gg,<-e,hc];rfl
     refine pU r ([x,V.int bs[i]]) rfl (aI.of aA) rfl (eG x ([V.int bs[i]]) rfl (dS (V.int bs[i]) ([]) rfl rfl ?_));dsimp only[j'];rw[if_pos rfl];refine vr rfl (dS x Tx rfl N7 (ak _ rfl ?_));cases x with
     | int j=>
      exact je (ak _ rfl (eG 0 j rfl ⟨rfl,⟨_,rfl,bq (λh0=>vr rfl (dS j (bs[i]) rfl rfl (fin _ (by show _=(decide (0<=j)&&decide (j<bs[i]));rw[decide_eq_true h0,zD])))) λh0=>fin _ (by show _=(decide (0<=j)&&decide (j<bs[i]));rw[decide_eq_false h0,rH])⟩⟩))
     | _=>exact fj (fin _ rfl)
    ·rintro ys H' ⟨_,s3,e⟩;refine⟨?_,λr dD=>?_⟩
     ·rw[e,aO,i8];have dE:=Rn hb;have:=dZ (n:=bs.length) w4;omega
     have ey:ys=(((ps.zip bs).map λz=>p8 z.1 z.2)).map V.bl:=by
      rw[e,lE (by rw[List.length_zip];omega),sQ];rfl
     refine dS r ((ps.zip bs).map λz=>p8 z.1 z.2) rfl (aj.of (by rw[aA,ey])) ?_;rw[zH];exact kk _ (aM (s2.trans s3) dD)
def wt(K:W.Frag):Sp:=λvs H Q _=>∃x C dx fs a xs,vs=[.ref x,.ref a]/\H x=a_ (.ins C dx fs)/\fQ K C/\cj K C "parts"/\fs.length<900/\H a=a_ (.tup xs)/\Q .aJ (upd H x (.ins C dx (aU "parts" (.ref a) fs)))
theorem agy:ba zLb zLb (aT Fs):=bg
theorem ym(F:aV K "__init__" "Step.__init__" Fs f fd)(B:mg "tuple" = b_):ax P w K mg base aB 1 f fd zLb (wt K):=by
 refine F.ok agy (λvs H Q E h=>?_) λaL A _ s H vs Q E hr h=>?_
 ·refine lK h λx C dx fs a xs aa _=>?_;subst aa;rfl
 ·refine nZ h λx C dx fs a xs aa hx cl nP aH=>?_;subst aa;exact bp aH λhl ha k=>lS (aE (iu (pv 0) (rO Bq rfl B vY (ae (pv 1) ag)) rfl)) (vr rfl (eG a xs rfl (.inr ⟨aI.of ha,_,rfl,x,C,dx,fs,rfl,hx,cl,nP,wa,k⟩)))
theorem Au(f:Str)(u:V):(aU f u []).length<1000:=by
 have h1:=sR f u [];have h3:([]:List (Str×V)).length=0:=rfl;exact wb
theorem As(f g:Str)(u v:V):(aU f u (aU g v [])).length<1000:=by
 have h1:=sR f u (aU g v []);have h2:=sR g v [];have h3:([]:List (Str×V)).length=0:=rfl;exact xi
structure yw(K:W.Frag)(mg:Str->Option f_)(cS fI:e_)(iF:iJ):Prop where
 fn:aV K "__init__" "Step.__init__" Fs fI iF
 bi:Binds K iF zLb []
 cf:MZ K cS "__init__" fI
 at_:mg "Step" = a_ (.ref cS)
 tup:mg "tuple" = b_
def qV(C:e_)(f1 f2:Str):Sp:=λvs H Q _=>∃x dx a xs v1 v2,vs=[.ref x,.ref a]/\H x=a_ (.ins C dx [])/\H a=a_ (.tup xs)/\xs[1]?=a_ v1/\xs[2]?=a_ v2/\
 Q .aJ (upd H x (.ins C dx (aU f2 v2 (aU f1 v1 (aU "parts" (.ref a) [])))))
theorem agv:ba zLb zLb (aT Fq):=bg
theorem afv(F:aV K "__init__" "Put.__init__" Fq f fd)(I:yw K mg cS fI iF)(cl:fQ K C)(nP:cj K C "parts")(n1:cj K C "reg")(n2:cj K C "number") :
  ax P w K mg base aB 2 f fd zLb (qV C "reg" "number"):=by
 have GI:ax P w K mg base aB 1 fI iF zLb (wt K):=ym I.fn I.tup;refine F.ok agv (λvs H Q E h=>?_) λaL A _ s H vs Q E hr h=>?_
 ·refine lK h λx dx a xs v1 v2 aa _=>?_;subst aa;rfl
 ·refine nZ h λx dx a xs v1 v2 aa hx ha e1 aH=>?_;subst aa;refine oA aH λe2 k=>?_;refine let R1:TS:=_;let R2:TS:=_;⟨_,aD (dg (zM I.cf GI hr rfl I.at_ I.bi .nil aR (ae (pv 0) (ae (pv 1) ag)))) (pR R2 (aD (iu (pv 0) (az bh (pv 1) aq) rfl) (pR R1 (aE (iu (pv 0) (az bh (pv 1) aq) rfl))))),?_⟩
  have jx:=hY ha hx (by intro z;cases z);refine vr rfl (vr rfl ⟨x,⟨C,dx,[],a,xs,rfl,hx,cl,nP,qc,ha,vT (v:=v1) rfl (aI.of (by rw[au jx];exact ha)) (cb (j:=1) e1) ⟨_,rfl,x,C,dx,_,rfl,aA,cl,n1,Au _ _,vT (v:=v2) rfl (aI.of (by rw[au jx,au jx];exact ha)) (cb (j:=2) e2) ⟨_,rfl,x,C,dx,_,rfl,aA,cl,n2,As _ _ _ _,?_⟩⟩⟩⟩);rw[nu,nu];exact k
theorem agD:ba zLb zLb (aT Ft):=bg
theorem afI(F:aV K "__init__" "Add.__init__" Ft f fd)(I:yw K mg cS fI iF)(cl:fQ K C)(nP:cj K C "parts")(n1:cj K C "reg")(n2:cj K C "other") :
  ax P w K mg base aB 2 f fd zLb (qV C "reg" "other"):=by
 have GI:ax P w K mg base aB 1 fI iF zLb (wt K):=ym I.fn I.tup;refine F.ok agD (λvs H Q E h=>?_) λaL A _ s H vs Q E hr h=>?_
 ·refine lK h λx dx a xs v1 v2 aa _=>?_;subst aa;rfl
 ·refine nZ h λx dx a xs v1 v2 aa hx ha e1 aH=>?_;subst aa;refine oA aH λe2 k=>?_;refine let R1:TS:=_;let R2:TS:=_;⟨_,aD (dg (zM I.cf GI hr rfl I.at_ I.bi .nil aR (ae (pv 0) (ae (pv 1) ag)))) (pR R2 (aD (iu (pv 0) (az bh (pv 1) aq) rfl) (pR R1 (aE (iu (pv 0) (az bh (pv 1) aq) rfl))))),?_⟩
  have jx:=hY ha hx (by intro z;cases z);refine vr rfl (vr rfl ⟨x,⟨C,dx,[],a,xs,rfl,hx,cl,nP,qc,ha,vT (v:=v1) rfl (aI.of (by rw[au jx];exact ha)) (cb (j:=1) e1) ⟨_,rfl,x,C,dx,_,rfl,aA,cl,n1,Au _ _,vT (v:=v2) rfl (aI.of (by rw[au jx,au jx];exact ha)) (cb (j:=2) e2) ⟨_,rfl,x,C,dx,_,rfl,aA,cl,n2,As _ _ _ _,?_⟩⟩⟩⟩);rw[nu,nu];exact k
theorem agu:ba zLb zLb (aT Fp):=bg
theorem afr(F:aV K "__init__" "Set.__init__" Fp f fd)(I:yw K mg cS fI iF)(cl:fQ K C)(nP:cj K C "parts")(n1:cj K C "name")(n2:cj K C "reg") :
  ax P w K mg base aB 2 f fd zLb (qV C "name" "reg"):=by
 have GI:ax P w K mg base aB 1 fI iF zLb (wt K):=ym I.fn I.tup;refine F.ok agu (λvs H Q E h=>?_) λaL A _ s H vs Q E hr h=>?_
 ·refine lK h λx dx a xs v1 v2 aa _=>?_;subst aa;rfl
 ·refine nZ h λx dx a xs v1 v2 aa hx ha e1 aH=>?_;subst aa;refine oA aH λe2 k=>?_;refine let R1:TS:=_;let R2:TS:=_;⟨_,aD (dg (zM I.cf GI hr rfl I.at_ I.bi .nil aR (ae (pv 0) (ae (pv 1) ag)))) (pR R2 (aD (iu (pv 0) (az bh (pv 1) aq) rfl) (pR R1 (aE (iu (pv 0) (az bh (pv 1) aq) rfl))))),?_⟩
  have jx:=hY ha hx (by intro z;cases z);refine vr rfl (vr rfl ⟨x,⟨C,dx,[],a,xs,rfl,hx,cl,nP,qc,ha,vT (v:=v1) rfl (aI.of (by rw[au jx];exact ha)) (cb (j:=1) e1) ⟨_,rfl,x,C,dx,_,rfl,aA,cl,n1,Au _ _,vT (v:=v2) rfl (aI.of (by rw[au jx,au jx];exact ha)) (cb (j:=2) e2) ⟨_,rfl,x,C,dx,_,rfl,aA,cl,n2,As _ _ _ _,?_⟩⟩⟩⟩);rw[nu,nu];exact k
theorem ae3:ba zLb zLb (aT E1):=bg
theorem adR(F:aV K "__init__" "Look.__init__" E1 f fd)(I:yw K mg cS fI iF)(cl:fQ K C)(nP:cj K C "parts")(n1:cj K C "reg")(n2:cj K C "name") :
  ax P w K mg base aB 2 f fd zLb (qV C "reg" "name"):=by
 have GI:ax P w K mg base aB 1 fI iF zLb (wt K):=ym I.fn I.tup;refine F.ok ae3 (λvs H Q E h=>?_) λaL A _ s H vs Q E hr h=>?_
 ·refine lK h λx dx a xs v1 v2 aa _=>?_;subst aa;rfl
 ·refine nZ h λx dx a xs v1 v2 aa hx ha e1 aH=>?_;subst aa;refine oA aH λe2 k=>?_;refine let R1:TS:=_;let R2:TS:=_;⟨_,aD (dg (zM I.cf GI hr rfl I.at_ I.bi .nil aR (ae (pv 0) (ae (pv 1) ag)))) (pR R2 (aD (iu (pv 0) (az bh (pv 1) aq) rfl) (pR R1 (aE (iu (pv 0) (az bh (pv 1) aq) rfl))))),?_⟩
  have jx:=hY ha hx (by intro z;cases z);refine vr rfl (vr rfl ⟨x,⟨C,dx,[],a,xs,rfl,hx,cl,nP,qc,ha,vT (v:=v1) rfl (aI.of (by rw[au jx];exact ha)) (cb (j:=1) e1) ⟨_,rfl,x,C,dx,_,rfl,aA,cl,n1,Au _ _,vT (v:=v2) rfl (aI.of (by rw[au jx,au jx];exact ha)) (cb (j:=2) e2) ⟨_,rfl,x,C,dx,_,rfl,aA,cl,n2,As _ _ _ _,?_⟩⟩⟩⟩);rw[nu,nu];exact k
theorem aeZ:ba zLb zLb (aT EX):=bg
theorem adM(F:aV K "__init__" "Swap.__init__" EX f fd)(I:yw K mg cS fI iF)(cl:fQ K C)(nP:cj K C "parts")(n1:cj K C "reg")(n2:cj K C "name") :
  ax P w K mg base aB 2 f fd zLb (qV C "reg" "name"):=by
 have GI:ax P w K mg base aB 1 fI iF zLb (wt K):=ym I.fn I.tup;refine F.ok aeZ (λvs H Q E h=>?_) λaL A _ s H vs Q E hr h=>?_
 ·refine lK h λx dx a xs v1 v2 aa _=>?_;subst aa;rfl
 ·refine nZ h λx dx a xs v1 v2 aa hx ha e1 aH=>?_;subst aa;refine oA aH λe2 k=>?_;refine let R1:TS:=_;let R2:TS:=_;⟨_,aD (dg (zM I.cf GI hr rfl I.at_ I.bi .nil aR (ae (pv 0) (ae (pv 1) ag)))) (pR R2 (aD (iu (pv 0) (az bh (pv 1) aq) rfl) (pR R1 (aE (iu (pv 0) (az bh (pv 1) aq) rfl))))),?_⟩
  have jx:=hY ha hx (by intro z;cases z);refine vr rfl (vr rfl ⟨x,⟨C,dx,[],a,xs,rfl,hx,cl,nP,qc,ha,vT (v:=v1) rfl (aI.of (by rw[au jx];exact ha)) (cb (j:=1) e1) ⟨_,rfl,x,C,dx,_,rfl,aA,cl,n1,Au _ _,vT (v:=v2) rfl (aI.of (by rw[au jx,au jx];exact ha)) (cb (j:=2) e2) ⟨_,rfl,x,C,dx,_,rfl,aA,cl,n2,As _ _ _ _,?_⟩⟩⟩⟩);rw[nu,nu];exact k
theorem ae0:ba zLb zLb (aT EY):=bg
theorem adN(F:aV K "__init__" "Skip.__init__" EY f fd)(I:yw K mg cS fI iF)(cl:fQ K C)(nP:cj K C "parts")(n1:cj K C "reg")(n2:cj K C "place") :
  ax P w K mg base aB 2 f fd zLb (qV C "reg" "place"):=by
 have GI:ax P w K mg base aB 1 fI iF zLb (wt K):=ym I.fn I.tup;refine F.ok ae0 (λvs H Q E h=>?_) λaL A _ s H vs Q E hr h=>?_
 ·refine lK h λx dx a xs v1 v2 aa _=>?_;subst aa;rfl
 ·refine nZ h λx dx a xs v1 v2 aa hx ha e1 aH=>?_;subst aa;refine oA aH λe2 k=>?_;refine let R1:TS:=_;let R2:TS:=_;⟨_,aD (dg (zM I.cf GI hr rfl I.at_ I.bi .nil aR (ae (pv 0) (ae (pv 1) ag)))) (pR R2 (aD (iu (pv 0) (az bh (pv 1) aq) rfl) (pR R1 (aE (iu (pv 0) (az bh (pv 1) aq) rfl))))),?_⟩
  have jx:=hY ha hx (by intro z;cases z);refine vr rfl (vr rfl ⟨x,⟨C,dx,[],a,xs,rfl,hx,cl,nP,qc,ha,vT (v:=v1) rfl (aI.of (by rw[au jx];exact ha)) (cb (j:=1) e1) ⟨_,rfl,x,C,dx,_,rfl,aA,cl,n1,Au _ _,vT (v:=v2) rfl (aI.of (by rw[au jx,au jx];exact ha)) (cb (j:=2) e2) ⟨_,rfl,x,C,dx,_,rfl,aA,cl,n2,As _ _ _ _,?_⟩⟩⟩⟩);rw[nu,nu];exact k
structure a9 where
 (fW fB fS fO fI ND NF NC MR MP MQ ajc oK oM mI nF nE uQ lO:e_)
 (qb qZ jQ sh iF FC FD FA Fg Fe Ff:iJ)
structure tm(K:W.Frag)(mg:Str->Option f_)(t:a9):Prop where
 bl:Bl mg
 cn:Cn mg
 CQ:aV K "is_whole" "is_whole" B7 t.fW t.qb
 bW:Binds K t.qb zLF []
 mW:mg "is_whole" = a_ (.ref t.fW)
 fnB:aV K "bounds_of" "bounds_of" BU t.fB t.qZ
 bB:Binds K t.qZ ["word"] []
 mB:mg "bounds_of" = a_ (.ref t.fB)
 XS:aV K "is_step" "is_step" EM t.fS t.jQ
 bS:Binds K t.jQ ["told"] []
 mS:mg "is_step" = a_ (.ref t.fS)
 Oh:aV K "step_of" "step_of" KO t.fO t.sh
 bO:Binds K t.sh ["told"] []
 mO:mg "step_of" = a_ (.ref t.fO)
 init:yw K mg t.ajc t.fI t.iF
 B0:fQ K t.uQ
 afQ:cj K t.uQ "parts"
 afS:Mk K t.uQ t.fI
 afT:mg "Clear" = a_ (.ref t.uQ)
 yv:fQ K t.oK
 aiU:cj K t.oK "parts"
 V2:cj K t.oK "reg"
 V0:cj K t.oK "number"
 aiW:Mk K t.oK t.ND
 V4:mg "Put" = a_ (.ref t.oK)
 ai7:aV K "__init__" "Put.__init__" Fq t.ND t.FC
 ajf:Binds K t.FC zLb []
 wQ:fQ K t.oM
 aiV:cj K t.oM "parts"
 MG:cj K t.oM "reg"
 V1:cj K t.oM "other"
 mkAdd:Mk K t.oM t.NF
 V5:mg "Add" = a_ (.ref t.oM)
 ai8:aV K "__init__" "Add.__init__" Ft t.NF t.FD
 ajg:Binds K t.FD zLb []
 uX:fQ K t.mI
 aiT:cj K t.mI "parts"
 Fy:cj K t.mI "name"
 VZ:cj K t.mI "reg"
 mkSet:Mk K t.mI t.NC
 V3:mg "Set" = a_ (.ref t.mI)
 ai6:aV K "__init__" "Set.__init__" Fp t.NC t.FA
 aje:Binds K t.FA zLb []
 uP:fQ K t.nF
 ag5:cj K t.nF "parts"
 U':cj K t.nF "reg"
 E7:cj K t.nF "name"
 ag8:Mk K t.nF t.MR
 Vb:mg "Look" = a_ (.ref t.nF)
 ahq:aV K "__init__" "Look.__init__" E1 t.MR t.Fg
 ahJ:Binds K t.Fg zLb []
 tj:fQ K t.nE
 ag3:cj K t.nE "parts"
 LM:cj K t.nE "reg"
 E6:cj K t.nE "name"
 ag6:Mk K t.nE t.MP
 Va:mg "Swap" = a_ (.ref t.nE)
 ahn:aV K "__init__" "Swap.__init__" EX t.MP t.Fe
 ahH:Binds K t.Fe zLb []
 wH:fQ K t.lO
 ag4:cj K t.lO "parts"
 U9:cj K t.lO "reg"
 LL:cj K t.lO "place"
 ag7:Mk K t.lO t.MQ
 LO:mg "Skip" = a_ (.ref t.lO)
 ahp:aV K "__init__" "Skip.__init__" EY t.MQ t.Ff
 ahI:Binds K t.Ff zLb []
def e8(t:a9)(x:Str):Addr:=if x = "put" then t.oK else if x = "add" then t.oM else if x = "set" then t.mI else if x = "look" then t.nF else if x = "swap" then t.nE else if x = "clear" then t.uQ else t.lO
def iw(v:V)(x:Str)(ps:List V):List (Str×V):=
 if x = "put" then aU "number" (ps.getD 1 .aJ) (aU "reg" (ps.getD 0 .aJ) (aU "parts" v []))
 else if x = "add" then aU "other" (ps.getD 1 .aJ) (aU "reg" (ps.getD 0 .aJ) (aU "parts" v []))
 else if x = "set" then aU "reg" (ps.getD 1 .aJ) (aU "name" (ps.getD 0 .aJ) (aU "parts" v []))
 else if x = "look" then aU "name" (ps.getD 1 .aJ) (aU "reg" (ps.getD 0 .aJ) (aU "parts" v []))
 else if x = "swap" then aU "name" (ps.getD 1 .aJ) (aU "reg" (ps.getD 0 .aJ) (aU "parts" v []))
 else if x = "clear" then aU "parts" v []
 else aU "place" (ps.getD 1 .aJ) (aU "reg" (ps.getD 0 .aJ) (aU "parts" v []))
theorem afV{α:Type}{l:List α}(h:l.length=2):∃a b,l=[a,b]:=by
 cases l with
 | nil=>cases h
 | cons a t=>
  exact oE (P9.mp (show t.length=1 from D8 h)) λb e=>xB a b (by rw[e])
theorem z7(h:stepOk (.str x::ps)=c_){b c:Int}{bs:List Int}(hb:eE x=a_ bs)(hl:bs=[b,c]:=by rfl):∃v1 v2,ps=[v1,v2]:=by
 subst hl;have h':(match eE x with | none=>d_ | some bs=>decide (ps.length=bs.length)&&(ps.zip bs).all λp=>p8 p.1 p.2)=true:=h;rw[hb]at h';simp only[i9,decide_eq_true_eq]at h';exact afV h'.1
theorem acT(h:stepOk (.str x::ps)=c_)(n1:¬x = "put")(n2:¬x = "add")(n3:¬x = "set")(n4:¬x = "look")(n5:¬x = "swap")(n6:¬x = "clear"):x = "skip":=by
 apply Classical.byContradiction;intro n7
 have e:eE x=none:=by
  unfold eE;rw[if_neg n1,if_neg n2,if_neg n3,if_neg n4,if_neg n5,if_neg n6,if_neg n7]
 have h':(match eE x with | none=>d_ | some bs=>decide (ps.length=bs.length)&&(ps.zip bs).all λp=>p8 p.1 p.2)=true:=h;rw[e]at h';cases h'
def JX(t:a9):Sp:=λvs H Q _=>∃a x ps,vs=[.ref a]/\H a=a_ (.tup (.str x::ps))/\stepOk (.str x::ps)=c_/\(ps.length<=900/\∀y∈ps,∃T,tyName H y=a_ T)/\
 ∀z dx H',ai H H'->H z=b_->H' z=a_ (.ins (e8 t x) dx (iw (.ref a) x ps))->Q (.ref z) H'
theorem SR:ba ["told","word"] ["told"] (aT KO):=bg
theorem RJ(T:tm K mg t):ax P w K mg base aB 4 t.fO t.sh ["told"] (JX t):=by
 have GS:ax P w K mg base aB 2 t.fS t.jQ ["told"] SI:=acD T.XS T.bl T.cn T.CQ T.bW T.mW T.fnB T.bB T.mB;have GI:ax P w K mg base aB 1 t.fI t.iF zLb (wt K):=ym T.init.fn T.init.tup;have ams:ax P w K mg base aB 2 t.ND t.FC zLb (qV t.oK "reg" "number"):=afv T.ai7 T.init T.yv T.aiU T.V2 T.V0;have amH:ax P w K mg base aB 2 t.NF t.FD zLb (qV t.oM "reg" "other"):=afI T.ai8 T.init T.wQ T.aiV T.MG T.V1;have amr:ax P w K mg base aB 2 t.NC t.FA zLb (qV t.mI "name" "reg"):=afr T.ai6 T.init T.uX T.aiT T.Fy T.VZ;have ake:ax P w K mg base aB 2 t.MR t.Fg zLb (qV t.nF "reg" "name"):=adR T.ahq T.init T.uP T.ag5 T.U' T.E7;have akc:ax P w K mg base aB 2 t.MP t.Fe zLb (qV t.nE "reg" "name"):=adM T.ahn T.init T.tj T.ag3 T.LM T.E6;have akd:ax P w K mg base aB 2 t.MQ t.Ff zLb (qV t.lO "reg" "place"):=adN T.ahp T.init T.wH T.ag4 T.U9 T.LL;refine T.Oh.ok SR (λvs H Q E h=>?_) λaL A _ s H vs Q E hr h=>?_
 ·refine eh h λa x ps aa _=>?_;clear h;subst aa;rfl
 ·refine gw h λa x0 ps aa ha aH=>?_;clear h;subst aa;refine bp aH λhk aa k=>oA aa λhl sr=>?_;have nn:∀{y:Str},¬V.str x0=V.str y->¬x0=y:=λh e=>h (by rw[e])
  refine let R1:TS:=_;let R2:TS:=_;let R3:TS:=_;let R4:TS:=_;let R5:TS:=_;let R6:TS:=_;let R7:TS:=_;let R8:TS:=_;let R9:TS:=_;let ij:TS:=_;let qt:TS:=_;let zk:TS:=_;let zh:TS:=_;let PQ:TS:=_;⟨_,(aD (b9 (kQ (gF (dr GS (hr.mono qc) rfl T.mS T.XS.kp T.bS .nil aR (ae (pv 0) ag)))) zQ cD)
   (pR PQ (aD (bJ (i:=1) SR.nd rfl (aP rfl) (az bh (pv 0) aq)) (pR zh (aD (b9 (br dO (pv 1) cZ (bf _)) (pR R1 (aE (a8 (sX T.aiW ams hr rfl T.V4 T.ajf .nil aR (ae (pv 0) ag))))) cD) (pR zk (aD (b9 (br dO (pv 1) cZ (bf _)) (pR R2 (aE (a8 (sX T.mkAdd amH hr rfl T.V5 T.ajg .nil aR (ae (pv 0) ag))))) cD) (pR qt (aD (b9 (br dO (pv 1) cZ (bf _)) (pR R3 (aE (a8 (sX T.mkSet amr hr rfl T.V3 T.aje .nil aR (ae (pv 0) ag))))) cD) (pR ij (aD (b9 (br dO (pv 1) cZ (bf _)) (pR R4 (aE (a8 (sX T.ag8 ake hr rfl T.Vb T.ahJ .nil aR (ae (pv 0) ag))))) cD) (pR R9 (aD (b9 (br dO (pv 1) cZ (bf _)) (pR R5 (aE (a8 (sX T.ag6 akc hr rfl T.Va T.ahH .nil aR (ae (pv 0) ag))))) cD) (pR R8 (aD (b9 (br dO (pv 1) cZ (bf _)) (pR R6 (aE (a8 (sX T.afS GI (hr.mono qc) rfl T.afT T.init.bi .nil aR (ae (pv 0) ag))))) cD)
   (pR R7 (aE (a8 (sX T.ag7 akd hr rfl T.LO T.ahI .nil aR (ae (pv 0) ag)))))))))))))))))))),?_⟩
  refine vr rfl ⟨_,⟨_,rfl,Ed ha,(λxs hv=>?_),λH1 hS=>?_⟩⟩
  ·rw[Sv ha]at hv;cases hv;refine⟨by simp only[jk];exact wb,λy hy=>?_⟩;rcases cV.mp hy with e | hy
   ·subst e;exact⟨_,rfl⟩
   ·exact sr y hy
  have dn:Ad H (.ref a)=true:=by unfold Ad;rw[Sv ha];exact hk
  rw[dn];refine ak _ rfl (fj (dm (v:=.str x0) (j:=0) rfl ((hS _ _ ha)) rfl (ak _ rfl ⟨rfl,⟨_,rfl,bq (λe=>?_) λn1=>?_⟩⟩)))
  ·cases str_inj e;obtain⟨v1,v2,km⟩:=z7 hk (bs:=[4,jD]) (by unfold eE;rw[if_pos rfl]);subst km;refine vr rfl λx dx nx iG AO=>⟨x,dx,a,[.str "put",v1,v2],v1,v2,rfl,aA,?_,rfl,rfl,rfl,?_⟩
   ·rw[au (bw (hS _ _ ha) nx),au (bw (hS _ _ ha) iG)];exact hS _ _ ha
   ·refine k x dx _ (λb o q=>?_) (hS.free nx) (by rw[aA];rfl);rw[au (bw (hS b o q) nx),au (bw (hS b o q) nx),au (bw (hS b o q) iG)];exact hS b o q
  refine ak _ rfl ⟨rfl,⟨_,rfl,bq (λe=>?_) λn2=>?_⟩⟩
  ·cases str_inj e;obtain⟨v1,v2,km⟩:=z7 hk (bs:=[4,4]) (by unfold eE;rw[if_neg dk,if_pos rfl]);subst km;refine vr rfl λx dx nx iG AO=>⟨x,dx,a,[.str "add",v1,v2],v1,v2,rfl,aA,?_,rfl,rfl,rfl,?_⟩
   ·rw[au (bw (hS _ _ ha) nx),au (bw (hS _ _ ha) iG)];exact hS _ _ ha
   ·refine k x dx _ (λb o q=>?_) (hS.free nx) (by rw[aA];rfl);rw[au (bw (hS b o q) nx),au (bw (hS b o q) nx),au (bw (hS b o q) iG)];exact hS b o q
  refine ak _ rfl ⟨rfl,⟨_,rfl,bq (λe=>?_) λn3=>?_⟩⟩
  ·cases str_inj e;obtain⟨v1,v2,km⟩:=z7 hk (bs:=[12,4]) (by unfold eE;rw[if_neg dk,if_neg dk,if_pos rfl]);subst km;refine vr rfl λx dx nx iG AO=>⟨x,dx,a,[.str "set",v1,v2],v1,v2,rfl,aA,?_,rfl,rfl,rfl,?_⟩
   ·rw[au (bw (hS _ _ ha) nx),au (bw (hS _ _ ha) iG)];exact hS _ _ ha
   ·refine k x dx _ (λb o q=>?_) (hS.free nx) (by rw[aA];rfl);rw[au (bw (hS b o q) nx),au (bw (hS b o q) nx),au (bw (hS b o q) iG)];exact hS b o q
  refine ak _ rfl ⟨rfl,⟨_,rfl,bq (λe=>?_) λn4=>?_⟩⟩
  ·cases str_inj e;obtain⟨v1,v2,km⟩:=z7 hk (bs:=[4,12]) (by unfold eE;rw[if_neg dk,if_neg dk,if_neg dk,if_pos rfl]);subst km;refine vr rfl λx dx nx iG AO=>⟨x,dx,a,[.str "look",v1,v2],v1,v2,rfl,aA,?_,rfl,rfl,rfl,?_⟩
   ·rw[au (bw (hS _ _ ha) nx),au (bw (hS _ _ ha) iG)];exact hS _ _ ha
   ·refine k x dx _ (λb o q=>?_) (hS.free nx) (by rw[aA];rfl);rw[au (bw (hS b o q) nx),au (bw (hS b o q) nx),au (bw (hS b o q) iG)];exact hS b o q
  refine ak _ rfl ⟨rfl,⟨_,rfl,bq (λe=>?_) λn5=>?_⟩⟩
  ·cases str_inj e;obtain⟨v1,v2,km⟩:=z7 hk (bs:=[4,12]) (by unfold eE;rw[if_neg dk,if_neg dk,if_neg dk,if_neg dk,if_pos rfl]);subst km;refine vr rfl λx dx nx iG AO=>⟨x,dx,a,[.str "swap",v1,v2],v1,v2,rfl,aA,?_,rfl,rfl,rfl,?_⟩
   ·rw[au (bw (hS _ _ ha) nx),au (bw (hS _ _ ha) iG)];exact hS _ _ ha
   ·refine k x dx _ (λb o q=>?_) (hS.free nx) (by rw[aA];rfl);rw[au (bw (hS b o q) nx),au (bw (hS b o q) nx),au (bw (hS b o q) iG)];exact hS b o q
  refine ak _ rfl ⟨rfl,⟨_,rfl,bq (λe=>?_) λn6=>?_⟩⟩
  ·cases str_inj e;refine vr rfl λx dx nx iG AO=>⟨x,t.uQ,dx,[],a,.str "clear" :: ps,rfl,aA,T.B0,T.afQ,qc,?_,rfl,?_⟩
   ·rw[au (bw (hS _ _ ha) nx),au (bw (hS _ _ ha) iG)];exact hS _ _ ha
   ·refine k x dx _ (λb o q=>?_) (hS.free nx) (by rw[aA];rfl);rw[au (bw (hS b o q) nx),au (bw (hS b o q) nx),au (bw (hS b o q) iG)];exact hS b o q
  have ajZ:=acT hk (nn n1) (nn n2) (nn n3) (nn n4) (nn n5) (nn n6);subst ajZ;obtain⟨v1,v2,km⟩:=z7 hk (bs:=[4,121]) (by unfold eE;rw[if_neg dk,if_neg dk,if_neg dk,if_neg dk,if_neg dk,if_neg dk,if_pos rfl]);subst km;refine vr rfl λx dx nx iG AO=>⟨x,dx,a,[.str "skip",v1,v2],v1,v2,rfl,aA,?_,rfl,rfl,rfl,?_⟩
  ·rw[au (bw (hS _ _ ha) nx),au (bw (hS _ _ ha) iG)];exact hS _ _ ha
  ·refine k x dx _ (λb o q=>?_) (hS.free nx) (by rw[aA];rfl);rw[au (bw (hS b o q) nx),au (bw (hS b o q) nx),au (bw (hS b o q) iG)];exact hS b o q
end
end TL
namespace L2
open PySem PySem.Spec PyProof.Rows
section
variable{X:Cx}
theorem len_K(K:W.Frag)(h:X.K=K:=by rfl):oG X (.builtin "len") (λxs H Q=>∃p ys,xs=[.ref p]/\(aj K H p ys\/aI K H p ys)/\Q (.int ys.length) H):=by subst h;exact fg
theorem MM(K:W.Frag)(h:X.K=K:=by rfl):CV X (vc K):=by subst h;exact aS
theorem ML(K:W.Frag)(h:X.K=K:=by rfl):CV X (tG K):=by subst h;exact bh
theorem Ai(K:W.Frag)(h:X.K=K:=by rfl):Hc X (Ao K):=by subst h;exact Ls
theorem ai9(K:W.Frag)(he:PE X e ta)(hb:Br e f X.env (eval e X.env)=eval e X.env)(h:X.K=K:=by rfl):PE X (.Attribute e f pos) (Nh K ta f):=by subst h;exact bu he hb
end
end L2
namespace L2
open PySem
end L2
namespace L2
open PySem PySem.Spec PyProof.Rows L3
def F7(h:j_)(e:e_)(cls:f_)(dd:Option e_)(tb:f_):Prop:=
 ∃oe vs a0,h.get? e=a_ oe/\oe.cls=cls/\oe.dict=dd/\oe.data=.fields vs/\vs[0]?=a_ a0/\vs[1]?=a_ tb/\(cls≠.ref WL->vs[2]?=a_ .none)
def WM(h:j_)(e T:e_)(fl:f_):Prop:=T≠e/\∃oT ts,h.get? T=a_ oT/\oT.data=.fields ts/\ts[3]?=a_ fl
def CY(h:j_)(e:e_)(cls:f_)(dd:Option e_)(tb:Option e_):Prop:=
 F7 h e cls dd (tb.elim .none di)/\∀T,tb=a_ T->WM h e T .none
def NJ(h:j_)(e:e_)(cls:f_)(dd:Option e_)(T:e_)(fl:f_):Prop:=F7 h e cls dd (.ref T)/\WM h e T fl
theorem ada(o:Obj)(f:Array f_->Array f_):(o.mapFields f).dict=o.dict:=by
 obtain⟨c,d,dt,s⟩:=o;cases dt <;> rfl
section
variable{M:Model}{A:h_}{E:f_->g_->Prop}{s:g_}{base:j_}{env:Env}{outer:List Env}{L e:e_}{cls:f_}{dd:Option e_}{Q:Unit->g_->Prop}
theorem Rk{had:Bool}{vs:Array f_}(jy:A.frames=a_ (env::outer))(hl:s.heap.FunFrames base (env::outer))(hf:env.frame=a_ L)(q:s.heap.get? e=a_ oe)(hc:oe.cls=cls)(xT:oe.dict=dd)
  (hd:oe.data=.fields vs) (h0:vs[0]?=a_ a0) (dP:1<vs.size) (A6:cls≠.ref WL->vs[2]?=a_ .none)
  (k:∀h' T,(∀b o,b∉jP (env::outer)->b≠e->s.heap.get? b=a_ o->h'.get? b=a_ o)->(∀b o,s.heap.get? b=a_ o->b≠e->∃sl,h'.get? b=a_ { o with slots:=sl })->s.heap.objs.size<=T->
   NJ h' e cls dd T (rawInt L)->Q () { s with heap:=h' }) :
  wpAny M A (do let a <-frameOf env;let pl <-entryPlaceOf L had;let b <-aaA head a .none (rawInt L) .none pl;setField (.ref e) 1 b) Q E s:=by
 have lC:e∉jP (env::outer):=λz=>by
  refine oA (hl.mem z) λ_ aa=>af aa λo ho nf=>?_;rw[q]at ho;cases ho;exact nf vs hd
 refine ay (wpAny_frameOf_fun jy hl hf λh1 so=>ay (wpAny_entryPlaceOf λpl hp=>?_));unfold aaA newFields;refine ay (x6 ?_ (hp.sizeOk5 _ _ _ _ _));have q1:=(so.2.1 e lC).trans q;generalize hz:({ cls:=.type "traceback",dict:=b_,data:=.fields ([head,.ref L,.none,rawInt L,.none]++(if pl.isEmpty then eD 6 mj else pl)).toArray }:Obj)=ot;have q2:(h1.push ot).get? e=a_ oe:=b8 _ q1;refine D1 q2 hd dP ?_;have nT:=ur (cH q1);have d3:=DT hd (·.setIfInBounds 1 (di h1.objs.size));have e3:=Bh (zA (·.setIfInBounds 1 (di h1.objs.size))) q2 (P' d3);have fr:ot.isFreed=false:=by rw[<-hz];rfl
 have t3:((h1.push ot).update e (zA (·.setIfInBounds 1 (di h1.objs.size)))).get? h1.objs.size=a_ ot:=by
  rw[vI _ _ (gq nT)];exact ik h1 fr
 have kp:∀b o,b≠e->h1.get? b=a_ o->((h1.push ot).update e (zA (·.setIfInBounds 1 (di h1.objs.size)))).get? b=a_ o:=λb o n z=>by
  rw[vI _ _ (gq n)];exact b8 _ z
 refine k _ h1.objs.size (λb o hb n z=>kp b o n ((so.2.1 b hb).trans z)) (λb o z n=>oE (so.2.2 b o z) λsl z1=>⟨sl,kp b _ n z1⟩) (rJ so.1.symm) (eM ⟨_,_,a0,e3,?_,?_,d3,?_,?_,λz=>by rw[Z9 qc];exact A6 z⟩ nT ⟨ot,_,t3,by rw[<-hz],?_⟩)
 ·rw[aaO];exact hc
 ·rw[ada];exact xT
 ·rw[Z9 qc];exact h0
 ·simp[dP]
 ·first | (simp;done) | (rcases hp with rfl | ⟨_,_,_,_,_,_,_,rfl⟩ <;> simp)
theorem RO{tb:Option e_}(jy:A.frames=a_ (env::outer))(hl:s.heap.FunFrames base (env::outer))(hf:env.frame=a_ L)(x:CY s.heap e cls dd tb)
  (k:∀h' T,(∀b o,b∉jP (env::outer)->b≠e->tb≠a_ b->s.heap.get? b=a_ o->h'.get? b=a_ o)->(∀b o,s.heap.get? b=a_ o->b≠e->tb≠a_ b->∃sl,h'.get? b=a_ { o with slots:=sl })->s.heap.objs.size<=T->
   NJ h' e cls dd T (rawInt L)->Q () { s with heap:=h' }):wpAny M A (noteFrame (.ref e) env) Q E s:=by
 refine oA x λaa ht=>gw aa λoe vs a0 q hc aa=>my aa λxT hd h0 h1 A6=>?_;have dP:1<vs.size:=(P0.mp h1).1;unfold noteFrame;simp only[hf];cases tb with
 | none=>
  refine ay (kz q hd h1 ?_);rw[if_neg qc];exact Rk jy hl hf q hc xT hd h0 dP A6 λh' T a b c d=>k h' T (λx o y z _=>a x o y z) (λx o y z _=>b x o y z) c d
 | some T0=>
  refine oA (ht T0 rfl) λnT aa=>cI aa λoT ts qT dT t3=>ay (kz q hd h1 ?_);show wpAny M A (if (di T0 != mj)=c_ then _ else _) Q E s;rw[if_pos (by simp)];refine ay (kz qT dT t3 ?_);rw[if_neg (show ¬((mj == rawInt L)=c_) by simp[rawInt])];refine ay (D1 qT dT (P0.mp t3).1 ?_);have yP:∀b,b≠T0->(s.heap.update T0 (zA (·.setIfInBounds 3 mj))).get? b=s.heap.get? b:=λb n=>vI _ _ (gq n);refine Rk (s:={ s with heap:=s.heap.update T0 (zA (·.setIfInBounds 3 mj)) }) jy (hl.of_keeps λb o z nf=>⟨o,(yP b λw=>?_).trans z,rfl⟩) hf ((yP e (gq nT)).trans q) hc xT hd h0 dP A6 λh' T a b c d=>?_
  ·rw[w,qT]at z;cases z;exact nf ts dT
  ·refine k h' T (λx o y z n w=>a x o y z ((yP x λv=>n (by rw[v])).trans w)) (λx o w z n=>b x o ((yP x λv=>n (by rw[v])).trans w) z) ?_ d;have c':(s.heap.update T0 (zA (·.setIfInBounds 3 mj))).objs.size<=T:=c;rw[Heap.size_after_update]at c';exact c'
theorem Ea(x:NJ s.heap e cls dd T fl)(k:∀h',(∀b o,b≠T->s.heap.get? b=a_ o->h'.get? b=a_ o)->CY h' e cls dd (a_ T)->Q () { s with heap:=h' }) :
  wpAny M A (setFlight (.ref e) b_) Q E s:=by
 refine bp x λaa nT aH=>gw aa λoe vs a0 q hc aa=>my aa λxT hd h0 h1 A6=>cI aH λoT ts qT dT t3=>?_;have s3:3<ts.size:=(P0.mp t3).1;unfold setFlight;refine ay (kz q hd h1 ?_);rw[if_pos (show (di T != mj)=c_ by simp)];have yP:∀b,b≠T->(s.heap.update T (zA (·.setIfInBounds 3 ((b_:Option e_).elim mj λf=>rawInt f)))).get? b=s.heap.get? b:=λb n=>vI _ _ (gq n);refine D1 qT dT s3 (k _ (λb o n z=>(yP b n).trans z) ⟨⟨oe,vs,a0,(yP e (gq nT)).trans q,hc,xT,hd,h0,h1,A6⟩,λT' z=>?_⟩);cases z;exact⟨nT,⟨_,_,Bh _ qT (P' (DT dT _)),DT dT _,by simp[s3]⟩⟩
end
def jh(P:l_)(w:k_):pL:=λouter H s E e s'=>∃ea c dd T H',e=.ref ea/\s'.os=s.os/\AllBare s'.gens/\Un (jP outer) [] H H' s.heap s'.heap/\gz P w H' s'.heap/\CY s'.heap ea c dd (a_ T)/\
 s.heap.objs.size<=ea/\s.heap.objs.size<=T/\H' ea=b_/\H' T=b_/\E c dd H'
structure Ce(X:Cx)(p_:List (e_×Obj))(σ:St)(H:Hp)(s:g_)(ea:e_)(c:f_)(dd tb:Option e_):Prop where
 inv:Inv X p_ σ H s
 GJ:CY s.heap ea c dd tb
 fe:gU X p_ H ea
 ft:∀T,tb=a_ T->gU X p_ H T
abbrev WX:=St->XK
def wW(X:Cx)(W:WX):Prop:=∀(p_:List (e_×Obj)) (σ:St) (H:Hp) (s:g_) (ea:e_) (c:f_) (dd tb:Option e_),Ce X p_ σ H s ea c dd tb->W σ c dd H->X.xe (.ref ea) s
section
variable{X:Cx}{p_:List (e_×Obj)}{σ:St}{H:Hp}{s:g_}
theorem RW{h':j_}{ch:List e_}(I:Inv X p_ σ H s)(hc:∀b∈ch,H b=b_)(k:∀b o,b∉jP X.stack->b∉ch->s.heap.get? b=a_ o->h'.get? b=a_ o):gz X.prog X.w H h':=λb u e=>by
 refine(I.aQ b u e).qO (λd v hd q=>k d v (λz=>?_) (λz=>?_) q) (λ_ q=>q) λ_ _ q=>q
 ·have n:=I.EJ d z;rcases hd with w | w
  ·rw[w,e]at n;cases n
  ·rw[w]at n;cases n
 ·have n:=hc d z;rcases hd with w | w
  ·rw[w,e]at n;cases n
  ·rw[w]at n;cases n
theorem ad9{P:l_}{w:k_}{K:PySem.W.Frag}{mg:Str->Option f_}{base:j_}{N:List Str}{qual:Str}{scope:i_}{f:e_}{cd:f_}{A:h_}{outer:List Env}{s0:g_}{H0:Hp}{E:XK} :
  wW (nG (jh P w) P w K mg base N qual scope f cd A outer s0 H0 E) (λ_=>E):=by
 intro p_ σ H s ea c dd tb x hE;show wpAny (model P w) (A.deeper (envOfC qual scope s0.heap.objs.size f cd)) (leaving (envOfC qual scope s0.heap.objs.size f cd) (.ref ea)) (λ_ yO=>jh P w outer H0 s0 E (.ref ea) yO) (λe' yO=>jh P w outer H0 s0 E e' yO) s;have I:=x.inv
 have ZE:s0.heap.objs.size<=ea:=by
  rcases x.fe.2.2.2.1 with z | z
  ·exact absurd (show ea∈([]:List e_) from z) (by simp)
  ·exact z
 have tN:∀T,tb=a_ T->s0.heap.objs.size<=T:=λT z=>by
  rcases(x.ft T z).2.2.2.1 with y | y
  ·exact absurd (show T∈([]:List e_) from y) (by simp)
  ·exact y
 unfold leaving;refine ay (RO (base:=base) I.ok.frames I.stack rfl x.GJ λh1 T k1 k2 hT Pe=>Ea Pe λh2 k3 PB=>?_);have yS:∀{b:e_} {o:Obj},s0.heap.get? b=a_ o->b<s0.heap.objs.size:=λe=>cH e;have sN:s0.heap.objs.size<=s.heap.objs.size:=I.sz;have OD:∀{b:e_},b<s0.heap.objs.size->b≠T:=λh z=>absurd (gI h (cC sN hT)) (by rw[z];exact mh _);have OE:∀{b:e_},b<s0.heap.objs.size->b≠ea:=λh z=>absurd (gI h ZE) (by rw[z];exact mh _);have OF:∀{b:e_},b<s0.heap.objs.size->tb≠a_ b:=λh z=>absurd (gI h (tN _ z)) (mh _)
 have nL0:∀{b:e_},b<s0.heap.objs.size->b∉jP outer->b∉jP (envOfC qual scope s0.heap.objs.size f cd::outer):=λh z y=>by
  rcases I.EV _ y |> cV.mp with u | u
  ·exact absurd h (by rw[u];exact mh _)
  ·exact z u
 have Hq:∀{b:e_} {o:Obj},s.heap.get? b=a_ o->b≠T:=λe z=>absurd (gI (cH e) hT) (by rw[z];exact mh _)
 have alz:gz P w H h2:=by
  refine RW (ch:=ea::tb.toList) I (λb hb=>?_) λb o hb hc e=>k3 b o (Hq e) (k1 b o hb (λz=>hc (by rw[z];exact hX)) (λz=>hc (gE _ (by rw[z];simp))) e);rcases cV.mp hb with z | z
  ·rw[z];exact x.fe.1
  ·cases tb with
   | none=>simp at z
   | some T0=>
    have z':b=T0:=by simpa using z
    rw[z'];exact(x.ft T0 rfl).1
 refine⟨ea,c,dd,T,H,rfl,I.os,I.bare,⟨λb o e n hb hx=>?_,λb o e n hb hx=>?_,I.base.free,λb o e hx=>?_,I.base.qN,I.base.p0,I.base.pX⟩,alz,PB,ZE,(cC sN hT),x.fe.1,⟨I.aQ.fresh hT,hE⟩⟩
 ·have l:=yS e;exact k3 b o (OD l) (k1 b o (nL0 l hb) (OE l) (OF l) (I.base.keep b o e n hb hx))
 ·have l:=yS e;exact oE (I.base.slot b o e n hb hx) λsl q=>oE (k2 b _ q (OE l) (OF l)) λC9 q'=>⟨C9,k3 b _ (OD l) q'⟩
 ·have l:=yS e;exact oE (I.base.there b o e hx) λo' q=>oE (k2 b _ q (OE l) (OF l)) λC9 q'=>⟨_,k3 b _ (OD l) q'⟩
theorem ach(I:Inv X p_ σ H s)(h:jh X.prog X.w X.stack H s E e s'):∃ea c dd T H',e=.ref ea/\Ce X p_ σ H' s' ea c dd (a_ T)/\E c dd H':=by
 refine lG h λea c dd T H' aa os bare un aQ aH=>?_;subst aa;exact iO aH λfl l1 l2 n1 n2 q=>⟨ea,c,dd,T,H',rfl,⟨I.MT os un aQ bare λb z=>absurd z (by simp),fl,I.iY l1 n1,λT' z=>by cases z;exact I.iY l2 n2⟩,q⟩
end
def agq(sp:Sp)(dvs:List V)(W:WX)(t:TA):TE:=λσ H Q=>t σ H λvs H1=>sp (vs++dvs) H1 Q (W σ)
section
variable{X:Cx}{k:Nat}{f C:e_}{fd:iJ}{ps:List Str}{sp:Sp}{dvs:List V}{ds:List f_}{W:WX}{x m:Str}{p pos apos:Pos}{e o:Expr}{es:List Expr}{ta:TE}{t:TA}{P:l_}{w:k_}
theorem afa(F:ax X.prog X.w X.K X.mg X.base (jh X.prog X.w) k f fd ps sp)(hr:fJ k X.A)(hb:Binds X.K fd ps ds)(hd:Vals dvs ds)(hx:wW X W)
  (I:Inv X p_ σ H s) (r:Vals vs us) (h:sp (vs++dvs) H Q (W σ)):wpAny (model X.prog X.w) X.A (call (.ref f) us) (EP X p_ σ Q) X.xe s:=by
 have r2:=r.append hd;have hl:(us++ds).length=ps.length:=by rw[<-r2.length];exact F.len _ _ _ _ h
 refine uw (zG (F.run X.A X.stack s H ⟨us,[]⟩ (us++ds) (vs++dvs) Q (W σ) hr I.FY (hb s us I.dF hl) r2 h) λr s' hq=>?_);cases r with
 | error e=>
  refine kY (ach I hq) λea c dd T H' aa=>bp aa λaa x hE=>?_;subst aa;exact hx _ _ _ _ _ _ _ _ x hE
 | ok fl=>
  cases fl with
  | ret u=>exact I.after hq
  | next=>exact jm hq
  | brk=>exact jm hq
  | cont=>exact jm hq
theorem SX(F:ax P w X.K X.mg X.base (jh P w) k f fd ps sp)(hr:fJ k X.A)(hL:wW X W)(hg:Gl X x)(hm:X.mg x=a_ (.ref f))(hk:PySem.W.keepIn X.K (.ref f)=c_)(hb:Binds X.K fd ps ds)(hd:Vals dvs ds)
  (ha:PA X (e::es) t) (hP:X.prog=P:=by rfl) (hw:X.w=w:=by rfl) (lD:(x == ("__debug__" : Str))=false:=by decide) (he:cQ (e::es) X.env=(d_,eval e X.env)::cQ es X.env:=by rfl) (ee:(backTo pos (cQ es X.env)).any (·.1)=false:=by rfl) :
  PE X (.Call (.Name x p) (e::es) [] pos) (agq sp dvs W t):=by
 subst hP hw;intro p_ s σ H Q I h;refine uk (uE I hg hm ?_ lD);refine PySem.W.callWith_K (h₀:=X.base) I.ok.mod.qX hk (lU (ha pos p_ s σ H _ I h) λus s1 vs H1 I1 r q=>⟨I1.dF,?_⟩) he ee;exact afa F hr hb hd hL I1 r q
end
section
variable{P:l_}{w:k_}{K:PySem.W.Frag}{mg:Str->Option f_}{base:j_}
theorem aV.CP{st:Stmt}{k:Nat}{sp:Sp}(F:aV K x qual st f fd)(S:ba N ps (aT st))(len:∀vs H Q E,sp vs H Q E->vs.length=ps.length)
  (uZ:∀(aL:f_) (A:h_) (outer:List Env) (s:g_) (H:Hp) (vs:List V) (Q:VK) (E:XK),fJ k (A.deeper (envOfC qual (aT st) s.heap.objs.size f aL))->
   wW (nG (jh P w) P w K mg base N qual (aT st) f aL A outer s H E) (λ_=>E)->
   iI (model P w) (A.deeper (envOfC qual (aT st) s.heap.objs.size f aL)) (envOfC qual (aT st) s.heap.objs.size f aL) (nG (jh P w) P w K mg base N qual (aT st) f aL A outer s H E).xe->sp vs H Q E->
   ∃t,eV (nG (jh P w) P w K mg base N qual (aT st) f aL A outer s H E) (ir st) t/\t { nx:=λ_ H'=>Q .aJ H',rt:=Q } (start N vs) H):ax P w K mg base (jh P w) (k+1) f fd ps sp:=by
 obtain⟨oc,od,kV,doc,pm,an,aL,ct,jG,aa,aH⟩:=F.ex;subst aa;exact oA aH λlk jj=>wO lk jj S len λA outer s H vs Q E hr rh=>uZ aL A outer s H vs Q E hr ad9 iI.leaving rh
end
end L2
namespace L2
open PySem PySem.Spec PyProof.Rows L3
open Sem (wp)
def tW(h:j_)(C:e_)(oi:Option f_):Prop:=∃nm q N bs bm xv sn sub ab col dd k0 k1 k2 k3 k5 mN,h.get? C=a_ (excClassObj nm q C N bs bm xv sn sub ab col dd k0 k1 k2 k3 k5 "ValueError.__new__")/\h.Ns N mN/\mN "__init__" = oi/\OwnTail h xk bm
theorem tW.keeps{oi:Option f_}(x:tW h C oi)(k:∀b o,h.get? b=a_ o->h'.get? b=a_ o):tW h' C oi:=by
 exact lF x λnm q N bs bm xv sn sub ab col aa=>D9 aa λdd k0 k1 k2 k3 k5 mN hC hN hi T=>⟨nm,⟨q,N,bs,bm,xv,sn,sub,ab,col,dd,k0,k1,k2,k3,k5,mN,k _ _ hC,hN.keeps k,hi,T.keeps k⟩⟩
def F5(K:W.Frag)(C:e_):Prop:=W.excIn K C xk "ValueError.__new__" = c_
theorem F5.at{K:W.Frag}(x:F5 K C)(X:K.In h):tW h C none:=by
 unfold F5 W.excIn at x
 split at x
 ·rename_i dd cd sl ho
  split at x
  ·rename_i C' bm k0 k1 k2 k3 n k5 hm hs
   simp only[i9,beq_iff_eq,Qq]at x;refine oA x λaa qm=>oA aa λaa aQ=>oA aa λaa ht=>oA aa λaa CL=>oA aa λe1 e2=>?_;subst e1 e2;obtain⟨nm,bs,mro,ns,qn,hd,sn,sub,ab,col,del⟩:=cd;dsimp only at hm CL aQ qm;subst hm CL
   have OT:sl=#[k0,k1,k2,k3,a_ (.builtin "ValueError.__new__"),k5]:=by
    obtain⟨l⟩:=sl;exact congrArg EH hs
   subst OT;exact⟨nm,⟨qn,ns,bs,bm,hd,sn,sub,ab,col,dd,k0,k1,k2,k3,k5,_,X _ _ ho,.of_isNs (W.isNs_of_in X aQ),W.nsMap_none_of_in X aQ qm,W.tail_of_in X ht⟩⟩
  ·cases x
 ·cases x
section
variable{prog:l_}{w:k_}{A:h_}{E:f_->g_->Prop}{h:j_}{g:Array GenState}{d:Drawn}{t:Nat}{os:OsState}{C:e_}
abbrev newX(C t:e_):Obj:={ cls:=.ref C,data:=.fields #[.ref t,.none,.none,.none,.bool d_,.none] }
abbrev CD(us:List f_):Obj:={ cls:=.type "tuple",data:=.seq us.toArray }
theorem aer{Q:Fin->g_->Prop}(x:tW h C b_)(hz:us.length<=cW)
  (hq:∀h' t',(∀b o,h.get? b=a_ o->h'.get? b=a_ o)->h'.get? (h.objs.size+1)=a_ (newX C t')->Q (.done (.ret (.ref (h.objs.size+1)))) ⟨h',g,d,t,os⟩) :
  wpAny (model prog w) A (Builtin.«type.__call__» ⟨.ref C::us,[]⟩) Q E ⟨h,g,d,t,os⟩:=by
 refine lF x λnm q N bs bm xv sn sub ab col aa=>D9 aa λdd k0 k1 k2 k3 k5 mN hC hN hi T=>?_;have Fv:=PySem.F.excBase_ValueError
 repeat (first | (with_reducible refine vN hC ?_) | (with_reducible refine wpAny_madeBy_exc hC ?_) | wp_step)
 refine aai (IG _ Fv.quiet) (wpAny_check_new_subU Fv rfl T hC (codeAny_exc_new_subU Fv rfl Fv T hC ?_ hz));show wpAny _ _ _ _ _ _;have kk:∀b o,h.get? b=a_ o->((h.push { cls:=.type "tuple",data:=.seq us.toArray }).push { cls:=.ref C,data:=.fields #[.ref h.objs.size,.none,.none,.none,.bool d_,.none] }).get? b=a_ o:=λb o z=>b8 _ (b8 _ z);have c1:=kk _ _ hC;have n1:=hN.keeps kk;have T1:=T.keeps kk;have ge:((h.push { cls:=.type "tuple",data:=.seq us.toArray }).push { cls:=.ref C,data:=.fields #[.ref h.objs.size,.none,.none,.none,.bool d_,.none] }).get? (h.objs.size+1)=a_ { cls:=.ref C,data:=.fields #[.ref h.objs.size,.none,.none,.none,.bool d_,.none] }:=by heap_get
 have cc:(di C::bm).contains (.ref C)=true:=by simp
 unfold Bz
 repeat (first | (with_reducible refine vN ge ?_) | (with_reducible refine Qh c1 ?_;rw[cc]) | wp_step)
 show wpAny _ _ (Ei (.ref C) _) _ _ _;refine wpAny_typeLookup_tail c1 n1 T1 Fv.mroIs Fv.init.lookup ?_;rw[hi];refine pP (ay (wpAny_of_eq (Fv.init.bind _) (ay (uw (Qf Fv.init.plain Fv.initEntry (wpAny_check_init_subU Fv T1 c1 ge rfl ?_))))))
 wp_walk
 refine hq _ (h.objs.size+2) (λb o z=>?_) ?_
 ·rw[vI _ _ (ur (Qo (cH z)))];exact b8 _ (kk b o z)
 ·rw[Bh _ (b8 _ ge) rfl];simp only[qy];rfl
theorem aes(x:tW h C b_)(hz:us.length<=cW)
  (hq:∀h' t',(∀b o,h.get? b=a_ o->h'.get? b=a_ o)->h'.get? (h.objs.size+1)=a_ (newX C t')->Q (.ref (h.objs.size+1)) ⟨h',g,d,t,os⟩) :
  wpAny (model prog w) A (call (.ref C) us) Q E ⟨h,g,d,t,os⟩:=by
 refine lF (id x) λnm q N bs bm xv sn sub ab col aa=>RL aa λdd k0 k1 k2 k3 k5 mN hC r=>?_;have f1:=tc_lookup;have f2:=tc_bind (.ref C);have hT:(⟨h,g,d,t,os⟩:g_).TypeIs (.ref C) "type":=⟨_,hC,rfl⟩;refine uw (codeAny_of_tree ?_);show wpAny _ _ (callAny (.ref C) _) _ _ _
 repeat (any_goals (first | assumption | (with_reducible refine vN hC ?_) | wp_step))
 exact⟨rfl,aap (IG _ dk) entry_typeCall (aah hC (aer x hz λh' t' k q=>hq h' t' k q))⟩
end
section
variable{M:Model}{A:h_}{E:f_->g_->Prop}{s:g_}{env:Env}{C:e_}
theorem Q7{x:Sem f_}{Q:Flow->g_->Prop}(hh:A.handled=b_)
  (k:wpAny M A x (λv s1=>∃e oe vs a0 oi,v=.ref e/\tW s1.heap C oi/\s1.heap.get? e=a_ oe/\oe.cls=.ref C/\oe.data=.fields vs/\vs[0]?=a_ a0/\vs[1]?=a_ .none/\E (.ref e) s1) E s) :
  wpAny M A (raiseStmt env (a_ x) b_) Q E s:=by
 unfold raiseStmt;refine ay (ja k (λv s1 z=>?_) λ_ _ y=>y);refine lG z λe oe vs a0 oi aa aH he hc hd oX=>?_;subst aa;refine lF aH λnm q N bs bm xv sn sub ab col aa=>D9 aa λdd k0 k1 k2 k3 k5 mN hC hN hi T=>bp oX λh0 h1 hE=>?_;have cB:(di C::bm).contains (.type "BaseException")=true:=by rw[List.contains_cons,T.hasType (show xk.contains (.type "BaseException")=c_ from rfl),Bool.or_true]
 obtain⟨oc,od,oda,jG⟩:=oe;dsimp only at hc hd;subst hc hd;obtain⟨hp,g,d,tk,os⟩:=s1
 repeat (first | (with_reducible refine vN he ?_) | (with_reducible refine vN hC ?_) | (with_reducible refine Qh hC ?_;rw[cB]) | wp_step)
 rw[h1];refine a7 ?_;rw[if_neg qc];exact a7 (wpAny_raiseNew_none hh hE)
end
end L2
namespace L2
open PySem PySem.Spec PyProof.Rows L3
structure XC(K:PySem.W.Frag)(C:e_):Prop where
 exc:F5 K C
 kp:PySem.W.keepIn K (.ref C)=c_
def agn(C:e_)(W:WX)(t:TA):TS:=λ_ σ H=>t σ H λvs H1=>vs.length<=cW/\W σ (.ref C) b_ H1
section
variable{X:Cx}{W:WX}{C:e_}{x:Str}{np oQ pos:Pos}{e:Expr}{es:List Expr}{t:TA}
theorem Kd(hc:X.calm=c_)(hL:wW X W)(xc:XC X.K C)(hg:Gl X x)(hm:X.mg x=a_ (.ref C))(ha:PA X (e::es) t)(lD:(x == ("__debug__" : Str))=false:=by decide)
  (he:cQ (e::es) X.env=(d_,eval e X.env)::cQ es X.env:=by rfl) (ee:(backTo oQ (cQ es X.env)).any (·.1)=false:=by rfl) :
  PS X (.Raise (a_ (.Call (.Name x np) (e::es) [] oQ)) b_ pos) (agn C W t):=by
 intro p_ s σ H D I h;rw[arm_exec_Raise];refine ay (zy (Q7 (C:=C) (I.ok.hd hc) (ay (ja ?_ (λv s3 z=>ay (zy (a7 z))) λ_ _ y=>y))));refine uk (uE I hg hm ?_ lD);refine PySem.W.callWith_K (h₀:=X.base) I.ok.mod.qX xc.kp (lU (ha oQ p_ s σ H _ I h) λus s1 vs H1 I1 r zq=>oA zq λhz q=>⟨I1.dF,?_⟩) he ee;have xa:=xc.exc.at I1.dF;obtain⟨h1,g1,d1,t1,Yu⟩:=s1;refine aes xa (by rw[Bo,<-r.length];exact hz) λh' t' k ge=>?_;have I2:=I1.kept (t':=t1) k;refine eY _ _ _ _ (⟨_,rfl,(xa.keeps k),ge,rfl,rfl,rfl,rfl,(hL _ _ _ _ _ _ _ (tb:=b_) ⟨I2,⟨⟨_,_,_,ge,rfl,rfl,rfl,rfl,rfl,λ_=>rfl⟩,λT z=>by cases z⟩,I1.iY (lH _) (I1.aQ.fresh (lH _)),λT z=>by cases z⟩ q)⟩)
end
section
variable{M:Model}{A:h_}{E:f_->g_->Prop}{s:g_}
theorem Ra{K:PySem.W.Frag}{dd:Option e_}{b:Bool}{Q:Bool->g_->Prop}(X:K.In s.heap)(he:F7 s.heap ea c dd tb)(hb:PySem.W.kitCls K c cv=a_ b)(hx:PySem.W.kitCls K cv (.type "BaseException")=a_ c_)
  (hq:Q b s):wpAny M A (excMatches (.ref ea) cv) Q E s:=by
 refine bp (PySem.W.kit_cls (M:=M) X hb) λl1 l2 l3=>bp (PySem.W.kit_cls (M:=M) X hx) λ_ _ m3=>gw he λoe vs a0 q hc _=>?_;have nt:=tc_notTuple;unfold excMatches Bz;refine ay (ay (l1.at ?_));rw[nt];refine a7 ?_;rw[if_neg dY];refine ay (a7 ?_);simp only[zx,List.forIn_nil];unfold isExcClass;refine ay (ay (ay (ay (l2.at ?_))));rw[if_pos rfl];refine m3.at ?_;simp only[Bool.not_true,xZ,if_false];refine a7 (a7 ?_);obtain⟨hp,g,d,tk,os⟩:=s;unfold typeOf;refine ay (ay (vN q (a7 ?_)));rw[hc];refine ay (ay (ay (l3.at ?_)));cases b with
 | true=>exact a7 (a7 (a7 hq))
 | false=>exact a7 (a7 (a7 hq))
end
abbrev Cx.body(X:Cx)(pn:List (e_×Obj))(E:f_->g_->Prop):Cx:={ X with pn:=pn,xe:=E }
abbrev Cx.lg(X:Cx)(ea:e_)(pn:List (e_×Obj)):Cx:={ X with A:=X.A.mark (a_ (.ref ea)),calm:=d_,pn:=pn,xe:=λ_ _=>False }
section
variable{X:Cx}{p_ pl:List (e_×Obj)}{σ:St}{H:Hp}{s:g_}{ea:e_}{E:f_->g_->Prop}
theorem afp(ok:X.Ok)(pn:List (e_×Obj))(E:f_->g_->Prop):(X.body pn E).Ok:=
 ⟨ok.mod,ok.kind,ok.glob,ok.blt,ok.above,ok.inj,ok.has,ok.xC,ok.hd,ok.frames,ok.yH,ok.vm,ok.bs,ok.oU,ok.xg,ok.vd,ok.oJ,ok.tT⟩
theorem acC(ok:(X.body pn E).Ok):X.Ok:=
 ⟨ok.mod,ok.kind,ok.glob,ok.blt,ok.above,ok.inj,ok.has,ok.xC,ok.hd,ok.frames,ok.yH,ok.vm,ok.bs,ok.oU,ok.xg,ok.vd,ok.oJ,ok.tT⟩
theorem adJ(ok:X.Ok)(ea:e_)(pn:List (e_×Obj)):(X.lg ea pn).Ok:=
 ⟨ok.mod,ok.kind,ok.glob,ok.blt,ok.above,ok.inj,ok.has,ok.xC,λz=>(by cases z),ok.frames,ok.yH,ok.vm,ok.bs,ok.oU,ok.xg,ok.vd,ok.oJ,ok.tT⟩
theorem Inv.body(I:Inv X p_ σ H s)(E:f_->g_->Prop):Inv (X.body (X.pn++p_) E) [] σ H s:=
 ⟨afp I.ok _ E,I.os,I.bare,I.base,I.loc,I.cell,I.free,I.lj,λp hp=>I.pin p (by simpa using hp),I.aQ,I.len⟩
theorem Inv.uH(I:Inv (X.body (X.pn++p_) E) pl σ H s):Inv X p_ σ H s:=
 ⟨acC I.ok,I.os,I.bare,I.base,I.loc,I.cell,I.free,I.lj,λp hp=>I.pin p (pO _ hp),I.aQ,I.len⟩
theorem Inv.lg(I:Inv X p_ σ H s)(ea:e_):Inv (X.lg ea (X.pn++p_)) [] σ H s:=
 ⟨adJ I.ok ea _,I.os,I.bare,I.base,I.loc,I.cell,I.free,I.lj,λp hp=>I.pin p (by simpa using hp),I.aQ,I.len⟩
theorem Inv.v8(ok:X.Ok)(I:Inv (X.lg ea (X.pn++p_)) pl σ H s):Inv X p_ σ H s:=
 ⟨ok,I.os,I.bare,I.base,I.loc,I.cell,I.free,I.lj,λp hp=>I.pin p (pO _ hp),I.aQ,I.len⟩
theorem gU.body(f:gU (X.body (X.pn++p_) E) pl H b):gU X p_ H b:=
 ⟨f.1,f.2.1,f.2.2.1,f.2.2.2.1,f.2.2.2.2.1,λp hp=>f.2.2.2.2.2 p (pO _ hp)⟩
theorem SP.uH{f:Flow}(h:SP (X.body (X.pn++p_) E) pl D f s):SP X p_ D f s:=by
 cases f with
 | next=>obtain⟨σ',H',I,q⟩:=h;exact⟨σ',H',I.uH,q⟩
 | brk=>obtain⟨σ',H',I,q⟩:=h;exact⟨σ',H',I.uH,q⟩
 | cont=>obtain⟨σ',H',I,q⟩:=h;exact⟨σ',H',I.uH,q⟩
 | ret u=>obtain⟨v,σ',H',I,r,q⟩:=h;exact⟨v,σ',H',I.uH,r,q⟩
theorem RS{dd tb:Option e_}{Q:Unit->g_->Prop}(hs:X.stack=X.env::X.outer)(hf:X.env.frame=a_ X.env.locals)(x:Ce X p_ σ H s ea c dd tb)
  (k:∀h' T,Inv X p_ σ H { s with heap:=h' }->CY h' ea c dd (a_ T)->gU X p_ H ea->gU X p_ H T->Q () { s with heap:=h' }) :
  wpAny (model X.prog X.w) X.A (noteFrame (.ref ea) X.env) (λ_ s2=>wpAny (model X.prog X.w) X.A (setFlight (.ref ea) b_) Q E' s2) E' s:=by
 have I:=x.inv;have st:=I.stack;have fr:=I.ok.frames;rw[hs]at st fr;refine RO (base:=X.base) fr st hf x.GJ λh1 T k1 k2 hT Pe=>Ea Pe λh2 k3 PB=>?_;have Hq:∀{b:e_} {o:Obj},s.heap.get? b=a_ o->b≠T:=λe z=>absurd (gI (cH e) hT) (by rw[z];exact mh _)
 have nS:∀b∈ea::tb.toList,gU X p_ H b:=λb hb=>by
  rcases cV.mp hb with z | z
  ·rw[z];exact x.fe
  ·cases tb with
   | none=>simp at z
   | some T0=>
    have z':b=T0:=by simpa using z
    rw[z'];exact x.ft T0 rfl
 have n1:∀{b:e_},b∉ea::tb.toList->b≠ea:=λh z=>h (by rw[z];exact hX);have n2:∀{b:e_},b∉ea::tb.toList->tb≠a_ b:=λh z=>h (gE _ (by rw[z];simp));have kk:=λb o hb hc e=>k3 b o (Hq e) (k1 b o (by rw[<-hs];exact hb) (n1 hc) (n2 hc) e)
 have ks:∀b o,b∉ea::tb.toList->s.heap.get? b=a_ o->∃sl,h2.get? b=a_ { o with slots:=sl }:=λb o hc e=>by
  exact oE (k2 b o e (n1 hc) (n2 hc)) λsl q=>⟨sl,k3 b _ (Hq e) q⟩
 have I2:Inv X p_ σ H { s with heap:=h2 }:=I.call (g':=s.gens) (d':=s.drawn) (t':=s.toks) (ch:=ea::tb.toList)
  ⟨λb o e n hb hx=>kk b o hb hx e,λb o e n hb hx=>ks b o hx e,λ_ _ _ n _=>n,λb o e hx=>let ⟨sl,q⟩:=ks b o hx e;⟨_,q⟩,λ_ _ e=>e,λ_ _ _ e=>e,λb ps e=>⟨#[],by rw[e];simp⟩⟩
  (RW I (λb hb=>(nS b hb).1) kk) I.bare λb hb=>⟨(nS b hb).2.2.2.1,(nS b hb).2.1,(nS b hb).2.2.2.2.1,(nS b hb).2.2.2.2.2⟩
 exact k h2 T I2 PB x.fe (I.iY hT (I.aQ.fresh hT))
end
def tV(ea:e_)(c:f_)(dd:Option e_):HO:=.ext λh=>∃o vs,h.get? ea=a_ o/\o.cls=c/\o.dict=dd/\o.data=.fields vs
theorem ahv{P:l_}{w:k_}{dd:Option e_}(x:F7 h ea c dd tb):hZ P w H h ea (tV ea c dd):=by
 exact gw x λoe vs a0 q hc aa=>bp aa λxT hd _=>eM ⟨oe,vs,q,hc,xT,hd⟩ ⟨oe,q⟩ λh1 h2 ⟨o,vs,e,r⟩ k=>⟨o,vs,k o e,r⟩
section
variable{X:Cx}{p_:List (e_×Obj)}{σ:St}{H:Hp}{s:g_}
theorem ES{M:Model}{i:Nat}{Q:Unit->g_->Prop}(I:Inv X p_ σ H s)(hN:X.N.Nodup)(hi:X.N[i]?=a_ n)(hl:X.env.scope.names.lookup n=a_ .local)
  (k:∀s',Inv X p_ (σ.set i b_) H s'->Q () s'):wpAny M A (do bindName X.env n .none;unbindBehindTheSuite X.env n pos) Q E s:=by
 refine af (id I.loc) λm hn xR=>?_;have N6:(X.env.scope.kind == .class||(X.env.scope.kind == .module&&X.env.locals != X.env.globals))=false:=by rw[I.ok.kind];rfl
 have O4:i < σ.length:=by rw[I.len];exact(dX.mp hi).1
 refine wpAny_nameGoes_keeps hl hn N6 λh' v y0 hs=>k _ ?_;have yS:∀{b:e_} {o:Obj},X.s₀.heap.get? b=a_ o->b≠X.env.locals:=λe=>gh (gI (cH e) I.ok.above);refine⟨I.ok,I.os,I.bare,⟨λb o e n hb hx=>(hs.2 b (yS e)).trans (I.base.keep b o e n hb hx),λb o e n hb hx=>let ⟨sl,q⟩:=I.base.slot b o e n hb hx;⟨sl,(hs.2 b (yS e)).trans q⟩,I.base.free,λb o e hx=>let ⟨o',q⟩:=I.base.there b o e hx;⟨o',(hs.2 b (yS e)).trans q⟩,I.base.qN,I.base.p0,I.base.pX⟩,⟨_,y0,λj y v' e1 e2 e3=>?_⟩,λy c e=>let ⟨u,z⟩:=I.cell y c e;⟨u,z.sameBut hs (I.vo y c e)⟩,I.free,I.lj,λp hp=>let ⟨e,n,ne,r⟩:=I.pin p hp;⟨(hs.2 p.1 ne).trans e,n,ne,r⟩,λb u e=>?_,by simpa using I.len⟩
 ·by_cases hj:j=i
  ·subst hj;rw[jz O4]at e2;cases e2
  ·rw[zt (gq hj)]at e2;refine af (xR j y v' e1 e2 e3) λu r q=>ak u r ?_;rcases q with ⟨kd,e⟩ | ⟨kd,c,e,z⟩
   ·refine .inl ⟨kd,?_⟩;have ny:y≠n:=λz=>hj (Ki hN e1 (z ▸ hi));show (if y=n then v else m y)=a_ u;rw[if_neg ny];exact e
   ·exact .inr ⟨kd,⟨c,e,z.sameBut hs (I.vo y c e)⟩⟩
 ·refine(I.aQ b u e).qO (λd w hd q=>(hs.2 d λz=>?_).trans q) (λ_ q=>q) λ_ _ q=>q;have fr:=I.free;rw[<-z]at fr;rcases hd with y | y
  ·rw[y,e]at fr;cases fr
  ·rw[y]at fr;cases fr
end
def agm(K:PySem.W.Frag)(cv:f_)(i:Nat)(tb:WX->TS)(ts:TS):TS:=λD σ H=>tb (λσ' c dd H'=>PySem.W.kitCls K c cv=a_ c_/\
 ∀ea,H' ea=b_->ts ⟨λσ2 H2=>D.nx (σ2.set i b_) H2,D.rt,λσ2 H2=>D.bk (σ2.set i b_) H2,λσ2 H2=>D.ct (σ2.set i b_) H2⟩ (σ'.set i (a_ (.ref ea))) (upd H' ea (tV ea c dd))) D σ H
def air(K:PySem.W.Frag)(cv:f_)(tb:WX->TS)(ts:TS):TS:=λD σ H=>tb (λσ' c dd H'=>PySem.W.kitCls K c cv=a_ c_/\ts D σ' H') D σ H
section
variable{X:Cx}{body:List Stmt}{b0:Stmt}{lg:List Stmt}{x n:Str}{np AB pos:Pos}{tb:WX->TS}{ts:TS}{cv:f_}{i:Nat}
theorem adD(hs:X.stack=X.env::X.outer)(hf:X.env.frame=a_ X.env.locals)(hx:X.ex=[])(hN:X.N.Nodup)(hi:X.N[i]?=a_ n)(hl:X.env.scope.names.lookup n=a_ .local)
  (hg:Gl X x) (hm:X.mg x=a_ cv) (HX:PySem.W.kitCls X.K cv (.type "BaseException")=a_ c_)
  (hb:∀(W:WX) (pn:List (e_×Obj)) (E:f_->g_->Prop),wW (X.body pn E) W->iI (model X.prog X.w) X.A X.env E->eV (X.body pn E) body (tb W))
  (OS:∀(ea:e_) (pn:List (e_×Obj)),eV (X.lg ea pn) (b0::lg) ts) (lD:(x == ("__debug__" : Str))=false:=by decide) :
  PS X (.Try body [.ExceptHandler (a_ (.Name x np)) (a_ n) (b0::lg) AB] [] [] pos) (agm X.K cv i tb ts):=by
 intro p_ s σ H D I h;have ok:=I.ok;refine wpAny_Try_except (ja (hb _ (X.pn++p_) _ ?_ aaN [] s σ H D (I.body _) h) (λf s1 q=>?_) λ_ _ y=>y)
 ·-- the exception
  intro pl σ1 H1 s1 ea c dd Om x1 hW;refine oA hW λhk hW=>?_;have x2:Ce X p_ σ1 H1 s1 ea c dd Om:=⟨x1.inv.uH,x1.GJ,x1.fe.body,λT z=>(x1.ft T z).body⟩;refine RS hs hf x2 λh' T I2 fl fe fT=>?_;have I3:=I2.lg ea;refine wpAny_handleBy_cons (aau (uE (X:=X.lg ea (X.pn++p_)) I3 hg hm ?_ lD)) (by intro z;cases z);refine Ra I3.dF fl.1 hk HX (codeAny_handlers_suite_as (Ea (T:=T) (fl:=.none) ⟨fl.1,fl.2 T rfl⟩ λh3 k3 Zy=>?_));have I4:Inv X p_ σ1 H1 { s1 with heap:=h3 }:=Inv.turned (s:={ s1 with heap:=h' }) (h':=h3) (t':=s1.toks) (it:=T) I2 (λb o hb e=>k3 b o hb e) fT.1 fT.2.1 fT.2.2.2.1 fT.2.2.2.2.1 fT.2.2.2.2.2
  have ya:X.s₀.heap.objs.size<=ea:=by
   rcases fe.2.2.2.1 with z | z
   ·rw[hx]at z;exact absurd z (by simp)
   ·exact z
  have I5:=Inv.adopt (o:=tV ea c dd) I4 fe.1 ya fe.2.1 fe.2.2.2.2.1 fe.2.2.2.2.2 (ahv Zy.1);have I6:=I5.lg ea;refine JW (X:=X.lg ea (X.pn++p_)) (v:=.ref ea) I6 hN hi (.inl hl) rfl (λs4 I7=>?_) (.inr hl);refine ja (OS ea (X.pn++p_) [] s4 _ _ _ I7 (hW ea fe.1)) (λf s5 q=>?_) λ_ _ z=>jm z;cases f with
  | next=>obtain⟨σ',H',J,q⟩:=q;exact ES (X:=X) (Inv.v8 ok J) hN hi hl λs6 J6=>⟨_,_,J6,q⟩
  | brk=>obtain⟨σ',H',J,q⟩:=q;exact ES (X:=X) (Inv.v8 ok J) hN hi hl λs6 J6=>⟨_,_,J6,q⟩
  | cont=>obtain⟨σ',H',J,q⟩:=q;exact ES (X:=X) (Inv.v8 ok J) hN hi hl λs6 J6=>⟨_,_,J6,q⟩
  | ret u=>obtain⟨v,σ',H',J,r,q⟩:=q;exact ES (X:=X) (Inv.v8 ok J) hN hi hl λs6 J6=>⟨v,_,_,J6,r,q⟩
 ·have q':=SP.uH q;cases f with
  | next=>exact Bn q'
  | brk=>exact q'
  | cont=>exact q'
  | ret u=>exact q'
theorem afh(hs:X.stack=X.env::X.outer)(hf:X.env.frame=a_ X.env.locals)(hg:Gl X x)(hm:X.mg x=a_ cv)(HX:PySem.W.kitCls X.K cv (.type "BaseException")=a_ c_)
  (hb:∀(W:WX) (pn:List (e_×Obj)) (E:f_->g_->Prop),wW (X.body pn E) W->iI (model X.prog X.w) X.A X.env E->eV (X.body pn E) body (tb W))
  (OS:∀(ea:e_) (pn:List (e_×Obj)),eV (X.lg ea pn) (b0::lg) ts) (lD:(x == ("__debug__" : Str))=false:=by decide) :
  PS X (.Try body [.ExceptHandler (a_ (.Name x np)) b_ (b0::lg) AB] [] [] pos) (air X.K cv tb ts):=by
 intro p_ s σ H D I h;have ok:=I.ok;refine wpAny_Try_except (ja (hb _ (X.pn++p_) _ ?_ aaN [] s σ H D (I.body _) h) (λf s1 q=>?_) λ_ _ y=>y)
 ·intro pl σ1 H1 s1 ea c dd Om x1 hW;refine oA hW λhk hW=>?_;have x2:Ce X p_ σ1 H1 s1 ea c dd Om:=⟨x1.inv.uH,x1.GJ,x1.fe.body,λT z=>(x1.ft T z).body⟩;refine RS hs hf x2 λh' T I2 fl fe fT=>?_;have I3:=I2.lg ea;refine wpAny_handleBy_cons (aau (uE (X:=X.lg ea (X.pn++p_)) I3 hg hm ?_ lD)) (by intro z;cases z);refine Ra I3.dF fl.1 hk HX (codeAny_handlers_suite (Ea (T:=T) (fl:=.none) ⟨fl.1,fl.2 T rfl⟩ λh3 k3 Zy=>?_));have I4:Inv X p_ σ1 H1 { s1 with heap:=h3 }:=Inv.turned (s:={ s1 with heap:=h' }) (h':=h3) (t':=s1.toks) (it:=T) I2 (λb o hb e=>k3 b o hb e) fT.1 fT.2.1 fT.2.2.2.1 fT.2.2.2.2.1 fT.2.2.2.2.2;refine ja (OS ea (X.pn++p_) [] _ _ _ _ (I4.lg ea) hW) (λf s5 q=>?_) λ_ _ z=>jm z;cases f with
  | next=>obtain⟨σ',H',J,q⟩:=q;exact⟨_,_,Inv.v8 ok J,q⟩
  | brk=>obtain⟨σ',H',J,q⟩:=q;exact⟨_,_,Inv.v8 ok J,q⟩
  | cont=>obtain⟨σ',H',J,q⟩:=q;exact⟨_,_,Inv.v8 ok J,q⟩
  | ret u=>obtain⟨v,σ',H',J,r,q⟩:=q;exact⟨v,_,_,Inv.v8 ok J,r,q⟩
 ·have q':=SP.uH q;cases f with
  | next=>exact Bn q'
  | brk=>exact q'
  | cont=>exact q'
  | ret u=>exact q'
end
end L2
namespace L2
open PySem PySem.Spec PySem.W PyProof.Rows L3
end L2
namespace L2
open PySem PySem.Spec PyProof.Rows
open Sem (wp)
section
variable{X:Cx}
end
end L2
namespace HT
open PySem PySem.Spec PyProof.Rows
open Sem (wp)
section
variable{prog:l_}{w:k_}{A:h_}{E:f_->g_->Prop}{s:g_}
end
end HT
namespace L2
open PySem PySem.Spec PyProof.Rows
section
variable{X:Cx}
end
end L2
namespace L2
open PySem PySem.Spec PyProof.Rows PySem.SeqAt
mutual
def noDict:PyData->Bool
 | .dict _=>d_
 | .list xs=>v3 xs
 | .tuple xs=>v3 xs
 | _=>c_
def v3:List PyData->Bool
 | []=>c_
 | x::xs=>noDict x&&v3 xs
end
mutual
theorem Q9:∀d:PyData,noDict d=c_->noMix d d=c_/\same d d=c_
 | .none,_=>⟨rfl,rfl⟩
 | .bool b,_=>⟨rfl,by simp[same]⟩
 | .int i,_=>⟨rfl,by simp[same]⟩
 | .str x,_=>⟨rfl,by simp[same]⟩
 | .list xs,h=>by
  rw[noMix,same];exact Jb xs (by rw[noDict]at h;exact h)
 | .tuple xs,h=>by
  rw[noMix,same];exact Jb xs (by rw[noDict]at h;exact h)
 | .dict _,h=>by rw[noDict]at h;cases h
theorem Jb:∀xs:List PyData,v3 xs=c_->BR xs xs=c_/\sameAll xs xs=c_
 | [],_=>⟨by rw[BR],by rw[sameAll]⟩
 | x::xs,h=>by
  rw[v3,i9]at h;refine oA (Q9 x h.1) λa b=>oA (Jb xs h.2) λc d=>?_;rw[BR,sameAll,a,b,c,d];exact⟨rfl,rfl⟩
end
mutual
theorem QD:∀d:PyData,d.canLay0=c_->noDict d=c_
 | .none,_=>rfl
 | .bool b,_=>rfl
 | .int i,_=>rfl
 | .str x,_=>rfl
 | .list xs,h=>by rw[noDict];exact IL xs (by rw[sM]at h;exact h)
 | .tuple xs,h=>by rw[noDict];exact IL xs (by rw[sM]at h;exact h)
 | .dict _,h=>by rw[sM]at h;cases h
theorem IL:∀xs:List PyData,sJ xs=c_->v3 xs=c_
 | [],_=>by rw[v3]
 | x::xs,h=>by
  rw[sJ,i9]at h;rw[v3,QD x h.1,IL xs h.2];rfl
end
theorem TF(h:shaped d=c_):noMix d d=c_/\same d d=true:=Q9 d (QD d (canLay_of_shaped h))
theorem zU{K:W.Frag}(hx:iE K H x d)(hy:iE K H y d)(hs:shaped d=c_)(q:Q (.bl d_) H):Ap K c_ x y H Q:=by
 refine oA (TF hs) λa b=>⟨d,d,hx,hy,hs,hs,a,?_⟩;rw[if_pos rfl,b];exact q
theorem Tf{K:W.Frag}(hx:iE K H x d)(hy:iE K H y d)(hs:shaped d=c_)(q:Q (.bl c_) H):Ap K d_ x y H Q:=by
 refine oA (TF hs) λa b=>⟨d,d,hx,hy,hs,hs,a,?_⟩;rw[if_neg dY,b];exact q
theorem zP{α:Type}{f:α->PyData}:∀{l:List α},(∀a∈l,(f a).canLay0=c_)->sJ (l.map f)=c_
 | [],_=>by simp[sJ]
 | a::l,h=>by
  rw[gK,sJ,h a hX,zP λb hb=>h b (gE _ hb)];rfl
theorem v5{α:Type}{f:α->PyData}{k:Nat}:∀{l:List α},(∀a∈l,(f a).depth<=k)->rF (l.map f)<=k
 | [],_=>by simp[rF]
 | a::l,h=>by
  have h1:=h a hX;have h2:=v5 λb hb=>h b (gE _ hb);simp only[gK,rF];lia
theorem Ee{α:Type}{f:α->PyData}{l:List α}(h1:∀a∈l,(f a).canLay0=c_)(h2:∀a∈l,(f a).depth<=60):shaped (.list (l.map f))=true:=by
 have d:=v5 h2;unfold shaped;rw[i9];refine⟨by simp only[sM];exact zP h1,decide_eq_true ?_⟩;simp only[pj];exact wb
theorem uz{α:Type}{K:W.Frag}{F:V->α->Prop}{f:α->PyData}(h:∀v a,F v a->iE K H v (f a)):∀{vs:List V} {l:List α},Paired F vs l->oF K H vs (l.map f)
 | _,_,.nil=>.nil
 | _,_,.cons g t=>.cons (h _ _ g) (uz h t)
def yK(h:j_)(dx:PyData)(u:f_):Bool:=@decide (∃d as,Reads h u d as/\ux d dx=c_) (P8 _)
theorem Vo(r:Reads h u d as):yK h dx u=ux d dx:=by
 unfold yK;cases e:ux d dx with
 | true=>exact @decide_eq_true _ (P8 _) ⟨d,as,r,e⟩
 | false=>
  refine @decide_eq_false _ (P8 _) ?_;rintro⟨d',as',r',e'⟩;refine oA (r.unique d' as' r') λq _=>?_;rw[q,e']at e;cases e
theorem Ux:∀{us:List f_} {ds:List PyData} {as:List e_},ReadsAll h us ds as->us.any (yK h dx)=ds.any λd=>ux d dx
 | _,_,_,.nil=>rfl
 | _,_,_,.cons r t=>by rw[zB,zB,Vo r,Ux t]
theorem Ua{A:h_}{s:g_}{v:f_}{dx:PyData}{bs:List e_}(rx:Reads s.heap v dx bs)(sx:shaped dx=c_)(hu:A.in1.units+64<cLine):∀{us:List f_} {ds:List PyData} {as:List e_},ReadsAll s.heap us ds as->(∀d∈ds,shaped d=c_)->∀u∈us,EqAt A.in1 s u v (yK s.heap dx u)
 | _,_,_,.nil,_=>λu hu=>by cases hu
 | _,_,_,.cons r t,h=>λu hm=>by
  rcases cV.mp hm with rfl | hm
  ·rw[Vo r];exact W.keq_at r rx (h _ (by simp)) sx hu
  ·exact Ua rx sx hu t (λd hd=>h d (gE _ hd)) u hm
def akw(K:W.Frag)(neg:Bool):R2:=λx y H Q=>∃p xs ds dx,y=.ref p/\aj K H p xs/\oF K H xs ds/\iE K H x dx/\shaped dx=c_/\(∀d∈ds,shaped d=c_)/\Q (.bl (if neg=c_ then !(ds.any λd=>ux d dx) else ds.any λd=>ux d dx)) H
section
variable{X:Cx}
theorem acA(hu:X.A.units+65<cLine):gd X (lJ .NotIn) (akw X.K c_):=by
 intro p_ s σ H x y v u Q I rx ry h;obtain⟨p,xs,ds,dx,aa,hq,hd,hx,sx,sd,q⟩:=h;subst aa;cases ry;refine aG (I.list hq) λaw r pl hz=>oE (hd.reads I r) λas q1=>oE (hx.reads I rx) λbs q2=>notIn_listAt (yK s.heap dx) pl.isList (λw hw=>Ua q2 sx (by show X.A.units+1+64<cLine;exact w0) q1 sd w (by simpa using hw)) ⟨.bl _,H,I,rfl,?_⟩;rw[show aw.toArray.any (yK s.heap dx)=aw.any (yK s.heap dx) by simp,Ux q1];exact q
end
theorem S0{X:Cx}(hu:X.A.units+64<cLine):gd X (lJ .NotEq) (λx y H Q=>∃a b xs,x=.ref a/\y=.ref b/\H a=a_ (.lst xs)/\H b=a_ (.lst [])/\Q (.bl (!decide (xs=[]))) H):=by
 intro p_ s σ H x y v u Q I rx ry h;obtain⟨a,b,xs,rfl,rfl,ha,hb,q⟩:=h
 by_cases e:xs=[]
 ·subst e;refine uK hu p_ s σ H _ _ v u Q I rx ry ⟨.list [],.list [],.lst (aj.of ha) .nil,.lst (aj.of hb) .nil,qc,qc,by simp[noMix,BR],?_⟩;have e1:same (.list []) (.list [])=true:=by simp[same,sameAll]
  rw[if_pos rfl,e1];exact q
 ·cases rx;cases ry;obtain⟨z,aw,n,r,hl,e1⟩:=I.qQ ha;obtain⟨z2,vi,n2,r2,ng,e2⟩:=I.qQ hb;rw[decide_eq_false e]at q;have hz:=vH.mp (by rw[<-ng];rfl);subst hz
  have hs:(aw.toArray.size != ([]:List f_).toArray.size)=true:=by
   rw[bne_iff_ne,eO,<-hl];intro h0;exact e (vH.mp h0)
  show wpAny _ _ (richCompare .NotEq (.ref a) (.ref b)) _ _ s;exact aas ⟨_,e1,rfl⟩ ⟨_,e2,rfl⟩ F.slot_list_ne F.entry_list_ne (F.args_list_ne_2 _ _) (list_ne_lengthsAt a b _ _ _ _ _ _ _ _ hs) ⟨e1,e2,(by intro z;cases z),⟨.bl c_,H,I,rfl,q⟩⟩ om
theorem adI{X:Cx}(hu:X.A.units+64<cLine):gd X (lJ .Eq) (λx y H Q=>∃a b xs,x=.ref a/\y=.ref b/\H a=a_ (.lst xs)/\H b=a_ (.lst [])/\Q (.bl (decide (xs=[]))) H):=by
 intro p_ s σ H x y v u Q I rx ry h;obtain⟨a,b,xs,rfl,rfl,ha,hb,q⟩:=h
 by_cases e:xs=[]
 ·subst e;refine Cb hu p_ s σ H _ _ v u Q I rx ry ⟨.list [],.list [],.lst (aj.of ha) .nil,.lst (aj.of hb) .nil,qc,qc,by simp[noMix,BR],?_⟩;have e1:same (.list []) (.list [])=true:=by simp[same,sameAll]
  rw[if_neg dY,e1];exact q
 ·cases rx;cases ry;obtain⟨z,aw,n,r,hl,e1⟩:=I.qQ ha;obtain⟨z2,vi,n2,r2,ng,e2⟩:=I.qQ hb;rw[decide_eq_false e]at q;have hz:=vH.mp (by rw[<-ng];rfl);subst hz
  have hs:(aw.toArray.size != ([]:List f_).toArray.size)=true:=by
   rw[bne_iff_ne,eO,<-hl];intro h0;exact e (vH.mp h0)
  show wpAny _ _ (richCompare .Eq (.ref a) (.ref b)) _ _ s;exact aas ⟨_,e1,rfl⟩ ⟨_,e2,rfl⟩ F.slot_list_eq F.entry_list_eq (F.args_list_eq_2 _ _) (list_eq_lengthsAt a b _ _ _ _ _ _ _ _ hs) ⟨e1,e2,(by intro z;cases z),⟨.bl d_,H,I,rfl,q⟩⟩ om
end L2
namespace L2
open PySem PySem.Spec PySem.W PyProof.Rows L3
section
variable{X:Cx}{pz:List (e_×Obj)}{σ:St}{H:Hp}{s:g_}{ns:List Int}{kf:Int->Int}{l it sx f:e_}{R:Result->g_->Prop}
def ahP(kf:Int->Int)(ns:List Int)(sx:e_)(j:Nat)(h:j_):Prop:=(j=0/\∃c,h.get? sx=a_ (seqObj "list" #[] c))\/
 (0<j/\∃nb vb tb c,h.get? sx=a_ (seqObj "list" #[vb,.int (kf nb) tb] c)/\RelV (.int nb) vb/\nb∈ns/\∀i n,i<j->ns[i]?=a_ n->kf nb<=kf n)
theorem ahN(rv:Vals (ns.map V.int) vs){j:Nat}(e:vs[j]?=a_ v):∃n t,ns[j]?=a_ n/\v=.int n t:=by
 have hl:=rv.length;rw[aO]at hl;have hj:j<vs.length:=(dX.mp e).1;obtain⟨u,e',t,ru⟩:=rv.get (i:=j) (x:=.int ns[j]) (by simp[show j<ns.length by exact wg]);rw[e]at e';cases e';exact⟨ns[j],t,aX (by exact wg),ru⟩
theorem ad5(hh:X.A.handled=b_)(hl:aj X.K H l (ns.map V.int))(h0:0<ns.length)(Zc:l≠it)
  (turn:∀(n:Int) (u:f_) (pp:List (e_×Obj)) (s:g_),n∈ns->RelV (.int n) u->(∀p∈pz,p∈pp)->Inv X pp σ H s->wpAny (model X.prog X.w) X.A.in1 (call (.ref f) [u]) (EP X pp σ λv H'=>v=.int (kf n)/\H'=H) (λ_ _=>False) s)
  (hR:∀nb vb s',Inv X pz σ H s'->RelV (.int nb) vb->nb∈ns->(∀n∈ns,kf nb<=kf n)->R (.ok (.ret vb)) s') :
  ∀(r j:Nat) (s:g_),ns.length-j=r->j<=ns.length->Inv X pz σ H s->gU X pz H sx->gU X pz H it->sx≠it->s.heap.IsListIter it l j->ahP kf ns sx j s.heap->
   codeAny (model X.prog X.w) X.A (.builtin "min.loop" ⟨[.ref it,.ref f,.ref sx],[]⟩) R s:=by
 have Cu:(toString "min" ++ toString ".loop" : String) = "min.loop":=qc;intro r
 induction r with
 | zero=>
  intro j s hr hj I fs fi yR hit hb;have ej:j=ns.length:=li;rcases hb with ⟨z,_⟩ | ⟨_,nb,vb,tb,c,eS,rb,mb,best⟩
  ·lia
  ·obtain⟨vs,rv,pl,hz⟩:=I.list hl;have lv:=rv.length;rw[aO]at lv;have W:=Rq (prog:=X.prog) (w:=X.w) (A:=X.A.in1) hh it l Zc vs.toArray;refine(codeAny_builtin PySem.F.entry_min_loop (?_:wpAny _ _ _ _ _ s));rw[(aax PySem.F.plain_min_loop _)];show wpAny _ X.A.in1 (JT (.ref sx) >>= _) _ _ _;refine ay (uq eS rfl (?_:wpAny _ X.A.in1 (tryCatch (pyNext (.ref it)) _ >>= _) _ _ _));refine ay (IZ (W.done _ _ _ ⟨by rw[eO,<-lv,<-ej];exact hit,pl.isList⟩ λh' C4 Dy=>?_));have k1:∀b o,b≠it->s.heap.get? b=a_ o->h'.get? b=a_ o:=λb o n e=>Dy b o (by simpa using n) e;have I1:Inv X pz σ H { s with heap:=h',toks:=C4 }:=I.turned k1 fi.1 fi.2.1 fi.2.2.2.1 fi.2.2.2.2.1 fi.2.2.2.2.2;have e1:=k1 sx _ yR eS;show wpAny _ X.A.in1 (updateSeq sx (λ_=>#[]) >>= _) _ _ _;refine ay (Qv e1 rfl (ay (zJ (a7 ?_))));have sb:=ID h' sx (sT λ_=>(#[]:Array f_));refine hR nb vb _ (I1.turned (h':=_) (t':=C4) (it:=sx) (λb o n e=>(sb.2 b n).trans e) fs.1 fs.2.1 fs.2.2.2.1 fs.2.2.2.2.1 fs.2.2.2.2.2) rb mb λn hn=>?_;obtain⟨i,hi,e⟩:=vK hn;exact best i n (by exact wg) (by rw[<-e];exact aX hi)
 | succ r ih=>
  intro j s hr hj I fs fi yR hit hb;have lt:j<ns.length:=li;obtain⟨vs,rv,pl,hz⟩:=I.list hl;have lv:=rv.length;rw[aO]at lv;have W:=Rq (prog:=X.prog) (w:=X.w) (A:=X.A.in1) hh it l Zc vs.toArray
  have hS:∃xs c,s.heap.get? sx=a_ (seqObj "list" xs c)/\((j=0/\xs=#[])\/(0<j/\∃nb vb tb,xs=#[vb,.int (kf nb) tb]/\RelV (.int nb) vb/\nb∈ns/\∀i n,i<j->ns[i]?=a_ n->kf nb<=kf n)):=by
   rcases hb with ⟨z,c,e⟩ | ⟨z,nb,vb,tb,c,e,q⟩
   ·exact⟨_,c,e,.inl ⟨z,rfl⟩⟩
   ·exact⟨_,c,e,.inr ⟨z,nb,vb,tb,rfl,q⟩⟩
  obtain⟨xs,c,eS,hx⟩:=hS;refine(codeAny_builtin PySem.F.entry_min_loop (?_:wpAny _ _ _ _ _ s));rw[(aax PySem.F.plain_min_loop _)];show wpAny _ X.A.in1 (JT (.ref sx) >>= _) _ _ _;refine ay (uq eS rfl (?_:wpAny _ X.A.in1 (tryCatch (pyNext (.ref it)) _ >>= _) _ _ _));refine ay (IZ (W.item j _ _ _ (by rw[eO];exact wf) ⟨hit,pl.isList⟩ λv h' C4 hP alp Dy=>?_));have hv:vs[j]?=a_ v:=by simpa using hP
  obtain⟨n,t,en,rfl⟩:=ahN rv hv;have mn:=bo en;have k1:∀b o,b≠it->s.heap.get? b=a_ o->h'.get? b=a_ o:=λb o z e=>Dy b o (by simpa using z) e;have I1:Inv X pz σ H { s with heap:=h',toks:=C4 }:=I.turned k1 fi.1 fi.2.1 fi.2.2.2.1 fi.2.2.2.2.1 fi.2.2.2.2.2;have e1:=k1 sx _ yR eS;obtain⟨oI,hoI,yZ,OX⟩:=id alp.1
  have P1:Inv X ((pz++[(sx,seqObj "list" xs c)])++[(it,oI)]) σ H { s with heap:=h',toks:=C4 }:=by
   have a:=I1.FT fs e1 (λv z=>by cases z);refine a.FT ⟨fi.1,fi.2.1,fi.2.2.1,fi.2.2.2.1,fi.2.2.2.2.1,λp hp=>?_⟩ hoI (λv z=>by rw[OX]at z;cases z);rcases jA.mp hp with z | z
   ·exact fi.2.2.2.2.2 p (pO _ z)
   ·rcases jA.mp z with z | z
    ·exact fi.2.2.2.2.2 p (hG _ z)
    ·have z':p=(sx,seqObj "list" xs c):=by simpa using z
     rw[z'];exact yR
  show wpAny _ X.A.in1 (tryCatch (holding [nj n t] (call (.ref f) [nj n t])) _ >>= _) _ _ _;refine ay (IZ (pP (ja (turn n _ _ _ mn ⟨t,rfl⟩ (λp hp=>pO _ (pO _ hp)) P1) (λw s2 hw=>?_) λ_ _ z=>z.elim)));obtain⟨v2,H2,J,r2,rfl,rfl⟩:=hw;obtain⟨t2,rfl⟩:=r2;have I2:=J.wd λp hp=>J.pin p (hG _ (pO _ (pO _ hp)));have e2:=(J.pin (sx,seqObj "list" xs c) (hG _ (pO _ (hG _ (by simp))))).1;have i2:=(J.pin (it,oI) (hG _ (hG _ (by simp)))).1
  have wr:∀(tk:Nat),(∀i m,i<j->ns[i]?=a_ m->kf n<=kf m)->codeAny (model X.prog X.w) X.A (.builtin "min.loop" ⟨[.ref it,.ref f,.ref sx],[]⟩) R { s2 with heap:=s2.heap.update sx (sT λ_=>#[.int n t,.int (kf n) t2]),toks:=tk }:=λtk aj4=>by
   have sb:=ID s2.heap sx (sT λ_=>#[nj n t,nj (kf n) t2]);have I3:Inv X pz σ H2 { s2 with heap:=s2.heap.update sx (sT λ_=>#[.int n t,.int (kf n) t2]),toks:=tk }:=I2.turned (it:=sx) (λb o z e=>(sb.2 b z).trans e) fs.1 fs.2.1 fs.2.2.2.1 fs.2.2.2.2.1 fs.2.2.2.2.2;refine ih (j+1) _ om (by exact xf) I3 fs fi yR ⟨oI,(sb.2 it (gq yR)).trans i2,yZ,OX⟩ (.inr ⟨QO _,n,_,t2,_,Qx e2 λ_=>#[.int n t,.int (kf n) t2],⟨t,rfl⟩,mn,λi m hi em=>?_⟩)
   by_cases z:i=j
   ·subst z;rw[en]at em;cases em;exact Int.le_refl _
   ·exact aj4 i m li em
  rcases hx with ⟨z,rfl⟩ | ⟨z,nb,vb,tb,rfl,rb,mb,best⟩
  ·show wpAny _ X.A.in1 (updateSeq sx (λ_=>#[.int n t,.int (kf n) t2]) >>= _) _ _ _;refine ay (Qv e2 rfl ?_);rw[Cu];exact a7 ⟨Je PySem.F.plain_min_loop _,wr s2.toks λi m hi _=>absurd hi li⟩
  ·show wpAny _ X.A.in1 (tryCatch (holding [.int n t,.int (kf n) t2] (richCompare .Lt (.int (kf n) t2) (.int (kf nb) tb) >>= _)) _ >>= _) _ _ _;refine ay (IZ (pP (ay (lt_int (?_:wpAny _ _ _ _ _ _)))));refine ay (pP (um (ay (zJ (a7 ?_)))))
   by_cases dJ:kf n<kf nb
   ·simp only[dJ,decide_true,if_true];refine ay (Qv e2 rfl (ay (zJ ?_)));rw[Cu];refine a7 ⟨Je PySem.F.plain_min_loop _,wr s2.toks λi m hi em=>?_⟩;have:=best i m hi em;lia
   ·simp only[dJ,decide_false,xZ,if_false];refine ay (zJ ?_);rw[Cu];refine a7 ⟨Je PySem.F.plain_min_loop _,ih (j+1) _ li (by exact xf) I2 fs fi yR ⟨oI,i2,yZ,OX⟩ (.inr ⟨QO _,nb,vb,tb,c,e2,rb,mb,λi m hi em=>?_⟩)⟩
    by_cases z2:i=j
    ·subst z2;rw[en]at em;cases em;lia
    ·exact best i m li em
end
section
variable{X:Cx}{p_:List (e_×Obj)}{σ:St}{H:Hp}{s:g_}{ns:List Int}{kf:Int->Int}{l f:e_}
theorem ad6(I:Inv X pz σ H s)(hh:X.A.handled=b_)(hl:aj X.K H l (ns.map V.int))(h0:0<ns.length)
  (turn:∀(n:Int) (u:f_) (pp:List (e_×Obj)) (s:g_),n∈ns->RelV (.int n) u->(∀p∈pz,p∈pp)->Inv X pp σ H s->wpAny (model X.prog X.w) X.A.in1 (call (.ref f) [u]) (EP X pp σ λv H'=>v=.int (kf n)/\H'=H) (λ_ _=>False) s)
  (q:∀m∈ns,(∀n∈ns,kf m<=kf n)->Q (.int m) H):wpAny (model X.prog X.w) X.A (call (.builtin "min") [.ref l] [(gL "key",.ref f)]) (EP X pz σ Q) E s:=by
 have Cu:(toString "min" ++ toString ".loop" : String) = "min.loop":=qc;obtain⟨vs,rv,pl,hz⟩:=I.list hl
 have hll:l<s.heap.objs.size:=by
  obtain⟨o,e,_⟩:=pl.isList;exact cH e
 refine kmk_tree PySem.F.kind_min PySem.F.plain_min PySem.F.entry_min (kmk_min_key _ _) (?_:wpAny _ X.A.in1 (aad "min" ["key","default"] 0 ⟨[],[(gL "key",.ref f)]⟩ >>= _) _ _ s);refine ay (wpAny_of_eq (rfl:aad "min" ["key","default"] 0 ⟨[],[(gL "key",.ref f)]⟩=pure [a_ (.ref f),b_]) (ay (a7 (ay (IH pl.isList (ay (QF ?_ (cy _))))))));rw[Cu];have z1:(s.heap.push { cls:=.type "list_iterator",data:=.fields #[.ref l,.int 0 0] }).objs.size=s.heap.objs.size+1:=qy _ _;have hI:=I.aQ.fresh (aN _);have hS:H (s.heap.push { cls:=.type "list_iterator",data:=.fields #[.ref l,.int 0 0] }).objs.size=none:=I.aQ.fresh (by rw[z1];exact lH _);refine a7 ⟨Je PySem.F.plain_min_loop _,?_⟩;have I1:Inv X pz σ H { s with heap:=(s.heap.push { cls:=.type "list_iterator",data:=.fields #[.ref l,.int 0 0] }).push (seqObj "list" #[] 0) }:=I.kept (t':=s.toks) λb o e=>b8 _ (b8 _ e)
 refine ad5 (kf:=kf) (pz:=pz) (σ:=σ) hh hl h0 (gh hll) turn (λnb vb s' J rb mb best=>?_) (ns.length-0) 0 _ rfl (cy _) I1 (I.iY (by rw[z1];exact lH _) hS) (I.iY (aN _) hI) (by rw[z1];exact IP _)
  ⟨_,b8 _ (ik _ rfl),rfl,rfl⟩ (.inl ⟨rfl,0,ik _ rfl⟩)
 exact⟨.int nb,H,J,rb,q nb mb best⟩
def WC(B:V->Hp->Prop):List V->Hp->Prop:=λvs H=>match vs with | [x]=>B x H | _=>False
theorem afn{B:V->Hp->Prop}:∀{vs:List V} {H:Hp},WC B vs H->∃x,vs=[x]/\B x H
 | [x],_,h=>⟨x,rfl,h⟩
 | [],_,h=>h.elim
 | _::_::_,_,h=>h.elim
def aeQ(K:W.Frag)(P:e_)(Az:Pos)(qual:Str)(tl te:TE)(idx:List Nat)(n k:Nat):TE:=λσ H Q=>tl σ H λx H1=>∃(a:e_) (ns:List Int) (kf:Int->Int),x=.ref a/\aj K H1 a (ns.map V.int)/\0<ns.length/\cq P Az qual H1/\
 ∀H2,wV P H1 H2->cq P Az qual H2->aj K H2 a (ns.map V.int)/\(∀m∈ns,te ((nH idx n σ).set k (a_ (.int m))) H2 λv H'=>v=.int (kf m)/\H'=H2)/\∀m∈ns,(∀n∈ns,kf m<=kf n)->Q (.int m) H2
theorem acy{sc:i_}{idx:List Nat}{k:Nat}{params:Arguments}{le body:Expr}{c P:e_}(hc:X.calm=c_)(Y':X.A.depth+5<D2)(hg:Gl X "min")(hm:X.mg "min" = b_)(hl:PE X le tl)(S:eT X sc N idx)
  (FN:X.env.code=.ref c) (C:CodeHd X.base c P) (B:vh X.mg X.base) (hk:N[k]?=a_ px) (xR:sc.names.lookup px=a_ .local) (hi:idx.length<=k) (hb:∀A qual f cd s H,PE (GQ X A sc N qual f cd s H) body te)
  (Cv:∀(qual:Str) (cl:List (Str×e_)) (pm cd rB u:f_),uA (kla_fn "<lambda>" qual params body sc cl pm cd rB) ⟨[u],[]⟩=pure [(px,u)]) (N0:defaultsOf params X.env=([],[]):=by rfl) (Pg:sc.isCoroutine=false:=by rfl) (NZ:sc.isGenerator=false:=by rfl)
  (he:backTo pos (cQ [le] X.env)=(d_,eval le X.env)::backTo pos (cQ [] X.env):=by rfl) (ee:(backTo pos (cQ [le] X.env)).any (·.1)=false:=by rfl) (hs:cQ [le] X.env=(d_,eval le X.env)::cQ [] X.env:=by rfl) :
  PE X (.Call (.Name "min" p) [le] [⟨a_ "key",.Lambda params body sc Az,akY⟩] pos) (aeQ X.K P Az (X.env.qual ++ "<lambda>") tl te idx N.length k):=by
 intro p_ s σ H Q I h;refine uk (tf I hg hm (show vS "min" = a_ (.builtin "min") from boot_min) ?_ qc qc)
 refine callWith_kw (eJ (ae (X:=X) hl ag hs pos p_ s σ H (WC λx H1=>∃(a:e_) (ns:List Int) (kf:Int->Int),x=.ref a/\aj X.K H1 a (ns.map V.int)/\0<ns.length/\cq P Az (X.env.qual ++ "<lambda>") H1/\
  ∀H2,wV P H1 H2->cq P Az (X.env.qual ++ "<lambda>") H2->aj X.K H2 a (ns.map V.int)/\(∀m∈ns,te ((nH idx N.length σ).set k (a_ (.int m))) H2 λv H'=>v=.int (kf m)/\H'=H2)/\∀m∈ns,(∀n∈ns,kf m<=kf n)->Q (.int m) H2) I h) λus s1 ⟨vs,H1,I1,rv,q1⟩=>?_) he ee rfl rfl
 obtain⟨x,rfl,a,ns,kf,rfl,hL,h0,xu,hq⟩:=afn q1;obtain⟨u,rfl,ru⟩:=vals1 rv;cases ru;refine kws_cons (ad' I1 S FN C B N0 xu λf c' H2 pm rB s2 I2 sm xr DB=>kws_nil ?_);obtain⟨nW,hte,hQ⟩:=hq H2 sm xr;have hh:=I.ok.hd hc;refine dC (ad6 (kf:=kf) (f:=f) I2 hh nW h0 (λn u pp s3 hn ru hp I3=>?_) λm hm hb=>hQ m hm hb) λw s4 v H4 I4 r4 q4=>⟨v,H4,I4.Es,r4,q4⟩;refine aea (A:=X.A.in1) (v:=.int n) I3 S I3.ok.frames hh (by show X.A.depth<_;lia) hk xR hi ru (I3.pin _ (hG _ (hp _ (hG _ hX)))).1 (I3.aQ c' _ DB).1 (Cv _ _ _ _ _ _) Pg NZ (hb _ _ _ _ _ _) (hte n hn)
end
end L2
namespace L2
open PySem PySem.Spec PyProof.Rows L3
section
variable{X:Cx}{k:Nat}{f C:e_}{fd:iJ}{ps:List Str}{sp:Sp}{dvs:List V}{ds:List f_}{W:WX}{x m:Str}{p pos apos:Pos}{e o:Expr}{es:List Expr}{ta:TE}{t:TA}{P:l_}{w:k_}
end
structure xp(K:PySem.W.Frag)(x qual:Str)(st:Stmt)(f:e_)(fd:iJ)(c:e_):Prop where
 ex:∃(oc:f_) (od:Option e_) (kV doc pm:f_) (an:Option e_) (ct:f_) (jG:Array (Option f_)),fd=PySem.W.fnOf x qual (nz st) (ir st) (aT st) .none kV doc pm an (.ref c) ct/\K.lookup f=a_ ⟨oc,od,.func fd,jG⟩/\PySem.W.codeIn K (.ref c) qual=c_
 kp:PySem.W.keepIn K (.ref f)=c_
theorem af7{K:PySem.W.Frag}{st:Stmt}{od an:Option e_}{jG:Array (Option f_)}{kV doc pm ct:f_}(l:K.lookup f=a_ ⟨oc,od,.func (PySem.W.fnOf x qual (nz st) (ir st) (aT st) .none kV doc pm an (.ref c) ct),jG⟩)
  (c1:PySem.W.codeIn K (.ref c) qual=c_) (k:PySem.W.keepIn K (.ref f)=c_):xp K x qual st f (PySem.W.fnOf x qual (nz st) (ir st) (aT st) .none kV doc pm an (.ref c) ct) c:=⟨⟨oc,od,kV,doc,pm,an,ct,jG,rfl,l,c1⟩,k⟩
section
variable{P:l_}{w:k_}{K:PySem.W.Frag}{mg:Str->Option f_}{base:j_}
theorem xp.ok{st:Stmt}{k:Nat}{sp:Sp}(F:xp K x qual st f fd c)(S:ba N ps (aT st))(len:∀vs H Q E,sp vs H Q E->vs.length=ps.length)
  (uZ:∀(A:h_) (outer:List Env) (s:g_) (H:Hp) (vs:List V) (Q:VK) (E:XK),fJ k (A.deeper (envOfC qual (aT st) s.heap.objs.size f (.ref c)))->sp vs H Q E->
   ∃t,eV (nG aB P w K mg base N qual (aT st) f (.ref c) A outer s H E).qW (ir st) t/\t { nx:=λ_ H'=>Q .aJ H',rt:=Q } (start N vs) H):ax P w K mg base aB (k+1) f fd ps sp:=by
 obtain⟨oc,od,kV,doc,pm,an,ct,jG,aa,lk,jj⟩:=F.ex;subst aa;exact wO lk jj S len λA outer s H vs Q E hr rh=>af (uZ A outer s H vs Q E hr rh) λt h q=>ak t h.qW q
theorem xp.fun{st:Stmt}(F:xp K x qual st f fd c):aV K x qual st f fd:=by
 exact abH F.ex λoc od kV doc pm an ct jG e lk jj=>⟨⟨oc,od,kV,doc,pm,an,_,ct,jG,e,lk,jj⟩,F.kp⟩
end
end L2
namespace L2
open PySem PySem.Spec PySem.W PyProof.Rows
theorem abp{ps:List (Int×V)}(h:L' (ps.map (·.2)) (λi=>(ps.map (·.1)).getD i 0) zs):∃qs:List (Int×V),qs.Perm ps/\qs.Pairwise (λa b=>a.1<b.1)/\zs=qs.map (·.2):=by
 obtain⟨p,g,ri,rfl⟩:=h;rw[aO]at g ri;have hlen:=RQ g;have gp:=aag.mp g
 have er:(List.range ps.length).map (λi=>ps.getD i (0,.aJ))=ps:=by
  apply aaZ
  ·simp
  ·intro i h1 h2;simp[h2]
 refine⟨p.toList.map λi=>ps.getD i (0,.aJ),?_,?_,?_⟩
 ·have:=gp.map λi=>ps.getD i (0,.aJ);simp only[List.toList_toArray]at this;rw[er]at this;exact this
 ·rw[qu];intro i j hi hj qp;rw[aO]at hi hj;have:=ri i j qp wf;unfold rk at this;have dP:=g.size;simp only[List.getElem_map,Array.getElem_toList];have e:∀k (hk:k<p.size),p.getD k 0=p[k]:=λk hk=>by simp[Rt,hk]
  rw[e i om,e j om]at this;have e2:∀k,k<ps.length->(ps.map (·.1)).getD k 0=(ps.getD k (0,.aJ)).1:=λk hk=>by simp[hk]
  have lt:∀k (hk:k<p.size),p[k]<ps.length:=λk hk=>by
   have:=g.lt (k:=k) wf;rw[e k hk]at this;exact this
  dsimp only at this;rw[e2 _ (lt i om),e2 _ (lt j om)]at this;exact this
 ·rw[sQ];refine List.map_congr_left λi hi=>?_
  have hl:i<ps.length:=by
   have:=gp.mem_iff.mp hi;simpa using this
  simp[hl]
section
variable{X:Cx}
theorem abN(M:Model)(h:j_)(i:Int)(t:Tok):Looks M h (typeOf (.int i t)) (.type "int"):=Looks.of_pure rfl
def agH(K:W.Frag):List V->Hp->VK->Prop:=λxs H Q=>∃(p:e_) (ps:List (Int×V)),xs=[.ref p]/\aj K H p (ps.map (·.2))/\ps.length<64/\(∀q∈ps,∃a ys,q.2=.ref a/\aI K H a (.int q.1::ys))/\(ps.map (·.1)).Nodup/\
 ∀l qs,H l=b_->yh qs ps->qs.Pairwise (λa b=>a.1<b.1)->Q (.ref l) (upd H l (.lst (qs.map (·.2))))
theorem QL:oG X (.builtin "sorted") (agH X.K):=by
 intro p_ s σ H xs us Q I r h;obtain⟨p,ps,rfl,hl,Pr,ht,nd,q⟩:=h;obtain⟨u,rfl,rx⟩:=vals1 r;cases rx;obtain⟨aw,rv,pl,hz⟩:=I.list hl;have hlen:=rv.length;rw[aO]at hlen;refine acr (H:=H) (collect_list pl.isList ?_ (by rw[jl];lia))
 have kp:∀b o,s.heap.get? b=a_ o->((s.heap.push (seqObj "list" #[] 0)).update s.heap.objs.size (sT (· ++ aw.toArray))).get? b=a_ o:=λb o e=>by
  rw[Qi _ _ _ _ (gh (cH e))];exact b8 _ e
 have tup:∀i,i<ps.length->∃a o vs n,aw.getD i mj=.ref a/\s.heap.get? a=a_ o/\o.cls=.type "tuple"/\o.data=.seq vs n/\∃t rest,vs.toList=nj ((ps.map (·.1)).getD i 0) t::rest:=λi hi=>by
  obtain⟨a,ys,e1,e2⟩:=ht _ (uo hi);obtain⟨vs,rv2,⟨o,eo,co,n,do_⟩,_⟩:=I.tuple e2;obtain⟨u,eu,ru⟩:=rv.get (i:=i) (x:=.ref a) (by simp[hi,e1]);cases ru;cases rv2 with
  | cons ra rr=>
   obtain⟨t,rfl⟩:=ra;exact⟨a,o,_,n,by rw[nh,eu];rfl,eo,co,do_,t,_,by simp[hi];rfl⟩
 refine⟨ps.map (·.2),λi=>(ps.map (·.1)).getD i 0,I.kept kp,rv,⟨li,λi j hi hj e=>?_,λh2=>?_⟩,λl zs hn so=>?_⟩
 ·have DA:i<ps.length:=wg;have Dz:j<ps.length:=wg;have e':(ps.map (·.1))[i]'(by simpa using DA)=(ps.map (·.1))[j]'(by simpa using Dz):=by simpa[DA,Dz]using e
  rcases IJ i j with z | z | z
  ·exact absurd e' (qu.mp nd i j _ _ z)
  ·exact z
  ·exact absurd e'.symm (qu.mp nd j i _ _ z)
 ·refine⟨tuples' c_,λA s' k=>?_⟩
  have nL:∀b o,s.heap.get? b=a_ o->o.cls=.type "tuple"->(∃vs n,o.data=.seq vs n)->b≠X.env.locals:=λb o e _ d z=>by
   obtain⟨m,F⟩:=I.fr;obtain⟨o',es,ep,e',d',_⟩:=F.ns;rw[z,e']at e;cases e;obtain⟨vs,n,d⟩:=d;rw[d']at d;cases d
  have at':∀i,i<ps.length->∃a o vs n,aw.getD i mj=.ref a/\s'.heap.get? a=a_ o/\o.cls=.type "tuple"/\o.data=.seq vs n/\∃t rest,vs.toList=nj ((ps.map (·.1)).getD i 0) t::rest:=λi hi=>by
   obtain⟨a,o,vs,n,e1,e2,e3,e4,e5⟩:=tup i hi;exact⟨a,o,vs,n,e1,k _ _ (nL a o e2 e3 ⟨vs,n,e4⟩) (kp _ _ e2),e3,e4,e5⟩
  constructor
  ·intro Q' hQ
   have kt:∀m,m<=ps.length->∃fs:List f_,fs.length=m/\KatTups s'.heap (aw.drop (ps.length-m)) fs/\∀v∈fs,∃i t,v=nj i t:=λm=>by
    induction m with
    | zero=>
     intro _;refine⟨[],rfl,?_,λv hv=>nomatch hv⟩;rw[Bf li];exact .nil
    | succ m ih=>
     intro hm;obtain⟨fs,h1,h2,h3⟩:=ih li;obtain⟨a,o,vs,n,e1,e2,e3,e4,t,rest,e5⟩:=at' (ps.length-(m+1)) om
     have hd:aw.drop (ps.length-(m+1))=.ref a::aw.drop (ps.length-m):=by
      rw[Iq om,show ps.length-(m+1)+1=ps.length-m by lia]
      congr 1
      rw[<-e1];simp[show ps.length-(m+1)<aw.length by omega]
     rw[hd];refine⟨nj ((ps.map (·.1)).getD (ps.length-(m+1)) 0) t::fs,by rw[jk,h1],.cons e2 e3 e4 ?_ h2,λv hv=>?_⟩
     ·have:vs.toList[0]?=a_ (nj ((ps.map (·.1)).getD (ps.length-(m+1)) 0) t):=by rw[e5];rfl
      rw[Qc]at this;exact this
     ·rcases cV.mp hv with z | z
      ·exact⟨_,_,z⟩
      ·exact h3 v z
   obtain⟨fs,h1,h2,h3⟩:=kt ps.length (aN _);rw[Nat.sub_self,Ja]at h2;refine kat_kind (T:=.type "int") h2 li (λv hv=>?_) qc (by rw[show (qB "int" != qB "tuple")=c_ by decide];exact hQ);obtain⟨i,t,e⟩:=h3 v hv;rw[e];exact abN _ _ _ _
  ·intro i j C hi hj ne c;obtain⟨a,o,vs,n,e1,e2,e3,e4,t,rest,e5⟩:=at' i wg;obtain⟨a',o',oY,n',DN,e2',e3',e4',t',ana,e5'⟩:=at' j wg;unfold kas_ask;rw[e1,DN];refine kat_lt e2 e4 e2' e4' ?_;rw[e5,e5'];refine kat_cons (wpAny_eqBool_int ?_)
   have lC:(ps.map (·.1)).getD i 0≠(ps.map (·.1)).getD j 0:=λe=>by
    have DA:i<ps.length:=wg;have Dz:j<ps.length:=wg;have e':(ps.map (·.1))[i]'(by simpa using DA)=(ps.map (·.1))[j]'(by simpa using Dz):=by simpa[DA,Dz]using e
    rcases aaD ne with z | z
    ·exact absurd e' (qu.mp nd i j _ _ z)
    ·exact absurd e'.symm (qu.mp nd j i _ _ z)
   rw[show ((ps.map (·.1)).getD i 0 == (ps.map (·.1)).getD j 0)=d_ by simpa using lC];exact kat_no (oneLt_int c)
 ·obtain⟨qs,g,pw,rfl⟩:=abp so;exact q l qs hn g pw
end
def Asc(xs:Array Nat):Prop:=xs.toList.Pairwise (· < ·)
structure am'(led:Bool)(t:SetTable):Prop where
 dum:t.dummies=#[]
 led:t.led=led
 asc:t.plain=c_->Asc t.place
section
variable{P:l_}{w:k_}{A:h_}{E:f_->g_->Prop}{s:g_}{a:e_}{ns:List Int}
end
section
variable{P:l_}{w:k_}{A:h_}{E:f_->g_->Prop}{s:g_}
set_option maxHeartbeats 6000000 in
end
namespace SF
end SF
section
variable{M:Model}{A:h_}{E:f_->g_->Prop}{s:g_}
end
section
variable{P:l_}{w:k_}{A:h_}{E:f_->g_->Prop}{s:g_}{it a:e_}{ord:List Int}{i:Nat}
end
section
variable{P:l_}{w:k_}{A:h_}{E:f_->g_->Prop}{s:g_}{it a:e_}{ord:List Int}{i:Nat}
end
section
variable{P:l_}{w:k_}{A:h_}{E:f_->g_->Prop}{s:g_}{a:e_}{ns:List Int}
end
section
variable{X:Cx}
end
end L2
namespace TL
open PySem PySem.Spec PyProof.Rows L2 L3
variable{P:l_}{w:k_}{K:PySem.W.Frag}{mg:Str->Option f_}{base:j_}
structure Ent where
 (t n num d:Int)
 deriving DecidableEq
def cu(es:List Ent)(i:Nat):List Ent:=es.filter λe=>decide (e.n=(i:Int))
def lP(H:Hp)(v:V)(e:Ent):Prop:=∃p s,v=.ref p/\H p=a_ (.tup [.int e.t,.ref s])/\H s=a_ (.tup [.int e.n,.int e.num,.int e.d])
def Hd(H:Hp)(b:e_)(es:List Ent):Prop:=∃vs,H b=a_ (.lst vs)/\Paired (lP H) vs es
def UD:List Str:=["add","latest","fronts","take","is_empty","listed","twin"]
structure oW(tn:Int)(es:List Ent):Prop where
 asc:es.Pairwise λx y=>x.t<y.t
 nm:∀e∈es,0<=e.n/\e.n<12
 lt:∀e∈es,e.t<tn
structure dR(H:Hp)(a C:e_)(kd:Str)(tn:Int)(es:List Ent)(q:e_)(qr:List e_):Prop where
 obj:∃dx fs,H a=a_ (.ins C dx fs)/\fs.lookup ("kind" : Str)=a_ (V.str kd)/\fs.lookup ("turn" : Str)=a_ (V.int tn)/\fs.lookup ("queues" : Str)=a_ (V.ref q)/\(∀m∈UD,fs.lookup m=b_)/\fs.length<=20
 qs:H q=a_ (.lst (qr.map V.ref))
 len:qr.length=12
 nd:qr.Nodup
 nq:q∉qr
 lx:∀i b,qr[i]?=a_ b->Hd H b (cu es i)
 wf:oW tn es
structure iA(F:List e_)(H H':Hp):Prop where
 k:∀b o,b∉F->(∀ps,o≠.gx ps)->H b=a_ o->H' b=a_ o
 t:∀b,H' b=b_->H b=b_
theorem iA.of{F:List e_}{H H':Hp}(s:ai H H'):iA F H H':=⟨λb o _ _ e=>s b o e,λb h=>s.free h⟩
theorem iA.trans{F:List e_}{H H1 H2:Hp}(a:iA F H H1)(b:iA F H1 H2):iA F H H2:=⟨λc o h1 h2 e=>b.k c o h1 h2 (a.k c o h1 h2 e),λc h=>a.t c (b.t c h)⟩
theorem iA.XQ{P:e_}{H H':Hp}{ps Ho:Array f_}(s:wV P H H')(hP:H P=a_ (.gx ps))(Po:H' P=a_ (.gx Ho)):iA [] H H':=
 ⟨λb o _ n e=>s b o (λz=>by rw[z,hP]at e;cases e;exact n ps rfl) e,λb h=>by
  cases e:H b with
  | none=>rfl
  | some o=>
   by_cases z:b=P
   ·rw[z,Po]at h;cases h
   ·rw[s b o z e]at h;cases h⟩
theorem Bx{P:e_}{pos:Pos}{qual:Str}{F:List e_}{H H':Hp}(h:cq P pos qual H)(k:∀b o,b∉F->H b=a_ o->H' b=a_ o)(hF:∀b∈F,∀o,H b=a_ o->(∃C dx fs,o=.ins C dx fs)\/∃xs,o=.lst xs):cq P pos qual H':=by
 refine af h λps hP hc=>?_
 have nP:P∉F:=λz=>by
  rcases hF P z _ hP with ⟨_,_,_,e⟩ | ⟨_,e⟩ <;> cases e
 refine ak ps (k P _ nP hP) ?_;rcases hc with e | ⟨c,e,hc⟩
 ·exact .inl e
 ·refine .inr (ak c e (k c _ (λz=>?_) hc));rcases hF c z _ hc with ⟨_,_,_,e⟩ | ⟨_,e⟩ <;> cases e
theorem gj{P:e_}{pos:Pos}{qual:Str}{H H':Hp}(h:cq P pos qual H)(k:ai H H'):cq P pos qual H':=Bx (F:=[]) h (λb o _ e=>k b o e) λb hb=>nomatch hb
theorem lP.keep{F:List e_}{H H':Hp}{v:V}{e:Ent}(h:lP H v e)(k:∀b xs,H b=a_ (.tup xs)->H' b=a_ (.tup xs)):lP H' v e:=let ⟨p,s,e1,e2,e3⟩:=h;⟨p,s,e1,k _ _ e2,k _ _ e3⟩
theorem yl{α β:Type}{F G:α->β->Prop}(f:∀a b,F a b->G a b):∀{l:List α} {r:List β},Paired F l r->Paired G l r
 | _,_,.nil=>.nil
 | _,_,.cons h t=>.cons (f _ _ h) (yl f t)
theorem Hd.keep{H H':Hp}{b:e_}{es:List Ent}(h:Hd H b es)(kb:∀o,H b=a_ o->H' b=a_ o)(k:∀b xs,H b=a_ (.tup xs)->H' b=a_ (.tup xs)):Hd H' b es:=let ⟨vs,e,r⟩:=h;⟨vs,kb _ e,yl (λ_ _ z=>z.keep (F:=[]) k) r⟩
theorem dR.keep{H H':Hp}{a C q:e_}{kd:Str}{tn:Int}{es:List Ent}{qr:List e_}(T:dR H a C kd tn es q qr)(k:∀b∈a::q::qr,∀o,H b=a_ o->H' b=a_ o)(kt:∀b xs,H b=a_ (.tup xs)->H' b=a_ (.tup xs)):dR H' a C kd tn es q qr:=by
 obtain⟨⟨dx,fs,e,r⟩,qs,len,nd,nq,lx,wf⟩:=T;exact⟨⟨dx,fs,k a (by simp) _ e,r⟩,k q (by simp) _ qs,len,nd,nq,λi b hb=>(lx i b hb).keep (λo=>k b (by simp[bo hb]) o) kt,wf⟩
theorem dR.ai0{F:List e_}{H H':Hp}{a C q:e_}{kd:Str}{tn:Int}{es:List Ent}{qr:List e_}(T:dR H a C kd tn es q qr)(k:iA F H H')(hF:∀b∈F,b∉a::q::qr)(hT:∀b∈F,∀xs,H b≠a_ (.tup xs)):dR H' a C kd tn es q qr:=by
 refine T.keep (λb hb o e=>k.k b o (λz=>hF b z hb) (λps z=>?_) e) λb xs e=>k.k b _ (λz=>hT b z xs e) (λps z=>by cases z) e;subst z;rcases cV.mp hb with z | z
 ·refine aW T.obj λdx fs e' _=>?_;rw[z,e']at e;cases e
 ·rcases cV.mp z with z | z
  ·rw[z,T.qs]at e;cases e
  ·refine oE (vK z) λi zq=>oE zq λhi ez=>?_;obtain⟨vs,e',_⟩:=T.lx i b (by rw[<-ez];exact aX hi);rw[e']at e;cases e
theorem dR.eP{H H':Hp}{a C q:e_}{kd:Str}{tn:Int}{es:List Ent}{qr:List e_}(T:dR H a C kd tn es q qr)(k:iA [] H H'):dR H' a C kd tn es q qr:=T.ai0 k (λb hb=>nomatch hb) λb hb=>nomatch hb
theorem dR.kinds{H:Hp}{a C q:e_}{kd:Str}{tn:Int}{es:List Ent}{qr:List e_}(T:dR H a C kd tn es q qr):∀b∈a::q::qr,∀o,H b=a_ o->(∃C dx fs,o=.ins C dx fs)\/∃xs,o=.lst xs:=λb hb o e=>by
 rcases cV.mp hb with z | z
 ·refine aW T.obj λdx fs e' _=>?_;rw[z,e']at e;cases e;exact .inl (⟨_,_,_,rfl⟩)
 ·rcases cV.mp z with z | z
  ·rw[z,T.qs]at e;cases e;exact .inr ⟨_,rfl⟩
  ·refine oE (vK z) λi zq=>oE zq λhi ez=>?_;obtain⟨vs,e',_⟩:=T.lx i b (by rw[<-ez];exact aX hi);rw[e']at e;cases e;exact .inr ⟨_,rfl⟩
theorem dR.there{H:Hp}{a C q:e_}{kd:Str}{tn:Int}{es:List Ent}{qr:List e_}(T:dR H a C kd tn es q qr):∀b∈a::q::qr,∃o,H b=a_ o:=λb hb=>by
 rcases cV.mp hb with z | z
 ·exact aW T.obj λdx fs e' _=>⟨_,by rw[z];exact e'⟩
 ·rcases cV.mp z with z | z
  ·exact⟨_,by rw[z];exact T.qs⟩
  ·refine oE (vK z) λi zq=>oE zq λhi ez=>?_;obtain⟨vs,e',_⟩:=T.lx i b (by rw[<-ez];exact aX hi);exact⟨_,e'⟩
def we(es:List Ent)(i:Nat):Option Ent:=(cu es i).getLast?
def nB(es:List Ent):List Int:=((List.range 12).filter λi=>decide (cu es i≠[])).map λ(i:Nat)=>(i:Int)
def jB(kd:Str)(es:List Ent):List Int:=if kd = "row" then (es.head?.map (·.n)).toList else nB es
def lp(es:List Ent)(n:Int):List Ent:=es.eraseP λe=>decide (e.n=n)
theorem TV(i:Nat):cu [] i=[]:=rfl
theorem K'(es:List Ent)(e:Ent)(i:Nat):cu (es++[e]) i=if e.n=(i:Int) then cu es i++[e] else cu es i:=by
 unfold cu;rw[Ql]
 by_cases h:e.n=(i:Int)
 ·rw[if_pos h];simp[h]
 ·rw[if_neg h];simp[h]
theorem BC{es:List Ent}{n:Int}:n∈nB es↔∃i:Nat,i<12/\n=i/\cu es i≠[]:=by
 unfold nB;rw[pk];constructor
 ·rintro⟨i,hi,rfl⟩;rw[rG,sO]at hi;exact du i hi.1 rfl (by simpa using hi.2)
 ·rintro⟨i,h1,rfl,h2⟩;exact ak i (by rw[rG,sO];exact⟨h1,by simpa using h2⟩) rfl
theorem S9{es:List Ent}{e:Ent}{i:Nat}(h:es.head?=a_ e)(hi:e.n=(i:Int)):(cu es i).head?=a_ e:=by
 cases es with
 | nil=>cases h
 | cons x r=>
  cases h;unfold cu;rw[x8,if_pos (by simpa using hi)];rfl
theorem agj{tn:Int}{es:List Ent}{n num d:Int}(w:oW tn es)(h0:0<=n)(h1:n<12):oW (tn+1) (es++[⟨tn,n,num,d⟩]):=by
 refine⟨List.pairwise_append.mpr ⟨w.asc,List.pairwise_singleton _ _,λx hx y hy=>?_⟩,λe he=>?_,λe he=>?_⟩
 ·rw[gJ.mp hy];exact w.lt x hx
 ·rcases jA.mp he with z | z
  ·exact w.nm e z
  ·rw[gJ.mp z];exact⟨h0,h1⟩
 ·rcases jA.mp he with z | z
  ·have:=w.lt e z;lia
  ·rw[gJ.mp z];show tn<tn+1;lia
theorem aeM{tn:Int}{es:List Ent}(w:oW tn es)(n:Int):oW tn (lp es n):=by
 have sub:(lp es n).Sublist es:=List.eraseP_sublist;exact⟨w.asc.sublist sub,λe he=>w.nm e (sub.subset he),λe he=>w.lt e (sub.subset he)⟩
theorem adB(es:List Ent)(n:Int)(i:Nat):cu (lp es n) i=if n=(i:Int) then (cu es i).tail else cu es i:=by
 induction es with
 | nil=>unfold lp cu;simp
 | cons e r ih=>
  unfold lp at ih ⊢;rw[aa0]
  by_cases h:e.n=n
  ·rw[decide_eq_true h,cond_true];unfold cu
   by_cases hi:n=(i:Int)
   ·rw[if_pos hi,x8,if_pos (by simpa using h.trans hi)];rfl
   ·rw[if_neg hi,x8,if_neg (by simpa using λz:e.n=(i:Int)=>hi (h.symm.trans z))]
  ·rw[decide_eq_false h,cond_false];unfold cu at ih ⊢;rw[x8,x8]
   by_cases he:e.n=(i:Int)
   ·have qm:¬n=(i:Int):=λz=>h (he.trans z.symm);rw[if_neg qm]at ih;simp only[decide_eq_true he,if_true];rw[if_neg qm,ih]
   ·simp only[decide_eq_false he,xZ,if_false];rw[ih]
structure BT(mg:Str->Option f_):Prop where
 lA:mg "isinstance" = b_
 int:mg "int" = b_
 bool:mg "bool" = b_
 str:mg "str" = b_
 len:mg "len" = b_
 all:mg "all" = b_
 range:mg "range" = b_
 enum:mg "enumerate" = b_
 min:mg "min" = b_
 sorted:mg "sorted" = b_
structure oC(K:W.Frag)(C:e_):Prop where
 cl:fQ K C
 kind:cj K C "kind"
 turn:cj K C "turn"
 wB:cj K C "queues"
def Sw:Sp:=λvs H Q _=>∃v T,vs=[v]/\tyName H v=a_ T/\Q (.bl (sg v)) H
theorem adu:ba zLF zLF (aT KG):=bg
theorem acB(F:aV K "is_whole" "is_whole" KG f fd)(B:BT mg):ax P w K mg base aB 1 f fd zLF Sw:=by
 refine F.ok adu (λvs H Q E h=>?_) λaL A _ s H vs Q E hr h=>?_
 ·refine aW h λv T aa _=>?_;clear h;subst aa;rfl
 ·refine cI h λv T aa ht k=>?_;clear h;subst aa;refine⟨_,aE (a8 (wD (cg lL rfl B.lA kr (ae (pv 0) (ae (qH (v:=.ty "int") rfl B.int boot_int rfl) ag))) (wC (E3 (cg lL rfl B.lA kr (ae (pv 0) (ae (qH (v:=.ty "bool") rfl B.bool boot_bool rfl) ag))))))),?_⟩;have e:=Vg ht;refine ak v rfl (eY _ _ _ _ (gG _ rfl (qU ht) rfl (qR ht qc) (ak _ rfl (Aw (λh1=>?_) λh1=>?_))))
  ·refine ak v rfl (eY _ _ _ _ (gG _ rfl (qU ht) rfl (qR ht qc) (ak _ rfl ?_)));rw[h1,zD]at e;rw[e];exact k
  ·rw[h1,rH]at e;rw[e];exact k
def Ww(C:e_):Sp:=λvs H Q _=>∃x dx kd,vs=[.ref x,.str kd]/\H x=a_ (.ins C dx [])/\∀H' q qr,dR H' x C kd 0 [] q qr->(∀b o,b≠x->H b=a_ o->H' b=a_ o)->(∀b∈q::qr,H b=b_)->Q .aJ H'
theorem akt:ba ["self","kind"] ["self","kind"] (aT Gw):=bg
theorem afN:(["name"]:List Str).Nodup:=dk
theorem aiZ(f:Str)(u:V):(aU f u []).length<1000:=by
 have h1:=sR f u [];have h3:([]:List (Str×V)).length=0:=rfl;exact wb
theorem aiY(f g:Str)(u v:V):(aU f u (aU g v [])).length<1000:=by
 have h1:=sR f u (aU g v []);have h2:=sR g v [];have h3:([]:List (Str×V)).length=0:=rfl;exact xi
theorem Ts:∀m∈UD,¬m = "kind"/\¬m = "turn"/\¬m = "queues":=dk
theorem qY(kd:Str)(q:e_):(aU "queues" (.ref q) (aU "turn" (.int 0) (aU "kind" (.str kd) [])))=[(("kind" : Str),V.str kd),(("turn" : Str),V.int 0),(("queues" : Str),V.ref q)]:=by
 have n1:¬("kind" : Str) = "turn":=dk;have n2:¬("kind" : Str) = "queues":=dk;have n3:¬("turn" : Str) = "queues":=dk;simp only[aU,n1,n2,n3,if_false]
theorem aiH(F:aV K "__init__" "Tray.__init__" Gw f fd)(B:BT mg)(cT:oC K C)(mN:∃u,mg "NAMES" = a_ u/\RelV (.int 12) u):ax P w K mg base aB 1 f fd ["self","kind"] (Ww C):=by
 refine af mN λuN mN rN=>F.ok akt (λvs H Q E h=>?_) λaL A _ s H vs Q E hr h=>?_
 ·refine eh h λx dx kd aa _=>?_;clear h;subst aa;rfl
 ·refine gw h λx dx kd aa hx k=>?_;clear h;subst aa
  refine let R1:TS:=_;let R2:TS:=_;⟨_,aD (iu (pv 0) (pv 1) rfl) (pR R2 (aD (iu (pv 0) aq rfl) (pR R1 (aE (iu (pv 0) (jX (N:=["name"]) (idx:=[]) rfl (eT.of (by kernel_rfl)) (jV (cy _))
   (sU rfl B.range (ae (iq rfl mN rN) ag)) (λ_ _ _ _=>de (i:=0) afN rfl (aP rfl) (.inr rfl)) (λ_ _ _ _=>jK) λ_ _ _ _=>dN ag) rfl))))),?_⟩
  refine vr rfl (vr rfl (oa x C dx ([]) rfl hx cT.cl cT.kind qc (ak _ rfl (⟨x,C,dx,(jY _ rfl aA cT.cl cT.turn (aiZ _ _) ?_)⟩))));rw[nu];refine⟨12,rfl,qc,qc,?_⟩;generalize y9:upd H x (.ins C dx (aU "turn" (.int 0) (aU "kind" (.str kd) [])))=H1;have lB:H1 x=a_ (.ins C dx (aU "turn" (.int 0) (aU "kind" (.str kd) []))):=by rw[<-y9];exact aA
  have n1:∀b,H1 b=b_->H b=none:=λb e=>by
   rw[<-y9]at e
   by_cases z:b=x
   ·rw[z,aA]at e;cases e
   ·rwa[au z]at e
  refine jn (n:=12) (λi ys H'=>∃qr:List e_,ys=qr.map V.ref/\qr.length=i/\qr.Nodup/\(∀b∈qr,H' b=a_ (.lst [])/\H1 b=b_)/\ai H1 H') qc ⟨[],rfl,rfl,.nil,(λb hb=>nomatch hb),ai.refl _⟩ ?_ ?_ ?_ ?_ ?_
  ·rintro i ys H' ⟨qr,rfl,hl,_⟩;rw[aO,hl];exact aN _
  ·rintro i ys H' hi _;exact hi
  ·rintro ys H' _;exact aN _
  ·rintro i ys H' hi ⟨qr,rfl,hl,nd,hq,sm⟩ y i0 ⟨eH,ey⟩;subst eH;dsimp only[jd,j'];rw[if_pos rfl];refine⟨qc,λp hp=>⟨qr++[p],by simp,by simp[hl],?_,λb hb=>?_,aM sm hp⟩⟩
   ·refine List.nodup_append.mpr (eM nd (by simp) λb hb c hc=>?_);rw[gJ.mp hc];exact bw (hq b hb).1 hp
   ·rcases jA.mp hb with z | z
    ·exact⟨by rw[au (bw (hq b z).1 hp)];exact(hq b z).1,(hq b z).2⟩
    ·rw[gJ.mp z];refine⟨aA,?_⟩;cases e:H1 p with
     | none=>rfl
     | some o=>rw[sm _ _ e]at hp;cases hp
  ·rintro ys H' ⟨qr,rfl,hl,nd,hq,sm⟩;refine⟨by rw[aO,hl];decide,λq AS=>?_⟩;have nx:=bw (sm _ _ lB) AS;refine vr rfl (⟨x,C,dx,(jY _ rfl (by rw[au nx];exact sm _ _ lB) cT.cl cT.wB (aiY _ _ _ _) ?_)⟩);have tQ:q∉qr:=λz=>by rw[(hq q z).1]at AS;cases AS
   have xqr:x∉qr:=λz=>by have:=(hq x z).2;rw[lB]at this;cases this
   refine k _ q qr ⟨⟨dx,_,aA,?_,?_,?_,?_,?_⟩,by rw[au (gq nx),aA],hl,nd,tQ,λi b hb=>⟨[],?_,by rw[TV];exact .nil⟩,⟨.nil,(λe he=>nomatch he),(λe he=>nomatch he)⟩⟩ (λb o hb e=>?_) λb hb=>?_
   ·rw[gQ,if_neg dk,gQ,if_neg dk,gQ,if_pos rfl]
   ·rw[gQ,if_neg dk,gQ,if_pos rfl]
   ·rw[gQ,if_pos rfl]
   ·intro m hm;refine bp (Ts m hm) λm1 m2 m3=>?_;rw[gQ,if_neg m3,gQ,if_neg m2,gQ,if_neg m1];rfl
   ·rw[qY];show 3<=20;decide
   ·have hm:=bo hb;have nbx:b≠x:=λz=>xqr (z ▸ hm);have nbq:b≠q:=λz=>tQ (z ▸ hm);rw[au nbx,au nbq];exact(hq b hm).1
   ·have e1:H1 b=a_ o:=by rw[<-y9,au hb];exact e
    have e2:=sm _ _ e1;rw[au hb,au (bw e2 AS)];exact e2
   ·refine n1 b ?_;rcases cV.mp hb with z | z
    ·subst z;cases e:H1 b with
     | none=>rfl
     | some o=>rw[sm _ _ e]at AS;cases AS
    ·exact(hq b z).2
def FK(F:List e_)(H H':Hp):Prop:=∀b o,b∉F->H b=a_ o->H' b=a_ o
theorem ahb{n:Nat}(h:n<=20000):n<cW:=by rw[jl];exact wb
theorem K7(es:List Ent)(i:Nat):(cu es i).length<=es.length:=Bg _ _
theorem Jv{α β:Type}{F:α->β->Prop}{a:α}{b:β}:∀{l:List α} {r:List β},Paired F l r->F a b->Paired F (l++[a]) (r++[b])
 | _,_,.nil,h=>.cons h .nil
 | _,_,.cons g t,h=>.cons g (Jv t h)
theorem dR.WA{tn:Int}(T:dR H a C kd tn es q qr){n:Int}(h0:0<=n)(h1:n<12):∃i:Nat,n=i/\i<12/\∃b,qr[i]?=a_ b/\jg (qr.map V.ref) n=a_ (.ref b):=by
 have hl:=T.len;obtain⟨i,rfl⟩:∃i:Nat,n=i:=⟨n.toNat,xm⟩;have hi:i<qr.length:=li;refine du i rfl li (ak (qr[i]) (aX hi) (cb ?_));rw[f9,aX hi];rfl
theorem Vd:∀(fs:List (Str×V)) (u:V),fs.lookup f=a_ v->(aU f u fs).length=fs.length
 | [],_,e=>by cases e
 | (g,x)::r,u,e=>by
  by_cases h:g=f
  ·simp only[aU,if_pos h,jk]
  ·simp only[aU,if_neg h,jk];rw[Vd r u];have hb:(f == g)=false:=by simpa using λz=>h z.symm
   rw[sL,hb]at e;exact e
def VO(C:e_):Sp:=λvs H Q _=>∃a n num d kd tn es q qr,vs=[.ref a,.int n,.int num,.int d]/\dR H a C kd tn es q qr/\0<=n/\n<12/\es.length<=20000/\
 ∀H',dR H' a C kd (tn+1) (es++[⟨tn,n,num,d⟩]) q qr->FK (a::q::qr) H H'->Q .aJ H'
theorem agt:ba zLt zLt (aT Mp):=bg
theorem afq(F:aV K "add" "Tray.add" Mp f fd)(cT:oC K C):ax P w K mg base aB 1 f fd zLt (VO C):=by
 refine F.ok agt (λvs H Q E h=>?_) λaL A _ s H vs Q E hr h=>?_
 ·obtain⟨a,n,num,d,kd,tn,es,q,qr,aa,_⟩:=h;subst aa;rfl
 ·obtain⟨a,n,num,d,kd,tn,es,q,qr,aa,aH⟩:=h;subst aa;refine my aH λT h0 h1 hz k=>?_;refine let R1:TS:=_;⟨_,aD (dg (jZ PySem.F.plainAttrs_list PySem.F.slot_list_append PySem.F.type_list_append ni (az aS (bu (pv 0) rfl) (pv 1)) (ae (gu (ae (bu (pv 0) rfl) (ae (gu (ae (pv 1) (ae (pv 2) (ae (pv 3) ag)))) ag))) ag))) (pR R1 (aE (acw (pv 0) aq ahm))),?_⟩
  refine gc (id T.obj) λdx fs ea e1 e2 e3 em el=>aG (T.WA h0 h1) λi aa hi aH=>?_;subst aa;refine af aH λb hb hat=>af (T.lx i b hb) λvs eb rb=>?_;have nV:=bo hb;have lv:=Paired.length rb;have lq:=K7 es i;refine vF rfl ea cT.cl cT.wB e3 (vr rfl (rL (v:=.ref b) (aj.of T.qs) (hat) ⟨.inl ⟨rfl,_,aj.of eb⟩,vF rfl ea cT.cl cT.turn e2 (ak _ rfl (vr rfl (vr rfl ⟨(sl (n:=3)),(λst dn=>⟨(sl (n:=2)),λp hp=>?_⟩)⟩)))⟩));have tY:∀c o,H c=a_ o->c≠st:=λc o e=>bw e dn;have np:=λc o e=>bw (by rw[au (tY c o e)];exact e) hp;have nsp:=bw aA hp;have up:∀c o,H c=a_ o->upd (upd H st (.tup [.int (i:Int),.int num,.int d])) p (.tup [.int tn,.ref st]) c=a_ o:=λc o e=>by rw[au (np c o e),au (tY c o e)];exact e
  have Dg:=hY ea eb (by intro z;cases z);have Ox:q≠b:=λz=>T.nq (z ▸ nV);refine jb b vs (.ref p) rfl rfl (up _ _ eb) (ahb li) (ak _ rfl (eY a C dx fs (jY _ rfl (by rw[au Dg];exact up _ _ ea) cT.cl cT.turn e2 ⟨_,_,rfl,rfl,dx,fs,by rw[au Dg];exact up _ _ ea,wb,?_⟩)));have pb:=gq (np b _ eb);have pa:=gq (np a _ ea);have sb:=gq (tY b _ eb);have sa:=gq (tY a _ ea);generalize DC:upd (upd (upd (upd H st (.tup [.int (i:Int),.int num,.int d])) p (.tup [.int tn,.ref st])) b (.lst (vs++[.ref p]))) a (.ins C dx (aU "turn" (.int (tn+1)) fs))=H2;have g0:∀c o,c≠a->c≠b->H c=a_ o->H2 c=a_ o:=λc o z1 z2 e=>by rw[<-DC,au z1,au z2];exact up c o e
  have ga:H2 a=a_ (.ins C dx (aU "turn" (.int (tn+1)) fs)):=by rw[<-DC];exact aA
  have gb:H2 b=a_ (.lst (vs++[.ref p])):=by rw[<-DC,au (gq Dg)];exact aA
  have gp:H2 p=a_ (.tup [.int tn,.ref st]):=by rw[<-DC,au pa,au pb];exact aA
  have gs:H2 st=a_ (.tup [.int (i:Int),.int num,.int d]):=by rw[<-DC,au sa,au sb,au nsp];exact aA
  have kt:∀c xs,H c=a_ (.tup xs)->H2 c=a_ (.tup xs):=λc xs e=>g0 c _ (hY e ea (by intro z;cases z)) (hY e eb (by intro z;cases z)) e;refine k H2 ⟨⟨dx,_,ga,?_,?_,?_,λm hm=>?_,?_⟩,g0 q _ (hY T.qs ea (by intro z;cases z)) Ox T.qs,T.len,T.nd,T.nq,λj c hc=>?_,agj T.wf h0 h1⟩ λc o hc e=>g0 c o (λz=>hc (by simp[z])) (λz=>hc (by simp[z,nV])) e
  ·rw[gQ,if_neg dk];exact e1
  ·rw[gQ,if_pos rfl]
  ·rw[gQ,if_neg dk];exact e3
  ·rw[gQ,if_neg (Ts m hm).2.1];exact em m hm
  ·have:=Vd fs (.int (tn+1)) e2;exact w7
  ·rw[K']
   by_cases z:j=i
   ·subst z;rw[hb]at hc;cases hc;rw[if_pos rfl];exact ak _ gb (Jv (yl (λ_ _ y=>y.keep (F:=[]) kt) rb) ⟨p,st,rfl,gp,gs⟩)
   ·rw[if_neg λy=>z (by have:(i:Int)=(j:Int):=y;lia)]
    have OA:c≠b:=λy=>z (by
     subst y;have n1:=dX.mp hc;have n2:=dX.mp hb;refine oE n1 λp1 q1=>oE n2 λp2 q2=>?_;rcases IJ j i with y | y | y
     ·exact absurd (q1.trans q2.symm) (qu.mp T.nd j i p1 p2 y)
     ·exact y
     ·exact absurd (q2.trans q1.symm) (qu.mp T.nd i j p2 p1 y))
    refine(T.lx j c hc).keep (λo e=>g0 c o (λy=>?_) OA e) kt;refine af (T.lx j c hc) λoY e' _=>?_;rw[y,ea]at e';cases e'
theorem abX{α β:Type}{F:α->β->Prop}{r:List β}(h:Paired F [] r):r=[]:=by cases h;rfl
theorem QI:∀{vs:List V} {l:List Ent},Paired (lP H) vs l->vs≠[]->∃oY v e,vs=oY++[v]/\l.getLast?=a_ e/\lP H v e
 | _,_,.nil,h=>absurd rfl h
 | _,_,.cons (a:=v) (b:=e) g t,_=>by
  cases t with
  | nil=>exact⟨[],v,e,rfl,rfl,g⟩
  | cons h t=>
   exact gw (QI (.cons h t) (by simp)) λoY v' e' q1 q2 q3=>mq (v::oY) v' e' (by rw[q1];rfl) (by rw[List.getLast?_cons_cons];exact q2) q3
def SH(C:e_):Sp:=λvs H Q _=>∃a n kd tn es q qr,vs=[.ref a,.int n]/\dR H a C kd tn es q qr/\0<=n/\n<12/\es.length<=20000/\
 (we es n.toNat=b_->Q .aJ H)/\∀e st,we es n.toNat=a_ e->H st=a_ (.tup [.int e.n,.int e.num,.int e.d])->Q (.ref st) H
theorem RE:ba ["self","name","queue"] zLj (aT J7):=bg
theorem ab1(F:aV K "latest" "Tray.latest" J7 f fd)(B:BT mg)(cT:oC K C):ax P w K mg base aB 1 f fd zLj (SH C):=by
 refine F.ok RE (λvs H Q E h=>?_) λaL A _ s H vs Q E hr h=>?_
 ·obtain⟨a,n,kd,tn,es,q,qr,aa,_⟩:=h;subst aa;rfl
 ·obtain⟨a,n,kd,tn,es,q,qr,aa,T,h0,aH⟩:=h;subst aa;refine iB aH λh1 hz k0 k1=>?_;refine let R1:TS:=_;⟨_,aD (bJ (i:=2) RE.nd rfl (aP rfl) (az aS (bu (pv 0) rfl) (pv 1))) (pR R1 (aE (a8 (Kg (br dO (cg fg rfl B.len PySem.boot_len (ae (pv 2) ag)) aq (bf _)) lM (az bh (az aS (pv 2) (Ci B3 aq)) aq))))),?_⟩
  refine gc (id T.obj) λdx fs ea e1 e2 e3 em el=>aG (T.WA h0 h1) λi aa hi aH=>?_;subst aa;refine af aH λb hb hat=>?_;rw[jJ]at k0 k1;refine af (T.lx i b hb) λvs eb rb=>vF rfl ea cT.cl cT.wB e3 (vr rfl (rL (v:=.ref b) (aj.of T.qs) (hat) (vr rfl ⟨b,⟨_,rfl,.inl (aj.of eb),rfl,_,rfl,bq (λz=>?_) λz=>?_⟩⟩)))
  ·have hv:vs=[]:=by
    injection z with z
    exact vH.mp li
   subst hv;refine k0 ?_;unfold we;rw[abX rb];rfl
  ·have hv:vs≠[]:=λy=>z (by rw[y];rfl);refine gw (QI rb hv) λoY v e q1 q2 aa=>cI aa λp st aa q3 q4=>?_;subst aa;subst q1;refine vr rfl (ak _ rfl (rL (v:=.ref p) (aj.of eb) (BP _ _) (rT (v:=.ref st) (aI.of q3) (rfl) (k1 e st q2 q4))))
def Tz(C:e_):Sp:=λvs H Q _=>∃a kd tn es q qr,vs=[.ref a]/\dR H a C kd tn es q qr/\∀H',ai H H'->Q (.bl (decide (es=[]))) H'
theorem adw:ba zLe zLe (aT KI):=bg
theorem ad1:(["queue"]:List Str).Nodup:=dk
theorem aci{tn:Int}(w:oW tn es)(h:∀i,i<12->cu es i=[]):es=[]:=by
 cases es with
 | nil=>rfl
 | cons e r=>
  refine oA (w.nm e hX) λh0 h1=>?_;have:=h e.n.toNat li;unfold cu at this;rw[x8,if_pos (by simp;lia)]at this;cases this
theorem all_empty{tn:Int}(w:oW tn es):((List.range 12).map λi=>decide (cu es i=[])).all id=decide (es=[]):=by
 by_cases h:es=[]
 ·subst h;rfl
 ·rw[decide_eq_false h,zH];cases e:(List.range 12).all (id ∘ λi=>decide (cu es i=[]))with
  | false=>rfl
  | true=>
   exfalso;exact h (aci w λi hi=>by simpa using DY.mp e i (sO.mpr hi))
theorem acG(F:aV K "is_empty" "Tray.is_empty" KI f fd)(B:BT mg)(cT:oC K C):ax P w K mg base aB 1 f fd zLe (Tz C):=by
 refine F.ok adw (λvs H Q E h=>?_) λaL A _ s H vs Q E hr h=>?_
 ·refine lK h λa kd tn es q qr aa _=>?_;subst aa;rfl
 ·refine kY h λa kd tn es q aa=>aG aa λqr aa T k=>?_;subst aa
  refine⟨_,aE (a8 (cg (BO rfl) rfl B.all ED (ae (jX (N:=["queue"]) (idx:=[]) rfl (eT.of (by kernel_rfl)) (jV (cy _)) (rQ (bu (pv 0) rfl))
   (λ_ _ _ _=>de (i:=0) ad1 rfl (aP rfl) (.inr rfl)) (λ_ _ _ _=>jK) λ_ _ _ _=>qG dO (cg (len_K K) rfl B.len PySem.boot_len (ae (pv 0) ag)) aq (bf _)) ag))),?_⟩
  refine gc (id T.obj) λdx fs ea e1 e2 e3 em el=>ak _ rfl (eY a C dx fs (jY _ rfl ea cT.cl cT.wB e3 (du q rfl ⟨_,aj.of T.qs⟩ ?_)));have hl:=T.len;refine jn (n:=12) (λi ys H'=>H'=H/\ys=(List.range i).map λj=>V.bl (decide (cu es j=[]))) qc ⟨rfl,rfl⟩ ?_ ?_ ?_ ?_ ?_
  ·rintro i ys H' ⟨_,rfl⟩;rw[aO,rD];exact aN _
  ·rintro i ys H' hi ⟨rfl,_⟩;exact eG _ (V.ref (qr[i]'wg)) (aj.of T.qs) (by rw[f9,aX wg];rfl)
  ·rintro ys H' ⟨rfl,_⟩;exact ak _ (aj.of T.qs) (by rw[aO,hl];exact aN _)
  ·rintro i ys H' hi ⟨rfl,rfl⟩ y i0 ⟨eH,hy⟩;subst eH;have vv:=hy _ (aj.of T.qs);rw[f9,aX wg]at vv;cases vv;refine af (T.lx i _ (aX wg)) λvs eb rb=>?_;dsimp only[jd,j'];rw[if_pos rfl];refine vr rfl ⟨_,⟨_,rfl,.inl (aj.of eb),rfl,rfl,?_⟩⟩;rw[x9,gg]
   congr 1
   have lv:=Paired.length rb;simp only[gK,QQ,List.cons.injEq,V.bl.injEq,and_true];refine decide_eq_decide.mpr ⟨λz=>?_,λz=>?_⟩
   ·injection z with z
    exact vH.mp li
   ·rw[z]at lv;rw[lv];rfl
  ·rintro ys H' ⟨rfl,rfl⟩;refine⟨by rw[aO,rD];decide,λp hp=>dS p ((List.range 12).map λj=>decide (cu es j=[])) rfl (aj.of (by rw[aA,sQ];rfl)) ?_⟩;rw[all_empty T.wf];exact k _ (aM (ai.refl _) hp)
def wJ(es:List Ent)(i:Nat):List Int:=((List.range i).filter λj=>decide (cu es j≠[])).map λ(j:Nat)=>(j:Int)
theorem Q2(es:List Ent)(i:Nat):wJ es (i+1)=wJ es i++(if cu es i≠[] then [(i:Int)] else []):=by
 unfold wJ;rw[x9,Ql,gg]
 congr 1
 by_cases h:cu es i≠[]
 ·rw[if_pos h,List.filter_cons_of_pos (by simpa using h)];rfl
 ·rw[if_neg h,List.filter_cons_of_neg (by simpa using h)];rfl
theorem Ru(es:List Ent)(i:Nat):(wJ es i).length<=i:=by
 unfold wJ;rw[aO];have h:=Bg (λj=>decide (cu es j≠[])) (List.range i);rw[rD]at h;exact h
def xA(es:List Ent)(n:Int):Int:=((cu es n.toNat).head?.map (·.t)).getD 0
theorem Jk{tn:Int}(w:oW tn es)(h:es.head?=a_ e):e.n∈nB es:=by
 have hm:e∈es:=by
  cases es with
  | nil=>cases h
  | cons x r=>cases h;exact hX
 refine oA (w.nm e hm) λh0 h1=>BC.mpr (du e.n.toNat li xm λz=>?_);have:=S9 (i:=e.n.toNat) h xm;rw[z]at this;cases this
theorem afb{tn:Int}{m:Int}(w:oW tn es)(hm:m∈nB es)(hb:∀n∈nB es,xA es m<=xA es n):(es.head?.map (·.n)).toList=[m]:=by
 refine aG (BC.mp hm) λi hi aa lC=>?_;subst aa;cases es with
 | nil=>exact absurd rfl lC
 | cons e r=>
  have h1:=hb e.n (Jk w rfl);refine oA (w.nm e hX) λn0 n1=>?_
  have k1:xA (e::r) e.n=e.t:=by
   unfold xA;rw[S9 (i:=e.n.toNat) (e:=e) rfl xm];rfl
  cases q:cu (e::r) i with
  | nil=>exact absurd q lC
  | cons x l=>
   have k2:xA (e::r) (i:Int)=x.t:=by
    unfold xA;rw[jJ,q];rfl
   have hx:x∈cu (e::r) i:=by rw[q];exact hX
   unfold cu at hx;refine oA (rG.mp hx) λlB m8=>?_;have hn:x.n=(i:Int):=by simpa using m8
   rcases cV.mp lB with z | z
   ·show [e.n]=[(i:Int)];rw[<-z,hn]
   ·have:=(List.pairwise_cons.mp w.asc).1 x z;rw[k1,k2]at h1;lia
theorem afc{tn:Int}(w:oW tn es)(h:¬1<(nB es).length):(es.head?.map (·.n)).toList=nB es:=by
 cases es with
 | nil=>rfl
 | cons e r=>
  have hm:=Jk (e:=e) w rfl
  match q:nB (e::r)with
  | []=>rw[q]at hm;cases hm
  | [x]=>
   rw[q]at hm;rw[<-gJ.mp hm];rfl
  | _::_::_=>
   rw[q]at h;simp at h
abbrev LP:Pos:=⟨187,35,187,71⟩
abbrev LQ:Str:=("Tray.fronts" : Str) ++ ".<locals>." ++ "<lambda>"
def JY(C PT:e_):Sp:=λvs H Q _=>∃a kd tn es q qr,vs=[.ref a]/\dR H a C kd tn es q qr/\cq PT LP LQ H/\
 ∀H' l,iA [] H H'->cq PT LP LQ H'->H l=b_->H' l=a_ (.lst ((jB kd es).map V.int))->Q (.ref l) H'
theorem RF:ba ["self","names"] zLe (aT Eu):=bg
theorem VY:(["name","queue"]:List Str).Nodup:=dk
theorem Cy(h:V.str x=V.str y):x=y:=by injection h
theorem abT{PT:e_}{ps:Array f_}(s:ai H H1){Ho:Array f_}(t:wV PT H1 H2)(hP:H1 PT=a_ (.gx ps))(Po:H2 PT=a_ (.gx Ho)):iA [] H H2:=(iA.of s).trans (iA.XQ t hP Po)
theorem Q8{f C PT c:e_}(F:xp K "fronts" "Tray.fronts" Eu f fd c)(B:BT mg)(cT:oC K C)(hC:W.CodeHd base c PT)(hB:vh mg base):ax P w K mg base aB 2 f fd zLe (JY C PT):=by
 refine F.ok RF (λvs H Q E h=>?_) λA outer s H vs Q E hr h=>?_
 ·refine lK h λa kd tn es q qr aa _=>?_;subst aa;rfl
 ·refine kY h λa kd tn es q aa=>cR aa λqr aa T xu k=>?_;subst aa;have Y':=hr.dp
  refine let R1:TS:=_;let R2:TS:=_;⟨_,aD (Eg (i:=1) (N:=["name","queue"]) (idx:=[]) RF.nd rfl rfl rfl (eT.of (by kernel_rfl)) (Eh (cy _) (cy _)) (BW (b:=c_) rfl B.enum (ae (bu (pv 0) rfl) ag))
    (λ_ _ _ _=>sZ rfl (jW (de (i:=0) VY rfl (aP rfl) (.inr rfl)) (jW (de (i:=1) VY rfl (aP rfl) (.inr rfl)) sW)))
    (λ_ _ _ _=>La (br yt (cg (len_K K) rfl B.len PySem.boot_len (ae (pv 1) ag)) aq (bf _))) λ_ _ _ _=>pv 0)
   (pR R2 (aD (b9 (PW.pt (pw_and (br dO (bu (pv 0) rfl) cZ (bf _)) (pw_and1 (br yt (cg fg rfl B.len PySem.boot_len (ae (pv 1) ag)) aq (bf _))))) (pR R1 (aE (a8 (dN (ae (acy (N:=["self","name"]) (idx:=[0]) (k:=1) (px:="name") (P:=PT) rfl (by show A.depth+1+5<_;have h1:A.depth+1+3*1+5<D2:=Y';lia) rfl B.min (pv 1) (eT.of (by kernel_rfl)) rfl hC hB rfl rfl qc
     (λ_ _ _ _ _ _=>az (ML K) (az (MM K) (az (MM K) (ai9 K (pv 0) rfl) (pv 1)) aq) aq) λ_ _ _ _ _ _=>rfl) ag))))) cD)
   (aE (a8 (pv 1))))),?_⟩
  refine gc (id T.obj) λdx fs ea e1 e2 e3 em el=>?_;have hl:=T.len;refine vF rfl ea cT.cl cT.wB e3 ⟨q,⟨_,rfl,aj.of T.qs,jn (n:=12) (λi ys H'=>ai H H'/\ys=(wJ es i).map V.int) qc ⟨ai.refl _,rfl⟩ ?_ ?_ ?_ ?_ ?_⟩⟩
  ·rintro i ys H' ⟨_,rfl⟩;rw[aO];exact Ru es i
  ·rintro i ys H' hi ⟨sm,_⟩;exact eG _ (V.ref (qr[i]'wg)) (aj.of (sm _ _ T.qs)) (by rw[f9,aX wg];rfl)
  ·rintro ys H' ⟨sm,_⟩;exact ak _ (aj.of (sm _ _ T.qs)) (by rw[aO,hl];exact aN _)
  ·rintro i ys H' hi ⟨sm,rfl⟩ y i0 ⟨p,x,hp,ey,eH,hx⟩;subst ey;subst eH;have lB:=hx _ (aj.of (sm _ _ T.qs));rw[f9,aX wg]at lB;cases lB;refine af (T.lx i _ (aX wg)) λvs eb rb=>?_;have s2:ai H (upd H' p (.tup [.int i,.ref qr[i]])):=aM sm hp;have lv:=Paired.length rb;refine⟨p,⟨_,rfl,aI.of aA,rfl,_,_,rfl,_,_,rfl,rfl,vr rfl ⟨_,⟨_,rfl,.inl (aj.of (s2 _ _ eb)),_,_,rfl,rfl,_,rfl,bq (λz=>?_) λz=>?_⟩⟩⟩⟩
   ·refine vr rfl ⟨s2,?_⟩;rw[Q2,if_pos (λy=>by rw[y]at lv;rw[lv]at z;exact absurd z (by simp)),gg];rfl
   ·refine⟨s2,?_⟩;rw[Q2,if_neg λy=>y (vH.mp li),yb]
  ·rintro ys H' ⟨sm,rfl⟩;have wl:=Ru es 12;refine⟨by rw[aO];exact dw (dZ w4),λl1 AZ=>?_⟩;have s1:ai H (upd H' l1 (.lst ((wJ es 12).map V.int))):=aM sm AZ;generalize y9:upd H' l1 (.lst ((wJ es 12).map V.int))=H1 at s1;have rm:H1 l1=a_ (.lst ((nB es).map V.int)):=by rw[<-y9];exact aA
   have Ht:H l1=none:=by
    cases e:H l1 with
    | none=>rfl
    | some o=>rw[sm _ _ e]at AZ;cases AZ
   have kg:=gj xu s1;have T1:=T.eP (iA.of s1);refine gc (id T1.obj) λph uf DM f1 f2 f3 _ _=>?_;have done:(nB es).length<=12:=wl;refine ak _ rfl (eY a C ph uf (⟨_,rfl,DM,cT.cl,cT.kind,f1,rfl,(ak _ rfl ?_)⟩))
   by_cases hk:kd = "row"
   ·rw[decide_eq_true (show V.str kd=V.str "row" by rw[hk])];refine je (vr rfl ⟨l1,⟨_,rfl,.inl (aj.of rm),_,_,rfl,rfl,_,rfl,bq (λz=>?_) λz=>?_⟩⟩)
    ·rw[aO]at z;refine ak _ rfl (jb l1 (nB es) (xA es) rfl (aj.of rm) li kg λH2 sp xr=>af (id kg) λps Zn _=>af (id xr) λHo Xj _=>?_);have kp:=iA.XQ sp Zn Xj;have T2:=T1.eP kp;have ng:=kp.k l1 _ (by simp) (λps z=>by cases z) rm;refine eM (aj.of ng) (λm hm=>?_) λm hm hb=>?_
     ·refine aG (BC.mp hm) λi hi aa lC=>?_;subst aa;refine gc (id T2.obj) λsH qq ea2 g1 g2 g3 _ _=>af (T2.lx i _ (aX wg)) λvs eb rb=>?_;cases Ow:cu es i with
      | nil=>exact absurd Ow lC
      | cons x r=>
       rw[Ow]at rb;cases rb with
       | cons hx ub=>
        refine cI hx λp st aa q1 q2=>?_;clear hx;subst aa;refine vF rfl ea2 cT.cl cT.wB g3 (vr rfl (rL (v:=.ref (qr[i]'wg)) (aj.of T2.qs) ((cb (by rw[f9,aX wg];rfl))) (GZ (v:=.ref p) (j:=0) eb rfl (rT (v:=.int x.t) (aI.of q1) (cb (j:=0) rfl) ⟨?_,rfl⟩))))
        ·unfold xA;rw[jJ,Ow];rfl
     ·refine⟨(sl (n:=1)),λl hn=>k _ l ((abT s1 sp Zn Xj).trans (iA.of (aM (ai.refl _) hn))) (gj xr (aM (ai.refl _) hn)) ?_ ?_⟩
      ·cases e:H l with
       | none=>rfl
       | some o=>
        by_cases zp:l=PT
        ·refine af xr λps2 h2 _=>?_;rw[zp,h2]at hn;cases hn
        ·rw[sp _ _ zp (s1 _ _ e)]at hn;cases hn
      ·rw[aA];unfold jB;rw[if_pos hk,afb T.wf hm hb];rfl
    ·rw[aO]at z;refine vr rfl (k H1 l1 (iA.of s1) kg Ht ?_);rw[rm];unfold jB;rw[if_pos hk,afc T.wf li]
   ·rw[decide_eq_false (show ¬V.str kd=V.str "row" from λz=>hk (Cy z))];refine fj (fj (vr rfl (k H1 l1 (iA.of s1) kg Ht ?_)));rw[rm];unfold jB;rw[if_neg hk]
theorem af1(n:Int)(ns:List Int):AH (.int n) (ns.map V.int)=decide (n∈ns):=by
 unfold AH
 induction ns with
 | nil=>rfl
 | cons m r ih=>
  rw[gK,zB,ih]
  by_cases h:m=n
  ·subst h;simp[qd]
  ·have:qd (.int m) (.int n)=false:=by simp[qd,h]
   rw[this,Bool.false_or];exact decide_eq_decide.mpr ⟨λz=>gE _ z,λz=>(cV.mp z).resolve_left λy=>h y.symm⟩
theorem ac4(ns:List Int):(ns.map V.int).all uV=true:=by
 rw[zH];exact DY.mpr λ_ _=>rfl
theorem JN{tn:Int}{n:Int}(w:oW tn es)(h:n∈jB kd es):∃i:Nat,i<12/\n=i/\∃e r,cu es i=e::r:=by
 have hw:n∈nB es:=by
  unfold jB at h
  by_cases hk:kd = "row"
  ·rw[if_pos hk]at h;cases es with
   | nil=>cases h
   | cons e r=>
    have e1:n=e.n:=by simpa using h
    rw[e1];exact Jk w rfl
  ·rw[if_neg hk]at h;exact h
 refine aG (BC.mp hw) λi hi e lC=>du i hi e ?_;cases q:cu es i with
 | nil=>exact absurd q lC
 | cons x r=>exact⟨x,r,rfl⟩
def UI(C PT jr:e_):Sp:=λvs H Q E=>∃a n kd tn es q qr,vs=[.ref a,.int n]/\dR H a C kd tn es q qr/\cq PT LP LQ H/\
 (n∈jB kd es->∀H' e st,(cu es n.toNat).head?=a_ e->dR H' a C kd tn (lp es n) q qr->iA (a::q::qr) H H'->cq PT LP LQ H'->H' st=a_ (.tup [.int e.n,.int e.num,.int e.d])->Q (.ref st) H')/\
 (n∉jB kd es->∀H',iA [] H H'->cq PT LP LQ H'->E (.ref jr) b_ H')
theorem aeY:ba zLj zLj (aT Lw):=bg
theorem adL{f fW fF C PT c jr:e_}(F:aV K "take" "Tray.take" Lw f fd)(B:BT mg)(cT:oC K C)(hC:W.CodeHd base c PT)(hB:vh mg base)
  (FW:aV K "is_whole" "is_whole" KG fW qb) (bW:Binds K qb zLF []) (mW:mg "is_whole" = a_ (.ref fW)) (FF:xp K "fronts" "Tray.fronts" Eu fF xX c) (bF:Binds K xX zLe []) (mF:Meth K C "fronts" fF)
  (xc:XC K jr) (mM:mg "NoMove" = a_ (.ref jr)):ax P w K mg base (jh P w) 3 f fd zLj (UI C PT jr):=by
 have GW:ax P w K mg base aB 1 fW qb zLF Sw:=acB FW B;have GF:ax P w K mg base aB 2 fF xX zLe (JY C PT):=Q8 FF B cT hC hB;refine F.CP aeY (λvs H Q E h=>?_) λaL A outer s H vs Q E hr hL hp h=>?_
 ·obtain⟨a,n,kd,tn,es,q,qr,aa,_⟩:=h;subst aa;rfl
 ·obtain⟨a,n,kd,tn,es,q,qr,aa,T,xu,aH⟩:=h;subst aa;obtain⟨k1,k2⟩:=aH
  refine let R1:TS:=_;let R2:TS:=_;⟨_,aD (b9 (PW.pt (pw_or (kQ (gF (dr GW (hr.mono qc) rfl mW FW.kp bW .nil aR (ae (pv 1) ag))))
    (pw_or1 (br QJ (pv 1) (ip (pv 0) cT.cl mF GF hr bF .nil aR) rfl)))) (pR R1 (aE (Kd rfl hL xc rfl mM (ae cZ ag)))) cD)
   (pR R2 (aE (a8 (az bh (jZ PySem.F.plainAttrs_list PySem.F.slot_list_pop PySem.F.type_list_pop ad3 (az aS (bu (pv 0) rfl) (pv 1)) (ae aq ag)) aq)))),?_⟩
  refine gc (id T.obj) λdx fs ea e1 e2 e3 em el=>vr rfl (dS (.int n) ("int") rfl rfl (ak _ rfl (fj (vr rfl (vM rfl ea (em "fronts" dk) (⟨a,kd,tn,es,q,qr,rfl,T,xu,(λH1 l kp kg hn hl=>⟨l,⟨_,rfl,.inl (aj.of hl),rfl,ac4 _,_,rfl,?_⟩⟩)⟩))))));rw[if_pos rfl,af1];refine Cj (λz=>⟨qc,k2 (of_decide_eq_false z) H1 kp kg⟩) λz=>?_
  ·have gH:=of_decide_eq_true z;have T1:=T.eP kp;refine aG (JN T.wf gH) λi hi aa aH=>?_;subst aa;refine xy aH λe r he=>gc (id T1.obj) λph uf DM f1 f2 f3 fm fl=>?_;have anD:=T1.len;have hb:qr[i]?=a_ (qr[i]'wg):=aX wg;refine af (T1.lx i _ hb) λvs eb rb=>?_;have nV:=bo hb;generalize qr[i]'wg=b at hb eb nV;rw[he]at rb;cases rb with
   | cons hx ub=>
    refine cI hx λp st aa q1 q2=>?_;clear hx;subst aa
    rename_i oY
    refine ak _ rfl (eY a C ph uf (jY _ rfl DM cT.cl cT.wB f3 (vr rfl (rL (v:=.ref b) (aj.of T1.qs) (cb (by rw[f9,hb];rfl)) ⟨.inl ⟨rfl,_,aj.of eb⟩,?_⟩))));refine⟨b,_,0,0,(.ref p),rfl,rfl,eb,qc,qc,(by simp[JU]),rfl,?_⟩;have npb:=hY q1 eb (by intro z;cases z);have nsb:=hY q2 eb (by intro z;cases z);refine rT (v:=.ref st) (aI.of (by rw[au npb];exact q1)) (cb (j:=1) rfl) ?_
    have ka:FK (a::q::qr) H1 (upd H1 b (.lst oY)):=λc o hc ec=>by
     rw[au λz=>hc (by simp[z,nV])];exact ec
    have kt:∀c xs,H1 c=a_ (.tup xs)->upd H1 b (.lst oY) c=a_ (.tup xs):=λc xs ec=>by rw[au (hY ec eb (by intro z;cases z))];exact ec
    have Dg:=hY DM eb (by intro z;cases z);have Ox:q≠b:=λz=>T1.nq (z ▸ nV)
    refine k1 gH _ e st (by rw[jJ,he];rfl) ⟨⟨ph,uf,by rw[au Dg];exact DM,f1,f2,f3,fm,fl⟩,by rw[au Ox];exact T1.qs,T1.len,T1.nd,T1.nq,λj c hc=>?_,aeM T1.wf _⟩
     ⟨λc o hc ht ec=>ka c o hc (kp.k c o (by simp) ht ec),λc h=>kp.t c (by
      by_cases z:c=b
      ·rw[z,aA]at h;cases h
      ·rwa[au z]at h)⟩ (Bx kg ka T1.kinds) (by rw[au nsb];exact q2)
    rw[adB]
    by_cases zj:j=i
    ·subst zj;rw[hb]at hc;cases hc;rw[if_pos rfl,he];exact ak oY aA (yl (λ_ _ y=>y.keep (F:=[]) kt) ub)
    ·rw[if_neg λy=>zj (by have:(i:Int)=(j:Int):=y;lia)]
     have OA:c≠b:=λy=>zj (by
      subst y;refine oE (dX.mp hc) λp1 q1=>?_;refine oE (dX.mp hb) λp2 q2=>?_;rcases IJ j i with y | y | y
      ·exact absurd (q1.trans q2.symm) (qu.mp T1.nd j i p1 p2 y)
      ·exact y
      ·exact absurd (q2.trans q1.symm) (qu.mp T1.nd i j p2 p1 y))
     exact(T1.lx j c hc).keep (λo e=>by rw[au OA];exact e) kt
def Sx(C PT yy:e_):Sp:=λvs H Q E=>∃v T,vs=[v]/\tyName H v=a_ T/\
 ((v=.str "row"\/v=.str "name"\/v=.str "none")->∀kd H' x q qr,v=.str kd->dR H' x C kd 0 [] q qr->FK [] H H'->(∀b∈x::q::qr,H b=b_)->Q (.ref x) H')/\
 (¬(v=.str "row"\/v=.str "name"\/v=.str "none")->E (.ref yy) b_ H)
theorem adv:ba ["kind"] ["kind"] (aT KH):=bg
theorem Uh{T:String}(h:tyName H v=a_ T):tH T "str" = c_↔∃x,v=.str x:=by
 constructor
 ·intro z;cases v with
  | str x=>exact⟨x,rfl⟩
  | aJ=>cases h;cases z
  | bl b=>cases h;cases z
  | int i=>cases h;cases z
  | ref a=>
   unfold tyName at h;cases e:H a with
   | none=>simp only[e]at h;cases h
   | some o=>
    cases o with
    | lst xs=>simp only[e]at h;cases h;cases z
    | tup xs=>simp only[e]at h;cases h;cases z
    | _=>simp only[e]at h;cases h
  | _=>cases h
 ·rintro⟨x,rfl⟩;cases h;rfl
theorem RZ{e:Ent}{f:Nat->List Ent}:∀n:Nat,((∃k:Nat,k<n/\e.n=(k:Int))->yh ((List.range n).flatMap λ(i:Nat)=>if e.n=(i:Int) then e::f i else f i) (e::(List.range n).flatMap f))/\
  ((¬∃k:Nat,k<n/\e.n=(k:Int))->((List.range n).flatMap λ(i:Nat)=>if e.n=(i:Int) then e::f i else f i)=(List.range n).flatMap f)
 | 0=>⟨λ⟨k,hk,_⟩=>absurd hk (Nat.not_lt_zero _),λ_=>rfl⟩
 | n+1=>by
  refine oA (RZ (e:=e) (f:=f) n) λi1 i2=>?_;have eF:∀g:Nat->List Ent,(List.range (n+1)).flatMap g=(List.range n).flatMap g++g n:=λg=>by rw[x9,DS];simp
  rw[eF,eF];constructor
  ·rintro⟨k,hk,ek⟩
   by_cases h:e.n=(n:Int)
   ·have iH:¬∃k:Nat,k<n/\e.n=(k:Int):=λ⟨j,hj,ej⟩=>li;rw[i2 iH,if_pos h];exact List.perm_middle
   ·rw[if_neg h];exact(i1 ⟨k,li,ek⟩).append_right _
  ·intro iH;rw[i2 λ⟨j,hj,ej⟩=>iH ⟨j,li,ej⟩,if_neg λh=>iH ⟨n,w1,h⟩]
theorem QT:∀{es:List Ent},(∀e∈es,0<=e.n/\e.n<12)->yh ((List.range 12).flatMap (cu es)) es
 | [],_=>by
  have:(List.range 12).flatMap (cu [])=[]:=List.flatMap_eq_nil_iff.mpr λi _=>rfl;rw[this]
 | e::r,h=>by
  have hf:(cu (e::r))=λi=>if e.n=((i:Nat):Int) then e::cu r i else cu r i:=by
   funext i
   unfold cu;rw[x8]
   by_cases z:e.n=(i:Int)
   ·simp only[decide_eq_true z,if_true,if_pos z]
   ·simp only[decide_eq_false z,xZ,if_false,if_neg z]
  refine oA (h e hX) λh0 h1=>?_;rw[hf];exact((RZ (e:=e) (f:=cu r) 12).1 ⟨e.n.toNat,li,xm⟩).trans ((QT λx hx=>h x (gE _ hx)).cons e)
theorem QV{H:Hp}(qv:Nat->List V)(ql:Nat->List Ent):∀n:Nat,(∀i:Nat,i<n->Paired (lP H) (qv i) (ql i))->Paired (lP H) ((List.range n).flatMap qv) ((List.range n).flatMap ql)
 | 0,_=>.nil
 | n+1,h=>by
  have eF:∀{α:Type} (g:Nat->List α),(List.range (n+1)).flatMap g=(List.range n).flatMap g++g n:=λg=>by rw[x9,DS];simp
  rw[eF,eF];exact paired_cat (QV qv ql n λi hi=>h i li) (h n (vP n))
where
 paired_cat {H:Hp}:∀{l l':List V} {r r':List Ent},Paired (lP H) l r->Paired (lP H) l' r'->Paired (lP H) (l++l') (r++r')
 | _,_,_,_,.nil,h=>h
 | _,_,_,_,.cons g t,h=>.cons g (paired_cat t h)
theorem RI{α β:Type}{F:α->β->Prop}:∀{l:List α} {r:List β},l.length=r.length->(∀(i:Nat) a b,l[i]?=a_ a->r[i]?=a_ b->F a b)->Paired F l r
 | [],[],_,_=>.nil
 | [],_::_,h,_=>by cases h
 | _::_,[],h,_=>by cases h
 | a::l,b::r,h,k=>.cons (k 0 a b rfl rfl) (RI (by simpa using h) λi x y hx hy=>k (i+1) x y (by simpa using hx) (by simpa using hy))
theorem Ju{H:Hp}:∀{l:List V} {r:List Ent},Paired (lP H) l r->∀q∈(l.zip r).map λz=>(z.2.t,z.1),∃e∈r,q.1=e.t/\lP H q.2 e
 | _,_,.nil,q,h=>by cases h
 | _,_,.cons (a:=v) (b:=e) g t,q,h=>by
  rw[aaE,gK]at h;rcases cV.mp h with z | z
  ·rw[z];exact du e hX rfl g
  ·exact af (Ju t q z) λe' h1 h2=>ak e' (gE _ h1) h2
theorem zip_parts{H:Hp}:∀{l:List V} {r:List Ent},Paired (lP H) l r->((l.zip r).map λz=>(z.2.t,z.1)).map (·.2)=l/\((l.zip r).map λz=>(z.2.t,z.1)).map (·.1)=r.map (·.t)
 | _,_,.nil=>⟨rfl,rfl⟩
 | _,_,.cons g t=>by
  refine oA (zip_parts t) λh1 h2=>?_;rw[aaE,gK,gK,gK,h1,h2];exact⟨rfl,rfl⟩
theorem abC{H:Hp}{tn:Int}{es:List Ent}{vs:List V}{qs:List (Int×V)}{L:List Ent}(w:oW tn es)(hL:yh L es)(r:Paired (lP H) vs L)(hp:yh qs ((vs.zip L).map λz=>(z.2.t,z.1)))(ha:qs.Pairwise λa b=>a.1<b.1):Paired (lP H) (qs.map (·.2)) es:=by
 have e1:qs.map (·.1)=es.map (·.t):=by
  refine W.ksm_same ?_ (DV.mpr (ha.imp λh=>Int.le_of_lt h)) (DV.mpr (w.asc.imp λh=>Int.le_of_lt h));have:=hp.map (·.1);rw[(zip_parts r).2]at this;exact this.trans (hL.map _)
 have hl:qs.length=es.length:=by have:=congrArg Jo e1;simpa using this
 refine RI (by rw[aO,hl]) λi v e hv he=>?_;rw[f9]at hv;refine af (Iy.mp hv) λq hq aa=>?_;subst aa;refine aG (Ju r q (hp.mem_iff.mp (bo hq))) λe' he' ht hE=>?_
 have ht2:q.1=e.t:=by
  have:(qs.map (·.1))[i]?=a_ q.1:=by rw[f9,hq];rfl
  rw[e1,f9,he]at this;exact(dq this).symm
 have he2:=hL.mem_iff.mp he'
 have:e'=e:=by
  refine oE (vK he2) λj zq=>oE zq λhj ej=>oE (dX.mp he) λhi ei=>?_;have tt:es[j].t=es[i].t:=by rw[ej,ei,<-ht,ht2]
  rcases IJ j i with z | z | z
  ·have:=qu.mp w.asc j i hj hi z;lia
  ·subst z;rw[<-ej,<-ei]
  ·have:=qu.mp w.asc i j hi hj z;lia
 rw[<-this];exact hE
theorem abI{tn:Int}{es L:List Ent}(w:oW tn es)(hL:yh L es):(L.map (·.t)).Nodup:=by
 exact(hL.map (·.t)).nodup_iff.mpr (DV.mpr (w.asc.imp λh=>Int.ne_of_lt h))
theorem acF{f fI C yy aK:e_}{fd iF:iJ}(F:aV K "tray_of" "tray_of" KH f fd)(B:BT mg)(cT:oC K C)(M:Mk K C fI)(FI:aV K "__init__" "Tray.__init__" Gw fI iF)(bI:Binds K iF ["self","kind"] [])(mT:mg "Tray" = a_ (.ref C))(mN:∃u,mg "NAMES" = a_ u/\RelV (.int 12) u)
  (mK:mg "KINDS" = a_ (.ref aK)) (hK:∀H:Hp,aI K H aK [.str "row",.str "name",.str "none"]) (xc:XC K yy) (mX:mg "NoKind" = a_ (.ref yy)) {PT:e_}:ax P w K mg base (jh P w) 3 f fd ["kind"] (Sx C PT yy):=by
 have GI:ax P w K mg base aB 1 fI iF ["self","kind"] (Ww C):=aiH FI B cT mN;refine F.CP adv (λvs H Q E h=>?_) λaL A outer s H vs Q E hr hL hp h=>?_
 ·refine aW h λv T aa _=>?_;clear h;subst aa;rfl
 ·refine kZ h λv T aa ht k1 k2=>?_;clear h;subst aa;refine let R1:TS:=_;let R2:TS:=_;⟨_,aD (b9 (PW.pt (pw_or (kQ (gF (cg lL rfl B.lA kr (ae (pv 0) (ae (qH (v:=.ty "str") rfl B.str boot_str rfl) ag))))) (pw_or1 (br QJ (pv 0) (iq (v:=.ref aK) rfl mK rfl) rfl)))) (pR R1 (aE (Kd rfl hL xc rfl mX (ae cZ ag)))) cD) (pR R2 (aE (a8 (sX M GI hr rfl mT bI .nil aR (ae (pv 0) ag))))),?_⟩
  refine vr rfl (eY _ _ _ _ (gG _ rfl (qU ht) rfl (qR ht qc) (ak _ rfl (Cj (λz=>?_) λz=>?_))))
  ·refine je ⟨qc,k2 λy=>?_⟩;have:∃x,v=.str x:=by rcases y with y | y | y <;> exact⟨_,y⟩
   rw[(Uh ht).mpr this]at z;cases z
  ·refine oE ((Uh ht).mp z) λx aa=>?_;subst aa;refine vr rfl ⟨aK,⟨_,rfl,.inr (hK H),rfl,rfl,_,rfl,?_⟩⟩;rw[if_pos rfl]
   have ei:AH (.str x) [.str "row",.str "name",.str "none"]=decide (V.str x=.str "row"\/V.str x=.str "name"\/V.str x=.str "none"):=by
    unfold AH
    have g:∀y:Str,qd (.str y) (.str x)=decide (V.str x=V.str y):=λy=>by
     simp only[qd]
     by_cases q:x=y
     ·subst q;simp
     ·have:¬V.str x=V.str y:=λe=>q (Cy e);rw[decide_eq_false this];exact beq_eq_false_iff_ne.mpr λe=>q e.symm
    simp only[zB,List.any_nil,g,Bool.or_false]
    by_cases q1:V.str x=.str "row" <;> by_cases q2:V.str x=.str "name" <;> by_cases q3:V.str x=.str "none" <;> simp[q1,q2,q3]
   rw[ei];refine Cj (λy=>⟨qc,k2 (of_decide_eq_false y)⟩) λy=>?_
   ·refine vr rfl λo dx no iG ne=>mq o dx x rfl aA λH' q qr T1 kp fr=>⟨rfl,k1 (of_decide_eq_true y) x H' o q qr rfl T1 (λb u _ e=>kp b u (bw e no) ?_) λb hb=>?_⟩
    ·rw[au (bw e no),au (bw e iG)];exact e
    ·rcases cV.mp hb with z | z
     ·rw[z];exact no
     ·have:=fr b z;have nbo:b≠o:=λe=>by rw[e,aA]at this;cases this
      rw[au nbo]at this;have Hw:b≠dx:=λe=>by rw[e,aA]at this;cases this
      rw[au Hw]at this;exact this
theorem Td{α:Type}{qv:Nat->List α}{m:Nat}:∀n:Nat,(∀i,i<n->(qv i).length<=m)->((List.range n).flatMap qv).length<=n*m
 | 0,_=>by simp
 | n+1,h=>by
  rw[x9,DS,dM];have h1:=Td n λi hi=>h i li;have h2:=h n (vP n);simp only[Qp,aaY,yb];rw[QP];lia
theorem Bu{α β:Type}{F:α->β->Prop}:∀{l:List α} {r:List β} {i:Nat} {x:α},Paired F l r->l[i]?=a_ x->∃y,r[i]?=a_ y/\F x y
 | _,_,_,_,.nil,e=>by simp at e
 | _,_,0,_,.cons h _,e=>by simp at e;subst e;exact⟨_,rfl,h⟩
 | _,_,i+1,x,.cons _ t,e=>by
  exact af (Bu (i:=i) t (by simpa using e)) λy h1 h2=>ak y (by simpa using h1) h2
theorem akN(x y z:V):jt [x,y,z] b_ (a_ 2)=[x,y]:=rfl
def wI(H:Hp)(v:V)(e:Ent):Prop:=∃p,v=.ref p/\H p=a_ (.tup [.int e.n,.int e.num])
def SG(C:e_):Sp:=λvs H Q _=>∃a kd tn es q qr,vs=[.ref a]/\dR H a C kd tn es q qr/\es.length<64/\
 ∀H' l us,ai H H'->H l=b_->H' l=a_ (.lst us)->Paired (wI H') us es->Q (.ref l) H'
theorem JG:ba ["self","waiting","queue"] zLe (aT J5):=bg
theorem VW:(["turn","setting"]:List Str).Nodup:=dk
theorem ab0(F:aV K "listed" "Tray.listed" J5 f fd)(B:BT mg)(cT:oC K C):ax P w K mg base aB 1 f fd zLe (SG C):=by
 refine F.ok JG (λvs H Q E h=>?_) λaL A _ s H vs Q E hr h=>?_
 ·refine lK h λa kd tn es q qr aa _=>?_;subst aa;rfl
 ·refine kY h λa kd tn es q aa=>cR aa λqr aa T hz k=>?_;subst aa
  refine let R1:TS:=_;let R2:TS:=_;let R3:TS:=_;⟨_,aD (bJ (i:=1) JG.nd rfl (aP rfl) (dN ag)) (pR R3 (aD (pB mf rfl (rQ (bu (pv 0) rfl)) (de (i:=2) JG.nd rfl (aP rfl)) (pR R1 (aE (dg (jZ PySem.F.plainAttrs_list PySem.F.slot_list_extend PySem.F.type_list_extend RP (pv 1) (ae (pv 2) ag)))))) (pR R2 (aE (a8 (jX (N:=["turn","setting"]) (idx:=[]) rfl (eT.of (by kernel_rfl)) (Eh (cy _) (cy _)) (rQ (cg QL rfl B.sorted Jn (ae (pv 1) ag)))
    (λ_ _ _ _=>sZ rfl (jW (de (i:=0) VW rfl (aP rfl) (.inr rfl)) (jW (de (i:=1) VW rfl (aP rfl) (.inr rfl)) sW)))
    (λ_ _ _ _=>jK) λ_ _ _ _=>og (Ai K) (pv 1) oq (oo aq))))))),?_⟩
  refine gc (id T.obj) λdx fs ea e1 e2 e3 em el=>?_;have hl:=T.len
  obtain⟨qv,OV⟩:∃qv:Nat->List V,∀i (hi:i<qr.length),H qr[i]=a_ (.lst (qv i))/\Paired (lP H) (qv i) (cu es i):=by
   refine⟨λi=>match H (qr.getD i 0)with | some (.lst vs)=>vs | _=>[],λi hi=>af (T.lx i _ (aX hi)) λvs h1 h2=>?_⟩;have eg:qr.getD i 0=qr[i]:=by simp[hi]
   dsimp only;rw[eg,h1];exact⟨rfl,h2⟩
  refine⟨qc,λlw nw=>?_⟩;have s0:ai H (upd H lw (.lst [])):=aM (ai.refl _) nw;have naw:=bw ea nw;have nqw:=bw T.qs nw;refine ak _ rfl (eY a C dx fs (jY _ rfl (by rw[au naw];exact ea) cT.cl cT.wB e3 ⟨q,rfl,⟨_,aj.of (by rw[au nqw];exact T.qs)⟩,?_⟩))
  let W1:IV:=λi σ H'=>∃qx,σ=[a_ (.ref a),a_ (.ref lw),qx]/\ai H H'/\H' lw=a_ (.lst ((List.range i).flatMap qv))
  refine Kl (xs:=qr.map V.ref) W1 ⟨b_,rfl,s0,by rw[aA];rfl⟩ ?_ ?_ ?_
  ·rintro i σ H' _ ⟨qx,rfl,sm,_⟩;exact aj.of (sm _ _ T.qs)
  ·rintro i x σ H' hx ⟨qx,rfl,sm,hw⟩;rw[f9]at hx;refine af (Iy.mp hx) λb hb aa=>?_;subst aa;refine oE (dX.mp hb) λhi eb=>?_;refine oA (OV i hi) λh1 h2=>?_;rw[eb]at h1;have lq:=Paired.length h2;have lq2:=K7 es i
   have fl:=Td (qv:=qv) (m:=64) i λj hj=>by
    have:=Paired.length (OV j li).2;have:=K7 es j;lia
   refine vr rfl ⟨.inl ⟨rfl,_,aj.of hw⟩,⟨_,rfl,lw,b,_,_,rfl,rfl,hw,sm _ _ h1,?_,⟨_,rfl,λc o e=>?_,?_⟩⟩⟩
   ·rw[jl];lia
   ·rw[au (bw e nw)];exact sm _ _ e
   ·rw[aA,x9,DS];simp
  ·rintro σ H' ⟨qx,rfl,sm,hw⟩;rw[aO,hl]at hw;have rp:=QV qv (cu es) 12 λi hi=>(OV i wg).2;have hL:=QT T.wf.nm;have ll:=hL.length_eq;have lr:=Paired.length rp;refine oA (zip_parts rp) λz1 z2=>?_;have Yj:Paired (lP H') ((List.range 12).flatMap qv) ((List.range 12).flatMap (cu es)):=yl (λ_ _ y=>y.keep (F:=[]) λb xs e=>sm _ _ e) rp;refine vr rfl (⟨lw,((((List.range 12).flatMap qv).zip ((List.range 12).flatMap (cu es))).map λz=>(z.2.t,z.1)),rfl,(aj.of (by rw[z1];exact hw)),(by rw[aO,List.length_zip];omega),(λy hy=>aG (Ju Yj y hy) λe _ et aa=>cI aa λp st ep h1 h2=>eG p ([.ref st]) ep (aI.of (by rw[et];exact h1))),(by rw[z2];exact abI T.wf hL),(λls qs hn hp ha=>?_)⟩)
   ·have rs:=abC T.wf hL Yj hp ha;have s1:ai H' (upd H' ls (.lst (qs.map (·.2)))):=aM (ai.refl _) hn;generalize y9:upd H' ls (.lst (qs.map (·.2)))=H1 at s1;have jI:H1 ls=a_ (.lst (qs.map (·.2))):=by rw[<-y9];exact aA
    have lqs:=Paired.length rs;refine du ls rfl ⟨_,aj.of jI⟩ ?_;generalize hW:qs.map (·.2)=us at jI rs lqs;refine jn (n:=es.length) (λi ys H2=>ai H1 H2/\Paired (wI H2) ys (es.take i)) (by rw[jl];exact w5) ⟨ai.refl _,by rw[List.take_zero];exact .nil⟩ ?_ ?_ ?_ ?_ ?_
    ·rintro i ys H2 ⟨_,r2⟩;rw[Paired.length r2,i8];exact xl
    ·rintro i ys H2 hi ⟨s2,_⟩;exact eG us (us[i]'wg) (aj.of (s2 _ _ jI)) (aX wg)
    ·rintro ys H2 ⟨s2,_⟩;exact ak us (aj.of (s2 _ _ jI)) li
    ·rintro i ys H2 hi ⟨s2,r2⟩ y H3 ⟨eH,hy⟩;subst eH;have vv:=hy us (aj.of (s2 _ _ jI));refine af (Bu rs vv) λe he aa=>cI aa λp st aa h1 h2=>?_;subst aa;have g1:=s2 _ _ (s1 _ _ h1);have g2:=s2 _ _ (s1 _ _ h2);refine⟨p,⟨_,rfl,aI.of g1,rfl,_,_,rfl,_,_,rfl,rfl,?_⟩⟩;dsimp only[j'];rw[if_pos rfl];refine vr rfl (ak 2 rfl ⟨st,⟨_,rfl,aI.of g2,by show ¬(HT.cA 3 0 b_=0/\HT.cA 3 3 (a_ 2)=3);decide,λr dD=>?_⟩⟩);have s3:ai H3 (upd H3 r (.tup (jt [.int e.n,.int e.num,.int e.d] b_ (a_ 2)))):=aM (ai.refl _) dD;refine⟨s2.trans s3,?_⟩;rw[qw,he];exact Jv (yl (λ_ _ ⟨p,q1,q2⟩=>⟨p,q1,s3 _ _ q2⟩) r2) (ak r rfl (by rw[aA,akN]))
    ·rintro ys H2 ⟨s2,r2⟩;rw[aaW]at r2;have ly:=Paired.length r2;refine⟨by rw[jl];lia,λlr nr=>?_⟩;have s3:ai H2 (upd H2 lr (.lst ys)):=aM (ai.refl _) nr;refine k _ lr ys (sm.trans (s1.trans (s2.trans s3))) ?_ aA (yl (λ_ _ ⟨p,q1,q2⟩=>⟨p,q1,s3 _ _ q2⟩) r2);cases e:H lr with
     | none=>rfl
     | some o=>rw[s2 _ _ (s1 _ _ (sm _ _ e))]at nr;cases nr
end TL
namespace L4
open PySem PySem.Builtin PySem.Builtin.Str
abbrev Tl:=Str×List Nat
inductive dH (sz:Nat):Tl->Prop
 | put (r m:Nat):r<4->m<10^60->dH sz ("put",[r,m])
 | add (r o:Nat):r<4->o<4->dH sz ("add",[r,o])
 | set (n r:Nat):n<12->r<4->dH sz ("set",[n,r])
 | look (r n:Nat):r<4->n<12->dH sz ("look",[r,n])
 | swap (r n:Nat):r<4->n<12->dH sz ("swap",[r,n])
 | clear:dH sz ("clear",[])
 | skip (r q:Nat):r<4->q<=sz->q<=120->dH sz ("skip",[r,q])
theorem Kx:(121:Nat)<=10^60:=dk
theorem dH.len{sz:Nat}(g:dH sz t):t.2.length<=2:=by cases g <;> simp
abbrev Pt:=List Tl
structure wX(ps:List Pt):Prop where
 ne:1<=ps.length
 le:ps.length<=4
 part:∀p∈ps,p.length<=120/\∀t∈p,dH p.length t
theorem dH.mono{a b:Nat}(g:dH a t)(h:a<=b):dH b t:=by
 cases g with
 | put r m h1 h2=>exact .put r m h1 h2
 | add r m h1 h2=>exact .add r m h1 h2
 | set r m h1 h2=>exact .set r m h1 h2
 | look r m h1 h2=>exact .look r m h1 h2
 | swap r m h1 h2=>exact .swap r m h1 h2
 | clear=>exact .clear
 | skip r q h1 h2 h3=>exact .skip r q h1 (cC h2 h) h3
end L4
namespace L2
open PySem PySem.Spec PyProof.Rows
section
variable{X:Cx}
end
section
variable{X:Cx}{CX:pL}{k:Nat}{E:XK}{m:Str}{pos apos:Pos}{e o:Expr}{es:List Expr}{ta:TE}{t:TA}
end
theorem aek:plainId kc=true:=dk
theorem af4:builtinKind kc=a_ Manifest.AttrKind.slot:=by kernel_rfl
theorem aej:splitId kc=a_ ("BaseException","__getattribute__"):=by kernel_rfl
theorem af6(a b:f_):argsOk kc { pos:=[a,b] }:=by kernel_rfl
theorem af5(self:f_):bindSpecial (.builtin kc) self=pure (.builtin kc,[self]):=by kernel_rfl
theorem ael:entryFor table kc=a_ Builtin.«object.__getattribute__»:=by kernel_rfl
end L2
namespace L2
open PySem PySem.Spec PyProof.Rows L3
section
variable{prog:l_}{w:k_}{A:h_}{E:f_->g_->Prop}{s:g_}{K:W.Frag}{x C:e_}{ox:Obj}{od:Option Obj}{name:Str}{tk:Tok}
theorem Uj{fill expr:Bool}(X:K.In s.heap)(I:W.InstAt s.heap x ox C od)(O8:W.findIn K (.ref C) (gL "__getattribute__")=a_ (a_ (.builtin kc)))(y6:W.findIn K (.ref C) (gL "__getattr__")=a_ b_)
  (sE:W.mroIn K C (.type "BaseException")=a_ c_)
  (h:wpAny (model prog w) A.in1 (Builtin.«object.__getattribute__» { pos:=[.ref x,.str name tk] }) (λfin s'=>∃v,fin=Fin.done (Flow.ret v)/\wpAny (model prog w) A (handedOut v) Q E s') (λ_ _=>False) s) :
  wpAny (model prog w) A (getAttrBy (.ref x) (.str name tk) fill expr) Q E s:=by
 have L0:=W.InstAt.type (M:=model prog w) I;have L1:=W.looks_findIn (M:=model prog w) X O8;have L2:=W.looks_findIn (M:=model prog w) X y6;unfold getAttrBy;refine pP (ay (L0.here (ay (L1.here ?_))));show wpAny (model prog w) A (if (onTheHeap (.ref C)&&(zz kc == zz "object.__getattribute__"))=c_ then _ else getAttrByItsOwn (.ref x) (.str name tk) (.ref C) (.builtin kc) fill expr) Q E s
 have e1:(onTheHeap (.ref C)&&(zz kc == zz "object.__getattribute__"))=false:=by
  show (c_&&(zz kc == zz "object.__getattribute__"))=d_;decide +kernel
 rw[e1,if_neg dY];unfold getAttrByItsOwn;refine ay (L2.here (ay (D3 (pP ?_))))
 have ec:callGetattribute (.ref x) (.str name tk) (.builtin kc) expr=boundAndCalled (.builtin kc) (.ref x) (.str name tk):=by
  unfold callGetattribute;rw[if_neg (by cases expr <;> decide)]
 rw[ec];unfold boundAndCalled;rw[af5];refine ay (a7 ?_);show wpAny (model prog w) A (call (.builtin kc) [.ref x,.str name tk]) _ _ s;have sub:W.Looks (model prog w) s.heap (Bz (.ref x) (.type "BaseException")) true:=W.Looks.andThen (W.InstAt.type I) (W.looks_mroIn X sE);have h5:=af6 (.ref x) (.str name tk);refine uw (Qf aek ael (ja (@W.check_slot (model prog w) A.in1 (λ_ _=>False) s kc "BaseException" "__getattribute__" (.ref x) [.str name tk] [] (λ_ s₁=>s₁=s) af4 aej sub h5 rfl) (λ_ s1 e=>?_) λ_ _ z=>jm z));subst e;refine ja h (λfin s' z=>?_) λ_ _ z=>jm z;obtain⟨v,e,z⟩:=z;subst e;exact z
theorem Uk{Q:f_->g_->Prop}{r:Iv}(X:K.In s.heap)(I:W.InstAt s.heap x ox C od)(hf:W.findObj K C od name=a_ r)
  (h:wpAny (model prog w) A (match r with
    | am6 v=>ret v
    | am7 g a=>P6 g a (.ref x) (.ref C)
    | am5=>unsupported "no") (λfin s'=>∃v,fin=Fin.done (Flow.ret v)/\Q v s') (λ_ _=>False) s) (hr:r≠.missing) :
  wpAny (model prog w) A (Builtin.«object.__getattribute__» { pos:=[.ref x,.str name tk] }) (λfin s'=>∃v,fin=Fin.done (Flow.ret v)/\Q v s') (λ_ _=>False) s:=by
 have L0:=W.InstAt.type (M:=model prog w) I;have L1:=W.looks_find (M:=model prog w) X I hf;refine ay (a7 (ay (a7 (ay (L0.here (ay (L1.here ?_)))))));cases r with
 | value v=>exact h
 | bind g a=>exact h
 | missing=>exact absurd rfl hr
end
theorem agM:classOwn (qB "ValueError") (gL "__setattr__")=pure none:=by kernel_rfl
theorem aiF:classOwn (qB "Exception") (gL "__setattr__")=pure none:=by kernel_rfl
theorem agN:classOwn (qB "BaseException") (gL "__setattr__")=pure none:=by kernel_rfl
theorem QK:∀{l:List f_},uB l=c_->∃as:List e_,l=as.map di++xk
 | [],h=>by cases h
 | v::r,h=>by
  cases v with
  | ref a=>
   exact oE (QK (l:=r) h) λas e=>⟨a::as,by rw[e];rfl⟩
  | type a=>
   have h':(a == "ValueError" && (r == [.type "Exception",.type "BaseException",.type "object"]))=true:=h;rw[i9]at h';refine⟨[],?_⟩;rw[Er h'.1,Er h'.2];rfl
  | _=>cases h
theorem Q6(self:f_):∀as:List e_,JA self (gL "__setattr__") (as.map di++xk)=pure ()
 | []=>by
  have e:=W.refuse_only self (l:=[.type "object"]) rfl;show JA self (gL "__setattr__") [.type "ValueError",.type "Exception",.type "BaseException",.type "object"]=pure ();unfold JA at e ⊢;simp only[zx,agM,aiF,agN,pure_bind,Option.isSome_none,xZ,if_false]at e ⊢;exact e
 | a::as=>by
  have e:=Q6 self as;rw[gK,List.cons_append];unfold JA at e ⊢;rw[zx];simp only[pure_bind];exact e
section
variable{prog:l_}{w:k_}{A:h_}{K:W.Frag}{C x:e_}{s:g_}{ox:Obj}{od:Option Obj}{name:Str}{tk:Tok}{v:f_}
theorem acz{R:Result->g_->Prop}{cd:ClassData}(X:K.In s.heap)(I:W.InstAt s.heap x ox C od)(hc:W.clsIn K C=a_ cd)(ho:uB cd.mro=c_)(ha:W.findIn K (.ref C) name=a_ b_)
  (h:wpAny (model prog w) A.in1 (am4 (.ref x) (.ref C) (.str name tk) name v d_) (λfin s'=>match fin with | Fin.done f=>R (Ss f) s' | Fin.again c'=>c'.quiet=c_/\codeAny (model prog w) A c' R s') (λe s'=>R (Jl e) s') s) :
  codeAny (model prog w) A (Code.call (.builtin "object.__setattr__") { pos:=[.ref x,.str name tk,v] }) R s:=by
 have SF:=F.store_object;refine oE (QK ho) λas em=>?_;have ne:cd.mro.isEmpty=false:=by rw[em];cases as <;> rfl
 have hob:cd.mro.contains (.type "object")=true:=by rw[em,List.contains_eq_mem];exact decide_eq_true (hG _ (by simp))
 have sub:W.Looks (model prog w) s.heap (Bz (.ref x) (.type "object")) true:=W.Looks.andThen (W.InstAt.type I) (W.looks_mroIn X (by
  unfold W.mroIn;rw[hc,IM,if_neg (by rw[ne];exact dY),hob]))
 have hm:W.Looks (model prog w) s.heap (mroOf (.ref C)) cd.mro:=W.Looks.andThen (W.looks_clsIn X hc) W.Looks.now;have h1:=SF.slot.plain;have h2:=SF.entry;have h3:=SF.kind;have h4:=SF.split;have h5:=SF.args (.ref x) (.str name tk) v
 have goal:wpAny (model prog w) A.in1 (Builtin.«object.__setattr__» { pos:=[di x,BG name tk,v] })
   (λfin s'=>match fin with | Fin.done f=>R (Ss f) s' | Fin.again c'=>c'.quiet=c_/\codeAny (model prog w) A c' R s') (λe s'=>R (Jl e) s') s:=by
  rw[W.osa_eq,refuse_eq];refine ay (ay (W.Looks.here (W.InstAt.type I) (ay (W.Looks.here hm ?_))));rw[em,Q6];exact a7 (ay (W.Looks.here (W.InstAt.type I) (ay (W.Looks.here (W.looks_findIn X ha) (ay (a7 h))))))
 refine Qf h1 h2 ?_;exact @W.check_slot (model prog w) A.in1 (λe s'=>R (Jl e) s') s "object.__setattr__" "object" "__setattr__" (.ref x) [.str name tk,v] [] (λ_ s₁=>wpAny (model prog w) A.in1 (Builtin.«object.__setattr__» { pos:=[di x,BG name tk,v] }) (λfin s'=>match fin with | Fin.done f=>R (Ss f) s' | Fin.again c'=>c'.quiet=c_/\codeAny (model prog w) A c' R s') (λe s'=>R (Jl e) s') s₁) h3 h4 sub h5 goal
theorem adt{vs:Array f_}{sl:Array (Option f_)}{cd:ClassData}{Q:Unit->g_->Prop}(X:K.In s.heap)(hx:s.heap.get? x=a_ ⟨.ref C,b_,.fields vs,sl⟩)
  (hs:W.findIn K (.ref C) "__setattr__" = a_ (a_ (.builtin "object.__setattr__"))) (hc:W.clsIn K C=a_ cd) (ho:uB cd.mro=c_) (hd:cd.hasDict=c_) (ha:W.findIn K (.ref C) name=a_ b_)
  (h:∀h',h'.get? x=a_ ⟨.ref C,a_ s.heap.objs.size,.fields vs,sl⟩->h'.Ns1 s.heap.objs.size (λy=>if y=name then a_ v else b_)->(∀b o,b≠x->s.heap.get? b=a_ o->h'.get? b=a_ o)->Q () { s with heap:=h',toks:=s.toks+2 }) :
  wpAny (model prog w) A (setAttr (.ref x) name v) Q E s:=by
 have J:W.InstAt s.heap x ⟨.ref C,b_,.fields vs,sl⟩ C none:=⟨hx,rfl,rfl,qC⟩;have nx:x≠s.heap.objs.size:=gh (cH hx);refine W.set_plain X J hs (acz (s:={ s with toks:=s.toks+1 }) X J hc ho ha (ay (a7 (ay (ay (QA hx (ay (W.Looks.here (s:={ s with toks:=s.toks+1 }) (W.looks_clsIn X hc) ?_))))))));rw[hd];refine ay (wpAny_alloc (ay ?_));have x1:(s.heap.push { cls:=.type "dict",data:=.dict #[] }).get? x=a_ ⟨.ref C,b_,.fields vs,sl⟩:=b8 _ hx;refine wpAny_update x1 (a7 (a:=a_ s.heap.objs.size) (ay (a7 (ay ?_))));have d1:(s.heap.push { cls:=.type "dict",data:=.dict #[] }).get? s.heap.objs.size=a_ { cls:=.type "dict",data:=.dict #[] }:=ik _ rfl;generalize O5:(s.heap.push { cls:=.type "dict",data:=.dict #[] }).update x (λo=>{ cls:=o.cls,dict:=a_ s.heap.objs.size,data:=o.data,slots:=o.slots })=h1;have x2:h1.get? x=a_ ⟨.ref C,a_ s.heap.objs.size,.fields vs,sl⟩:=by rw[<-O5];exact Bh _ x1 rfl
 have d2:h1.get? s.heap.objs.size=a_ { cls:=.type "dict",data:=.dict #[] }:=by rw[<-O5,vI _ _ nx];exact d1
 have n2:h1.Ns1 s.heap.objs.size (λ_=>b_):=⟨_,_,_,d2,rfl,λe he=>absurd he (by simp),aaQ,λ_=>rfl⟩;refine wpAny_nsSet1 (s:={ s with heap:=h1,toks:=s.toks+1 }) n2 λh' AY pM=>?_;have wi:PySem.Within (λ_:Str=>(b_:Option f_)) []:=λg hg=>absurd rfl hg;refine gw (AY.count (PySem.Within.cons name v wi)) λoD esD epD OY Pd Ph=>ay (wpAny_lookBehind OY (by rw[Pd];exact pastItsLine_dict (cC Ph (by show 1<=cW+1;decide))) (a7 (h _ ((pM.2 _ nx).trans x2) AY λb o nb e=>?_)));have nd:b≠s.heap.objs.size:=gh (cH e);rw[pM.2 _ nd];show h1.get? b=a_ o;rw[<-O5,vI _ _ (gq nb)];exact b8 _ e
theorem af3{vs:Array f_}{sl:Array (Option f_)}{mA:Str->Option f_}{expr:Bool}(X:K.In s.heap)(hx:s.heap.get? x=a_ ⟨.ref C,a_ dx,.fields vs,sl⟩)
  (hn:s.heap.Ns1 dx mA) (O8:W.findIn K (.ref C) (gL "__getattribute__")=a_ (a_ (.builtin kc))) (y6:W.findIn K (.ref C) (gL "__getattr__")=a_ b_) (sE:W.mroIn K C (.type "BaseException")=a_ c_)
  (hh:W.hasDictIn K C=c_) (ha:W.findIn K (.ref C) name=a_ b_) (hv:mA name=a_ v) (OP:W.handedIn v=c_) (h:Q v { s with toks:=s.toks+1 }) :
  wpAny (model prog w) A (getAttr (.ref x) name expr) Q E s:=by
 refine af (RT hn) λod ho1 hl=>?_;have J:W.InstAt s.heap x ⟨.ref C,a_ dx,.fields vs,sl⟩ C (a_ od):=⟨hx,rfl,rfl,ho1⟩;have hf:=W.findObj_own hh ha rfl (show W.lookIn name od=a_ (a_ v) by rw[hl,hv]);unfold getAttr;refine ay (wpAny_mkText (Uj (s:={ s with toks:=s.toks+1 }) X J O8 y6 sE (Uk (s:={ s with toks:=s.toks+1 }) (r:=.value v) X J hf (a7 ⟨v,rfl,W.handed_on OP h⟩) (by intro z;cases z))))
end
def FH(K:W.Frag)(C:e_):Prop:=L6 K C xk "ValueError.__new__" = c_
theorem FH.at{K:W.Frag}(x:FH K C)(X:K.In h):∃oi,tW h C oi:=by
 unfold FH L6 at x
 split at x
 ·rename_i dd cd sl ho
  split at x
  ·rename_i C' bm k0 k1 k2 k3 n k5 hm hs
   simp only[i9,beq_iff_eq,Qq]at x;refine oA x λaa aQ=>oA aa λaa ht=>oA aa λaa CL=>oA aa λe1 e2=>?_;subst e1 e2;obtain⟨nm,bs,mro,ns,qn,hd,sn,sub,ab,col,del⟩:=cd;dsimp only at hm CL aQ;subst hm CL
   have OT:sl=#[k0,k1,k2,k3,a_ (.builtin "ValueError.__new__"),k5]:=by
    obtain⟨l⟩:=sl;exact congrArg EH hs
   subst OT;exact⟨_,⟨nm,qn,ns,bs,bm,hd,sn,sub,ab,col,dd,k0,k1,k2,k3,k5,_,X _ _ ho,.of_isNs (W.isNs_of_in X aQ),rfl,W.tail_of_in X ht⟩⟩
  ·cases x
 ·cases x
section
variable{prog:l_}{w:k_}{A:h_}{E:f_->g_->Prop}{h:j_}{g:Array GenState}{d:Drawn}{t:Nat}{os:OsState}{C f:e_}
theorem ac5{Q:Fin->g_->Prop}{oi:Option f_}(x:tW h C oi)(hz:us.length<=cW)
  (hl:∀h',(∀b o,h.get? b=a_ o->h'.get? b=a_ o)->W.Looks (model prog w) h' (Ei (.ref C) "__init__") (a_ (.ref f)))
  (hb:∀h' self,(∀b o,h.get? b=a_ o->h'.get? b=a_ o)->W.Looks (model prog w) h' (bindSpecial (.ref f) self) (.ref f,[self]))
  (hq:wpAny (model prog w) A (call (.ref f) (.ref (h.objs.size+1)::us)) (λv s'=>v=.none/\Q (.done (.ret (.ref (h.objs.size+1)))) s') E ⟨(h.push (CD us)).push (newX C h.objs.size),g,d,t,os⟩) :
  wpAny (model prog w) A (Builtin.«type.__call__» ⟨.ref C::us,[]⟩) Q E ⟨h,g,d,t,os⟩:=by
 refine lF x λnm q N bs bm xv sn sub ab col aa=>D9 aa λdd k0 k1 k2 k3 k5 mN hC hN hi T=>?_;have Fv:=PySem.F.excBase_ValueError
 repeat (first | (with_reducible refine vN hC ?_) | (with_reducible refine wpAny_madeBy_exc hC ?_) | wp_step)
 refine aai (IG _ Fv.quiet) (wpAny_check_new_subU Fv rfl T hC (codeAny_exc_new_subU Fv rfl Fv T hC ?_ hz));show wpAny _ _ _ _ _ _;have kk:∀b o,h.get? b=a_ o->((h.push { cls:=.type "tuple",data:=.seq us.toArray }).push { cls:=.ref C,data:=.fields #[.ref h.objs.size,.none,.none,.none,.bool d_,.none] }).get? b=a_ o:=λb o z=>b8 _ (b8 _ z);have c1:=kk _ _ hC;have ge:((h.push { cls:=.type "tuple",data:=.seq us.toArray }).push { cls:=.ref C,data:=.fields #[.ref h.objs.size,.none,.none,.none,.bool d_,.none] }).get? (h.objs.size+1)=a_ { cls:=.ref C,data:=.fields #[.ref h.objs.size,.none,.none,.none,.bool d_,.none] }:=by heap_get
 have cc:(di C::bm).contains (.ref C)=true:=by simp
 unfold Bz
 repeat (first | (with_reducible refine vN ge ?_) | (with_reducible refine Qh c1 ?_;rw[cc]) | wp_step)
 show wpAny _ _ (Ei (.ref C) _) _ _ _;refine(hl _ kk).at (pP (ay ((hb _ _ kk).at (ay (ja hq (λv s' z=>?_) λ_ _ y=>y)))));obtain⟨e,z⟩:=z;subst e;exact a7 (a7 z)
theorem ac6{oi:Option f_}(x:tW h C oi)(hz:us.length<=cW)
  (hl:∀h',(∀b o,h.get? b=a_ o->h'.get? b=a_ o)->W.Looks (model prog w) h' (Ei (.ref C) "__init__") (a_ (.ref f)))
  (hb:∀h' self,(∀b o,h.get? b=a_ o->h'.get? b=a_ o)->W.Looks (model prog w) h' (bindSpecial (.ref f) self) (.ref f,[self]))
  (hq:wpAny (model prog w) (A.under (Code.builtin "type.__call__" ⟨.ref C::us,[]⟩)) (call (.ref f) (.ref (h.objs.size+1)::us)) (λv s'=>v=.none/\Q (.ref (h.objs.size+1)) s') E ⟨(h.push (CD us)).push (newX C h.objs.size),g,d,t,os⟩) :
  wpAny (model prog w) A (call (.ref C) us) Q E ⟨h,g,d,t,os⟩:=by
 refine lF (id x) λnm q N bs bm xv sn sub ab col aa=>RL aa λdd k0 k1 k2 k3 k5 mN hC r=>?_;have f1:=tc_lookup;have f2:=tc_bind (.ref C);have hT:(⟨h,g,d,t,os⟩:g_).TypeIs (.ref C) "type":=⟨_,hC,rfl⟩;refine uw (codeAny_of_tree ?_);show wpAny _ _ (callAny (.ref C) _) _ _ _
 repeat (any_goals (first | assumption | (with_reducible refine vN hC ?_) | wp_step))
 exact⟨rfl,aap (IG _ dk) entry_typeCall (aah hC (ac5 x hz hl hb hq))⟩
end
def oS(d:e_)(fs:List (Str×V)):HO:=.ext λh=>fs.length<=1000/\∃mA,h.Ns1 d mA/\(∀f,oO (fs.lookup f) (mA f))/\PySem.Within mA (fs.map (·.1))
theorem agi{P:l_}{w:k_}{fs:List (Str×V)}{mA:Str->Option f_}(l:fs.length<=1000)(n:h.Ns1 d mA)(r:∀f,oO (fs.lookup f) (mA f))(wi:PySem.Within mA (fs.map (·.1))):hZ P w H h d (oS d fs):=by
 exact eM ⟨l,mA,n,r,wi⟩ (eh n λo _ _ e _=>⟨o,e⟩) λh1 h2 ⟨l,m,n,r⟩ k=>⟨l,m,eh n λo es ep e c=>⟨o,es,ep,(k _ e),c⟩,r⟩
def mZ(ea:e_)(c:f_)(dd:Option e_)(vs:Array f_):HO:=.ext λh=>∃o,h.get? ea=a_ o/\o.cls=c/\o.dict=dd/\o.data=.fields vs
theorem Vk{P:l_}{w:k_}{dd:Option e_}{vs:Array f_}{sl:Array (Option f_)}(e:h.get? ea=a_ ⟨c,dd,.fields vs,sl⟩):hZ P w H h ea (mZ ea c dd vs):=
 ⟨⟨_,e,rfl,rfl,rfl⟩,⟨_,e⟩,λ_ _ ⟨o,e,r⟩ k=>⟨o,k o e,r⟩⟩
def del(H:Hp)(a:e_):Hp:=λb=>if b=a then b_ else H b
theorem aey:del H a a=none:=by unfold del;rw[if_pos rfl]
theorem uO(h:b≠a):del H a b=H b:=by unfold del;rw[if_neg h]
theorem aex{o:HO}(h:del H a b=a_ o):b≠a/\H b=a_ o:=by
 unfold del at h
 split at h
 ·cases h
 ·rename_i n;exact⟨n,h⟩
theorem Ez(h:H b=b_):del H a b=none:=by
 unfold del
 split
 ·rfl
 ·exact h
theorem Inv.del{X:Cx}{φ:j_->Prop}(I:Inv X p_ σ H s)(e:H a=a_ (.ext φ)):Inv X p_ σ (del H a) s:=by
 refine⟨I.ok,I.os,I.bare,⟨I.base.keep,I.base.slot,λb o q n hx=>Ez (I.base.free b o q n hx),I.base.there,λb xs q=>?_,λb o u q=>?_,λb ps q=>?_⟩,I.loc,I.cell,Ez I.free,λx c q=>Ez (I.lj x c q),λp hp=>?_,λb u q=>?_,I.len⟩
 ·have z:=I.base.qN b xs q;rw[uO (hY z e (by intro y;cases y))];exact z
 ·have z:=I.base.p0 b o u q;rw[uO (hY z e (by intro y;cases y))];exact z
 ·exact oE (I.base.pX b ps q) λm z=>⟨m,by rw[uO (hY z e (by intro y;cases y))];exact z⟩
 ·exact bp (I.pin p hp) λz1 z2 z3=>eM z1 (Ez z2) z3
 ·refine oA (aex q) λnb q=>(I.aQ b u q).qO (λ_ _ _ z=>z) (λc z=>?_) λc xs z=>?_
  ·rw[uO (hY z e (by intro y;cases y))];exact z
  ·rw[uO (hY z e (by intro y;cases y))];exact z
structure XF(K:PySem.W.Frag)(C:e_):Prop where
 sa:W.findIn K (.ref C) "__setattr__" = a_ (a_ (.builtin "object.__setattr__"))
 cd:∃cd,W.clsIn K C=a_ cd/\uB cd.mro=c_/\cd.hasDict=c_
 ga:W.findIn K (.ref C) (gL "__getattribute__")=a_ (a_ (.builtin kc))
 gt:W.findIn K (.ref C) (gL "__getattr__")=a_ b_
 be:W.mroIn K C (.type "BaseException")=a_ c_
theorem XF.hd{K:PySem.W.Frag}(x:XF K C):PySem.W.hasDictIn K C=true:=by
 refine aG x.cd λcd h1 _ h2=>?_;unfold PySem.W.hasDictIn;rw[h1];exact h2
section
variable{X:Cx}{p_:List (e_×Obj)}{σ:St}{H:Hp}{s:g_}{a C d:e_}{fs:List (Str×V)}{f:Str}{v:V}{A:h_}{E:f_->g_->Prop}
theorem Vl{P:l_}{w:k_}{dd:Option e_}{vs:Array f_}(ok:gz P w H h)(e:H a=a_ (mZ a c dd vs)):∃sl,h.get? a=a_ ⟨c,dd,.fields vs,sl⟩:=by
 refine oA (ok a _ e) λaa _=>cR aa λo q hc hd hv=>?_;obtain⟨c',d',dt,sl⟩:=o;dsimp only at hc hd hv;subst hc hd hv;exact⟨sl,q⟩
theorem Vm{P:l_}{w:k_}{dd:Option e_}(ok:gz P w H h)(e:H a=a_ (tV a c dd)):∃vs sl,h.get? a=a_ ⟨c,dd,.fields vs,sl⟩:=by
 refine oA (ok a _ e) λaa _=>kZ aa λo vs q hc hd hv=>?_;obtain⟨c',d',dt,sl⟩:=o;dsimp only at hc hd hv;subst hc hd hv;exact xB vs sl q
theorem UC{P:l_}{w:k_}(ok:gz P w H h)(e:H d=a_ (oS d fs)):fs.length<=1000/\∃mA,h.Ns1 d mA/\(∀f,oO (fs.lookup f) (mA f))/\PySem.Within mA (fs.map (·.1)):=(ok d _ e).1
theorem af2{b:Bool}(I:Inv X p_ σ H s)(e:H a=a_ (tV a (.ref C) (a_ d)))(ed:H d=a_ (oS d fs))(c:XF X.K C)(n:cj X.K C f)(l:fs.lookup f=a_ v)
  (h:∀u s',Inv X p_ σ H s'->RelV v u->Q u s'):wpAny (model X.prog X.w) A (getAttr (.ref a) f b) Q E s:=by
 refine xy (Vm I.aQ e) λvs sl hx=>oA (UC I.aQ ed) λ_ aa=>aG aa λmA hn r _=>?_;obtain⟨u,hu,ru⟩:=oO.some_of (v:=v) (o:=mA f) (by rw[<-l];exact r f);exact af3 I.dF hx hn c.ga c.gt c.be c.hd n hu (RX ru) (h u _ (I.tok _) ru)
theorem ads{Q:Unit->g_->Prop}(I:Inv X p_ σ H s){vs:Array f_}(e:H a=a_ (mZ a (.ref C) b_ vs))(c:XF X.K C)(n:cj X.K C f)(ry:RelV y u)
  (h:∀d s',H d=b_->Inv X p_ σ (upd (upd H a (mZ a (.ref C) (a_ d) vs)) d (oS d [(f,y)])) s'->Q () s'):wpAny (model X.prog X.w) A (setAttr (.ref a) f u) Q E s:=by
 refine oE (Vl I.aQ e) λsl hx=>aG c.cd λcd h1 h2 h3=>adt I.dF hx c.sa h1 h2 h3 n λh' x' n' k=>h s.heap.objs.size _ (I.aQ.fresh (aN _)) ?_
 have I1:Inv X p_ σ (upd H a (mZ a (.ref C) (a_ s.heap.objs.size) vs)) { s with heap:=h',toks:=s.toks+2 }:=
  I.write (x:=a) (e:=a) (by rw[e];exact qC) (.inl rfl) (λb q hb z=>k b q hb z) ⟨_,x'⟩ (Vk x')
 have hn:upd H a (mZ a (.ref C) (a_ s.heap.objs.size) vs) s.heap.objs.size=none:=by
  rw[au (ur (cH hx))];exact I.aQ.fresh (aN _)
 have fp:=I.iY (aN _) hn;refine I1.adopt hn I.sz fp.2.1 fp.2.2.2.2.1 fp.2.2.2.2.2 (agi (by show 1<=1000;decide) n' (λg=>?_) λg hg=>?_)
 ·show oO (([(f,y)]:List (Str×V)).lookup g) (if g=f then a_ u else b_)
  by_cases q:g=f
  ·rw[if_pos q,q,zr];exact ry
  ·rw[if_neg q,sL,beq_eq_false_iff_ne.mpr q];exact qC
 ·by_cases q:g=f
  ·rw[q];exact gJ.mpr rfl
  ·exact absurd (if_neg q) hg
end
def VC(K:PySem.W.Frag)(ta:TE)(f:Str):TE:=λσ H Q=>ta σ H λx H1=>∃a C d fs v,x=.ref a/\H1 a=a_ (tV a (.ref C) (a_ d))/\H1 d=a_ (oS d fs)/\XF K C/\cj K C f/\fs.lookup f=a_ v/\Q v H1
def agF(K:PySem.W.Frag)(ta tv:TE)(f:Str):TS:=λD σ H=>tv σ H λy H1=>ta σ H1 λx H2=>∃a C vs,x=.ref a/\H2 a=a_ (mZ a (.ref C) b_ vs)/\XF K C/\cj K C f/\
 ∀d,H2 d=b_->D.nx σ (upd (upd H2 a (mZ a (.ref C) (a_ d) vs)) d (oS d [(f,y)]))
section
variable{X:Cx}{o e value:Expr}{f:Str}{pos pos':Pos}{ta tv:TE}
theorem afk(ha:PE X e ta)(hb:Br e f X.env (eval e X.env)=eval e X.env):PE X (.Attribute e f pos) (VC X.K ta f):=by
 intro p_ s σ H Q I h;refine Uv hb (eJ (ha p_ s σ H _ I h) λu s1 zq=>cI zq λx H1 I1 rx zq=>kY zq λa C d fs v zq=>iO zq λex ea ed c n zq=>oA zq λl q=>?_);subst ex;obtain rfl:u=di a:=rx;exact af2 I1 ea ed c n l λu s2 I2 ru=>(dS v H1 I2 ru q)
theorem adE(ha:PE X o ta)(hv:PE X value tv)(hs:Ep value (a_ (.Attribute o f pos')) pos.line X.env=pure d_):PS X (.Assign [.Attribute o f pos'] value pos) (agF X.K ta tv f):=by
 intro p_ s σ H D I h;refine Z8 (dC (hv p_ s σ H _ I h) λu s1 y H1 I1 ry q=>eJ (ha p_ s1 σ H1 _ I1 q) λov s2 zq=>?_) hs;refine cI zq λx H2 I2 rx zq=>WD zq λa C vs zq=>my zq λex ea c n q2=>?_;subst ex;obtain rfl:ov=di a:=rx;exact ads I2 ea c n ry λd s3 hd I3=>(eG σ _ I3 (q2 d hd))
end
structure G9(K:PySem.W.Frag)(C f:e_):Prop where
 exc:FH K C
 init:W.findIn K (.ref C) "__init__" = a_ (a_ (.ref f))
 fn:PySem.W.isFn K (.ref f)=c_
 kp:PySem.W.keepIn K (.ref C)=c_
abbrev yq(t:e_):Array Value:=#[.ref t,.none,.none,.none,.bool d_,.none]
def Tt(C:e_)(sp:Sp)(W:WX)(t:TA):TS:=λ_ σ H=>t σ H λvs H1=>vs.length<=cW/\∀ea ta,H1 ea=b_->sp (.ref ea::vs) (upd H1 ea (mZ ea (.ref C) b_ (yq ta)))
 (λr H2=>r=.aJ/\∃dd,H2 ea=a_ (mZ ea (.ref C) dd (yq ta))/\W σ (.ref C) dd (del H2 ea)) (λ_ _ _=>False)
section
variable{X:Cx}{W:WX}{k:Nat}{C f:e_}{fd:iJ}{ps:List Str}{sp:Sp}{x:Str}{np oQ pos:Pos}{e:Expr}{es:List Expr}{t:TA}{P:l_}{w:k_}
theorem JJ(hc:X.calm=c_)(hL:wW X W)(xc:G9 X.K C f)(F:ax P w X.K X.mg X.base aB k f fd ps sp)(hr:fJ (k+1) X.A)(hb:Binds X.K fd ps [])(hg:Gl X x)(hm:X.mg x=a_ (.ref C))(ha:PA X (e::es) t)
  (hP:X.prog=P:=by rfl) (hw:X.w=w:=by rfl) (lD:(x == ("__debug__" : Str))=false:=by decide)
  (he:cQ (e::es) X.env=(d_,eval e X.env)::cQ es X.env:=by rfl) (ee:(backTo oQ (cQ es X.env)).any (·.1)=false:=by rfl) :
  PS X (.Raise (a_ (.Call (.Name x np) (e::es) [] oQ)) b_ pos) (Tt C sp W t):=by
 subst hP hw;intro p_ s σ H D I h;rw[arm_exec_Raise];refine ay (zy (Q7 (C:=C) (I.ok.hd hc) (ay (ja ?_ (λv s3 z=>ay (zy (a7 z))) λ_ _ y=>y))));refine uk (uE I hg hm ?_ lD);refine PySem.W.callWith_K (h₀:=X.base) I.ok.mod.qX xc.kp (lU (ha oQ p_ s σ H _ I h) λus s1 vs H1 I1 r zq=>oA zq λhz q=>⟨I1.dF,?_⟩) he ee;refine oE (xc.exc.at I1.dF) λoi xa=>?_;obtain⟨h1,g1,d1,t1,Yu⟩:=s1;have qX:∀h':j_,(∀b o,h1.get? b=a_ o->h'.get? b=a_ o)->X.K.In h':=λh' k a o z=>k a o (I1.dF a o z);refine ac6 (f:=f) xa (by rw[Bo,<-r.length];exact hz) (λh' k=>PySem.W.looks_findIn (qX h' k) xc.init) (λh' self k=>PySem.W.bind_fn (qX h' k) self (beq_iff_eq.mp xc.fn)) ?_;rw[Bo];have fr:H1 (h1.objs.size+1)=none:=I1.aQ.fresh (lH _);have q1:=q (h1.objs.size+1) h1.objs.size fr;have ge:((h1.push (CD us)).push (newX C h1.objs.size)).get? (h1.objs.size+1)=a_ (newX C h1.objs.size):=by heap_get
 have I2:Inv X p_ σ (upd H1 (h1.objs.size+1) (mZ (h1.objs.size+1) (.ref C) b_ (yq h1.objs.size))) ⟨(h1.push (CD us)).push (newX C h1.objs.size),g1,d1,t1,Yu⟩:=
  I1.laid (t':=t1) (h':=(h1.push (CD us)).push (newX C h1.objs.size)) (λb o z=>b8 _ (b8 _ z)) (lH _) (Vk ge)
 have r2:Vals (V.ref (h1.objs.size+1)::vs) (di (h1.objs.size+1)::us):=.cons rfl r
 have hl:(di (h1.objs.size+1)::us++[]).length=ps.length:=by
  have e:=r2.length;rw[F.len _ _ _ _ q1]at e;rw[yb];exact e.symm
 have HY:=hb _ (di (h1.objs.size+1)::us) I2.dF hl;rw[yb]at HY;refine uw (zG (F.run _ X.stack _ _ ⟨di (h1.objs.size+1)::us,[]⟩ (di (h1.objs.size+1)::us) _ _ _ (hr.make C us []) (I2.FY.make C us []) HY r2 q1) λr s' qk=>?_);cases r with
 | error e=>exact(show False from qk).elim
 | ok fl=>
  cases fl with
  | next=>exact jm qk
  | brk=>exact jm qk
  | cont=>exact jm qk
  | ret u=>
   refine kZ (I2.after qk) λv H' I3 rv ev aa=>af aa λdd e3 q3=>?_;subst ev;refine oE (Vl I3.aQ e3) λsl hx=>oE (xc.exc.at I3.dF) λoi' xa'=>⟨rv,⟨_,_,_,_,⟨_,rfl,xa',hx,rfl,rfl,rfl,rfl,hL _ _ _ _ _ _ _ (tb:=b_) ⟨I3.del e3,⟨⟨_,_,_,hx,rfl,rfl,rfl,rfl,rfl,λ_=>rfl⟩,λT z=>by cases z⟩,I1.iY (lH _) aey,λT z=>by cases z⟩ q3⟩⟩⟩
end
end L2
namespace L2
open PySem PySem.Spec PySem.W PyProof.Rows L3
theorem abg{K:Frag}{od:Option Obj}(hc:(clsIn K C).isSome=c_)(ha:findIn K (.ref C) name=a_ (a_ a))(hn:specialIn K a (gL "__get__")=a_ (a_ g))(ht:takesIn K a=a_ c_) :
  findObj K C od name=a_ (.bind g a):=by
 refine oE (aao.mp hc) λcd jj=>?_;unfold findObj;rw[jj,ha];simp only[IM];rw[hn];simp only[IM];rw[ht];simp only[IM]
structure G8(K:Frag)(D:e_):Prop where
 ga:findIn K (.ref D) (gL "__getattribute__")=a_ (a_ (.builtin kc))
 gn:findIn K (.ref D) (gL "__getattr__")=a_ b_
 be:mroIn K D (.type "BaseException")=a_ c_
 hd:hasDictIn K D=c_
 cl:findIn K (.ref D) (gL "__class__")=a_ (a_ (.builtin "object.__class__"))
 gt:specialIn K (.builtin "object.__class__") (gL "__get__")=a_ (a_ (.builtin "getset_descriptor.__get__"))
 tk:takesIn K (.builtin "object.__class__")=a_ c_
 mr:mroIn K D (.type "object")=a_ c_
theorem ab'{w:k_}{K:Frag}{od:Option Obj}{Q:Option f_->g_->Prop}(c:G8 K D)(X:K.In s.heap)(I:InstAt s.heap x ox D od)
  (h:Q (a_ (.ref D)) { s with toks:=s.toks+1 }):wpAny (model prog w) A (getAttr? (.ref x) (gL "__class__")) Q E s:=by
 have hf:=abg (od:=od) (by obtain⟨cd,hc,_⟩:=any_some c.hd;rw[hc];rfl) c.cl c.gt c.tk;unfold getAttr? getAttrBy?;refine ay (wpAny_mkText (ay (D3 (Uj (s:={ s with toks:=s.toks+1 }) (fill:=d_) (expr:=d_) X I c.ga c.gn c.be (Uk (s:={ s with toks:=s.toks+1 }) X I hf ?_ (by intro z;cases z))))));show wpAny (model prog w) A.in1 (P6 (.builtin "getset_descriptor.__get__") (.builtin "object.__class__") (.ref x) (.ref D)) _ _ _;unfold P6;exact ay (pP (uw (class_get (s:={ s with toks:=s.toks+1 }) X I c.mr (a7 (ak _ rfl (handed_on rfl (a7 h)))))))
theorem aeb{K:Frag}{od:Option Obj}(c:G8 K D):KitX K (.ref x) (.ref D) (λh=>InstAt h x ox D od):=
 {ty:=λ_ _ _ I=>InstAt.type I
  it:=λM h X _=>by
   refine af (any_some c.hd) λcd hc _=>?_;unfold clsIn at hc
   split at hc
   ·rename_i oc dd cd' sl ho
    intro A' Q' E' s' k q;exact ay (QA (k D _ (X D _ ho)) (a7 q))
   ·cases hc
  ne:=λh tp dd aw n sl X nO=>by
   refine af (any_some c.hd) λcd hc _=>?_;unfold clsIn at hc
   split at hc
   ·rename_i oc dd' cd' C9 ho
    rw[Bool.eq_false_iff];intro q;have e:=di.inj (beq_iff_eq.mp q);subst e;rw[X _ _ ho]at nO;cases nO
   ·cases hc
  ca:=λX I q=>ab' c X I q }
def VT(K:Frag):List V->Hp->VK->Prop:=λxs H Q=>∃ea D dd cl cv b,xs=[.ref ea,cl]/\H ea=a_ (tV ea (.ref D) dd)/\(∀d,dd=a_ d->∃fs,H d=a_ (oS d fs))/\G8 K D/\NG cl=a_ cv/\kitOne K (.ref D) cv=a_ b/\Q (.bl b) H
theorem adg{X:Cx}:oG X (.builtin "isinstance") (VT X.K):=by
 intro p_ s σ H xs us Q I r h;refine nZ h λea D dd cl cv b e he hd c aa=>bp aa λhc hk q=>?_;subst e;cases r with
 | cons r1 r2=>
  cases r2 with
  | cons r2 r3=>
   cases r3;cases Tj hc r2;cases r1;refine xy (Vm I.aQ he) λvs sl hx=>?_
   have J:∃od,InstAt s.heap ea ⟨.ref D,dd,.fields vs,sl⟩ D od:=by
    cases dd with
    | none=>exact⟨b_,hx,rfl,rfl,qC⟩
    | some d=>
     exact oE (hd d rfl) λfs hd=>oA (UC I.aQ hd) λ_ aa=>af aa λmA aa _=>eh aa λo es ep eo _=>⟨a_ o,⟨hx,rfl,rfl,eo⟩⟩
   exact oE J λod J=>kia_one (aeb c) I.dF J hk (λz=>nomatch z) λtk=>(dS (.bl b) H (I.tok tk) rfl q)
theorem Vf{X:Cx}(K:Frag)(h:X.K=K:=by rfl):oG X (.builtin "isinstance") (VT K):=by subst h;exact adg
end L2
namespace L2
open PySem PySem.Spec PySem.W PyProof.Rows
section
variable{X:Cx}
def agI(K:W.Frag):List V->Hp->VK->Prop:=λxs H Q=>∃(a:e_) (ns:List Int),xs=[.ref a]/\aj K H a (ns.map V.int)/\ns.length<64/\∀l zs,H l=b_->yh zs ns->zs.Pairwise (·<=·)->Q (.ref l) (upd H l (.lst (zs.map V.int)))
theorem QM:oG X (.builtin "sorted") (agI X.K):=by
 intro p_ s σ H xs us Q I r h;obtain⟨a,ns,rfl,hl,Pr,q⟩:=h;obtain⟨u,rfl,rx⟩:=vals1 r;cases rx;obtain⟨aw,rv,pl,hz⟩:=I.list hl;have il:=rv.length;rw[aO]at il;obtain⟨m,F0⟩:=I.fr;refine sorted_N (h₀:=X.base) (L:=X.env.locals) (m:=m) (news:=B1 X.base s.heap X.env.locals) F0 S3 pl.isList (intsAre_of rv) li λh' oY ns' e F1 N1 ia po pw=>?_
 have keep:∀b o,b≠X.env.locals->s.heap.get? b=a_ o->h'.get? b=a_ o:=λb o h1 e=>by
  cases g:X.base.get? b with
  | some u=>
   have:=I.bk b u g;rw[e]at this;cases this;exact F1.keep b _ g
  | none=>exact(N1 (b,o) (.tail _ (QW h1 g e))).1
 have hn:H (s.heap.objs.size+1)=none:=I.aQ.fresh (lH _);have f:=I.iY (b:=s.heap.objs.size+1) (lH _) hn;have J:=Inv.regrown (t':=s.toks) (d':=s.drawn) I F0.ns F1.ns keep;have pl':=po.length_eq;exact⟨.ref (s.heap.objs.size+1),_,Inv.adopt (o:=.lst (ns'.map V.int)) J hn (vO I.sz) f.2.1 f.2.2.2.2.1 f.2.2.2.2.2 ⟨by rw[aO,jl];lia,oY,e,JC ia,(N1 _ (.head _)).1⟩,rfl,q _ _ hn po pw⟩
def afd:List V->Hp->VK->Prop:=λvs H Q=>∃n:Nat,vs=[.int (n:Nat)]/\n<=1000/\∀l,H l=b_->Q (.ref l) (upd H l (.lst ((List.range n).map λ(i:Nat)=>V.int (i:Nat))))
theorem abM:∀{n:Nat},vs.length=n->(∀(j:Nat) v,vs[j]?=a_ v->∃t,v=nj (0+(j:Int)*1) t)->Vals ((List.range n).map λ(i:Nat)=>V.int (i:Nat)) vs:=by
 intro n hn h
 have g:∀(l:List f_) (k:Nat),(∀(j:Nat) v,l[j]?=a_ v->∃t,v=nj ((k+j:Nat):Int) t)->Vals ((List.range' k l.length).map λ(i:Nat)=>V.int (i:Nat)) l:=by
  intro l
  induction l with
  | nil=>intro k _;exact .nil
  | cons v l ih=>
   intro k hk;refine .cons ?_ (ih (k+1) λj v e=>?_)
   ·obtain⟨t,e⟩:=hk 0 v rfl;exact⟨t,e⟩
   ·obtain⟨t,e⟩:=hk (j+1) v (by simpa using e);exact⟨t,by rw[e];congr 1;lia⟩
 rw[List.range_eq_range',<-hn]
 exact g vs 0 λj v e=>by
  obtain⟨t,z⟩:=h j v e;exact⟨t,by rw[z];congr 1;lia⟩
theorem Kf(hc:X.calm=c_)(hl:Gl X "list")(hml:X.mg "list" = b_)(hg:Gl X "range")(hm:X.mg "range" = b_)(ha:PA X [a] ta)(hs:cQ [a] X.env=[(d_,eval a X.env)]:=by rfl)
  (pM:cQ [.Call (.Name "range" p2) [a] [] Gb] X.env=[(d_,eval (.Call (.Name "range" p2) [a] [] Gb) X.env)]:=by rfl):PE X (.Call (.Name "list" p) [.Call (.Name "range" p2) [a] [] Gb] [] pos) (Ob afd ta):=by
 intro p_ s σ H Q I h;refine uk (tf I hl hml zS ?_ qc qc);refine zm ?_ pM rfl;rw[pM];show wpAny _ _ (spliced ((d_,eval (.Call (.Name "range" p2) [a] [] Gb) X.env)::backTo pos [])) _ _ s;refine aaG (uk (tf I hg hm boot_range (zm (lU (ha Gb p_ s σ H _ I h) λus s1 vs H1 I1 r1 q1=>?_) hs rfl) qc qc));obtain⟨n,rfl,hn,q⟩:=q1;obtain⟨u,rfl,rx⟩:=vals1 r1;obtain⟨t,rfl⟩:=rx;refine call_range_1 (aaR ?_);have I2:Inv X p_ σ H1 { s1 with heap:=s1.heap.push { cls:=.type "range",data:=.fields #[.int 0 s1.toks,.int (n:Nat) t,.int 1 (s1.toks+1)] },toks:=s1.toks+1+1 }:=I1.kept λb o e=>b8 _ e;refine call_list_range (n:=n) (I2.ok.hd hc) (IsRange.new ..) (small_one qc qc li li) (by rw[rangeSize_one];split <;> lia) li λh' tk acc c' k e it=>?_;refine⟨.ref _,_,I2.laid (t':=tk) k (aN _) (show hZ X.prog X.w _ h' _ (.lst ((List.range n).map λ(i:Nat)=>V.int (i:Nat))) from ⟨by rw[aO,rD,jl];lia,acc.toList,c',abM (by rw[Bj];exact it.1) λj v e=>it.2 j v (by rw[<-Qc];exact e),by rw[Array.toArray_toList];exact e⟩),rfl,q _ (I2.aQ.fresh (aN _))⟩
def afe:V->List V->Hp->VK->Prop:=λx vs H Q=>∃(l:e_) (xs:List V) (i:Nat) (y:V),x=.ref l/\vs=[.int (i:Nat),y]/\H l=a_ (.lst xs)/\xs.length<cW/\i<=1000/\Q .aJ (upd H l (.lst (xs.take i++y::xs.drop i)))
theorem af0(aw:List f_)(i:Nat)(x:Int)(hx:x=(i:Nat))(u:f_):((λxs:Array f_=>have k:=if x<0 then (x + ↑xs.size).toNat else min x.toNat xs.size;(xs.extract 0 k).push u++xs.extract k) aw.toArray)=(aw.take i++u::aw.drop i).toArray:=by
 subst hx;have h0:¬((i:Int)<0):=li;simp only[if_neg h0,jJ,eO];apply aa1.mp
 by_cases hi:i<=aw.length
 ·simp[IT hi,lE]
 ·have h1:min i aw.length=aw.length:=li;simp[h1,lE (show aw.length<=i by lia),Bf (show aw.length<=i by lia)]
theorem afZ(i:Int)(h0:0<=i)(h1:i<=1000):Io i=true:=by
 unfold Io;rw[decide_eq_true (show -2^63<=i by lia),decide_eq_true (show i<2^63 by lia)];rfl
theorem acQ:Hg X "list.insert" afe:=by
 intro p_ s σ H x vs v us Q I rx rv h;obtain⟨l,xs,i,y,rfl,rfl,hH,hz,hi,q⟩:=h;cases rx;cases rv with
 | cons ra rr=>
 cases rr with
 | cons rb rn=>
 cases rn
 rename_i u2
 obtain⟨tk,rfl⟩:=ra;generalize hx:((i:Nat):Int)=x;refine oA (I.qQ hH) λz aa=>cI aa λaw n r hl e=>?_;have h1:¬(!Io x)=true:=by rw[afZ x li li];decide
 have h2:aw.toArray.size<=cW:=by rw[eO,<-r.length];exact dw hz
 refine BA F.slot_list_insert ⟨_,e,rfl⟩ F.entry_list_insert (F.args_list_insert_3 _ _ _) (AutoSeq1.list_insert_list_int_val_1 l aw.toArray n x tk u2 h1 h2) ⟨e,⟨.aJ,_,I.FU (nI:=aw.take i++u2::aw.drop i) hH e (af0 aw i x hx.symm u2) ((r.take i).append (.cons rb (r.drop i))) ?_,rfl,q⟩⟩
 ·rw[dM,jk,i8,vQ];exact cC (show _<=xs.length+1 by lia) hz
end
end L2
namespace L2
open PySem PySem.Spec PyProof.Rows
theorem Fd{J:It}{n:Nat}{g:TG}{tb:TS}{D:Ends}{σ:St}{H:Hp}(Pv:Nat->St->Hp->Prop)(h0:Pv 0 σ H)(O6:∀i σ H,i<n->Pv i σ H->J.go i H)(dn:∀σ H,Pv n σ H->J.stop n H)
  (hs:∀i σ H,i<n->Pv i σ H->∀x H',J.xw i H x H'->g x σ H' λσ2 H2=>tb { D with nx:=Pv (i+1),ct:=Pv (i+1),bk:=D.nx } σ2 H2) (hd:∀σ H,Pv n σ H->D.nx σ H) :
  ∃W:Nat->Nat->St->Hp->Prop,(∃m,W 0 m σ H)/\∀i m σ H,W i m σ H->
   (J.stop i H/\D.nx σ H)\/(J.go i H/\∃N:St->Hp->Prop,(∀σ' H',N σ' H'->∃m',m'<m/\W (i+1) m' σ' H')/\∀x H',J.xw i H x H'->g x σ H' λσ2 H2=>tb { D with nx:=N,ct:=N,bk:=D.nx } σ2 H2):=by
 refine⟨λi m σ H=>m=n-i/\i<=n/\Pv i σ H,⟨n,by simp,cy _,h0⟩,?_⟩;intro i m σ H av;refine bp av λaa hi p=>?_;clear av;subst aa
 by_cases dJ:i<n
 ·exact .inr ⟨O6 i σ H dJ p,⟨Pv (i+1),λσ' H' p'=>⟨n-(i+1),om,rfl,dJ,p'⟩,hs i σ H dJ p⟩⟩
 ·have e:i=n:=li;subst e;exact .inl ⟨dn σ H p,hd σ H p⟩
end L2
namespace TL
open PySem PySem.Spec PyProof.Rows PySem.SeqAt L2 L3
structure Vt(K:W.Frag)(c cE:e_):Prop where
 xc:XC K c
 self:W.kitCls K (.ref c) (.ref c)=a_ c_
 base:W.kitCls K (.ref c) (.type "BaseException")=a_ c_
 te:W.kitOne K (.ref c) (.ref cE)=a_ c_
 ve:W.kitOne K (.ref c) (.type "ValueError")=a_ c_
end TL
namespace L2
open PySem PySem.Spec PyProof.Rows
section
variable{X:Cx}
theorem ahE(xs:List V)(k:Nat):jt xs b_ (a_ (k:Int))=xs.take k:=by
 unfold jt;rw[HT.J',HT.KS,Ja,Nat.sub_zero]
 by_cases h:k<=xs.length
 ·rw[IT h]
 ·rw[Qs om,aaW,lE om]
theorem aeD(xs:List V)(k:Nat):jt xs (a_ (k:Int)) b_=xs.drop k:=by
 unfold jt;rw[HT.J',HT.KS]
 by_cases h:k<=xs.length
 ·rw[IT h,lE (by rw[vQ];exact aN _)]
 ·rw[Qs om,List.drop_length,Bf om];simp
end
end L2
namespace TL
open PySem PySem.Spec PyProof.Rows PySem.SeqAt L2 L3 L4
variable{P:l_}{w:k_}{K:PySem.W.Frag}{mg:Str->Option f_}{base:j_}
def tv(t:Tl):List V:=.str t.1::t.2.map λ(n:Nat)=>V.int (n:Int)
def tu(H:Hp)(v:V)(t:Tl):Prop:=∃a,v=.ref a/\H a=a_ (.tup (tv t))
def IsPart(H:Hp)(v:V)(p:Pt):Prop:=∃a vs,v=.ref a/\H a=a_ (.tup vs)/\Paired (tu H) vs p
def mw(H:Hp)(v:V)(ps:List Pt):Prop:=∃a vs,v=.ref a/\H a=a_ (.tup vs)/\Paired (IsPart H) vs ps
theorem tu.keep(k:∀b xs,H b=a_ (.tup xs)->H' b=a_ (.tup xs))(h:tu H v t):tu H' v t:=by
 exact af h λa e h=>ak a e (k _ _ h)
theorem IsPart.keep(k:∀b xs,H b=a_ (.tup xs)->H' b=a_ (.tup xs))(h:IsPart H v p):IsPart H' v p:=by
 exact cI h λa vs e h r=>dS a vs e (k _ _ h) (Paired.cw r λ_ _ q=>q.keep k)
theorem mw.keep(k:∀b xs,H b=a_ (.tup xs)->H' b=a_ (.tup xs))(h:mw H v p):mw H' v p:=by
 exact cI h λa vs e h r=>dS a vs e (k _ _ h) (Paired.cw r λ_ _ q=>q.keep k)
def Nj(b:Bool):Sp:=λvs H Q _=>∃a,vs=[.ref a]/\Q (.bl b) H
theorem ae4:ba zLe zLe (aT E2):=bg
theorem abS:ba zLe zLe (aT El):=bg
theorem abF:ba zLe zLe (aT Ef):=bg
theorem BK(F:aV K "empties" "Step.empties" E2 f fd):ax P w K mg base aB 1 f fd zLe (Nj d_):=by
 refine F.ok ae4 (λvs H Q E h=>?_) λaL A _ s H vs Q E hr h=>?_
 ·refine af h λa aa _=>?_;clear h;subst aa;rfl
 ·refine af h λa aa k=>?_;clear h;subst aa;exact lS (aE (a8 nD)) k
theorem abG(F:aV K "empties" "Swap.empties" El f fd):ax P w K mg base aB 1 f fd zLe (Nj c_):=by
 refine F.ok abS (λvs H Q E h=>?_) λaL A _ s H vs Q E hr h=>?_
 ·refine af h λa aa _=>?_;clear h;subst aa;rfl
 ·refine af h λa aa k=>?_;clear h;subst aa;exact lS (aE (a8 nD)) k
theorem abv(F:aV K "empties" "Clear.empties" Ef f fd):ax P w K mg base aB 1 f fd zLe (Nj c_):=by
 refine F.ok abF (λvs H Q E h=>?_) λaL A _ s H vs Q E hr h=>?_
 ·refine af h λa aa _=>?_;clear h;subst aa;rfl
 ·refine af h λa aa k=>?_;clear h;subst aa;exact lS (aE (a8 nD)) k
structure C6(K:W.Frag)(c:e_)(t:a9)(N9 Oa N8 Nf Nc Nd:Bool):Prop where
 cl:W.findIn K (.ref c) "__class__" = a_ (a_ (.builtin "object.__class__"))
 mr:W.mroIn K c (.type "object")=a_ c_
 akB:W.kitOne K (.ref c) (.ref t.oK)=a_ N9
 akC:W.kitOne K (.ref c) (.ref t.oM)=a_ Oa
 akA:W.kitOne K (.ref c) (.ref t.mI)=a_ N8
 aiJ:W.kitOne K (.ref c) (.ref t.nF)=a_ Nf
 aiI:W.kitOne K (.ref c) (.ref t.nE)=a_ Nc
 VU:W.kitOne K (.ref c) (.ref t.lO)=a_ Nd
structure qf where
 (AI Wc Wd:e_)
 (NB LX LY:iJ)
structure yA(K:W.Frag)(mg:Str->Option f_)(t:a9)(u:qf):Prop where
 st:tm K mg t
 CA:aV K "empties" "Step.empties" E2 u.AI u.NB
 yL:Binds K u.NB zLe []
 aho:aV K "empties" "Swap.empties" El u.Wc u.LX
 MW:Binds K u.LX zLe []
 ahs:aV K "empties" "Clear.empties" Ef u.Wd u.LY
 MX:Binds K u.LY zLe []
 gt:W.specialIn K (.builtin "object.__class__") "__get__" = a_ (a_ (.builtin "getset_descriptor.__get__"))
 tk:W.takesIn K (.builtin "object.__class__")=a_ c_
 aja:Meth K t.oK "empties" u.AI
 ajb:Meth K t.oM "empties" u.AI
 ai':Meth K t.mI "empties" u.AI
 ahB:Meth K t.nF "empties" u.AI
 ahz:Meth K t.nE "empties" u.Wc
 agc:Meth K t.uQ "empties" u.Wd
 ahA:Meth K t.lO "empties" u.AI
 Ny:C6 K t.oK t c_ d_ d_ d_ d_ d_
 Nz:C6 K t.oM t d_ c_ d_ d_ d_ d_
 Nx:C6 K t.mI t d_ d_ c_ d_ d_ d_
 MK:C6 K t.nF t d_ d_ d_ c_ d_ d_
 MH:C6 K t.nE t d_ d_ d_ d_ c_ d_
 LV:C6 K t.uQ t d_ d_ d_ d_ d_ d_
 MJ:C6 K t.lO t d_ d_ d_ d_ d_ c_
def tE(t:a9)(H:Hp)(v:V)(s:Tl):Prop:=∃z a dx,v=.ref z/\H z=a_ (.ins (e8 t s.1) dx (iw (.ref a) s.1 (s.2.map λ(n:Nat)=>V.int (n:Int))))
theorem tE.keep(k:∀b C dx fs,H b=a_ (.ins C dx fs)->v=.ref b->H' b=a_ (.ins C dx fs))(h:tE t H v s):tE t H' v s:=by
 exact eh h λz a dx e1 h=>⟨z,a,dx,e1,(k _ _ _ _ h e1)⟩
theorem yn(m:Str)(h:∀f∈(["number","reg","parts","other","name","place"]:List Str),m≠f)(v:V)(x:Str)(ps:List V):(iw v x ps).lookup m=none:=by
 have h1:=h "number" (by simp);have h2:=h "reg" (by simp);have h3:=h "parts" (by simp);have h4:=h "other" (by simp);have h5:=h "name" (by simp);have h6:=h "place" (by simp);unfold iw
 repeat (first | (split;(simp only[gQ,if_neg h1,if_neg h2,if_neg h3,if_neg h4,if_neg h5,if_neg h6];rfl)) | (simp only[gQ,if_neg h1,if_neg h2,if_neg h3,if_neg h4,if_neg h5,if_neg h6];rfl))
def qJ(s:Tl):Bool:=decide (s.1 = "swap")||decide (s.1 = "clear")
theorem Lf(t:a9):e8 t "put" = t.oK:=by kernel_rfl
theorem aed(ns:List Nat):qJ ("put",ns)=false:=by show (decide (("put" : Str) = "swap")||decide (("put" : Str) = "clear"))=_;decide +kernel
theorem Lg(t:a9):e8 t "add" = t.oM:=by kernel_rfl
theorem aee(ns:List Nat):qJ ("add",ns)=false:=by show (decide (("add" : Str) = "swap")||decide (("add" : Str) = "clear"))=_;decide +kernel
theorem Le(t:a9):e8 t "set" = t.mI:=by kernel_rfl
theorem aec(ns:List Nat):qJ ("set",ns)=false:=by show (decide (("set" : Str) = "swap")||decide (("set" : Str) = "clear"))=_;decide +kernel
theorem Ks(t:a9):e8 t "look" = t.nF:=by kernel_rfl
theorem acV(ns:List Nat):qJ ("look",ns)=false:=by show (decide (("look" : Str) = "swap")||decide (("look" : Str) = "clear"))=_;decide +kernel
theorem Kq(t:a9):e8 t "swap" = t.nE:=by kernel_rfl
theorem RV(ns:List Nat):qJ ("swap",ns)=true:=by show (decide (("swap" : Str) = "swap")||decide (("swap" : Str) = "clear"))=_;decide +kernel
theorem Sh(t:a9):e8 t "clear" = t.uQ:=by kernel_rfl
theorem aca(ns:List Nat):qJ ("clear",ns)=true:=by show (decide (("clear" : Str) = "swap")||decide (("clear" : Str) = "clear"))=_;decide +kernel
theorem Kr(t:a9):e8 t "skip" = t.lO:=by kernel_rfl
theorem acU(ns:List Nat):qJ ("skip",ns)=false:=by show (decide (("skip" : Str) = "swap")||decide (("skip" : Str) = "clear"))=_;decide +kernel
theorem ahy(T:yA K mg t u){sz:Nat}(g:dH sz s)(hz:H z=a_ (.ins (e8 t s.1) dx (iw (.ref a) s.1 (s.2.map λ(n:Nat)=>V.int (n:Int))))) :
  ∃C f fd pn sp,H z=a_ (.ins C dx (iw (.ref a) s.1 (s.2.map λ(n:Nat)=>V.int (n:Int))))/\fQ K C/\Meth K C "empties" f/\ax P w K mg base aB 1 f fd pn sp/\Binds K fd pn []/\∀(Q:VK) (E:XK),Q (.bl (qJ s)) H->sp [.ref z] H Q E:=by
 cases g with
 | put r m h1 h2=>
  rw[aed];have hz:H z=a_ (.ins (e8 t "put") dx _):=hz;rw[Lf]at hz;exact qA _ _ _ _ _ hz T.st.yv T.aja (BK T.CA) T.yL λQ E q=>⟨z,rfl,q⟩
 | add r m h1 h2=>
  rw[aee];have hz:H z=a_ (.ins (e8 t "add") dx _):=hz;rw[Lg]at hz;exact qA _ _ _ _ _ hz T.st.wQ T.ajb (BK T.CA) T.yL λQ E q=>⟨z,rfl,q⟩
 | set r m h1 h2=>
  rw[aec];have hz:H z=a_ (.ins (e8 t "set") dx _):=hz;rw[Le]at hz;exact qA _ _ _ _ _ hz T.st.uX T.ai' (BK T.CA) T.yL λQ E q=>⟨z,rfl,q⟩
 | look r m h1 h2=>
  rw[acV];have hz:H z=a_ (.ins (e8 t "look") dx _):=hz;rw[Ks]at hz;exact qA _ _ _ _ _ hz T.st.uP T.ahB (BK T.CA) T.yL λQ E q=>⟨z,rfl,q⟩
 | swap r m h1 h2=>
  rw[RV];have hz:H z=a_ (.ins (e8 t "swap") dx _):=hz;rw[Kq]at hz;exact qA _ _ _ _ _ hz T.st.tj T.ahz (abG T.aho) T.MW λQ E q=>⟨z,rfl,q⟩
 | clear=>
  rw[aca];have hz:H z=a_ (.ins (e8 t "clear") dx _):=hz;rw[Sh]at hz;exact qA _ _ _ _ _ hz T.st.B0 T.agc (abv T.ahs) T.MX λQ E q=>⟨z,rfl,q⟩
 | skip r m h1 h2 h3=>
  rw[acU];have hz:H z=a_ (.ins (e8 t "skip") dx _):=hz;rw[Kr]at hz;exact qA _ _ _ _ _ hz T.st.wH T.ahA (BK T.CA) T.yL λQ E q=>⟨z,rfl,q⟩
theorem LW(T:yA K mg t u){sz:Nat}(g:dH sz s)(hz:H z=a_ (.ins (e8 t s.1) dx (iw (.ref a) s.1 (s.2.map λ(n:Nat)=>V.int (n:Int))))) :
  ∃C:e_,ju K H (.ref z) (.ref C)/\C6 K C t (decide (s.1 = "put")) (decide (s.1 = "add")) (decide (s.1 = "set")) (decide (s.1 = "look")) (decide (s.1 = "swap")) (decide (s.1 = "skip")):=by
 cases g with
 | put r m h1 h2=>
  have hz:H z=a_ (.ins (e8 t "put") dx _):=hz;rw[Lf]at hz;exact ak _ (ju.ins hz T.st.yv T.Ny.cl T.gt T.tk T.Ny.mr) T.Ny
 | add r m h1 h2=>
  have hz:H z=a_ (.ins (e8 t "add") dx _):=hz;rw[Lg]at hz;exact ak _ (ju.ins hz T.st.wQ T.Nz.cl T.gt T.tk T.Nz.mr) T.Nz
 | set r m h1 h2=>
  have hz:H z=a_ (.ins (e8 t "set") dx _):=hz;rw[Le]at hz;exact ak _ (ju.ins hz T.st.uX T.Nx.cl T.gt T.tk T.Nx.mr) T.Nx
 | look r m h1 h2=>
  have hz:H z=a_ (.ins (e8 t "look") dx _):=hz;rw[Ks]at hz;exact ak _ (ju.ins hz T.st.uP T.MK.cl T.gt T.tk T.MK.mr) T.MK
 | swap r m h1 h2=>
  have hz:H z=a_ (.ins (e8 t "swap") dx _):=hz;rw[Kq]at hz;exact ak _ (ju.ins hz T.st.tj T.MH.cl T.gt T.tk T.MH.mr) T.MH
 | clear=>
  have hz:H z=a_ (.ins (e8 t "clear") dx _):=hz;rw[Sh]at hz;exact ak _ (ju.ins hz T.st.B0 T.LV.cl T.gt T.tk T.LV.mr) T.LV
 | skip r m h1 h2 h3=>
  have hz:H z=a_ (.ins (e8 t "skip") dx _):=hz;rw[Kr]at hz;exact ak _ (ju.ins hz T.st.wH T.MJ.cl T.gt T.tk T.MJ.mr) T.MJ
structure Act where
 (k:Str) (c n:Nat) (got gave seen:Option Int)
def oV:Option Int->V
 | none=>.aJ
 | some i=>.int i
def pH(a:Act):List V:=[.str a.k,.int (a.c:Nat),.int (a.n:Nat),oV a.got,oV a.gave,oV a.seen]
def pW(H:Hp)(v:V)(a:Act):Prop:=∃p,v=.ref p/\H p=a_ (.tup (pH a))
structure Ck where
 (pl ct:Nat) (rg:List Int) (tn:Int) (es:List Ent)
structure Mc where
 (kd:Str) (ps:List Pt) (ck:List Ck) (bd:List Int) (ac:List Act) (ov:List (List Int))
structure MA where
 (lt:e_) (ts:List (e_×e_×List e_)) (pg st pl ct rg:e_) (rs:List e_) (ce ac cm:e_) (cs:List e_)
def Vc:List Str:=["at_end","may_do","carries","moves","do","do_step","do_set","do_look","do_swap","carry","come","on_board","settle","ended","where","steps_done","registers","waiting","board","deeds","deeds_done","deed_at","over","twin"]
structure xo(fs:List (Str×V))(A:MA)(S:Mc):Prop where
 iU:fs.lookup ("trays" : Str)=a_ (.ref A.lt)
 program:fs.lookup ("program" : Str)=a_ (.ref A.pg)
 kind:fs.lookup ("kind" : Str)=a_ (.str S.kd)
 steps:fs.lookup ("steps" : Str)=a_ (.ref A.st)
 places:fs.lookup ("places" : Str)=a_ (.ref A.pl)
 counts:fs.lookup ("counts" : Str)=a_ (.ref A.ct)
 fw:fs.lookup ("regs" : Str)=a_ (.ref A.rg)
 cells:fs.lookup ("cells" : Str)=a_ (.ref A.ce)
 dB:fs.lookup ("acts" : Str)=a_ (.ref A.ac)
 oB:fs.lookup ("comers" : Str)=a_ (.ref A.cm)
 ms:∀m∈Vc,fs.lookup m=b_
 tU:fs.length<=20
abbrev XX(CT:e_)(kd:Str)(H:Hp)(x:e_×e_×List e_)(k:Ck):Prop:=dR H x.1 CT kd k.tn k.es x.2.1 x.2.2
def z6(t:a9)(H:Hp)(v:V)(p:Pt):Prop:=∃b us,v=.ref b/\H b=a_ (.tup us)/\Paired (tE t H) us p
structure aY(t:a9)(C CT:e_)(H:Hp)(m:e_)(A:MA)(S:Mc):Prop where
 obj:∃dx fs,H m=a_ (.ins C dx fs)/\xo fs A S
 lt:H A.lt=a_ (.lst (A.ts.map λx=>V.ref x.1))
 ts:Paired (XX CT S.kd H) A.ts S.ck
 pg:mw H (.ref A.pg) S.ps
 st:∃vs,H A.st=a_ (.tup vs)/\Paired (z6 t H) vs S.ps
 pl:H A.pl=a_ (.lst (S.ck.map λk=>V.int (k.pl:Nat)))
 ct:H A.ct=a_ (.lst (S.ck.map λk=>V.int (k.ct:Nat)))
 rg:H A.rg=a_ (.lst (A.rs.map V.ref))
 rs:Paired (λa (k:Ck)=>H a=a_ (.lst (k.rg.map V.int))) A.rs S.ck
 ce:H A.ce=a_ (.lst (S.bd.map V.int))
 ac:∃vs,H A.ac=a_ (.lst vs)/\Paired (pW H) vs S.ac
 cm:H A.cm=a_ (.lst (A.cs.map V.ref))
 cs:Paired (λa (o:List Int)=>H a=a_ (.lst (o.map V.int))) A.cs S.ov
structure lu(lab:e_->Nat)(m:e_)(A:MA):Prop where
 m:lab m=2
 lt:lab A.lt=4
 pl:lab A.pl=6
 ct:lab A.ct=8
 rg:lab A.rg=10
 ce:lab A.ce=12
 ac:lab A.ac=14
 cm:lab A.cm=16
 rs:∀i a,A.rs[i]?=a_ a->lab a=24+6*i
 cs:∀i a,A.cs[i]?=a_ a->lab a=26+6*i
 ts:∀i x,A.ts[i]?=a_ x->∀b∈x.1::x.2.1::x.2.2,lab b=28+6*i
inductive bz (m:e_) (A:MA):e_->Prop
 | m:bz m A m
 | lt:bz m A A.lt
 | pl:bz m A A.pl
 | ct:bz m A A.ct
 | rg:bz m A A.rg
 | ce:bz m A A.ce
 | ac:bz m A A.ac
 | cm:bz m A A.cm
 | rs {a:e_}:a∈A.rs->bz m A a
 | cs {a:e_}:a∈A.cs->bz m A a
 | ts {x:e_×e_×List e_} {b:e_}:x∈A.ts->b∈x.1::x.2.1::x.2.2->bz m A b
structure aF(F:e_->Prop)(H H':Hp):Prop where
 k:∀b o,¬F b->(∀ps,o≠.gx ps)->H b=a_ o->H' b=a_ o
 t:∀b,H' b=b_->H b=b_
theorem aF.of{F:e_->Prop}(s:ai H H'):aF F H H':=⟨λb o _ _ e=>s b o e,λb h=>s.free h⟩
theorem aF.refl{F:e_->Prop}(H:Hp):aF F H H:=⟨λ_ _ _ _ e=>e,λ_ h=>h⟩
theorem aF.trans{F:e_->Prop}(a:aF F H H1)(b:aF F H1 H2):aF F H H2:=⟨λc o h1 h2 e=>b.k c o h1 h2 (a.k c o h1 h2 e),λc h=>a.t c (b.t c h)⟩
theorem aF.mono{F G:e_->Prop}(a:aF F H H')(h:∀b,F b->G b):aF G H H':=⟨λc o h1 h2 e=>a.k c o (λz=>h1 (h c z)) h2 e,a.t⟩
theorem aF.Oe{G:e_->Prop}(a:iA F H H')(h:∀b∈F,G b):aF G H H':=⟨λc o h1 h2 e=>a.k c o (λz=>h1 (h c z)) h2 e,a.t⟩
theorem aF.upd{F:e_->Prop}{o:HO}(h:F x):aF F H (upd H x o):=⟨λb q n _ e=>by rw[au λz=>n (by rw[z];exact h)];exact e,λb e=>by
 by_cases z:b=x
 ·rw[z,aA]at e;cases e
 ·rwa[au z]at e⟩
theorem iA.ofA{tn:Int}(k:FK (a::q::qr) H H')(T:dR H' a C kd tn es q qr):iA (a::q::qr) H H':=
 ⟨λc o h1 _ e=>k c o h1 e,λc h=>by
  by_cases z:c∈a::q::qr
  ·refine oE (T.there c z) λo e=>?_;rw[e]at h;cases h
  ·cases e:H c with
   | none=>rfl
   | some o=>rw[k c o z e]at h;cases h⟩
def eN:e_->Prop:=λ_=>False
theorem eX{α β:Type}{F:α->β->Prop}{G:α->β->Prop}:∀{l:List α} {r:List β},Paired F l r->(∀(i:Nat) a b,l[i]?=a_ a->r[i]?=a_ b->F a b->G a b)->Paired G l r
 | _,_,.nil,_=>.nil
 | _,_,.cons h t,k=>.cons (k 0 _ _ rfl rfl h) (eX t λi a b e1 e2 q=>k (i+1) a b (by simpa using e1) (by simpa using e2) q)
theorem z6.keep(kt:∀b xs,H b=a_ (.tup xs)->H' b=a_ (.tup xs))(ki:∀b C dx fs,H b=a_ (.ins C dx fs)->(∃x ps v,C=e8 t x/\fs=iw v x ps)->H' b=a_ (.ins C dx fs))(h:z6 t H v p):z6 t H' v p:=by
 exact cI h λb us e h1 h2=>dS b us e (kt _ _ h1) (Paired.cw h2 λv s q=>eh q λz a dx e1 q=>⟨z,a,dx,e1,(ki _ _ _ _ q (xB _ _ (ak _ rfl rfl)))⟩)
theorem pW.keep(k:∀b xs,H b=a_ (.tup xs)->H' b=a_ (.tup xs))(h:pW H v a):pW H' v a:=by
 exact af h λp e h=>ak p e (k _ _ h)
theorem jU{α β:Type}{F:α->β->Prop}:∀{l:List α} {r:List β} {i:Nat} {y:β},Paired F l r->r[i]?=a_ y->∃x,l[i]?=a_ x/\F x y
 | _,_,_,_,.nil,e=>by simp at e
 | _,_,0,_,.cons h _,e=>by simp at e;subst e;exact⟨_,rfl,h⟩
 | _,_,i+1,x,.cons _ t,e=>by
  exact af (jU (i:=i) t (by simpa using e)) λy h1 h2=>ak y (by simpa using h1) h2
theorem Jm{α β:Type}{F:α->β->Prop}{l':List α}{r':List β}(h':Paired F l' r'):∀{l:List α} {r:List β},Paired F l r->Paired F (l++l') (r++r')
 | _,_,.nil=>h'
 | _,_,.cons g t=>.cons g (Jm h' t)
theorem mi{α β:Type}{F:α->β->Prop}:∀{l:List α} {m:List β} {b:α},Paired F l m->b∈l->∃y,y∈m/\F b y
 | _,_,_,.nil,h=>by simp at h
 | _,_,_,.cons h t,e=>by
  rcases cV.mp e with z | z
  ·subst z;exact⟨_,by simp,h⟩
  ·exact af (mi t z) λy hy q=>ak y (gE _ hy) q
theorem aY.keep(M:aY t C CT H m A S)(k:∀b,bz m A b->∀o,H b=a_ o->H' b=a_ o)(kt:∀b xs,H b=a_ (.tup xs)->H' b=a_ (.tup xs))(ki:∀b C dx fs,H b=a_ (.ins C dx fs)->H' b=a_ (.ins C dx fs)):aY t C CT H' m A S:=by
 obtain⟨⟨dx,fs,h1,h2⟩,lt,ts,pg,⟨vs,s1,s2⟩,pl,ct,rg,rs,ce,⟨us,a1,a2⟩,cm,cs⟩:=M;exact⟨⟨dx,fs,k _ .m _ h1,h2⟩,k _ .lt _ lt,eX ts λi x c hx _ q=>q.keep (λb hb o e=>k b (.ts (bo hx) hb) o e) kt,pg.keep kt,⟨vs,kt _ _ s1,Paired.cw s2 λ_ _ q=>q.keep kt λb C dx fs e _=>ki b C dx fs e⟩,k _ .pl _ pl,k _ .ct _ ct,k _ .rg _ rg,eX rs λi x c hx _ q=>k x (.rs (bo hx)) _ q,k _ .ce _ ce,⟨us,k _ .ac _ a1,Paired.cw a2 λ_ _ q=>q.keep kt⟩,k _ .cm _ cm,eX cs λi x c hx _ q=>k x (.cs (bo hx)) _ q⟩
theorem aY.Ak{F:e_->Prop}(M:aY t C CT H m A S)(k:aF F H H')(hF:∀b,F b->¬bz m A b/\∀o,H b=a_ o->∃xs,o=.lst xs):aY t C CT H' m A S:=by
 have nt:∀b o,bz m A b->H b=a_ o->∀ps,o≠.gx ps:=by
  intro b o hb e ps z;subst z;cases hb with
  | m=>obtain⟨dx,fs,h,_⟩:=M.obj;rw[h]at e;cases e
  | lt=>rw[M.lt]at e;cases e
  | pl=>rw[M.pl]at e;cases e
  | ct=>rw[M.ct]at e;cases e
  | rg=>rw[M.rg]at e;cases e
  | ce=>rw[M.ce]at e;cases e
  | ac=>obtain⟨vs,h,_⟩:=M.ac;rw[h]at e;cases e
  | cm=>rw[M.cm]at e;cases e
  | rs h=>
   refine af (mi M.rs h) λc _ q=>?_;rw[q]at e;cases e
  | cs h=>
   refine af (mi M.cs h) λc _ q=>?_;rw[q]at e;cases e
  | ts h h2=>
   refine af (mi M.ts h) λc _ q=>?_;rcases q.kinds _ h2 _ e with ⟨_,_,_,z⟩ | ⟨_,z⟩ <;> cases z
 refine M.keep (λb hb o e=>k.k b o (λz=>(hF b z).1 hb) (nt b o hb e) e) (λb xs e=>k.k b _ (λz=>?_) (λps z=>by cases z) e) λb C dx fs e=>k.k b _ (λz=>?_) (λps z=>by cases z) e
 ·refine oE ((hF b z).2 _ e) λys q=>?_;cases q
 ·refine oE ((hF b z).2 _ e) λys q=>?_;cases q
theorem aY.same(M:aY t C CT H m A S)(s:ai H H'):aY t C CT H' m A S:=M.keep (λb _ o e=>s b o e) (λb xs e=>s b _ e) λb C dx fs e=>s b _ e
theorem aY.eP(M:aY t C CT H m A S)(k:aF eN H H'):aY t C CT H' m A S:=M.Ak k λb z=>z.elim
structure fb(K:W.Frag)(C:e_):Prop where
 cl:fQ K C
 iU:cj K C "trays"
 program:cj K C "program"
 kind:cj K C "kind"
 steps:cj K C "steps"
 places:cj K C "places"
 counts:cj K C "counts"
 fw:cj K C "regs"
 cells:cj K C "cells"
 dB:cj K C "acts"
 oB:cj K C "comers"
theorem dA{α:Type}{f:α->V}{r:List α}{c:Nat}{k:α}(h:r[c]?=a_ k):jg (r.map f) (c:Int)=a_ (f k):=cb (by rw[f9,h];rfl)
theorem Bv{l:List (e_×e_×List e_)}{c:Nat}{x:e_×e_×List e_}(h:l[c]?=a_ x):jg (l.map λx=>V.ref x.1) (c:Int)=a_ (.ref x.1):=dA (f:=λx:e_×e_×List e_=>V.ref x.1) h
structure lY(S:Mc):Prop where
 good:wX S.ps
 len:S.ck.length=S.ps.length
 bd:S.bd.length=12
 ov:S.ov.length=12
 rg:∀k∈S.ck,k.rg.length=4
 pl:∀(c:Nat) k p,S.ck[c]?=a_ k->S.ps[c]?=a_ p->k.pl<=p.length
 ac:S.ac.length<=15000
 es:∀k∈S.ck,k.es.length<=S.ac.length
section
variable{t:a9}{C CT:e_}{H:Hp}{m:e_}{A:MA}{S:Mc}
theorem aY.wY(M:aY t C CT H m A S){c:Nat}(h:S.ck[c]?=a_ k):∃x,A.ts[c]?=a_ x/\XX CT S.kd H x k:=jU M.ts h
theorem aY.fw(M:aY t C CT H m A S){c:Nat}(h:S.ck[c]?=a_ k):∃a,A.rs[c]?=a_ a/\H a=a_ (.lst (k.rg.map V.int)):=jU (F:=λa (k:Ck)=>H a=a_ (.lst (k.rg.map V.int))) M.rs h
theorem aY.over(M:aY t C CT H m A S){n:Nat}(h:S.ov[n]?=a_ o):∃a,A.cs[n]?=a_ a/\H a=a_ (.lst (o.map V.int)):=jU (F:=λa (o:List Int)=>H a=a_ (.lst (o.map V.int))) M.cs h
theorem aY.part(M:aY t C CT H m A S){c:Nat}(h:S.ps[c]?=a_ p):∃vs b us,H A.st=a_ (.tup vs)/\vs[c]?=a_ (.ref b)/\H b=a_ (.tup us)/\Paired (tE t H) us p:=by
 refine af M.st λvs h1 h2=>af (jU h2 h) λv hv aa=>cI aa λb us aa h3 h4=>?_;subst aa;exact⟨vs,b,us,h1,hv,h3,h4⟩
end
section
variable{t:a9}{C CT:e_}
def KD(t:a9)(C CT:e_):Sp:=λvs H Q _=>∃m A S c k p,vs=[.ref m,.int (c:Nat)]/\aY t C CT H m A S/\S.ck[c]?=a_ k/\S.ps[c]?=a_ p/\p.length<=1000/\Q (.bl (decide (k.pl=p.length))) H
theorem ae8:ba zLa zLa (aT LG):=bg
theorem ET(a b:Nat):decide (V.int (a:Int)=V.int (b:Int))=decide (a=b):=decide_eq_decide.mpr ⟨λz=>by injection z with z;lia,λz=>by rw[z]⟩
theorem adZ(F:aV K "at_end" "Machine.at_end" LG f fd)(dE:mg "len" = b_)(cM:fb K C):ax P w K mg base aB 1 f fd zLa (KD t C CT):=by
 refine F.ok ae8 (λvs H Q E h=>?_) λaL A _ s H vs Q E hr h=>?_
 ·refine lK h λm A S c k p aa _=>?_;subst aa;rfl
 ·refine nZ h λm A S c k p aa M hk hp aH=>?_;subst aa;refine oA aH λhl q=>lS (aE (a8 (qG dO (az aS (bu (pv 0) rfl) (pv 1)) (cg fg rfl dE PySem.boot_len (ae (az bh (bu (pv 0) rfl) (pv 1)) ag)) (bf _)))) (aW (id M.obj) λdx fs hm G=>BX (M.part hp) λvs b us h1 h2 h3 h4=>vF rfl hm cM.cl cM.places G.places (vr rfl (rL (aj.of M.pl) (dA (f:=λk:Ck=>V.int (k.pl:Nat)) hk) (vF rfl hm cM.cl cM.steps G.steps (vr rfl (rT (v:=.ref b) (aI.of h1) (cb h2) (pU b us rfl (.inr (aI.of h3)) rfl ?_)))))));rw[Paired.length h4,ET];exact q
def zW(t:a9)(C CT:e_)(g:Ck->Nat):Sp:=λvs H Q _=>∃m A S c k,vs=[.ref m,.int (c:Nat)]/\aY t C CT H m A S/\S.ck[c]?=a_ k/\Q (.int (g k:Nat)) H
theorem aeX:ba zLa zLa (aT Lv):=bg
theorem adK(F:aV K "where" "Machine.where" Lv f fd)(cM:fb K C):ax P w K mg base aB 1 f fd zLa (zW t C CT Ck.pl):=by
 refine F.ok aeX (λvs H Q E h=>?_) λaL A _ s H vs Q E hr h=>?_
 ·refine rS h λm A S c k aa _=>?_;subst aa;rfl
 ·obtain⟨m,A,S,c,k,aa,M,hk,q⟩:=h;subst aa;exact lS (aE (a8 (az aS (bu (pv 0) rfl) (pv 1)))) (aW (id M.obj) λdx fs hm G=>vF rfl hm cM.cl cM.places G.places (vr rfl (rL (aj.of M.pl) (dA (f:=λk:Ck=>V.int (k.pl:Nat)) hk) q)))
theorem abD:ba zLa zLa (aT Jq):=bg
theorem abt(F:aV K "steps_done" "Machine.steps_done" Jq f fd)(cM:fb K C):ax P w K mg base aB 1 f fd zLa (zW t C CT Ck.ct):=by
 refine F.ok abD (λvs H Q E h=>?_) λaL A _ s H vs Q E hr h=>?_
 ·refine rS h λm A S c k aa _=>?_;subst aa;rfl
 ·obtain⟨m,A,S,c,k,aa,M,hk,q⟩:=h;subst aa;exact lS (aE (a8 (az aS (bu (pv 0) rfl) (pv 1)))) (aW (id M.obj) λdx fs hm G=>vF rfl hm cM.cl cM.counts G.counts (vr rfl (rL (aj.of M.ct) (dA (f:=λk:Ck=>V.int (k.ct:Nat)) hk) q)))
def UM(t:a9)(C CT:e_):Sp:=λvs H Q _=>∃m A S c k,vs=[.ref m,.int (c:Nat)]/\aY t C CT H m A S/\S.ck[c]?=a_ k/\∀l,H l=b_->Q (.ref l) (upd H l (.lst (k.rg.map V.int)))
theorem abE:ba zLa zLa (aT Jr):=bg
theorem abu(F:aV K "registers" "Machine.registers" Jr f fd)(jI:mg "list" = b_)(cM:fb K C):ax P w K mg base aB 1 f fd zLa (UM t C CT):=by
 refine F.ok abE (λvs H Q E h=>?_) λaL A _ s H vs Q E hr h=>?_
 ·refine rS h λm A S c k aa _=>?_;subst aa;rfl
 ·obtain⟨m,A,S,c,k,aa,M,hk,q⟩:=h;subst aa;exact lS (aE (a8 (rO zF rfl jI zS (ae (az aS (bu (pv 0) rfl) (pv 1)) ag)))) (aW (id M.obj) λdx fs hm G=>af (M.fw hk) λa ha jS=>vF rfl hm cM.cl cM.fw G.fw (vr rfl (rL (v:=.ref a) (aj.of M.rg) (dA ha) ⟨a,⟨_,rfl,.inl (aj.of jS),q⟩⟩)))
def KC(t:a9)(C CT:e_):Sp:=λvs H Q _=>∃m A S,vs=[.ref m]/\aY t C CT H m A S/\∀l,H l=b_->Q (.ref l) (upd H l (.lst (S.bd.map V.int)))
theorem ae7:ba zLe zLe (aT LF):=bg
theorem adY(F:aV K "board" "Machine.board" LF f fd)(jI:mg "list" = b_)(cM:fb K C):ax P w K mg base aB 1 f fd zLe (KC t C CT):=by
 refine F.ok ae7 (λvs H Q E h=>?_) λaL A _ s H vs Q E hr h=>?_
 ·refine eh h λm A S aa _=>?_;clear h;subst aa;rfl
 ·refine gw h λm A S aa M q=>?_;clear h;subst aa;exact lS (aE (a8 (rO zF rfl jI zS (ae (bu (pv 0) rfl) ag)))) (aW (id M.obj) λdx fs hm G=>vF rfl hm cM.cl cM.cells G.cells ⟨A.ce,⟨_,rfl,.inl (aj.of M.ce),q⟩⟩)
def zX(t:a9)(C CT:e_):Sp:=λvs H Q _=>∃m A S,vs=[.ref m]/\aY t C CT H m A S/\∀l ws,H l=b_->Paired (pW H) ws S.ac->Q (.ref l) (upd H l (.lst ws))
theorem ae5:ba zLe zLe (aT LB):=bg
theorem adV(F:aV K "deeds" "Machine.deeds" LB f fd)(jI:mg "list" = b_)(cM:fb K C):ax P w K mg base aB 1 f fd zLe (zX t C CT):=by
 refine F.ok ae5 (λvs H Q E h=>?_) λaL A _ s H vs Q E hr h=>?_
 ·refine eh h λm A S aa _=>?_;clear h;subst aa;rfl
 ·refine gw h λm A S aa M q=>?_;clear h;subst aa;exact lS (aE (a8 (rO zF rfl jI zS (ae (bu (pv 0) rfl) ag)))) (aW (id M.obj) λdx fs hm G=>af M.ac λws h1 h2=>vF rfl hm cM.cl cM.dB G.dB ⟨A.ac,⟨_,rfl,.inl (aj.of h1),λl hl=>q l ws hl h2⟩⟩)
def UO(t:a9)(C CT:e_):Sp:=λvs H Q _=>∃m A S n o,vs=[.ref m,.int (n:Nat)]/\aY t C CT H m A S/\S.ov[n]?=a_ o/\∀l,H l=b_->Q (.ref l) (upd H l (.lst (o.map V.int)))
theorem agx:ba zLj zLj (aT Ms):=bg
theorem afx(F:aV K "over" "Machine.over" Ms f fd)(jI:mg "list" = b_)(cM:fb K C):ax P w K mg base aB 1 f fd zLj (UO t C CT):=by
 refine F.ok agx (λvs H Q E h=>?_) λaL A _ s H vs Q E hr h=>?_
 ·refine rS h λm A S n o aa _=>?_;subst aa;rfl
 ·obtain⟨m,A,S,n,o,aa,M,hn,q⟩:=h;subst aa;exact lS (aE (a8 (rO zF rfl jI zS (ae (az aS (bu (pv 0) rfl) (pv 1)) ag)))) (aW (id M.obj) λdx fs hm G=>af (M.over hn) λa ha nU=>vF rfl hm cM.cl cM.oB G.oB (vr rfl (rL (v:=.ref a) (aj.of M.cm) (dA ha) ⟨a,⟨_,rfl,.inl (aj.of nU),q⟩⟩)))
def Rz(t:a9)(C CT:e_):Sp:=λvs H Q _=>∃m A S c k,vs=[.ref m,.int (c:Nat)]/\aY t C CT H m A S/\S.ck[c]?=a_ k/\k.es.length<64/\∀H' l us,ai H H'->H l=b_->H' l=a_ (.lst us)->Paired (wI H') us k.es->Q (.ref l) H'
theorem acu:ba zLa zLa (aT J4):=bg
theorem abZ(F:aV K "waiting" "Machine.waiting" J4 f fd)(cM:fb K C)(cT:oC K CT)(GL:ax P w K mg base aB 1 fL vE zLe (SG CT))(bL:Binds K vE zLe [])(mL:Meth K CT "listed" fL):ax P w K mg base aB 2 f fd zLa (Rz t C CT):=by
 refine F.ok acu (λvs H Q E h=>?_) λaL A _ s H vs Q E hr h=>?_
 ·refine rS h λm A S c k aa _=>?_;subst aa;rfl
 ·refine kY h λm A S c k aa=>my aa λaa M hk hl q=>?_;subst aa;exact lS (aE (a8 (ip (az aS (bu (pv 0) rfl) (pv 1)) cT.cl mL GL hr bL .nil aR))) (aW (id M.obj) λdx fs hm G=>af (M.wY hk) λx hx T=>gc (id T.obj) λsH qq ea e1 e2 e3 em el=>vF rfl hm cM.cl cM.iU G.iU (vr rfl (rL (v:=.ref x.1) (aj.of M.lt) (Bv hx) (rM ea (em _ dk) (⟨x.1,_,_,_,_,(⟨_,rfl,T,hl,q⟩)⟩)))))
end
theorem dv{a b c m:Nat}(l:a<b:=by decide):a≠b+m*c:=λh=>mh a (gI l (h ▸ DX b (m*c)))
theorem kh{a b c m:Nat}(l:a<b:=by decide):b+m*c≠a:=λe=>dv (l:=l) e.symm
theorem jw{a b i c m:Nat}(l:a%m≠b%m:=by decide):a+m*i≠b+m*c:=λh=>l (by rw[<-aaj a m i,h,aaj])
theorem tQ{a b i c:Nat}(h:i≠c:=by with_reducible assumption):a+(b+1)*i≠a+(b+1)*c:=λe=>h (Nat.eq_of_mul_eq_mul_left (QO b) (Nat.add_left_cancel e))
theorem eL{a b:Nat}(n:a≠b:=by decide):a≠b:=n
theorem cx{p q a b:Nat}(e1:p=a)(e2:q=b)(n:a≠b):p≠q:=λh=>n (e1.symm.trans (h.trans e2))
theorem r9{p q a:Nat}(e1:p=a)(n:a≠q):p≠q:=λh=>n (e1.symm.trans h)
theorem bQ{lab:e_->Nat}{a b:e_}(h:lab a≠lab b):a≠b:=λe=>h (by rw[e])
theorem zE{α β:Type}{f:α->β}{r:List α}{c:Nat}{k k':α}(h:r[c]?=a_ k)(e:f k'=f k):(r.set c k').map f=r.map f:=by
 rw[vV,e];refine oE (dX.mp h) λhc hk=>?_;rw[<-hk]
 exact List.ext_getElem? λi=>by
  rw[List.getElem?_set]
  split
  ·rename_i hi
   subst hi
   split
   ·rw[f9,aX hc];rfl
   ·rename_i hn;rw[aO]at hn;exact absurd hc hn
  ·rfl
theorem vX{α β:Type}{F:α->β->Prop}{b':β}:∀{l:List α} {r:List β} {c:Nat} {b:β},Paired F l r->r[c]?=a_ b->(∀a,l[c]?=a_ a->F a b->F a b')->Paired F l (r.set c b')
 | _,_,_,_,.nil,_,_=>.nil
 | _,_,0,b,.cons h t,e,k=>by
  simp only[List.getElem?_cons_zero,II]at e;subst e;exact .cons (k _ rfl h) t
 | _,_,c+1,b,.cons h t,e,k=>by
  rw[List.getElem?_cons_succ]at e;exact .cons h (vX t e λa ha=>k a (by simpa using ha))
theorem zI{α β:Type}{F G:α->β->Prop}{b':β}:∀{l:List α} {r:List β} {c:Nat},Paired F l r->(∀i a b,i≠c->l[i]?=a_ a->r[i]?=a_ b->F a b->G a b)->(∀a b,l[c]?=a_ a->r[c]?=a_ b->F a b->G a b')->Paired G l (r.set c b')
 | _,_,_,.nil,_,_=>.nil
 | _,_,0,.cons h t,k,k'=>by
  refine .cons (k' _ _ rfl rfl h) (eX t λi a b e1 e2 q=>k (i+1) a b li (by simpa using e1) (by simpa using e2) q)
 | _,_,c+1,.cons h t,k,k'=>by
  refine .cons (k 0 _ _ li rfl rfl h) (zI t (λi a b hi e1 e2 q=>k (i+1) a b li (by simpa using e1) (by simpa using e2) q) λa b e1 e2 q=>k' a b (by simpa using e1) (by simpa using e2) q)
theorem qz{α β:Type}{F:α->β->Prop}{a:α}{b:β}:∀{l:List α} {r:List β},Paired F l r->F a b->Paired F (l++[a]) (r++[b])
 | _,_,.nil,h=>.cons h .nil
 | _,_,.cons g t,h=>.cons g (qz t h)
section
variable{t:a9}{C CT:e_}{H:Hp}{m:e_}{A:MA}{S:Mc}{lab:e_->Nat}
theorem pq{x:e_}{xs:List V}{o:HO}(hx:H x=a_ (.lst xs)):∀b ys,H b=a_ (.tup ys)->upd H x o b=a_ (.tup ys):=λb ys e=>by rw[au (hY e hx (by intro z;cases z))];exact e
theorem zV{x:e_}{xs:List V}{o:HO}(hx:H x=a_ (.lst xs)):∀b C dx fs,H b=a_ (.ins C dx fs)->upd H x o b=a_ (.ins C dx fs):=λb C dx fs e=>by rw[au (hY e hx (by intro z;cases z))];exact e
theorem Ud{PT x:e_}{pos:Pos}{q:Str}{xs:List V}{o:HO}(hx:H x=a_ (.lst xs))(h:cq PT pos q H):cq PT pos q (upd H x o):=
 Bx (F:=[x]) h (λb o' n e=>by rw[au λz=>n (by rw[z];exact gJ.mpr rfl)];exact e) λb hb o' e=>by rw[gJ.mp hb,hx]at e;cases e;exact .inr ⟨_,rfl⟩
theorem ail(M:aY t C CT H m A S)(L:lu lab m A){c:Nat}{k:Ck}(hk:S.ck[c]?=a_ k)(v:Nat):aY t C CT (upd H A.pl (.lst ((S.ck.map λk=>V.int (k.pl:Nat)).set c (.int (v:Nat))))) m A { S with ck:=S.ck.set c { k with pl:=v } }:=by
 obtain⟨⟨dx,fs,h1,h2⟩,lt,ts,pg,⟨vs,s1,s2⟩,pl,ct,rg,rs,ce,⟨us,a1,a2⟩,cm,cs⟩:=M;have bZ:=L.pl;have kt:=pq (o:=.lst ((S.ck.map λk=>V.int (k.pl:Nat)).set c (.int (v:Nat)))) pl;have ki:=zV (o:=.lst ((S.ck.map λk=>V.int (k.pl:Nat)).set c (.int (v:Nat)))) pl;have h2:xo fs A { S with ck:=S.ck.set c { k with pl:=v } }:=⟨h2.iU,h2.program,h2.kind,h2.steps,h2.places,h2.counts,h2.fw,h2.cells,h2.dB,h2.oB,h2.ms,h2.tU⟩
 exact⟨⟨dx,fs,(au (bQ (lab:=lab) (cx L.m bZ eL))).trans h1,h2⟩,(au (bQ (lab:=lab) (cx L.lt bZ eL))).trans lt,vX (eX ts λi x c hx _ q=>dR.keep q (λb hb o e=>(au (bQ (lab:=lab) (cx (L.ts i x hx b hb) bZ kh))).trans e) kt) hk λa _ q=>q,pg.keep kt,⟨vs,kt _ _ s1,Paired.cw s2 λ_ _ q=>q.keep kt λb C dx fs e _=>ki b C dx fs e⟩,by
   show upd H _ _ A.pl=a_ (.lst ((S.ck.set c { k with pl:=v }).map λk=>V.int (k.pl:Nat)));rw[aA,vV],by
   show upd H _ _ A.ct=a_ (.lst ((S.ck.set c { k with pl:=v }).map λk=>V.int (k.ct:Nat)));rw[zE (f:=λk:Ck=>V.int (k.ct:Nat)) (k':={ k with pl:=v }) hk rfl];exact(au (bQ (lab:=lab) (cx L.ct bZ eL))).trans ct,(au (bQ (lab:=lab) (cx L.rg bZ eL))).trans rg,vX (eX rs λi x c hx _ q=>(au (bQ (lab:=lab) (cx (L.rs i x hx) bZ kh))).trans q) hk λa _ q=>q,(au (bQ (lab:=lab) (cx L.ce bZ eL))).trans ce,⟨us,(au (bQ (lab:=lab) (cx L.ac bZ eL))).trans a1,Paired.cw a2 λ_ _ q=>q.keep kt⟩,(au (bQ (lab:=lab) (cx L.cm bZ eL))).trans cm,eX cs λi x c hx _ q=>(au (bQ (lab:=lab) (cx (L.cs i x hx) bZ kh))).trans q⟩
theorem ain(M:aY t C CT H m A S)(L:lu lab m A){c:Nat}{k:Ck}(hk:S.ck[c]?=a_ k)(v:Nat):aY t C CT (upd H A.ct (.lst ((S.ck.map λk=>V.int (k.ct:Nat)).set c (.int (v:Nat))))) m A { S with ck:=S.ck.set c { k with ct:=v } }:=by
 obtain⟨⟨dx,fs,h1,h2⟩,lt,ts,pg,⟨vs,s1,s2⟩,pl,ct,rg,rs,ce,⟨us,a1,a2⟩,cm,cs⟩:=M;have bZ:=L.ct;have kt:=pq (o:=.lst ((S.ck.map λk=>V.int (k.ct:Nat)).set c (.int (v:Nat)))) ct;have ki:=zV (o:=.lst ((S.ck.map λk=>V.int (k.ct:Nat)).set c (.int (v:Nat)))) ct;have h2:xo fs A { S with ck:=S.ck.set c { k with ct:=v } }:=⟨h2.iU,h2.program,h2.kind,h2.steps,h2.places,h2.counts,h2.fw,h2.cells,h2.dB,h2.oB,h2.ms,h2.tU⟩
 exact⟨⟨dx,fs,(au (bQ (lab:=lab) (cx L.m bZ eL))).trans h1,h2⟩,(au (bQ (lab:=lab) (cx L.lt bZ eL))).trans lt,vX (eX ts λi x c hx _ q=>dR.keep q (λb hb o e=>(au (bQ (lab:=lab) (cx (L.ts i x hx b hb) bZ kh))).trans e) kt) hk λa _ q=>q,pg.keep kt,⟨vs,kt _ _ s1,Paired.cw s2 λ_ _ q=>q.keep kt λb C dx fs e _=>ki b C dx fs e⟩,by
   show upd H _ _ A.pl=a_ (.lst ((S.ck.set c { k with ct:=v }).map λk=>V.int (k.pl:Nat)));rw[zE (f:=λk:Ck=>V.int (k.pl:Nat)) (k':={ k with ct:=v }) hk rfl];exact(au (bQ (lab:=lab) (cx L.pl bZ eL))).trans pl,by
   show upd H _ _ A.ct=a_ (.lst ((S.ck.set c { k with ct:=v }).map λk=>V.int (k.ct:Nat)));rw[aA,vV],(au (bQ (lab:=lab) (cx L.rg bZ eL))).trans rg,vX (eX rs λi x c hx _ q=>(au (bQ (lab:=lab) (cx (L.rs i x hx) bZ kh))).trans q) hk λa _ q=>q,(au (bQ (lab:=lab) (cx L.ce bZ eL))).trans ce,⟨us,(au (bQ (lab:=lab) (cx L.ac bZ eL))).trans a1,Paired.cw a2 λ_ _ q=>q.keep kt⟩,(au (bQ (lab:=lab) (cx L.cm bZ eL))).trans cm,eX cs λi x c hx _ q=>(au (bQ (lab:=lab) (cx (L.cs i x hx) bZ kh))).trans q⟩
theorem Fh(M:aY t C CT H m A S)(L:lu lab m A){c:Nat}{k:Ck}(hk:S.ck[c]?=a_ k){a:e_}(ha:A.rs[c]?=a_ a)(r:Nat)(v:Int):aY t C CT (upd H a (.lst ((k.rg.map V.int).set r (.int v)))) m A { S with ck:=S.ck.set c { k with rg:=k.rg.set r v } }:=by
 obtain⟨⟨dx,fs,h1,h2⟩,lt,ts,pg,⟨vs,s1,s2⟩,pl,ct,rg,rs,ce,⟨us,a1,a2⟩,cm,cs⟩:=M
 have jS:H a=a_ (.lst (k.rg.map V.int)):=by
  refine af (Bu rs ha) λk2 e2 q=>?_;rw[hk]at e2;cases e2;exact q
 have bZ:=L.rs c a ha;have kt:=pq (o:=.lst ((k.rg.map V.int).set r (.int v))) jS;have ki:=zV (o:=.lst ((k.rg.map V.int).set r (.int v))) jS;have h2:xo fs A { S with ck:=S.ck.set c { k with rg:=k.rg.set r v } }:=⟨h2.iU,h2.program,h2.kind,h2.steps,h2.places,h2.counts,h2.fw,h2.cells,h2.dB,h2.oB,h2.ms,h2.tU⟩
 exact⟨⟨dx,fs,(au (bQ (lab:=lab) (cx L.m bZ dv))).trans h1,h2⟩,(au (bQ (lab:=lab) (cx L.lt bZ dv))).trans lt,vX (eX ts λi x c hx _ q=>dR.keep q (λb hb o e=>(au (bQ (lab:=lab) (cx (L.ts i x hx b hb) bZ jw))).trans e) kt) hk λa _ q=>q,pg.keep kt,⟨vs,kt _ _ s1,Paired.cw s2 λ_ _ q=>q.keep kt λb C dx fs e _=>ki b C dx fs e⟩,by
   show upd H _ _ A.pl=a_ (.lst ((S.ck.set c { k with rg:=k.rg.set r v }).map λk=>V.int (k.pl:Nat)));rw[zE (f:=λk:Ck=>V.int (k.pl:Nat)) (k':={ k with rg:=k.rg.set r v }) hk rfl];exact(au (bQ (lab:=lab) (cx L.pl bZ dv))).trans pl,by
   show upd H _ _ A.ct=a_ (.lst ((S.ck.set c { k with rg:=k.rg.set r v }).map λk=>V.int (k.ct:Nat)));rw[zE (f:=λk:Ck=>V.int (k.ct:Nat)) (k':={ k with rg:=k.rg.set r v }) hk rfl];exact(au (bQ (lab:=lab) (cx L.ct bZ dv))).trans ct,(au (bQ (lab:=lab) (cx L.rg bZ dv))).trans rg,zI rs (λi x b hi hx _ q=>(au (bQ (lab:=lab) (cx (L.rs i x hx) bZ tQ))).trans q) λx b hx hb q=>by
   rw[ha]at hx;cases hx;show upd H a _ a=a_ (.lst ((k.rg.set r v).map V.int));rw[aA,vV],(au (bQ (lab:=lab) (cx L.ce bZ dv))).trans ce,⟨us,(au (bQ (lab:=lab) (cx L.ac bZ dv))).trans a1,Paired.cw a2 λ_ _ q=>q.keep kt⟩,(au (bQ (lab:=lab) (cx L.cm bZ dv))).trans cm,eX cs λi x c hx _ q=>(au (bQ (lab:=lab) (cx (L.cs i x hx) bZ jw))).trans q⟩
theorem aio(M:aY t C CT H m A S)(L:lu lab m A)(n:Nat)(v:Int):aY t C CT (upd H A.ce (.lst ((S.bd.map V.int).set n (.int v)))) m A { S with bd:=S.bd.set n v }:=by
 obtain⟨⟨dx,fs,h1,h2⟩,lt,ts,pg,⟨vs,s1,s2⟩,pl,ct,rg,rs,ce,⟨us,a1,a2⟩,cm,cs⟩:=M;have bZ:=L.ce;have kt:=pq (o:=.lst ((S.bd.map V.int).set n (.int v))) ce;have ki:=zV (o:=.lst ((S.bd.map V.int).set n (.int v))) ce;have h2:xo fs A { S with bd:=S.bd.set n v }:=⟨h2.iU,h2.program,h2.kind,h2.steps,h2.places,h2.counts,h2.fw,h2.cells,h2.dB,h2.oB,h2.ms,h2.tU⟩
 exact⟨⟨dx,fs,(au (bQ (lab:=lab) (cx L.m bZ eL))).trans h1,h2⟩,(au (bQ (lab:=lab) (cx L.lt bZ eL))).trans lt,eX ts λi x c hx _ q=>dR.keep q (λb hb o e=>(au (bQ (lab:=lab) (cx (L.ts i x hx b hb) bZ kh))).trans e) kt,pg.keep kt,⟨vs,kt _ _ s1,Paired.cw s2 λ_ _ q=>q.keep kt λb C dx fs e _=>ki b C dx fs e⟩,(au (bQ (lab:=lab) (cx L.pl bZ eL))).trans pl,(au (bQ (lab:=lab) (cx L.ct bZ eL))).trans ct,(au (bQ (lab:=lab) (cx L.rg bZ eL))).trans rg,eX rs λi x c hx _ q=>(au (bQ (lab:=lab) (cx (L.rs i x hx) bZ kh))).trans q,by
   show upd H _ _ A.ce=a_ (.lst ((S.bd.set n v).map V.int));rw[aA,vV],⟨us,(au (bQ (lab:=lab) (cx L.ac bZ eL))).trans a1,Paired.cw a2 λ_ _ q=>q.keep kt⟩,(au (bQ (lab:=lab) (cx L.cm bZ eL))).trans cm,eX cs λi x c hx _ q=>(au (bQ (lab:=lab) (cx (L.cs i x hx) bZ kh))).trans q⟩
theorem Mh(M:aY t C CT H m A S)(L:lu lab m A){ws:List V}(hw:H A.ac=a_ (.lst ws)){x:V}{a:Act}(hx:pW H x a):aY t C CT (upd H A.ac (.lst (ws++[x]))) m A { S with ac:=S.ac++[a] }:=by
 obtain⟨⟨dx,fs,h1,h2⟩,lt,ts,pg,⟨vs,s1,s2⟩,pl,ct,rg,rs,ce,⟨us,a1,a2⟩,cm,cs⟩:=M;obtain rfl:ws=us:=by rw[hw]at a1;cases a1;rfl
 have bZ:=L.ac;have kt:=pq (o:=.lst (ws++[x])) hw;have ki:=zV (o:=.lst (ws++[x])) hw;have h2:xo fs A { S with ac:=S.ac++[a] }:=⟨h2.iU,h2.program,h2.kind,h2.steps,h2.places,h2.counts,h2.fw,h2.cells,h2.dB,h2.oB,h2.ms,h2.tU⟩;exact⟨⟨dx,fs,(au (bQ (lab:=lab) (cx L.m bZ eL))).trans h1,h2⟩,(au (bQ (lab:=lab) (cx L.lt bZ eL))).trans lt,eX ts λi x c hx _ q=>dR.keep q (λb hb o e=>(au (bQ (lab:=lab) (cx (L.ts i x hx b hb) bZ kh))).trans e) kt,pg.keep kt,⟨vs,kt _ _ s1,Paired.cw s2 λ_ _ q=>q.keep kt λb C dx fs e _=>ki b C dx fs e⟩,(au (bQ (lab:=lab) (cx L.pl bZ eL))).trans pl,(au (bQ (lab:=lab) (cx L.ct bZ eL))).trans ct,(au (bQ (lab:=lab) (cx L.rg bZ eL))).trans rg,eX rs λi x c hx _ q=>(au (bQ (lab:=lab) (cx (L.rs i x hx) bZ kh))).trans q,(au (bQ (lab:=lab) (cx L.ce bZ eL))).trans ce,⟨ws++[x],aA,qz (Paired.cw a2 λ_ _ q=>q.keep kt) (hx.keep kt)⟩,(au (bQ (lab:=lab) (cx L.cm bZ eL))).trans cm,eX cs λi x c hx _ q=>(au (bQ (lab:=lab) (cx (L.cs i x hx) bZ kh))).trans q⟩
theorem aim(M:aY t C CT H m A S)(L:lu lab m A){n:Nat}{ov:List Int}(hn:S.ov[n]?=a_ ov){a:e_}(ha:A.cs[n]?=a_ a)(d:Int):aY t C CT (upd H a (.lst (ov.map V.int++[.int d]))) m A { S with ov:=S.ov.set n (ov++[d]) }:=by
 obtain⟨⟨dx,fs,h1,h2⟩,lt,ts,pg,⟨vs,s1,s2⟩,pl,ct,rg,rs,ce,⟨us,a1,a2⟩,cm,cs⟩:=M
 have nU:H a=a_ (.lst (ov.map V.int)):=by
  refine af (Bu cs ha) λo2 e2 q=>?_;rw[hn]at e2;cases e2;exact q
 have bZ:=L.cs n a ha;have kt:=pq (o:=.lst (ov.map V.int++[.int d])) nU;have ki:=zV (o:=.lst (ov.map V.int++[.int d])) nU;have h2:xo fs A { S with ov:=S.ov.set n (ov++[d]) }:=⟨h2.iU,h2.program,h2.kind,h2.steps,h2.places,h2.counts,h2.fw,h2.cells,h2.dB,h2.oB,h2.ms,h2.tU⟩
 exact⟨⟨dx,fs,(au (bQ (lab:=lab) (cx L.m bZ dv))).trans h1,h2⟩,(au (bQ (lab:=lab) (cx L.lt bZ dv))).trans lt,eX ts λi x c hx _ q=>dR.keep q (λb hb o e=>(au (bQ (lab:=lab) (cx (L.ts i x hx b hb) bZ jw))).trans e) kt,pg.keep kt,⟨vs,kt _ _ s1,Paired.cw s2 λ_ _ q=>q.keep kt λb C dx fs e _=>ki b C dx fs e⟩,(au (bQ (lab:=lab) (cx L.pl bZ dv))).trans pl,(au (bQ (lab:=lab) (cx L.ct bZ dv))).trans ct,(au (bQ (lab:=lab) (cx L.rg bZ dv))).trans rg,eX rs λi x c hx _ q=>(au (bQ (lab:=lab) (cx (L.rs i x hx) bZ jw))).trans q,(au (bQ (lab:=lab) (cx L.ce bZ dv))).trans ce,⟨us,(au (bQ (lab:=lab) (cx L.ac bZ dv))).trans a1,Paired.cw a2 λ_ _ q=>q.keep kt⟩,(au (bQ (lab:=lab) (cx L.cm bZ dv))).trans cm,zI cs (λi x b hi hx _ q=>(au (bQ (lab:=lab) (cx (L.cs i x hx) bZ tQ))).trans q) λx b hx hb q=>by
   rw[ha]at hx;cases hx;rw[aA,gg];rfl⟩
theorem VA{H':Hp}{c:Nat}{k:Ck}{x:e_×e_×List e_}{tn:Int}{es:List Ent}(M:aY t C CT H m A S)(L:lu lab m A)(hk:S.ck[c]?=a_ k)(hx:A.ts[c]?=a_ x)(kp:iA (x.1::x.2.1::x.2.2) H H')(T:dR H' x.1 CT S.kd tn es x.2.1 x.2.2) :
  aY t C CT H' m A { S with ck:=S.ck.set c { k with tn:=tn,es:=es } }:=by
 obtain⟨⟨dx,fs,h1,h2⟩,lt,ts,pg,⟨vs,s1,s2⟩,pl,ct,rg,rs,ce,⟨us,a1,a2⟩,cm,cs⟩:=M;refine af (Bu ts hx) λk0 e0 T0=>?_;rw[hk]at e0;cases e0;have bZ:=L.ts c x hx;have out:∀b o,lab b≠28+6*c->(∀ps,o≠.gx ps)->H b=a_ o->H' b=a_ o:=λb o n z e=>kp.k b o (λhb=>n (bZ b hb)) z e;have kt:∀b ys,H b=a_ (.tup ys)->H' b=a_ (.tup ys):=λb ys e=>kp.k b _ (λhb=>by rcases T0.kinds b hb _ e with ⟨_,_,_,z⟩ | ⟨_,z⟩ <;> cases z) (λps z=>by cases z) e
 have ki:∀b C dx fs,H b=a_ (.ins C dx fs)->(∃x ps v,C=e8 t x/\fs=iw v x ps)->H' b=a_ (.ins C dx fs):=λb C dx fs e hs=>kp.k b _ (λhb=>by
  refine eh hs λx' ps v _ aa=>?_;clear hs;subst aa;rcases cV.mp hb with z | z
  ·refine cI T0.obj λzf nX e' pe _=>?_;rw[z,e']at e;cases e;rw[yn "kind" dk]at pe;cases pe
  ·rcases cV.mp z with z | z
   ·rw[z,T0.qs]at e;cases e
   ·refine oE (vK z) λi zq=>oE zq λhi ez=>?_;obtain⟨oY,e',_⟩:=T0.lx i b (by rw[<-ez];exact aX hi);rw[e']at e;cases e) (λps z=>by cases z) e
 have nl:∀ys:List V,∀ps,HO.lst ys≠.gx ps:=λys ps z=>by cases z
 have h2:xo fs A { S with ck:=S.ck.set c { k with tn:=tn,es:=es } }:=⟨h2.iU,h2.program,h2.kind,h2.steps,h2.places,h2.counts,h2.fw,h2.cells,h2.dB,h2.oB,h2.ms,h2.tU⟩;refine⟨⟨dx,fs,out _ _ (r9 L.m dv) (λps z=>by cases z) h1,h2⟩,out _ _ (r9 L.lt dv) (nl _) lt,?_,pg.keep kt,⟨vs,kt _ _ s1,Paired.cw s2 λ_ _ q=>q.keep kt ki⟩,?_,?_,out _ _ (r9 L.rg dv) (nl _) rg,?_,out _ _ (r9 L.ce dv) (nl _) ce,⟨us,out _ _ (r9 L.ac dv) (nl _) a1,Paired.cw a2 λ_ _ q=>q.keep kt⟩,out _ _ (r9 L.cm dv) (nl _) cm,eX cs λi y b hy _ q=>out _ _ (r9 (L.cs i y hy) jw) (nl _) q⟩
 ·refine zI ts (λi y b hi hy _ q=>dR.keep q (λb' y8 o e=>out b' o (r9 (L.ts i y hy b' y8) tQ) (λps z=>?_) e) kt) λy b hy hb q=>?_
  ·rcases q.kinds b' y8 _ e with ⟨_,_,_,w⟩ | ⟨_,w⟩ <;> (rw[z]at w;cases w)
  ·rw[hx]at hy;cases hy;exact T
 ·show H' A.pl=a_ (.lst ((S.ck.set c { k with tn:=tn,es:=es }).map λk=>V.int (k.pl:Nat)));rw[zE (f:=λk:Ck=>V.int (k.pl:Nat)) (k':={ k with tn:=tn,es:=es }) hk rfl];exact out _ _ (r9 L.pl dv) (nl _) pl
 ·show H' A.ct=a_ (.lst ((S.ck.set c { k with tn:=tn,es:=es }).map λk=>V.int (k.ct:Nat)));rw[zE (f:=λk:Ck=>V.int (k.ct:Nat)) (k':={ k with tn:=tn,es:=es }) hk rfl];exact out _ _ (r9 L.ct dv) (nl _) ct
 ·exact vX (eX rs λi y b hy _ q=>out _ _ (r9 (L.rs i y hy) jw) (nl _) q) hk λa _ q=>q
end
abbrev Mv:=Str×List Int
def lW(mv:Mv):List V:=.str mv.1::mv.2.map V.int
def jv(H:Hp)(v:V)(mv:Mv):Prop:=∃p,v=.ref p/\H p=a_ (.tup (lW mv))
theorem jv.keep(k:∀b xs,H b=a_ (.tup xs)->H' b=a_ (.tup xs))(h:jv H v mv):jv H' v mv:=by
 exact af h λp e h=>ak p e (k _ _ h)
theorem aF.tup{F:e_->Prop}(k:aF F H H')(h:∀b,F b->∀xs,H b≠a_ (.tup xs)):∀b xs,H b=a_ (.tup xs)->H' b=a_ (.tup xs):=λb xs e=>k.k b _ (λz=>h b z xs e) (λps z=>by cases z) e
theorem aF.lQ(k:aF eN H H'):∀b xs,H b=a_ (.tup xs)->H' b=a_ (.tup xs):=k.tup λb z=>z.elim
theorem aF.iC(k:aF eN H H')(e:H b=a_ (.lst xs)):H' b=a_ (.lst xs):=k.k b _ (λz=>z) (λps z=>by cases z) e
def qP(k:Ck)(p:Pt):Bool:=match p[k.pl]? with
 | none=>d_
 | some s=>decide (k.es=[]) || !qJ s
def Co(kd:Str)(x:Ck×Nat):List Mv:=(jB kd x.1.es).map λn=>(("carry" : Str),[(x.2:Int),n])
def xj(kd:Str)(l:List (Ck×Nat)):List Mv:=l.flatMap (Co kd)
def nk(S:Mc):List Mv:=xj S.kd S.ck.zipIdx
def xh(S:Mc)(c:Nat):Bool:=match S.ck[c]?,S.ps[c]? with
 | some k,a_ p=>qP k p
 | _,_=>d_
def vf(S:Mc)(n:Nat):List Mv:=((List.range n).filter (xh S)).map λ(c:Nat)=>(("do" : Str),[(c:Int)])
def jL(S:Mc):List Mv:=vf S S.ck.length++nk S
theorem Rc(kd:Str)(es:List Ent):(jB kd es).length<=12:=by
 unfold jB
 split
 ·cases es.head? <;> simp
 ·unfold nB;rw[aO];exact cC (Bg _ _) (by rw[rD];exact aN _)
theorem Kt(kd:Str):∀l:List (Ck×Nat),(xj kd l).length<=12*l.length
 | []=>by simp[xj]
 | x::l=>by
  have h:=Kt kd l;unfold xj at h ⊢;rw[Qp,dM,jk];have h2:(Co kd x).length<=12:=by unfold Co;rw[aO];exact Rc _ _
  lia
section
variable{t:a9}{C CT:e_}{u:qf}
def Tu(t:a9)(C CT:e_):Sp:=λvs H Q _=>∃m A S c k p,vs=[.ref m,.int (c:Nat)]/\aY t C CT H m A S/\S.ck[c]?=a_ k/\S.ps[c]?=a_ p/\p.length<=1000/\k.pl<=p.length/\(∀s∈p,∃sz,dH sz s)/\∀H',ai H H'->Q (.bl (qP k p)) H'
theorem TK:ba zLh zLa (aT Lz):=bg
theorem adP(F:aV K "may_do" "Machine.may_do" Lz f fd)(cM:fb K C)(cT:oC K CT)(O:yA K mg t u)
  (GA:ax P w K mg base aB 1 fA uh zLa (KD t C CT)) (bA:Binds K uh zLa []) (mA:Meth K C "at_end" fA)
  (GE:ax P w K mg base aB 1 fE DJ zLe (Tz CT)) (bE:Binds K DJ zLe []) (mE:Meth K CT "is_empty" fE):ax P w K mg base aB 2 f fd zLa (Tu t C CT):=by
 refine F.ok TK (λvs H Q E h=>?_) λaL A _ s H vs Q E hr h=>?_
 ·refine lK h λm A S c k p aa _=>?_;subst aa;rfl
 ·refine nZ h λm A S c k p aa M hk hp aH=>?_;subst aa;refine iB aH λhl hle hg q=>?_;refine let R1:TS:=_;let R2:TS:=_;⟨_,aD (b9 (gF (gm (pv 0) cM.cl mA GA hr bA .nil aR (ae (pv 1) ag))) (aE (a8 nD)) cD) (pR R2 (aD (bJ (i:=2) TK.nd rfl (aP rfl) (az bh (az bh (bu (pv 0) rfl) (pv 1)) (az aS (bu (pv 0) rfl) (pv 1)))) (pR R1 (aE (a8 (aiE (ip (az aS (bu (pv 0) rfl) (pv 1)) cT.cl mE GE hr bE .nil aR) (wC (E3 (adG (k:=1) (CX:=aB) (E:=E0) (P:=P) (w:=w) (K:=K) (mg:=mg) (base:=base) (pv 2) hr aR))))))))),?_⟩
  refine aW (id M.obj) λdx fs hm G=>af (M.wY hk) λx hx T=>gc (id T.obj) λsH qq ea e1 e2 e3 em el=>BX (M.part hp) λvs b us h1 h2 h3 h4=>vM rfl hm (G.ms _ dk) (vr rfl (⟨m,A,S,c,k,p,rfl,M,hk,hp,hl,(tk (bq (λhe=>?_) λhe=>?_))⟩))
  ·have e:qP k p=false:=by unfold qP;rw[Qb li]
   have q:=q H (ai.refl H);rw[e]at q;exact q
  have dJ:k.pl<p.length:=li;have hs:p[k.pl]?=a_ p[k.pl]:=aX dJ;refine af (jU h4 hs) λv hv aa=>eh aa λz a dz aa hz=>?_;subst aa;refine oE (hg _ (uo dJ)) λsz gs=>ak _ rfl (eY m C dx fs (jY _ rfl hm cM.cl cM.steps G.steps (vr rfl (rT (v:=.ref b) (aI.of h1) (cb h2) (vF rfl hm cM.cl cM.places G.places (vr rfl (rL (aj.of M.pl) (dA (f:=λk:Ck=>V.int (k.pl:Nat)) hk) (rT (v:=.ref z) (aI.of h3) (cb hv) (ak _ rfl (eY m C dx fs (jY _ rfl hm cM.cl cM.iU G.iU (vr rfl (rL (v:=.ref x.1) (aj.of M.lt) (Bv hx) (rM ea (em _ dk) (⟨x.1,_,_,_,_,(du _ rfl T λH1 s1=>(tk (bq (λhe=>?_) λhe=>?_)))⟩)))))))))))))))
  ·have e:qP k p=true:=by unfold qP;rw[hs];show (decide (k.es=[])||_)=c_;rw[decide_eq_true he];rfl
   have q:=q H1 s1;rw[e]at q;exact q
  ·have e:qP k p=!qJ p[k.pl]:=by unfold qP;rw[hs];show (decide (k.es=[])||_)=_;rw[decide_eq_false he];rfl
   have q:=q H1 s1;rw[e]at q;have no:=yn "empties" dk (.ref a) p[k.pl].1 (p[k.pl].2.map λ(n:Nat)=>V.int (n:Int));exact lG (ahy (P:=P) (w:=w) (base:=base) (mg:=mg) O gs (s1 _ _ hz)) λC1 f1 fd1 pn sp hc cl me G1 bi q1=>ak _ rfl (⟨z,C1,dz,_,f1,fd1,pn,sp,rfl,hc,no,cl,me,G1,⟨bi,(q1 _ _ ⟨_,rfl,q⟩)⟩⟩)
def JE(t:a9)(C CT PT:e_):Sp:=λvs H Q _=>∃m A S,vs=[.ref m]/\aY t C CT H m A S/\S.ck.length<=4/\cq PT LP LQ H/\∀H' l vs,aF eN H H'->cq PT LP LQ H'->H l=b_->H' l=a_ (.lst vs)->Paired (jv H') vs (nk S)->Q (.ref l) H'
theorem Ek:ba ["self","found","clerk","tray"] zLe (aT Kb):=bg
theorem aiS:(["clerk","name"]:List Str).Nodup:=dk
theorem ab5{f fF PT:e_}(F:aV K "carries" "Machine.carries" Kb f fd)(cM:fb K C)(cT:oC K CT)(ue:mg "enumerate" = b_)
  (GF:ax P w K mg base aB 2 fF xX zLe (JY CT PT)) (bF:Binds K xX zLe []) (mF:Meth K CT "fronts" fF):ax P w K mg base aB 3 f fd zLe (JE t C CT PT):=by
 refine F.ok Ek (λvs H Q E h=>?_) λaL A _ s H vs Q E hr h=>?_
 ·refine eh h λm A S aa _=>?_;clear h;subst aa;rfl
 ·obtain⟨m,A,S,aa,M,h4,hL,q⟩:=h;subst aa
  refine let R1:TS:=_;let R2:TS:=_;⟨_,aD (bJ (i:=1) Ek.nd rfl (aP rfl) (dN ag)) (pR R2 (aD (pB mf rfl (BW (b:=c_) rfl ue (ae (bu (pv 0) rfl) ag)) (sZ rfl (jW (de (i:=2) Ek.nd rfl (Or.inr rfl)) (jW (de (i:=3) Ek.nd rfl (aP rfl)) sW))) (pR R1 (aE (dg (jZ PySem.F.plainAttrs_list PySem.F.slot_list_extend PySem.F.type_list_extend RP (pv 1) (ae (jX (N:=["clerk","name"]) (idx:=[2]) rfl (eT.of (by kernel_rfl)) (jV (aN _))
     (rQ (ip (pv 3) cT.cl mF GF hr bF .nil aR)) (λ_ _ _ _=>de (i:=1) aiS rfl (aP rfl) (.inr rfl)) (λ_ _ _ _=>jK) λ_ _ _ _=>gu (ae cZ (ae (pv 0) (ae (pv 1) ag)))) ag))))))
   (aE (a8 (pv 1))))),?_⟩
  refine aW (id M.obj) λdx fs hm G=>⟨qc,λlw nw=>?_⟩;have s0:ai H (upd H lw (.lst [])):=aM (ai.refl _) nw;have hlen:=Paired.length M.ts;have hlm:(A.ts.map λx=>V.ref x.1).length=A.ts.length:=aO _;refine vF rfl (s0 _ _ hm) cM.cl cM.iU G.iU ⟨A.lt,⟨_,rfl,aj.of (s0 _ _ M.lt),?_⟩⟩
  let W1:IV:=λi σ H'=>i<=A.ts.length/\∃c y vs,σ=[a_ (.ref m),a_ (.ref lw),c,y]/\aF eN H H'/\cq PT LP LQ H'/\H' lw=a_ (.lst vs)/\Paired (jv H') vs (xj S.kd (S.ck.zipIdx.take i))
  refine Fd (n:=A.ts.length) W1 ⟨cy _,b_,b_,[],rfl,aF.of s0,gj hL s0,aA,.nil⟩ ?_ ?_ ?_ ?_
  ·rintro i σ H' hi ⟨_,_,_,_,_,kp,_,_,_⟩;exact eG _ (V.ref A.ts[i].1) (aj.of (kp.iC M.lt)) (by rw[f9,aX hi];rfl)
  ·rintro σ H' ⟨_,_,_,_,_,kp,_,_,_⟩;exact ak _ (aj.of (kp.iC M.lt)) (by rw[hlm];exact aN _)
  ·rintro i σ H1 hi ⟨_,c,y,vs,rfl,kp,ko,hw,nN⟩ z H2 ⟨r,x,dD,ez,eH,lB⟩;subst ez;subst eH;have vw:=lB _ (aj.of (kp.iC M.lt));rw[f9,aX hi]at vw;cases vw;have s2:ai H1 (upd H1 r (.tup [.int i,.ref A.ts[i].1])):=aM (ai.refl _) dD;have AR:=s2 _ _ hw;have W5:=Paired.cw nN λ_ _ q=>jv.keep (λb xs e=>s2 _ _ e) q;have nW:=gj ko s2;have Y9:upd H1 r (.tup [.int i,.ref A.ts[i].1]) r=a_ (.tup [.int i,.ref A.ts[i].1]):=aA;generalize upd H1 r (.tup [.int i,.ref A.ts[i].1])=H2 at s2 AR W5 nW Y9 ⊢;have t9:=kp.trans (aF.of s2);have M2:=M.eP t9;have y7:=wf;refine af (M2.wY (aX y7)) λx' Y5 T=>?_;rw[aX hi]at Y5;cases Y5;refine gc (id T.obj) λsH qq ea e1 e2 e3 em el=>⟨r,⟨_,rfl,aI.of Y9,rfl,.int i,[.ref A.ts[i].1],rfl,.ref A.ts[i].1,[],rfl,rfl,vr rfl ⟨.inl ⟨rfl,_,aj.of AR⟩,⟨_,rfl,_,sH,qq,rfl,ea,em _ dk,_,_,_,_,_,_,rfl,T,nW,λH3 lf k3 vD nf hf=>?_⟩⟩⟩⟩;have xP:aF eN H2 H3:=aF.Oe k3 λb hb=>nomatch hb;refine du lf rfl ⟨_,aj.of hf⟩ ?_;have hfl:=Rc S.kd S.ck[i].es;refine jn (n:=(jB S.kd S.ck[i].es).length) (λj ys H4=>j<=(jB S.kd S.ck[i].es).length/\ai H3 H4/\Paired (jv H4) ys (((jB S.kd S.ck[i].es).take j).map λn=>(("carry" : Str),[(i:Int),n]))) (dw (dZ w4)) (eM (cy _) (ai.refl _) .nil) ?_ ?_ ?_ ?_ ?_
   ·rintro j ys H4 ⟨_,_,e⟩;rw[Paired.length e,aO,i8];exact xl
   ·rintro j ys H4 hj ⟨_,s4,_⟩;exact eG _ (V.int (jB S.kd S.ck[i].es)[j]) (aj.of (s4 _ _ hf)) (by rw[f9,aX hj];rfl)
   ·rintro ys H4 ⟨_,s4,_⟩;exact ak _ (aj.of (s4 _ _ hf)) (by rw[aO];exact aN _)
   ·rintro j ys H4 hj ⟨_,s4,e⟩ v H5 ⟨eH,Ds⟩;subst eH;have hv:=Ds _ (aj.of (s4 _ _ hf));rw[f9,aX hj]at hv;cases hv;refine ak _ rfl (vr rfl ⟨(sl (n:=3)),(λtp ht=>⟨hj,aM s4 ht,?_⟩)⟩);rw[qw,aX hj,gg];exact qz (Paired.cw e λ_ _ q=>q.keep λb xs e=>aM (ai.refl _) ht _ _ e) (ak tp rfl aA)
   ·rintro ys H4 ⟨_,s4,e⟩;rw[lE (aN _)]at e;refine⟨by rw[Paired.length e,aO];exact dw (dZ li),λrl ff=>?_⟩;have s5:=aM (o:=.lst ys) s4 ff;have Dp:=s5 _ _ (xP.iC AR);have cl:=Kt S.kd (S.ck.zipIdx.take i);rw[i8]at cl;have HK:=Paired.length nN;refine⟨lw,rl,vs,ys,rfl,rfl,Dp,aA,?_,hi,(xB _ _ (gG _ rfl ?_ ?_ aA ?_))⟩
    ·rw[HK,Paired.length e,aO];exact dw (dZ li)
    ·have kk:=xP.trans (aF.of s5);refine⟨λb o nb nt eb=>?_,λb eb=>(t9.trans kk).t b ?_⟩
     ·have:b≠lw:=bw eb nw;rw[au this];exact(t9.trans kk).k b o nb nt eb
     ·by_cases z:b=lw
      ·rw[z,aA]at eb;cases eb
      ·rwa[au z]at eb
    ·exact Ud Dp (gj vD s5)
    ·have et:S.ck.zipIdx.take (i+1)=S.ck.zipIdx.take i++[(S.ck[i],i)]:=by
      rw[qw,List.getElem?_zipIdx,aX y7];simp
     rw[et];unfold xj;rw[DS,Qp,aaY,yb];have YO:∀b xs,upd H4 rl (.lst ys) b=a_ (.tup xs)->upd (upd H4 rl (.lst ys)) lw (.lst (vs++ys)) b=a_ (.tup xs):=λb xs e=>by rw[au (hY e Dp (by intro z;cases z))];exact e
     exact Jm (Paired.cw e λ_ _ q=>q.keep λb xs e=>YO b xs (aM (ai.refl _) ff _ _ e)) (Paired.cw W5 λ_ _ q=>(q.keep xP.lQ).keep λb xs e=>YO b xs (s5 _ _ e))
  ·rintro σ H1 ⟨_,c,y,vs,rfl,kp,ko,hw,nN⟩;rw[lE (by rw[aaF];lia)]at nN;exact vr rfl (q H1 lw vs kp ko nw hw nN)
end
theorem Ag{P:l_}{w:k_}{K:W.Frag}{mg:Str->Option f_}{base:j_}{k:Nat}{sp:Sp}(F:ax P w K mg base (jh P w) k f fd ps sp):ax P w K mg base aB k f fd ps (λvs H Q _=>sp vs H Q λ_ _ _=>False):=
 ⟨λvs H Q E h=>F.len vs H Q _ h,λA outer s H args us vs Q E hr e0 hb hv hs=>zG (F.run A outer s H args us vs Q (λ_ _ _=>False) hr e0 hb hv hs) λr s' h=>by
  cases r with
  | error e=>
   exact lG h λea c dd T H' _ _ _ _ _ aa=>iO aa λ_ _ _ _ _ q=>q.elim
  | ok fl=>cases fl <;> exact h⟩
def KL(H H':Hp):Prop:=∀b o,(∀xs,o≠.lst xs)->H b=a_ o->H' b=a_ o
theorem KL.trans(a:KL H H1)(b:KL H1 H2):KL H H2:=λc o n e=>b c o n (a c o n e)
theorem KL.of(s:ai H H'):KL H H':=λb o _ e=>s b o e
theorem KL.upd{o:HO}(hx:H x=a_ (.lst xs)):KL H (upd H x o):=λb q n e=>by
 rw[au λz=>?_]
 ·exact e
 ·rw[z,hx]at e;cases e;exact n _ rfl
theorem KL.lam(k:KL H H'){PT:e_}(h:cq PT pos q H):cq PT pos q H':=by
 refine af h λps hP hc=>ak ps (k _ _ (λxs z=>by cases z) hP) ?_;rcases hc with e | ⟨c,e,hc⟩
 ·exact .inl e
 ·exact .inr (ak c e (k _ _ (λxs z=>by unfold AK at z;cases z) hc))
theorem KL.tup(k:KL H H'):∀b xs,H b=a_ (.tup xs)->H' b=a_ (.tup xs):=λb xs e=>k b _ (λys z=>by cases z) e
def kJ(S:Mc)(n:Nat)(num d:Int):Mc:={ S with bd:=S.bd.set n num,ov:=S.ov.set n (S.ov.getD n []++[d]) }
def jo(S:Mc)(c n:Nat):Mc:=match S.ck[c]? with
 | none=>S
 | some k=>match (cu k.es n).head? with
  | none=>S
  | some e=>kJ { S with ck:=S.ck.set c { k with es:=lp k.es n } } n e.num e.d
def Cd(S:Mc)(n:Nat):List V:=[.int (n:Nat),.int (S.bd.getD n 0),oV (S.ov.getD n []).getLast?]
theorem nv{α:Type}{l:List α}{n:Nat}{x d:α}(h:l[n]?=a_ x):l.getD n d=x:=by rw[nh,h];rfl
section
variable{t:a9}{C CT:e_}{u:qf}
def Lq(t:a9)(C CT:e_):Sp:=λvs H Q _=>∃m A S st n num d lab,vs=[.ref m,.ref st]/\aY t C CT H m A S/\lu lab m A/\H st=a_ (.tup [.int (n:Nat),.int num,.int d])/\n<12/\S.bd.length=12/\S.ov.length=12/\(∀o∈S.ov,o.length<=16000)/\
 ∀H',aY t C CT H' m A (kJ S n num d)->aF (bz m A) H H'->KL H H'->Q .aJ H'
theorem U1:ba ["self","setting","name"] zLC (aT MC):=bg
theorem pD{n j:Nat}(h:j<n):sf n (j:Int)=a_ j:=by
 unfold sf
 first | (rw[if_pos om];simp;done) | (simp;exact w0)
theorem afH(F:aV K "come" "Machine.come" MC f fd)(cM:fb K C):ax P w K mg base aB 1 f fd zLC (Lq t C CT):=by
 refine F.ok U1 (λvs H Q E h=>?_) λaL A _ s H vs Q E hr h=>?_
 ·refine kY h λm A S st n aa=>eh aa λnum d lab aa _=>?_;subst aa;rfl
 ·obtain⟨m,A,S,st,n,num,d,lab,aa,M,aH⟩:=h;subst aa;refine iO aH λL dn hn hb ho aa=>oA aa λjH q=>?_;refine let R1:TS:=_;let R2:TS:=_;⟨_,aD (bJ (i:=2) U1.nd rfl (aP rfl) (az bh (pv 1) aq)) (pR R2 (aD (mm (az bh (pv 1) aq) (ow (bu (pv 0) rfl) (pv 2) set_list)) (pR R1 (aE (dg (jZ PySem.F.plainAttrs_list PySem.F.slot_list_append PySem.F.type_list_append ni (az aS (bu (pv 0) rfl) (pv 2)) (ae (az bh (pv 1) aq) ag))))))),?_⟩
  refine aW (id M.obj) λdx fs hm G=>dm (j:=0) rfl dn rfl (dm (j:=1) rfl dn rfl (vF rfl hm cM.cl cM.cells G.cells (vr rfl (ml A.ce _ _ n rfl rfl M.ce (pD (by rw[aO,hb];exact hn)) ?_))));have M1:=aio M L n num;have k1:aF (bz m A) H (upd H A.ce (.lst ((S.bd.map V.int).set n (.int num)))):=aF.upd .ce;have l1:KL H (upd H A.ce (.lst ((S.bd.map V.int).set n (.int num)))):=KL.upd M.ce;generalize upd H A.ce (.lst ((S.bd.map V.int).set n (.int num)))=H1 at M1 k1 l1 ⊢;refine aW (id M1.obj) λph uf ma G1=>?_;have iH:S.ov[n]?=a_ (S.ov[n]'wg):=aX wg;refine af (M1.over iH) λa ha nU=>ak _ rfl (eY m C ph uf (jY _ rfl ma cM.cl cM.oB G1.oB (vr rfl (rL (v:=.ref a) (aj.of M1.cm) (dA ha) ⟨.inl ⟨rfl,_,aj.of nU⟩,(dm (j:=2) rfl ((l1.tup _ _ dn)) rfl ?_)⟩))));have OW:=jH _ (bo iH);refine xB a _ (gG _ rfl rfl nU (by rw[aO,jl];exact wb) ?_);have M2:=aim M1 L iH ha d;refine q _ ?_ (k1.trans (aF.upd (.cs (bo ha)))) (l1.trans (KL.upd nU));unfold kJ;rw[nv iH];exact M2
def JD(t:a9)(C CT:e_):Sp:=λvs H Q _=>∃m A S n,vs=[.ref m,.int (n:Nat)]/\aY t C CT H m A S/\n<12/\S.bd.length=12/\S.ov.length=12/\∀tp,H tp=b_->Q (.ref tp) (upd H tp (.tup (Cd S n)))
theorem RG:ba ["self","name","comers"] zLj (aT J9):=bg
theorem ab3(F:aV K "on_board" "Machine.on_board" J9 f fd)(cM:fb K C)(dE:mg "len" = b_):ax P w K mg base aB 1 f fd zLj (JD t C CT):=by
 refine F.ok RG (λvs H Q E h=>?_) λaL A _ s H vs Q E hr h=>?_
 ·refine oz h λm A S n aa _=>?_;clear h;subst aa;rfl
 ·obtain⟨m,A,S,n,aa,M,hn,hb,ho,q⟩:=h;subst aa;refine let R1:TS:=_;⟨_,aD (bJ (i:=2) RG.nd rfl (aP rfl) (az aS (bu (pv 0) rfl) (pv 1))) (pR R1 (aE (a8 (gu (ae (pv 1) (ae (az aS (bu (pv 0) rfl) (pv 1)) (ae (Kg (br dO (cg fg rfl dE PySem.boot_len (ae (pv 2) ag)) aq (bf _)) lM (az aS (pv 2) (Ci B3 aq))) ag))))))),?_⟩
  refine aW (id M.obj) λdx fs hm G=>?_;have iH:S.ov[n]?=a_ (S.ov[n]'wg):=aX wg;have Dv:S.bd[n]?=a_ (S.bd[n]'wg):=aX wg;refine af (M.over iH) λa ha nU=>?_
  have q':∀v,oV (S.ov[n]'wg).getLast?=v->∀tp,H tp=b_->Q (.ref tp) (upd H tp (.tup [.int (n:Nat),.int (S.bd[n]'wg),v])):=λv hv tp ht=>by
   have q:=q tp ht;unfold Cd at q;rw[nv iH,nv Dv,hv]at q;exact q
  generalize S.ov[n]'wg=o at iH nU q';refine vF rfl hm cM.cl cM.oB G.oB (vr rfl (rL (v:=.ref a) (aj.of M.cm) (dA ha) (ak _ rfl (vF rfl hm cM.cl cM.cells G.cells (vr rfl (rL (aj.of M.ce) (dA Dv) (vr rfl ⟨a,⟨_,rfl,.inl (aj.of nU),rfl,_,rfl,bq (λz=>?_) λz=>?_⟩⟩)))))))
  ·have e0:o=[]:=by
    have z':=z;injection z' with z'
    rw[aO]at z';exact vH.mp om
   subst e0;exact⟨(sl (n:=3)),q' .aJ rfl⟩
  ·have lC:o≠[]:=λe=>z (by rw[e];rfl);obtain⟨o',d,rfl⟩:∃o' d,o=o'++[d]:=⟨o.dropLast,o.getLast lC,(List.dropLast_concat_getLast lC).symm⟩;refine vr rfl (ak _ rfl (rL (v:=.int d) (aj.of nU) (by rw[gg];exact BP _ _) ⟨(sl (n:=3)),(q' (.int d) ?_)⟩));rw[List.getLast?_append];rfl
end
theorem lY.bounds{S:Mc}(w:lY S){c:Nat}{k:Ck}(h:S.ck[c]?=a_ k):k.es.length<=15000:=cC (w.es k (bo h)) w.ac
def vp(S:Mc):Prop:=∀o∈S.ov,o.length<=16000
theorem abU{es:List Ent}{n:Nat}{e:Ent}(h:(cu es n).head?=a_ e):e.n=(n:Int):=by
 have hm:=List.mem_of_mem_head? h;unfold cu at hm;have:=(rG.mp hm).2;simpa using this
def fk(S:Mc)(a:Act):Mc:={ S with ac:=S.ac++[a] }
def tL(S:Mc)(c n:Nat)(k:Ck)(g:Int):Mc:={ S with ck:=S.ck.set c { k with tn:=k.tn+1,es:=k.es++[⟨k.tn,n,g,S.ac.length⟩] } }
def setM(S:Mc)(c n r:Nat):Mc:=match S.ck[c]? with
 | none=>S
 | some k=>
  let g:=k.rg.getD r 0
  let S':=fk (tL S c n k g) ⟨"set",c,n,b_,a_ g,b_⟩
  if S.kd = "none" then jo S' c n else S'
def eZ(S:Mc)(c r:Nat)(v:Int):Mc:=match S.ck[c]? with
 | none=>S
 | some k=>{ S with ck:=S.ck.set c { k with rg:=k.rg.set r v } }
def cF(S:Mc)(k:Ck)(n:Nat):Int×Option Int:=match we k.es n with
 | some e=>(e.num,a_ e.d)
 | none=>(S.bd.getD n 0,(S.ov.getD n []).getLast?)
def mz(S:Mc)(c r n:Nat):Mc:=match S.ck[c]? with
 | none=>S
 | some k=>eZ (fk S ⟨"look",c,n,a_ (cF S k n).1,b_,(cF S k n).2⟩) c r (cF S k n).1
def nC(S:Mc)(c r n:Nat):Mc:=match S.ck[c]? with
 | none=>S
 | some k=>
  let g:=k.rg.getD r 0
  eZ (fk (kJ S n g S.ac.length) ⟨"swap",c,n,a_ (S.bd.getD n 0),a_ g,(S.ov.getD n []).getLast?⟩) c r (S.bd.getD n 0)
section
variable{t:a9}{C CT:e_}{u:qf}
def KA(t:a9)(C CT PT:e_):Sp:=λvs H Q _=>∃m A S c k n lab,vs=[.ref m,.int (c:Nat),.int (n:Nat)]/\aY t C CT H m A S/\lu lab m A/\cq PT LP LQ H/\S.ck[c]?=a_ k/\(n:Int)∈jB S.kd k.es/\n<12/\S.bd.length=12/\S.ov.length=12/\vp S/\
 ∀H',aY t C CT H' m A (jo S c n)->aF (bz m A) H H'->cq PT LP LQ H'->Q .aJ H'
theorem ae6:ba zLv zLv (aT LD):=bg
theorem adX{f fT fC PT jr:e_}{fd ug jT:iJ}(F:aV K "carry" "Machine.carry" LD f fd)(cM:fb K C)(cT:oC K CT)
  (GT:ax P w K mg base (jh P w) 3 fT ug zLj (UI CT PT jr)) (bT:Binds K ug zLj []) (mT:Meth K CT "take" fT)
  (GC:ax P w K mg base aB 1 fC jT zLC (Lq t C CT)) (bC:Binds K jT zLC []) (mC:Meth K C "come" fC):ax P w K mg base aB 4 f fd zLv (KA t C CT PT):=by
 have PV:=Ag GT;refine F.ok ae6 (λvs H Q E h=>?_) λaL A _ s H vs Q E hr h=>?_
 ·obtain⟨m,A,S,c,k,n,lab,aa,_⟩:=h;subst aa;rfl
 ·obtain⟨m,A,S,c,k,n,lab,aa,M,L,aH⟩:=h;subst aa;refine iO aH λhL hk hf hn hb aa=>bp aa λho jH q=>?_;have cX:=hr.mono (show 1<=3 by decide);refine lS (aE (dg (gm (pv 0) cM.cl mC GC cX bC .nil aR (ae (gm (az aS (bu (pv 0) rfl) (pv 1)) cT.cl mT PV hr bT .nil aR (ae (pv 2) ag)) ag)))) (aW (id M.obj) λdx fs hm G=>af (M.wY hk) λx hx T=>gc (id T.obj) λsH qq ea e1 e2 e3 em el=>vM rfl hm (G.ms _ dk) (vF rfl hm cM.cl cM.iU G.iU (vr rfl (rL (v:=.ref x.1) (aj.of M.lt) (Bv hx) (rM ea (em _ dk) (vr rfl (⟨x.1,n,_,_,_,_,(gG _ rfl T hL (λ_ H1 e st he T1 k1 ko dn=>?_) λz=>absurd hf z)⟩)))))));rw[jJ]at he;have en:=abU he;rw[en]at dn;have M1:=VA M L hk hx k1 T1;refine⟨m,A,_,st,n,e.num,e.d,lab,rfl,M1,L,dn,hn,hb,(eM ho jH λH2 M2 k2 l2=>q H2 ?_ ((aF.Oe k1 λb hb=>.ts (bo hx) hb).trans k2) (l2.lam ko))⟩;unfold jo;rw[hk];dsimp only;rw[he];exact M2
theorem af'(a:e_)(n r:Nat):iw (.ref a) "set" ([n,r].map λ(n:Nat)=>V.int (n:Int))=aU "reg" (.int (r:Nat)) (aU "name" (.int (n:Nat)) (aU "parts" (.ref a) [])):=by kernel_rfl
theorem ack{es:List Ent}{n:Nat}{e:Ent}(hn:n<12)(he:e.n=(n:Int)):(n:Int)∈nB (es++[e]):=by
 refine BC.mpr (du n hn rfl λz=>?_);rw[K',if_pos he]at z;simp at z
def TB(t:a9)(C CT PT:e_):Sp:=λvs H Q _=>∃m A S c k z dz a n r lab,vs=[.ref m,.int (c:Nat),.ref z]/\aY t C CT H m A S/\lu lab m A/\lY S/\vp S/\cq PT LP LQ H/\S.ck[c]?=a_ k/\H z=a_ (.ins t.mI dz (iw (.ref a) "set" ([n,r].map λ(n:Nat)=>V.int (n:Int))))/\n<12/\r<4/\
 ∀H',aY t C CT H' m A (setM S c n r)->aF (bz m A) H H'->cq PT LP LQ H'->Q .aJ H'
theorem TM:ba ["self","clerk","step","gave"] zLh (aT LA):=bg
theorem adU{f fA fC PT:e_}{fd uh jT:iJ}(F:aV K "do_set" "Machine.do_set" LA f fd)(cM:fb K C)(cT:oC K CT)(dE:mg "len" = b_)(ST:tm K mg t)
  (GA:ax P w K mg base aB 1 fA uh zLt (VO CT)) (bA:Binds K uh zLt []) (mA:Meth K CT "add" fA)
  (GC:ax P w K mg base aB 4 fC jT zLv (KA t C CT PT)) (bC:Binds K jT zLv []) (mC:Meth K C "carry" fC):ax P w K mg base aB 5 f fd zLh (TB t C CT PT):=by
 refine F.ok TM (λvs H Q E h=>?_) λaL A _ s H vs Q E hr h=>?_
 ·refine lF h λm A S c k z dz a n r aa=>af aa λlab aa _=>?_;subst aa;rfl
 ·refine lF h λm A S c k z dz a n r aa=>nA aa λlab aa M L W aH=>?_;subst aa;refine iO aH λjH hL hk hz hn aa=>oA aa λnQ q=>?_;have cX:=hr.mono (show 1<=4 by decide);refine let R1:TS:=_;let R2:TS:=_;let R3:TS:=_;let R4:TS:=_;⟨_,aD (bJ (i:=3) TM.nd rfl (aP rfl) (az aS (az aS (bu (pv 0) rfl) (pv 1)) (bu (pv 2) rfl))) (pR R4 (aD (dg (gm (az aS (bu (pv 0) rfl) (pv 1)) cT.cl mA GA cX bA .nil aR (ae (bu (pv 2) rfl) (ae (pv 3) (ae (cg fg rfl dE PySem.boot_len (ae (bu (pv 0) rfl) ag)) ag))))) (pR R3 (aD (dg (jZ PySem.F.plainAttrs_list PySem.F.slot_list_append PySem.F.type_list_append ni (bu (pv 0) rfl) (ae (gu (ae cZ (ae (pv 1) (ae (bu (pv 2) rfl) (ae lM (ae (pv 3) (ae lM ag))))))) ag))) (pR R2 (aE (b9 (br dO (bu (pv 0) rfl) cZ (bf _)) (pR R1 (aE (dg (gm (pv 0) cM.cl mC GC hr bC .nil aR (ae (pv 1) (ae (bu (pv 2) rfl) ag)))))) cD))))))),?_⟩
  rw[af']at hz;refine aW (id M.obj) λdx fs hm G=>af (M.fw hk) λra jS ff=>af (M.wY hk) λx hx T=>gc (id T.obj) λsH qq ea e1 e2 e3 em el=>af M.ac λws gY ig=>?_;have kj:=Paired.length ig;have Gk:=W.ac;have alN:=W.bounds hk;have dQ:=W.rg k (bo hk)
  have OG:∀(nm:Str),(aU "reg" (.int (r:Nat)) (aU "name" (.int (n:Nat)) (aU "parts" (.ref a) []))).lookup nm=if nm = "reg" then a_ (.int (r:Nat)) else if nm = "name" then a_ (.int (n:Nat)) else if nm = "parts" then a_ (.ref a) else none:=λnm=>by
   rw[gQ,gQ,gQ];rfl
  have lr:(aU "reg" (.int (r:Nat)) (aU "name" (.int (n:Nat)) (aU "parts" (.ref a) []))).lookup ("reg" : Str)=a_ (V.int (r:Nat)):=by rw[OG,if_pos rfl]
  have ln:(aU "reg" (.int (r:Nat)) (aU "name" (.int (n:Nat)) (aU "parts" (.ref a) []))).lookup ("name" : Str)=a_ (V.int (n:Nat)):=by rw[OG,if_neg dk,if_pos rfl]
  have hg:k.rg[r]?=a_ (k.rg[r]'wg):=aX wg;have eg:k.rg.getD r 0=k.rg[r]'wg:=nv hg;refine vF rfl hm cM.cl cM.fw G.fw (vr rfl (rL (v:=.ref ra) (aj.of M.rg) (dA jS) (vF rfl hz ST.uX ST.VZ lr (rL (aj.of ff) (dA hg) ?_))));generalize hgv:k.rg[r]'wg=g at eg;refine ak _ rfl (eY m C dx fs (jY _ rfl hm cM.cl cM.iU G.iU (vr rfl (rL (v:=.ref x.1) (aj.of M.lt) (Bv hx) (rM ea (em _ dk) (vF rfl hz ST.uX ST.Fy ln (vr rfl (vF rfl hm cM.cl cM.dB G.dB (dS A.ac ws rfl (.inl (aj.of gY)) (⟨x.1,n,g,_,_,_,_,_,(jY _ rfl T li li w4 λH1 T1 k1=>?_)⟩))))))))));have kf:=iA.ofA k1 T1;have M1:=VA M L hk hx kf T1;have ew:((ws.length:Nat):Int)=((S.ac.length:Nat):Int):=by rw[kj]
  rw[ew]at M1 T1
  have dG:H1 z=a_ (.ins t.mI dz (aU "reg" (.int (r:Nat)) (aU "name" (.int (n:Nat)) (aU "parts" (.ref a) [])))):=k1 _ _ (λzb=>by
   rcases cV.mp zb with y | y
   ·rw[y,ea]at hz;cases hz;rw[OG,if_neg dk,if_neg dk,if_neg dk]at e1;cases e1
   ·rcases T.kinds z zb _ hz with ⟨_,_,_,_⟩ | ⟨_,y2⟩
    ·rcases cV.mp y with y | y
     ·rw[y,T.qs]at hz;cases hz
     ·refine oE (vK y) λi zq=>oE zq λhi ez=>?_;obtain⟨oY,e',_⟩:=T.lx i z (by rw[<-ez];exact aX hi);rw[e']at hz;cases hz
    ·cases y2) hz
  have ko:=Bx hL k1 T.kinds;have kp1:aF (bz m A) H H1:=aF.Oe kf λb hb=>.ts (bo hx) hb;refine aW (id M1.obj) λph uf ma G1=>af M1.ac λnJ Gm Gd=>ak _ rfl (eY m C ph uf (⟨_,rfl,ma,cM.cl,cM.dB,G1.dB,(.inl ⟨rfl,_,aj.of Gm⟩),(ak _ rfl (vF rfl dG ST.uX ST.Fy ln (vr rfl ⟨(sl (n:=6)),(λtp ht=>?_)⟩)))⟩));have s2:=aM (o:=.tup [.str "set",.int (c:Nat),.int (n:Nat),.aJ,.int g,.aJ]) (ai.refl H1) ht;have ale:=Paired.length Gd;refine jb A.ac nJ (.ref tp) rfl rfl (s2 _ _ Gm) (by rw[ale,jl];show S.ac.length<_;exact wb) ?_;have M2:=Mh (M1.same s2) L (s2 _ _ Gm) (x:=.ref tp) (a:=⟨"set",c,n,b_,a_ g,b_⟩) ⟨tp,rfl,aA⟩;have t9:aF (bz m A) H (upd (upd H1 tp (.tup [.str "set",.int (c:Nat),.int (n:Nat),.aJ,.int g,.aJ])) A.ac (.lst (nJ++[.ref tp]))):=kp1.trans ((aF.of s2).trans (aF.upd .ac));have l2:KL H1 (upd (upd H1 tp (.tup [.str "set",.int (c:Nat),.int (n:Nat),.aJ,.int g,.aJ])) A.ac (.lst (nJ++[.ref tp]))):=(KL.of s2).trans (KL.upd (s2 _ _ Gm));have nW:=l2.lam ko;have sq:=l2 _ _ (λxs z=>by cases z) dG;generalize upd (upd H1 tp (.tup [.str "set",.int (c:Nat),.int (n:Nat),.aJ,.int g,.aJ])) A.ac (.lst (nJ++[.ref tp]))=H2 at M2 t9 l2 nW sq ⊢;refine aW (id M2.obj) λxY qY nR G3=>?_
  have eS:setM S c n r=if S.kd = "none" then jo (fk (tL S c n k g) ⟨"set",c,n,b_,a_ g,b_⟩) c n else fk (tL S c n k g) ⟨"set",c,n,b_,a_ g,b_⟩:=by
   unfold setM;rw[hk];dsimp only;rw[eg]
  rw[eS]at q;refine ak _ rfl (eY m C xY qY (jY _ rfl nR cM.cl cM.kind G3.kind ⟨rfl,⟨_,rfl,bq (λpe=>?_) λpe=>?_⟩⟩))
  ·have AD:S.kd = "none":=Cy pe;rw[if_pos AD]at q;have rA:c<S.ck.length:=(dX.mp hk).1;refine vM rfl nR (G3.ms _ dk) (vr rfl (vF rfl sq ST.uX ST.Fy ln (⟨m,A,(fk (tL S c n k g) ⟨"set",c,n,b_,a_ g,b_⟩),c,({ k with tn:=k.tn+1,es:=k.es++[⟨k.tn,n,g,S.ac.length⟩] }),n,lab,rfl,M2,L,nW,?_,?_,hn,(lR W.bd W.ov jH λH3 M3 k3 vD=>q H3 M3 (t9.trans k3) vD)⟩)))
   ·show (S.ck.set c _)[c]?=a_ _;rw[jz rA]
   ·show (n:Int)∈jB S.kd (k.es++[⟨k.tn,n,g,S.ac.length⟩]);unfold jB;rw[AD,if_neg dk];exact ack hn rfl
  ·have AD:¬S.kd = "none":=λe=>pe (by rw[e]);rw[if_neg AD]at q;exact q H2 M2 t9 nW
end
theorem lY.four(w:lY S):S.ck.length<=4:=by rw[w.len];exact w.good.le
theorem lY.part(w:lY S){c:Nat}(h:S.ck[c]?=a_ k):∃p,S.ps[c]?=a_ p/\p.length<=120/\k.pl<=p.length/\∀s∈p,dH p.length s:=by
 refine oE (dX.mp h) λhc _=>?_;have hp:S.ps[c]?=a_ (S.ps[c]'(by rw[<-w.len];exact hc)):=aX _;exact oA (w.good.part _ (bo hp)) λg1 g2=>⟨_,hp,g1,(w.pl c k _ h hp),g2⟩
theorem Ub{c:Nat}(h:S.ck[c]?=a_ k)(h':S.ps[c]?=a_ p):xh S c=qP k p:=by unfold xh;rw[h,h']
theorem Tg(S:Mc)(n:Nat):(vf S n).length<=n:=by
 unfold vf;rw[aO];exact cC (Bg _ _) (by rw[rD];exact aN _)
theorem ac'(S:Mc)(n:Nat):vf S (n+1)=vf S n++(if xh S n=c_ then [(("do" : Str),[(n:Int)])] else []):=by
 unfold vf;rw[x9,Ql,gg]
 congr 1
 cases h:xh S n with
 | true=>simp[List.filter,h]
 | false=>simp[List.filter,h]
theorem aiM:(zLa:List Str).Nodup:=dk
section
variable{t:a9}{C CT:e_}{u:qf}
def EL(t:a9)(C CT PT:e_):Sp:=λvs H Q _=>∃m A S,vs=[.ref m]/\aY t C CT H m A S/\lY S/\cq PT LP LQ H/\∀H' l vs,aF eN H H'->cq PT LP LQ H'->H l=b_->H' l=a_ (.lst vs)->Paired (jv H') vs (jL S)->Q (.ref l) H'
theorem adx:ba zLe zLe (aT KR):=bg
theorem acK{f fY fC PT:e_}(F:aV K "moves" "Machine.moves" KR f fd)(cM:fb K C)(dE:mg "len" = b_)(dQ:mg "range" = b_)
  (GY:ax P w K mg base aB 2 fY fdY zLa (Tu t C CT)) (bY:Binds K fdY zLa []) (mY:Meth K C "may_do" fY)
  (GC:ax P w K mg base aB 3 fC jT zLe (JE t C CT PT)) (bC:Binds K jT zLe []) (mC:Meth K C "carries" fC):ax P w K mg base aB 4 f fd zLe (EL t C CT PT):=by
 refine F.ok adx (λvs H Q E h=>?_) λaL A _ s H vs Q E hr h=>?_
 ·refine eh h λm A S aa _=>?_;clear h;subst aa;rfl
 ·obtain⟨m,A,S,aa,M,W,hL,q⟩:=h;subst aa;have ji:=hr.mono (show 2<=3 by decide)
  refine⟨_,aE (a8 (bb wF (jX (N:=["self","clerk"]) (idx:=[0]) rfl (eT.of (by kernel_rfl)) (jV (aN _)) (sU rfl dQ (ae (cg fg rfl dE PySem.boot_len (ae (bu (pv 0) rfl) ag)) ag))
   (λ_ _ _ _=>de (i:=1) aiM rfl (aP rfl) (.inr rfl)) (λ_ _ _ _=>La (gF (gm (pv 0) cM.cl mY GY ji bY .nil aR (ae (pv 1) ag)))) λ_ _ _ _=>gu (ae cZ (ae (pv 1) ag)))
   (ip (pv 0) cM.cl mC GC hr bC .nil aR))),?_⟩
  refine aW (id M.obj) λdx fs hm G=>?_;have hlen:=Paired.length M.ts;have h4:=W.four;refine vF rfl hm cM.cl cM.iU G.iU ⟨A.lt,⟨_,rfl,.inl (aj.of M.lt),_,rfl,by rw[aO];lia,by rw[aO];lia,?_⟩⟩;have en:(((A.ts.map λx=>V.ref x.1).length:Int)).toNat=S.ck.length:=by rw[aO];lia
  rw[en];refine jn (n:=S.ck.length) (λi ys H'=>i<=S.ck.length/\ai H H'/\Paired (jv H') ys (vf S i)) (dw (dZ w4)) (eM (cy _) (ai.refl _) .nil) ?_ ?_ ?_ ?_ ?_
  ·rintro i ys H' ⟨_,_,e⟩;rw[Paired.length e];exact Tg S i
  ·rintro i ys H' hi _;exact hi
  ·rintro ys H' _;exact aN _
  ·rintro i ys H1 hi ⟨_,s1,e⟩ x H2 ⟨eH,ex⟩;subst eH;subst ex;have hk:S.ck[i]?=a_ S.ck[i]:=aX hi;refine cR (W.part hk) λp hp dW vz AW=>vM rfl (s1 _ _ hm) (G.ms _ dk) (vr rfl (⟨m,A,S,i,_,p,?_,(M.same s1),hk,hp,w4,vz,(λs hs=>⟨_,AW s hs⟩),(λH3 s3=>(ak _ rfl ?_))⟩))
   ·show [V.ref m,V.int (0+(i:Int))]=_;rw[Bt]
   rw[ac',Ub hk hp];refine Aw (λhb=>?_) λhb=>?_
   ·refine vr rfl ⟨(sl (n:=2)),(λtp ht=>⟨hi,s1.trans (aM s3 ht),?_⟩)⟩;rw[hb,if_pos rfl];refine qz (Paired.cw e λ_ _ q=>q.keep λb xs e=>aM s3 ht _ _ e) (ak tp rfl ?_);rw[aA];show a_ (HO.tup [.str "do",V.int (0+(i:Int))])=_;rw[Bt];rfl
   ·refine eM hi (s1.trans s3) ?_;rw[hb,if_neg dY,yb];exact Paired.cw e λ_ _ q=>q.keep λb xs e=>s3 _ _ e
  ·rintro ys H1 ⟨_,s1,e⟩;have hd:=Tg S S.ck.length;refine⟨by rw[Paired.length e];exact dw (dZ li),λr dD=>?_⟩;have s2:=aM (o:=.lst ys) s1 dD;refine vM rfl (s2 _ _ hm) (G.ms _ dk) (jb m A S rfl (M.same s2) h4 (gj hL s2) λH3 lc us k3 vD nc hc oZ=>?_);have cl:=Kt S.kd S.ck.zipIdx;rw[aaF]at cl;have OQ:=Paired.length oZ
   have anA:us.length<=48:=by
    rw[OQ];unfold nk;lia
   refine oa r lc ys us rfl rfl (k3.iC aA) hc ?_ λl3 n3=>?_
   ·rw[Paired.length e];exact dw (dZ li)
   have k4:aF eN H (upd H3 l3 (.lst (ys++us))):=((aF.of s2).trans k3).trans (aF.of (aM (ai.refl _) n3));have hn:=((aF.of s2).trans k3).t l3 n3;refine q _ l3 _ k4 (gj vD (aM (ai.refl _) n3)) hn aA ?_;unfold jL;have kt:∀b xs,H3 b=a_ (.tup xs)->upd H3 l3 (.lst (ys++us)) b=a_ (.tup xs):=λb xs e=>aM (ai.refl _) n3 _ _ e;exact Jm (Paired.cw oZ λ_ _ q=>q.keep kt) (Paired.cw e λ_ _ q=>(q.keep λb xs e=>k3.lQ _ _ (aM (ai.refl _) dD _ _ e)).keep kt)
end
theorem aji:eE "put" = a_ [4,jD]:=by kernel_rfl
theorem ajj:eE "add" = a_ [4,4]:=by kernel_rfl
theorem ajh:eE "set" = a_ [12,4]:=by kernel_rfl
theorem ahM:eE "look" = a_ [4,12]:=by kernel_rfl
theorem ahK:eE "swap" = a_ [4,12]:=by kernel_rfl
theorem age:eE "clear" = a_ []:=by kernel_rfl
theorem ahL:eE "skip" = a_ [4,121]:=by kernel_rfl
theorem Ah{a b:Nat}{u v:Int}(e:eE x=a_ [u,v])(h1:(a:Int)<u)(h2:(b:Int)<v):stepOk [.str x,.int a,.int b]=true:=by
 show (match eE x with | none=>d_ | some bs=>decide ([V.int a,V.int b].length=bs.length)&&([V.int a,V.int b].zip bs).all λp=>p8 p.1 p.2)=c_;rw[e];show (decide (2=2)&&((decide (0<=(a:Int))&&decide ((a:Int)<u))&&((decide (0<=(b:Int))&&decide ((b:Int)<v))&&c_)))=c_;rw[decide_eq_true h1,decide_eq_true h2,decide_eq_true (IF a),decide_eq_true (IF b)];rfl
theorem top_lt{m:Nat}(h:m<10^60):(m:Int)<jD:=by
 have e:((10^60:Nat):Int)=jD:=dk;rw[<-e];exact Int.ofNat_lt.mpr h
theorem RY{sz:Nat}(g:dH sz t):stepOk (tv t)=true:=by
 cases g with
 | put r m h1 h2=>exact Ah aji li (top_lt h2)
 | add r m h1 h2=>exact Ah ajj om li
 | set r m h1 h2=>exact Ah ajh li om
 | look r m h1 h2=>exact Ah ahM om li
 | swap r m h1 h2=>exact Ah ahK om om
 | clear=>
  show (match eE "clear" with | none=>d_ | some bs=>decide (([]:List V).length=bs.length)&&(([]:List V).zip bs).all λp=>p8 p.1 p.2)=c_;rw[age];rfl
 | skip r m h1 h2 h3=>exact Ah ahL li li
theorem Ta{sz:Nat}(g:dH sz t):(t.2.map λ(n:Nat)=>V.int (n:Int)).length<=900:=by
 rw[aO];have:=g.len;exact w4
theorem Ui(l:List Nat):∀y∈l.map λ(n:Nat)=>V.int (n:Int),∃T,tyName H y=a_ T:=λy hy=>by
 refine af (pk.mp hy) λn _ aa=>?_;subst aa;exact⟨_,rfl⟩
theorem ac0{sz:Nat}(g:dH sz s)(h:s.1 = "skip"):∃r q:Nat,s=(("skip" : Str),[r,q])/\q<=sz:=by
 cases g with
 | skip r q _ h2 _=>exact⟨r,q,rfl,h2⟩
 | put r n _ _=>exact absurd (show ("put" : Str) = "skip" from h) dk
 | add r n _ _=>exact absurd (show ("add" : Str) = "skip" from h) dk
 | set r n _ _=>exact absurd (show ("set" : Str) = "skip" from h) dk
 | look r n _ _=>exact absurd (show ("look" : Str) = "skip" from h) dk
 | swap r n _ _=>exact absurd (show ("swap" : Str) = "skip" from h) dk
 | clear=>exact absurd (show ("clear" : Str) = "skip" from h) dk
theorem ai1{X:Cx}(K:PySem.W.Frag)(h:X.K=K:=by rfl):oG X (.builtin "isinstance") (Wz K):=by subst h;exact lL
theorem afM:(["part"]:List Str).Nodup:=dk
theorem rK{α β:Type}{F:α->β->Prop}:∀{l:List α} {r:List β} {i:Nat} {x:α},Paired F l r->l[i]?=a_ x->∃y,r[i]?=a_ y/\F x y
 | _,_,_,_,.nil,e=>by simp at e
 | _,_,0,_,.cons h _,e=>by simp at e;subst e;exact⟨_,rfl,h⟩
 | _,_,i+1,x,.cons _ t,e=>by
  exact af (rK (i:=i) t (by simpa using e)) λy h1 h2=>ak y (by simpa using h1) h2
theorem agf(n:Nat):(eD n c_).all id=true:=by
 induction n with
 | zero=>rfl
 | succ n ih=>rw[Bi,zC,ih];rfl
section
variable{t:a9}{u:qf}
def VM:Sp:=λvs H Q _=>∃v ps,vs=[v]/\mw H v ps/\wX ps/\∀H',ai H H'->Q (.bl c_) H'
theorem aiA:ba zLE zLE (aT Nu):=bg
theorem agX(F:aV K "has_clerks" "has_clerks" Nu f fd)(B:Bl mg)(C:∃u,mg "CLERKS" = a_ u/\RelV (.int 4) u):ax P w K mg base aB 1 f fd zLE VM:=by
 refine af C λuC mC rC=>F.ok aiA (λvs H Q E h=>?_) λaL A _ s H vs Q E hr h=>?_
 ·refine aW h λv ps aa _=>?_;clear h;subst aa;rfl
 ·refine kZ h λv ps aa aH g k=>?_;clear h;subst aa;refine cI aH λa xs aa ha hp=>?_;clear aH;subst aa
  refine let R1:TS:=_;⟨_,aD (b9 (PW.pt (pw_or (kQ (gF (cg lL rfl B.lA kr (ae (pv 0) (ae (qH (v:=.ty "tuple") rfl B.tuple vY rfl) ag))))) (pw_or1 (kQ (adC MF MF aq (cg fg rfl B.len PySem.boot_len (ae (pv 0) ag)) (iq rfl mC rC))))))
    zQ cD)
   (pR R1 (aE (a8 (cg (BO rfl) rfl B.all ED (ae (jX (N:=["part"]) (idx:=[]) rfl (eT.of (by kernel_rfl)) (jV (cy _))
    (uJ (pv 0)) (λ_ _ _ _=>de (i:=0) afM rfl (aP rfl) (.inr rfl)) (λ_ _ _ _=>jK)
    λ_ _ _ _=>cg (ai1 K) rfl B.lA kr (ae (pv 0) (ae (qH (v:=.ty "tuple") rfl B.tuple vY rfl) ag))) ag))))),?_⟩
  have hT:=Ed ha;have hi:tH "tuple" "tuple" = true:=qc;have hl:=Paired.length hp;have g1:=g.ne;have g2:=g.le;refine vr rfl (eY _ _ _ _ (gG _ rfl (qU hT) rfl (qR hT qc) (ak _ rfl ?_)));rw[hi];refine fj (vr rfl (dS a xs rfl (.inr (aI.of ha)) ⟨_,⟨_,rfl,rfl,_,rfl,bq (λh1=>?_) λh1=>absurd (show (1:Int)<=(xs.length:Int) by lia) h1⟩⟩));refine⟨_,⟨_,rfl,rfl,_,rfl,wL (λh2=>absurd (show (xs.length:Int)<=4 by lia) h2) λh2=>ak _ rfl (du a rfl ⟨xs,aI.of ha⟩ (jn (n:=xs.length) (λi ys H'=>i<=xs.length/\ai H H'/\ys=(eD i c_).map V.bl) (dw (dZ w8)) (eM (cy _) (ai.refl _) rfl) ?_ ?_ ?_ ?_ ?_))⟩⟩
  ·intro i ys H' av;refine bp av λ_ _ e=>?_;rw[e,aO,IA];exact aN _
  ·intro i ys H' hi av;exact bp av λ_ s1 _=>eG xs (xs[i]) (aI.of (s1 _ _ ha)) (aX hi)
  ·intro ys H' av;exact bp av λ_ s1 _=>ak xs (aI.of (s1 _ _ ha)) (aN _)
  ·intro i ys H' hi2 av x i0 eW;refine bp av λ_ s1 e=>oA eW λeH lB=>?_;subst eH;have vw:=lB xs (aI.of (s1 _ _ ha));refine af (rK hp vw) λp _ aa=>cI aa λb us aa hb _=>?_;subst aa;have Zm:=Ed (s1 _ _ hb);refine vr rfl (eY _ _ _ _ (⟨_,rfl,(qU Zm),rfl,(qR Zm qc),hi2,s1,?_⟩));rw[hi,e,List.replicate_succ',gg];rfl
  ·intro ys H' av;refine bp av λ_ s1 e=>⟨?_,λr dD=>?_⟩
   ·rw[e,aO,IA];exact dw (dZ w8)
   refine dS r (eD xs.length c_) rfl (aj.of (by rw[aA,e])) ?_;rw[agf];exact k _ (aM s1 dD)
def UT:Sp:=λvs H Q _=>∃(v:V) (s:Tl) (p n:Nat),vs=[v,.int (p:Nat),.int (n:Nat)]/\tu H v s/\dH n s/\p<120/\∀H',ai H H'->Q (.bl c_) H'
theorem U0:ba ["told","place","length","step"] zLA (aT Mx):=bg
theorem afC(F:aV K "fits" "fits" Mx f fd)(O:yA K mg t u)(xN:Vt K cN cE)(mX:mg "NoStep" = a_ (.ref cN)):ax P w K mg base aB 5 f fd zLA UT:=by
 have T:=O.st;have GX:ax P w K mg base aB 4 t.fO t.sh ["told"] (JX t):=RJ T;refine af T.cn.long λuL mL rL=>F.ok U0 (λvs H Q E h=>?_) λaL A _ s H vs Q E hr h=>?_
 ·refine oz h λv s p n aa _=>?_;clear h;subst aa;rfl
 ·obtain⟨v,st,p,n,aa,hI,g,hp,k⟩:=h;subst aa;refine let R1:TS:=_;let R2:TS:=_;⟨_,aD (afh rfl rfl rfl mX xN.base (λW pn E hL hp=>aE (bJ (i:=3) U0.nd rfl (aP rfl) (dr GX hr rfl T.mO T.Oh.kp T.bO .nil aR (ae (pv 0) ag)))) λea pn=>zQ) (pR R2 (aD (b9 (PW.pt (pw_and (gF (cg lL rfl T.bl.lA kr (ae (pv 3) (ae (iq (v:=.ref t.lO) rfl T.LO rfl) ag)))) (pw_and1 (br yt (bu (pv 3) rfl) (pv 2) (bf _))))) zQ cD) (pR R1 (aE (a8 (qG rY (pv 1) (iq rfl mL rL) (bf _))))))),?_⟩
  refine af hI λa aa ha=>?_;clear hI;subst aa;have ama:decide ((p:Int)<120)=true:=decide_eq_true li;refine vr rfl (xB a st.1 (gG _ rfl ha (RY g) ⟨Ta g,Ui st.2⟩ λz dx H1 s1 hz dG=>?_));have kk:=k H1 s1;rw[<-ama]at kk;refine af (LW O g dG) λC ty c6=>vr rfl (⟨_,(.ref t.lO),(.ref C),(.ref t.lO),(decide (st.1 = "skip")),rfl,ty,rfl,c6.VU,(tk (bq (λhx=>?_) λhx=>fj (ak _ rfl ⟨_,⟨_,rfl,rfl,kk⟩⟩)))⟩);refine aW (ac0 g hx) λr q aa hq=>?_;subst aa;refine vF (v:=.int (q:Nat)) rfl dG T.wH T.LL rfl (vr rfl ⟨_,⟨_,rfl,rfl,_,rfl,bq (λhq2=>?_) λ_=>⟨_,rfl,_,_,rfl,rfl,kk⟩⟩⟩);exact absurd hq2 (by show ¬((n:Int)<(q:Int));lia)
def UQ:Sp:=λvs H Q _=>∃v ps,vs=[v]/\mw H v ps/\wX ps/\∀H',ai H H'->Q .aJ H'
theorem B5:ba ["program","clerk","part","place","told"] zLE (aT JI):=bg
theorem afz(F:aV K "look_over" "look_over" JI f fd)(B:Bl mg)(ue:mg "enumerate" = b_)
  (GH:ax P w K mg base aB 1 fH PD zLE VM) (kH:PySem.W.keepIn K (.ref fH)=c_) (bH:Binds K PD zLE []) (mH:mg "has_clerks" = a_ (.ref fH))
  (GF:ax P w K mg base aB 5 fF xX zLA UT) (kF:PySem.W.keepIn K (.ref fF)=c_) (bF:Binds K xX zLA []) (mF:mg "fits" = a_ (.ref fF)) :
  ax P w K mg base aB 6 f fd zLE UQ:=by
 refine F.ok B5 (λvs H Q E h=>?_) λaL A _ s H vs Q E hr h=>?_
 ·refine aW h λv ps aa _=>?_;clear h;subst aa;rfl
 ·refine kZ h λv ps aa aH g k=>?_;clear h;subst aa;refine cI aH λa xs aa ha hp=>?_;clear aH;subst aa
  refine let R1:TS:=_;let R2:TS:=_;let R3:TS:=_;⟨_,aD (b9 (kQ (gF (dr GH (hr.mono qc) rfl mH kH bH .nil aR (ae (pv 0) ag)))) zQ cD)
   (pR R3 (aE (pB mf rfl (BW (b:=d_) rfl ue (ae (pv 0) ag)) (sZ rfl (jW (de (i:=1) B5.nd rfl (aP rfl)) (jW (de (i:=2) B5.nd rfl (aP rfl)) sW))) (pR R2 (aE (pB mf rfl (BW (b:=d_) rfl ue (ae (pv 2) ag)) (sZ rfl (jW (de (i:=3) B5.nd rfl (aP rfl)) (jW (de (i:=4) B5.nd rfl (aP rfl)) sW))) (pR R1 (aE (b9 (kQ (gF (dr GF hr rfl mF kF bF .nil aR (ae (pv 4) (ae (pv 3) (ae (cg fg rfl B.len PySem.boot_len (ae (pv 2) ag)) ag)))))) zQ cD))))))))),?_⟩
  refine vr rfl (pU (.ref a) ps rfl ⟨a,xs,rfl,ha,hp⟩ g λH1 s1=>(ak _ rfl (fj ?_)))
  let W1:IV:=λi σ H'=>∃c q p d,σ=[a_ (.ref a),c,q,p,d]/\ai H H'
  refine vr rfl (dS a xs rfl (aI.of (s1 _ _ ha)) (Fd (n:=xs.length) W1 ⟨b_,b_,b_,b_,rfl,s1⟩ ?_ ?_ ?_ ?_))
  ·intro i σ H' hi av;exact oz av λ_ _ _ _ _ s2=>eG xs (xs[i]) (aI.of (s2 _ _ ha)) (aX hi)
  ·intro σ H' av;exact oz av λ_ _ _ _ _ s2=>ak xs (aI.of (s2 _ _ ha)) (aN _)
  ·intro i σ H2 hi av z H3 eW;refine oz av λc q p d aa s2=>?_;clear av;subst aa;refine kZ eW λr x dD ez eH lB=>?_;subst ez;subst eH;have vw:=lB xs (aI.of (s2 _ _ ha));refine af (rK hp vw) λpt AU aa=>cI aa λb us aa xW oZ=>?_;subst aa;refine oA (g.part pt (bo AU)) λg3 g4=>?_;have OQ:=Paired.length oZ;rw[<-OQ]at g3 g4;have s3:ai H (upd H2 r (.tup [.int i,.ref b])):=aM s2 dD;refine pU r ([.int i,.ref b]) rfl (aI.of aA) rfl (eG (.int i) ([.ref b]) rfl (dS (.ref b) ([]) rfl rfl ?_))
   let W2:IV:=λj σ H'=>∃p d,σ=[a_ (.ref a),a_ (.int i),a_ (.ref b),p,d]/\ai H H'
   refine vr rfl (dS b us rfl (aI.of (s3 _ _ xW)) (Fd (n:=us.length) W2 ⟨p,d,rfl,s3⟩ ?_ ?_ ?_ ?_))
   ·intro j σ H' hj av;exact aW av λ_ _ _ s4=>eG _ (us[j]) (aI.of (s4 _ _ xW)) (aX hj)
   ·intro σ H' av;exact aW av λ_ _ _ s4=>ak _ (aI.of (s4 _ _ xW)) (aN _)
   ·intro j σ H4 hj av z' H5 eW;refine aW av λp' d' aa s4=>?_;clear av;subst aa;refine kZ eW λr' y ub ez' PH vv=>?_;subst ez';subst PH;have hyj:=vv _ (aI.of (s4 _ _ xW));refine af (rK oZ hyj) λst dn hI=>?_;have s5:ai H (upd H4 r' (.tup [.int j,y])):=aM s4 ub;exact pU r' ([.int j,y]) rfl (aI.of aA) rfl (eG (.int j) ([y]) rfl (dS y ([]) rfl rfl (ak _ rfl (vr rfl (vr rfl ⟨b,⟨_,rfl,.inr (aI.of (s5 _ _ xW)),y,st,j,us.length,rfl,hI.keep λb xs e=>s5 _ _ e,g4 st (bo dn),wh,λH6 s6=>⟨_,rfl,fj ⟨_,_,rfl,s5.trans s6⟩⟩⟩⟩)))))
   ·intro σ H4 av;refine aW av λp' d' aa s4=>?_;clear av;subst aa;exact⟨_,_,_,(ak _ rfl s4)⟩
  ·intro σ H2 av;refine oz av λ_ _ _ _ aa s2=>?_;clear av;subst aa;exact k H2 s2
end
structure Own(H0:Hp)(m:e_)(H:Hp)(R:e_->Nat->Prop):Prop where
 l:∃lab:e_->Nat,∀a v,R a v->lab a=v
 p:∀a v,R a v->H a≠b_
 f:∀a v,R a v->a=m\/H0 a=b_
 t:∀b,H b=b_->H0 b=b_
section
variable{H0 H H':Hp}{m:e_}{R R':e_->Nat->Prop}
theorem Own.keep(h:Own H0 m H R)(k:∀b,H' b=b_->H b=b_):Own H0 m H' R:=⟨h.l,λa v r z=>h.p a v r (k a z),h.f,λb z=>h.t b (k b z)⟩
theorem Own.adds(h:Own H0 m H R)(k:∀b,H' b=b_->H b=b_){B:e_->Prop}{n:Nat}(hB:∀b,B b->H b=b_)(DD:∀b,B b->H' b≠b_):Own H0 m H' λa v=>R a v\/(B a/\v=n):=by
 obtain⟨⟨lab,h1⟩,h2,h3,h4⟩:=h
 classical
 refine⟨⟨λa=>if B a then n else lab a,λa v r=>?_⟩,λa v r=>?_,λa v r=>?_,λb z=>h4 b (k b z)⟩
 ·rcases r with r | ⟨r,rfl⟩
  ·show (if B a then n else lab a)=v;rw[if_neg λz=>h2 a v r (hB a z)];exact h1 a v r
  ·show (if B a then v else lab a)=v;rw[if_pos r]
 ·rcases r with r | ⟨r,rfl⟩
  ·exact λz=>h2 a v r (k a z)
  ·exact DD a r
 ·rcases r with r | ⟨r,rfl⟩
  ·exact h3 a v r
  ·exact .inr (h4 a (hB a r))
theorem Own.add(h:Own H0 m H R)(k:∀b,H' b=b_->H b=b_){n:Nat}(hB:H b=b_)(DD:H' b≠b_):Own H0 m H' λa v=>R a v\/(a=b/\v=n):=
 h.adds k (B:=λa=>a=b) (λc z=>by rw[z];exact hB) (λc z=>by rw[z];exact DD)
theorem Ew{o:HO}:∀b,upd H x o b=b_->H b=none:=λb e=>by
 by_cases z:b=x
 ·rw[z,aA]at e;cases e
 ·rwa[au z]at e
theorem Own.new(h:Own H0 m H R){n:Nat}{o:HO}(hB:H b=b_):Own H0 m (upd H b o) λa v=>R a v\/(a=b/\v=n):=h.add Ew hB (by rw[aA];intro z;cases z)
end
structure eQ(m:e_)(H H':Hp):Prop where
 k:∀b o,b≠m->H b=a_ o->H' b=a_ o
 t:∀b,H' b=b_->H b=b_
theorem eQ.of(s:ai H H'):eQ m H H':=⟨λb o _ e=>s b o e,λb h=>s.free h⟩
theorem eQ.trans(a:eQ m H H1)(b:eQ m H1 H2):eQ m H H2:=⟨λc o n e=>b.k c o n (a.k c o n e),λc h=>a.t c (b.t c h)⟩
theorem eQ.upd{o:HO}:eQ m H (upd H m o):=⟨λb q n e=>by rw[au n];exact e,Ew⟩
section
variable{t:a9}{C CT:e_}{u:qf}
theorem tE.same(s':ai H H')(h:tE t H v s):tE t H' v s:=h.keep λb C dx fs e _=>s' _ _ e
def RA(t:a9):Sp:=λvs H Q _=>∃v p,vs=[v]/\IsPart H v p/\p.length<=120/\(∀s∈p,dH p.length s)/\∀H' b us,ai H H'->H b=b_->H' b=a_ (.tup us)->Paired (tE t H') us p->Q (.ref b) H'
theorem acv:ba ["part"] ["part"] (aT J8):=bg
theorem afL:(["told"]:List Str).Nodup:=dk
theorem Jj{α β:Type}{F:α->β->Prop}{x:α}{y:β}(h:F x y):∀{l:List α} {r:List β},Paired F l r->Paired F (l++[x]) (r++[y])
 | _,_,.nil=>.cons h .nil
 | _,_,.cons g t=>.cons g (Jj h t)
theorem ab2(F:aV K "steps_of" "steps_of" J8 f fd)(T:tm K mg t)(nO:mg "tuple" = b_):ax P w K mg base aB 5 f fd ["part"] (RA t):=by
 have GX:ax P w K mg base aB 4 t.fO t.sh ["told"] (JX t):=RJ T;refine F.ok acv (λvs H Q E h=>?_) λaL A _ s H vs Q E hr h=>?_
 ·refine aW h λv p aa _=>?_;clear h;subst aa;rfl
 ·refine kZ h λv p aa aH hl oX=>?_;clear h;subst aa;refine cI aH λa vs aa ha hp=>?_;clear aH;subst aa;refine oA oX λhg k=>?_
  refine⟨_,aE (a8 (rO Bq rfl nO vY (ae (jX (N:=["told"]) (idx:=[]) rfl (eT.of (by kernel_rfl)) (jV (cy _)) (uJ (pv 0))
   (λ_ _ _ _=>de (i:=0) afL rfl (aP rfl) (.inr rfl)) (λ_ _ _ _=>jK) λ_ _ _ _=>dr GX hr rfl T.mO T.Oh.kp T.bO .nil aR (ae (pv 0) ag)) ag))),?_⟩
  have hlen:=Paired.length hp;refine ak _ rfl (du a rfl ⟨_,aI.of ha⟩ (jn (n:=vs.length) (λi ys H'=>i<=vs.length/\ai H H'/\Paired (tE t H') ys (p.take i)) (dw (dZ w8)) (eM (cy _) (ai.refl _) .nil) ?_ ?_ ?_ ?_ ?_))
  ·intro i ys H' av;refine bp av λ_ _ e=>?_;rw[Paired.length e,i8];exact xl
  ·intro i ys H' hi av;exact bp av λ_ s1 _=>eG _ _ (aI.of (s1 _ _ ha)) (aX hi)
  ·intro ys H' av;exact bp av λ_ s1 _=>ak _ (aI.of (s1 _ _ ha)) (aN _)
  ·intro i ys H1 hi av z H2 eW;refine bp av λ_ s1 e=>oA eW λeH dG=>?_;subst eH;have hz:=dG _ (aI.of (s1 _ _ ha));refine af (rK hp hz) λst dn hI=>?_;have Zs:=hg st (bo dn);have Zq:tu H2 z st:=hI.keep λb xs e=>s1 _ _ e;refine af Zq λb aa hb=>?_;clear Zq;subst aa;dsimp only[j',jd];rw[if_pos rfl];refine vr rfl (xB b st.1 (gG _ rfl hb (RY Zs) ⟨Ta Zs,Ui st.2⟩ λz dx H3 s3 HH HG=>(eM hi (s1.trans s3) ?_)));rw[qw,dn];exact Jj ⟨z,b,dx,rfl,HG⟩ (Paired.cw e λ_ _ q=>q.same s3)
  ·intro ys H1 av;refine bp av λ_ s1 e=>?_;have hle:=Paired.length e;rw[i8]at hle;refine⟨dw (dZ li),λr dD=>⟨r,ys,rfl,.inl ⟨aj.of aA,λl hl=>?_⟩⟩⟩;have s2:=aM (o:=.lst ys) s1 dD;have s3:=aM (o:=.tup ys) s2 hl;rw[lE li]at e;exact k _ l ys s3 (s2.free hl) aA (Paired.cw e λ_ _ q=>(q.same (aM (ai.refl _) dD)).same (aM (ai.refl _) hl))
end
structure CH(K:W.Frag)(x qual:Str)(st:Stmt)(f:e_)(fd:iJ)(d:Str):Prop where
 ex:∃(oc:f_) (od:Option e_) (T:e_) (kV doc pm:f_) (an:Option e_) (aL ct:f_) (jG:Array (Option f_)) (c1:f_) (d1:Option e_) (n1:Nat) (vt:Array (Option f_)) (tk:Nat),fd=W.fnOf x qual (nz st) (ir st) (aT st) (.ref T) kV doc pm an aL ct/\K.lookup f=a_ ⟨oc,od,.func fd,jG⟩/\W.codeIn K aL qual=c_/\K.lookup T=a_ ⟨c1,d1,.seq #[.str d tk] n1,vt⟩
 kp:W.keepIn K (.ref f)=c_
def k0:Ck:=⟨0,0,[0,0,0,0],0,[]⟩
def iX(kd:Str)(ps:List Pt):Mc:=⟨kd,ps,ps.map λ_=>k0,eD 12 0,[],eD 12 []⟩
theorem D4{α β γ:Type}{F:α->β->Prop}{y:β}:∀{l:List α} {r:List γ},l.length=r.length->(∀x∈l,F x y)->Paired F l (r.map λ_=>y)
 | [],[],_,_=>.nil
 | [],_::_,h,_=>by cases h
 | _::_,[],h,_=>by cases h
 | x::l,z::r,h,g=>.cons (g x (by simp)) (D4 (by simpa using h) λx hx=>g x (gE _ hx))
theorem Jt{α β:Type}{F:α->β->Prop}{y:β}:∀{l:List α} {n:Nat},l.length=n->(∀x∈l,F x y)->Paired F l (eD n y)
 | [],0,_,_=>.nil
 | [],_+1,h,_=>by cases h
 | _::_,0,h,_=>by cases h
 | x::l,n+1,h,g=>.cons (g x (by simp)) (Jt (by simpa using h) λx hx=>g x (gE _ hx))
theorem aiR:(["kind","part"]:List Str).Nodup:=dk
theorem Fx:(["part"]:List Str).Nodup:=dk
theorem aiO:(["name"]:List Str).Nodup:=dk
theorem BH{α:Type}{l:List α}{x y:α}{i:Nat}(h:(l++[x])[i]?=a_ y):l[i]?=a_ y\/(i=l.length/\y=x):=by
 by_cases hi:i<l.length
 ·left;rwa[P2 hi]at h
 ·right
  rw[DR li]at h
  by_cases e:i-l.length=0
  ·rw[e]at h;simp at h;exact⟨li,h.symm⟩
  ·rw[Qb (by simp;lia)]at h;cases h
theorem Own.nx{R:e_->Nat->Prop}{o:HO}(n:Nat)(h:Own H0 m H R)(hB:H b=b_):∃R',Own H0 m (upd H b o) R'/\(∀a v,R a v->R' a v)/\R' b n:=⟨_,h.new (n:=n) hB,λa v z=>.inl z,.inr ⟨rfl,rfl⟩⟩
theorem Own.nw{R:e_->Nat->Prop}{o:HO}(n:Nat)(h:Own H0 m H R)(hB:H b=b_):∃H' R',H'=upd H b o/\ai H H'/\H' b=a_ o/\Own H0 m H' R'/\(∀a v,R a v->R' a v)/\R' b n:=aG (h.nx (o:=o) n hB) λR' a i r=>⟨_,R',rfl,aM (ai.refl _) hB,aA,a,i,r⟩
theorem wZ{fs:List (Str×V)}{R:e_->Nat->Prop}{k:Nat}(x:Str)(v:V)(_:h m=a_ (.ins C dx fs))(hf:fs.length<=k)(O:Own H m h R):∃f h',f=aU x v fs/\h'=upd h m (.ins C dx f)/\f.length<=k+1/\eQ m h h'/\h' m=a_ (.ins C dx f)/\Own H m h' R:=⟨_,_,rfl,rfl,cC (sR x v fs) (DW hf),eQ.upd,aA,O.keep Ew⟩
theorem Own.nxs{R:e_->Nat->Prop}(n:Nat)(B:e_->Prop)(h:Own H0 m H R)(k:∀b,H' b=b_->H b=b_)(hB:∀b,B b->H b=b_)(DD:∀b,B b->H' b≠b_):∃R',Own H0 m H' R'/\(∀a v,R a v->R' a v)/\∀b,B b->R' b n:=⟨_,h.adds (n:=n) k hB DD,λa v z=>.inl z,λb z=>.inr ⟨z,rfl⟩⟩
theorem eQ.tup{fs:List (Str×V)}(k:eQ m H H')(hm:H m=a_ (.ins C dx fs)):∀b xs,H b=a_ (.tup xs)->H' b=a_ (.tup xs):=λb xs e=>k.k b _ (λz=>by rw[z,hm]at e;cases e) e
theorem eQ.lst{fs:List (Str×V)}(k:eQ m H H')(hm:H m=a_ (.ins C dx fs))(e:H b=a_ (.lst xs)):H' b=a_ (.lst xs):=k.k b _ (λz=>by rw[z,hm]at e;cases e) e
theorem rW{fs nX:List (Str×V)}(e:nX=aU x v fs):nX.lookup x=a_ v:=by rw[e,gQ,if_pos rfl]
theorem cO{r:Option V}{fs nX:List (Str×V)}(h:fs.lookup y=r)(e:nX=aU x v fs)(n:y≠x):nX.lookup y=r:=by rw[e,gQ,if_neg n];exact h
theorem S8{K:W.Frag}{H h:Hp}{m C dx pg:e_}{fs:List (Str×V)}{fld:Str}{eC:List V}{ps:List Pt}{D:Ends}{σ:L2.St}{R:e_->Nat->Prop}{k:Nat}(n:Nat)(e0:σ[0]?=a_ (a_ (.ref m)))(e1:σ[1]?=a_ (a_ (.ref pg)))(hp:h pg=a_ (.tup eC))(hl:eC.length=ps.length)(h4:ps.length<=4)(hm:h m=a_ (.ins C dx fs))(cl:fQ K C)(na:cj K C fld)(hf:fs.length<=k)(hk:k<900)(O:Own H m h R)
  (q:∀l h' f' R',f'=aU fld (.ref l) fs->f'.length<=k+1->h' m=a_ (.ins C dx f')->h' l=a_ (.lst (ps.map λ_=>V.int 0))->eQ m h h'->Own H m h' R'->(∀a v,R a v->R' a v)->R' l n->D.nx σ h') :
  Wy K (ib 0) (Mi (WH K (ib 1)) (jd 0) j' (tC (.int 0)) [] 1) fld D σ h:=by
 refine⟨_,e1,pg,rfl,⟨_,aI.of hp⟩,jn (n:=eC.length) (λi ys H'=>i<=eC.length/\H'=h/\ys=(ps.take i).map λ_=>V.int 0) (dw (dZ li)) (eM (cy _) rfl rfl) ?_ ?_ ?_ ?_ ?_⟩
 ·intro i ys H' av;obtain⟨_,_,e⟩:=av;rw[e,aO,i8];lia
 ·intro i ys H' hi av;obtain⟨_,rfl,_⟩:=av;exact eG _ _ (aI.of hp) (aX hi)
 ·intro ys H' av;obtain⟨_,rfl,_⟩:=av;exact ak _ (aI.of hp) (aN _)
 ·intro i ys H' hi av z i0 eW;obtain⟨_,rfl,e⟩:=av;obtain⟨eH,dG⟩:=eW;subst eH;dsimp only[j',jd];rw[if_pos rfl];refine eM hi rfl ?_;rw[qw,aX (show i<ps.length by lia),gg,<-e];rfl
 intro ys H' av;obtain⟨_,PH,e⟩:=av;subst PH;rw[lE li]at e;subst e;refine⟨by rw[aO];exact dw (dZ li),λl nl=>?_⟩;have s1:ai H' (upd H' l (.lst (ps.map λ_=>V.int 0))):=aM (ai.refl _) nl;have g1:upd H' l (.lst (ps.map λ_=>V.int 0)) l=a_ (.lst (ps.map λ_=>V.int 0)):=aA;obtain⟨R1,O1,i1,r1⟩:=O.nx (o:=.lst (ps.map λ_=>V.int 0)) n nl;have ma:=s1 _ _ hm;generalize upd H' l (.lst (ps.map λ_=>V.int 0))=v at s1 g1 O1 ma ⊢;refine⟨_,e0,m,C,dx,fs,rfl,ma,cl,na,li,?_⟩;have ku:eQ m v (upd v m (.ins C dx (aU fld (.ref l) fs))):=eQ.upd;exact q l _ _ R1 rfl (by have:=sR fld (V.ref l) fs;lia) aA (ku.lst ma g1) ((eQ.of s1).trans ku) (O1.keep (Ew (H:=v) (x:=m))) i1 r1
section
variable{t:a9}{C CT:e_}{u:qf}
theorem CH.ok{st:Stmt}{k:Nat}{sp:Sp}(F:CH K x qual st f fd d)(S:ba N ps (aT st))(len:∀vs H Q E,sp vs H Q E->vs.length=ps.length)
  (uZ:∀(aL:f_) (A:h_) (outer:List Env) (s:g_) (H:Hp) (vs:List V) (Q:VK) (E:XK),fJ k (A.deeper (envOfC qual (aT st) s.heap.objs.size f aL))->sp vs H Q E->
   ∃t,eV (nG aB P w K mg base N qual (aT st) f aL A outer s H E).qW (ir st) t/\t { nx:=λ_ H'=>Q .aJ H',rt:=Q } (start N vs) H):ax P w K mg base aB (k+1) f fd ps sp:=by
 refine lF F.ex λoc od T kV doc pm an aL ct jG aa=>RN aa λc1 d1 n1 vt tk aa lk jj _=>?_;subst aa;exact wO lk jj S len λA outer s H vs Q E hr rh=>af (uZ aL A outer s H vs Q E hr rh) λt h q=>ak t h.qW q
theorem is3(h:us.length=3):∃a b c,us=[a,b,c]/\True:=by
 cases us with
 | nil=>cases h
 | cons a l=>
  cases l with
  | nil=>cases h
  | cons b l=>exact oE (P9.mp (D8 (D8 h))) λc z=>⟨a,b,c,by rw[z],trivial⟩
theorem afU(F:CH K "__init__" "Machine.__init__" EZ f fd "row"):Binds K fd zLr []:=by
 refine lF F.ex λoc od T kV doc pm an aL ct jG aa=>RN aa λc1 d1 n1 vt tk aa lk jj lT=>?_;subst aa;intro s us hK hl;refine eh (is3 (by rw[yb]at hl;exact hl)) λa b c z _=>?_;subst z;exact W.binds_K hK rfl lT rfl rfl rfl
def Kz(t:a9)(C CT:e_):Sp:=λvs H Q _=>∃m dx v ps kd,vs=[.ref m,v,.str kd]/\H m=a_ (.ins C dx [])/\mw H v ps/\wX ps/\(kd = "row"\/kd = "name"\/kd = "none")/\
 ∀H' A lab,aY t C CT H' m A (iX kd ps)->lu lab m A->v=.ref A.pg->eQ m H H'->(∀b,bz m A b->b=m\/H b=b_)->Q .aJ H'
theorem ae2:ba zLr zLr (aT EZ):=bg
theorem adQ{f fK fT fS PT yy:e_}{fd Zz ug jQ:iJ}(F:CH K "__init__" "Machine.__init__" EZ f fd "row")(cM:fb K C)(T:tm K mg t)(nO:mg "tuple" = b_)(dQ:mg "range" = b_)
  (GK:ax P w K mg base aB 6 fK Zz zLE UQ) (kK:W.keepIn K (.ref fK)=c_) (bK:Binds K Zz zLE []) (mK:mg "look_over" = a_ (.ref fK))
  (GT:ax P w K mg base (jh P w) 3 fT ug ["kind"] (Sx CT PT yy)) (kT:W.keepIn K (.ref fT)=c_) (bT:Binds K ug ["kind"] []) (mT:mg "tray_of" = a_ (.ref fT))
  (GS:ax P w K mg base aB 5 fS jQ ["part"] (RA t)) (kS:W.keepIn K (.ref fS)=c_) (bS:Binds K jQ ["part"] []) (mS:mg "steps_of" = a_ (.ref fS)) :
  ax P w K mg base aB 7 f fd zLr (Kz t C CT):=by
 have PV:=Ag GT;refine af T.cn.names λuN mN rN=>af T.cn.fw λuR mR rR=>F.ok ae2 (λvs H Q E h=>?_) λaL A _ s H vs Q E hr h=>?_
 ·refine rS h λm dx v ps kd aa _=>?_;subst aa;rfl
 ·refine lG h λm dx v ps kd aa hm hP g pe q=>?_;subst aa;have rj:=hr.mono (show 3<=6 by decide);have Du:=hr.mono (show 5<=6 by decide)
  refine let R1:TS:=_;let R2:TS:=_;let R3:TS:=_;let R4:TS:=_;let R5:TS:=_;let R6:TS:=_;let R7:TS:=_;let R8:TS:=_;let R9:TS:=_;let ij:TS:=_;⟨_,aD (dg (dr GK hr rfl mK kK bK .nil aR (ae (pv 1) ag))) (pR ij (aD (iu (pv 0) (jX (N:=["kind","part"]) (idx:=[2]) rfl (eT.of (by kernel_rfl)) (jV (aN _)) (uJ (pv 1)) (λ_ _ _ _=>de (i:=1) aiR rfl (aP rfl) (.inr rfl)) (λ_ _ _ _=>jK)
     λ_ _ _ _=>dr PV rj rfl mT kT bT .nil aR (ae (pv 0) ag)) rfl)
   (pR R9 (aD (iu (pv 0) (pv 1) rfl) (pR R8 (aD (iu (pv 0) (pv 2) rfl) (pR R7 (aD (iu (pv 0) (rO Bq rfl nO vY (ae (jX (N:=["part"]) (idx:=[]) rfl (eT.of (by kernel_rfl)) (jV (cy _)) (uJ (pv 1)) (λ_ _ _ _=>de (i:=0) Fx rfl (aP rfl) (.inr rfl)) (λ_ _ _ _=>jK)
     λ_ _ _ _=>dr GS Du rfl mS kS bS .nil aR (ae (pv 0) ag)) ag)) rfl)
   (pR R6 (aD (iu (pv 0) (jX (N:=["part"]) (idx:=[]) rfl (eT.of (by kernel_rfl)) (jV (cy _)) (uJ (pv 1)) (λ_ _ _ _=>de (i:=0) Fx rfl (aP rfl) (.inr rfl)) (λ_ _ _ _=>jK) λ_ _ _ _=>aq) rfl)
   (pR R5 (aD (iu (pv 0) (jX (N:=["part"]) (idx:=[]) rfl (eT.of (by kernel_rfl)) (jV (cy _)) (uJ (pv 1)) (λ_ _ _ _=>de (i:=0) Fx rfl (aP rfl) (.inr rfl)) (λ_ _ _ _=>jK) λ_ _ _ _=>aq) rfl)
   (pR R4 (aD (iu (pv 0) (jX (N:=["part"]) (idx:=[]) rfl (eT.of (by kernel_rfl)) (jV (cy _)) (uJ (pv 1)) (λ_ _ _ _=>de (i:=0) Fx rfl (aP rfl) (.inr rfl)) (λ_ _ _ _=>jK) λ_ _ _ _=>bb LJ (dN (ae aq ag)) (iq rfl mR rR)) rfl)
   (pR R3 (aD (iu (pv 0) (bb LJ (dN (ae aq ag)) (iq rfl mN rN)) rfl) (pR R2 (aD (iu (pv 0) (dN ag) rfl) (pR R1 (aE (iu (pv 0) (jX (N:=["name"]) (idx:=[]) rfl (eT.of (by kernel_rfl)) (jV (cy _)) (sU rfl dQ (ae (iq rfl mN rN) ag)) (λ_ _ _ _=>de (i:=0) aiO rfl (aP rfl) (.inr rfl)) (λ_ _ _ _=>jK) λ_ _ _ _=>dN ag) rfl))))))))))))))))))))),?_⟩
  refine cI (id hP) λpg eC aa gX pd=>?_;subst aa;refine vr rfl (pU (.ref pg) ps rfl hP g λH1 s1=>?_);have ee:=Paired.length pd;have hle:=g.le;have npm:=hY gX hm (by intro z;cases z);have ma:=s1 _ _ hm;obtain⟨R0,o0,r0⟩:∃R,Own H m H1 R/\R m 2:=⟨λa v=>a=m/\v=2,⟨⟨λ_=>2,λa v z=>z.2.symm⟩,λa v z e=>(by rw[z.1,ma]at e;cases e),λa v z=>.inl z.1,λb z=>s1.free z⟩,rfl,rfl⟩
  have AD:V.str kd=.str "row"\/V.str kd=.str "name"\/V.str kd=.str "none":=by
   rcases pe with e | e | e
   ·exact .inl (by rw[e])
   ·exact .inr (.inl (by rw[e]))
   ·exact .inr (.inr (by rw[e]))
  refine ak _ rfl (du pg rfl ⟨_,aI.of (s1 _ _ gX)⟩ (jn (n:=eC.length) (λi ys H'=>i<=eC.length/\∃ts:List (e_×e_×List e_),ys=(ts.map λx=>V.ref x.1)/\ts.length=i/\ai H1 H'/\(∀x∈ts,dR H' x.1 CT kd 0 [] x.2.1 x.2.2)/\∃R,Own H m H' R/\(∀a v,R0 a v->R a v)/\∀j x,ts[j]?=a_ x->∀b∈x.1::x.2.1::x.2.2,R b (28+6*j)) (dw (dZ (by exact w8))) ⟨cy _,⟨[],rfl,rfl,ai.refl _,λx hx=>(by cases hx),R0,o0,λ_ _ z=>z,λj x z=>(by simp at z)⟩⟩ ?_ ?_ ?_ ?_ ?_))
  ·intro i ys H' av;obtain⟨_,ts,rfl,rfl,_⟩:=av;rw[aO];exact aN _
  ·intro i ys H' hi av;obtain⟨_,ts,_,_,s2,_⟩:=av;exact eG _ _ (aI.of ((s1.trans s2) _ _ gX)) (aX hi)
  ·intro ys H' av;obtain⟨_,ts,_,_,s2,_⟩:=av;exact ak _ (aI.of ((s1.trans s2) _ _ gX)) (aN _)
  ·intro i ys H2 hi av z H3 eW;obtain⟨_,ts,rfl,rfl,s2,ht,R,o2,r2,r3⟩:=av;obtain⟨eH,dG⟩:=eW;subst eH;dsimp only[j',jd];rw[if_pos rfl];refine vr rfl (pU (.str kd) ("str") rfl rfl (λ_ kd' H4 x q' qr e T4 k4 jy=>?_) λy=>y AD);injection e with e
   subst e;have s4:ai H3 H4:=λb o e=>k4 b o (by simp) e
   obtain⟨R',o4,i4,n4⟩:=o2.nxs (28+6*ts.length) (λb=>b∈x::q'::qr) (λb z=>s4.free z) jy (λb hb y=>by
    refine oE (T4.there b hb) λo e=>?_;rw[e]at y;cases y)
   refine⟨hi,⟨ts++[(x,q',qr)],by rw[gg];rfl,by rw[dM];rfl,s2.trans s4,λy hy=>?_,R',o4,λa v z=>i4 a v (r2 a v z),λj y hy b hb=>?_⟩⟩
   ·rcases jA.mp hy with hy | hy
    ·exact(ht y hy).keep (λb _ o e=>s4 b o e) λb xs e=>s4 b _ e
    ·rw[gJ.mp hy];exact T4
   ·rcases BH hy with hy | ⟨e1,e2⟩
    ·exact i4 _ _ (r3 j y hy b hb)
    ·subst e1;subst e2;exact n4 b hb
  intro ys H2 av;obtain⟨_,ts,rfl,yW,s2,ht,R1,o2,i1,r1⟩:=av;refine⟨by rw[aO];exact dw (dZ (by exact wu)),λlt Oy=>?_⟩;refine gc (o2.nw (o:=.lst (ts.map λx=>V.ref x.1)) 4 Oy) λH3 R2 e s3 dJ o3 i2 r2=>?_;rw[<-e];clear e;have nR:=s3 _ _ (s2 _ _ ma);have T3:=λx hx=>(ht x hx).keep (λb _ o e=>s3 b o e) λb xs e=>s3 b _ e;have K3:eQ m H H3:=eQ.of (s1.trans (s2.trans s3));refine vr rfl (oa m C dx ([]) rfl nR cM.cl cM.iU qc ?_);refine gc (wZ "trays" (V.ref lt) nR (aN 0) o3) λuf H4 Ie e hf1 k4 A2 o4=>?_;rw[<-Ie,<-e];clear e;have K4:=K3.trans k4;refine ak _ rfl (vr rfl (oa m C dx uf rfl A2 cM.cl cM.program (by exact wb) ?_));refine gc (wZ "program" (V.ref pg) A2 hf1 o4) λqq H5 DK e vC k5 xQ o5=>?_;rw[<-DK,<-e];clear e;have K5:=K4.trans k5;refine ak _ rfl (vr rfl (oa m C dx qq rfl xQ cM.cl cM.kind (by exact wb) ?_));refine gc (wZ "kind" (V.str kd) xQ vC o5) λqY H6 Bb e hf3 k6 OZ o6=>?_;rw[<-Bb,<-e];clear e;have K6:=K5.trans k6;have Gf:=K6.tup hm _ _ gX;refine ak _ rfl (du pg rfl ⟨_,aI.of Gf⟩ (jn (n:=eC.length) (λi ys H'=>i<=eC.length/\ai H6 H'/\Paired (z6 t H') ys (ps.take i)) (dw (dZ (by exact w8))) (eM (cy _) (ai.refl _) .nil) ?_ ?_ ?_ ?_ ?_))
  ·intro i ys H' av;obtain⟨_,_,e⟩:=av;rw[Paired.length e,i8];exact xl
  ·intro i ys H' hi av;obtain⟨_,s,_⟩:=av;exact eG _ _ (aI.of (s _ _ Gf)) (aX hi)
  ·intro ys H' av;obtain⟨_,s,_⟩:=av;exact ak _ (aI.of (s _ _ Gf)) (aN _)
  ·intro i ys H' hi av z i0 eW;obtain⟨_,s7,e⟩:=av;obtain⟨eH,dG⟩:=eW;subst eH;have hz:=dG _ (aI.of (s7 _ _ Gf));refine af (rK pd hz) λp hp hI=>oA (g.part p (bo hp)) λg1 g2=>?_;dsimp only[j',jd];rw[if_pos rfl];refine vr rfl (⟨z,p,rfl,((hI.keep (K6.tup hm)).keep λb xs e=>s7 _ _ e),g1,g2,(λH8 b us s8 nb hb oZ=>⟨hi,s7.trans s8,?_⟩)⟩);rw[qw,hp];exact Jj ⟨b,us,rfl,hb,oZ⟩ (Paired.cw e λ_ _ q=>q.keep (λb xs e=>s8 _ _ e) λb C dx fs e _=>s8 _ _ e)
  intro ys H7 av;obtain⟨_,s7,e7⟩:=av;have alH:=Paired.length e7;rw[i8]at alH;rw[lE li]at e7;refine⟨dw (dZ li),λr7 nr7=>⟨r7,ys,rfl,.inl ⟨aj.of aA,λst tY=>?_⟩⟩⟩;have s8:ai H7 (upd (upd H7 r7 (.lst ys)) st (.tup ys)):=aM (aM (ai.refl _) nr7) tY;have dn:upd (upd H7 r7 (.lst ys)) st (.tup ys) st=a_ (.tup ys):=aA;generalize upd (upd H7 r7 (.lst ys)) st (.tup ys)=H8 at s8 dn ⊢;have hs8:Paired (z6 t H8) ys ps:=Paired.cw e7 λ_ _ q=>q.keep (λb xs e=>s8 _ _ e) λb C dx fs e _=>s8 _ _ e;have Hl:=s7.trans s8;have Dw:=Hl _ _ OZ;have o8:=o6.keep (λb z=>Hl.free z);have K8:=K6.trans (eQ.of Hl);refine vr rfl (oa m C dx qY rfl Dw cM.cl cM.steps (by exact wb) ?_);refine gc (wZ "steps" (V.ref st) Dw hf3 o8) λZx H9 Ba e hf4 k9 hm9 o9=>?_;rw[<-Ba,<-e];clear e;have K9:=K8.trans k9;have alu:=K9.tup hm _ _ gX;refine S8 (ps:=ps) 6 rfl rfl alu ee hle hm9 cM.cl cM.places hf4 qc o9 λpl H11 Px R3 A9 hf5 Xd gpl YY o11 i10 Yt=>?_;have ZW:=K9.trans YY;have aj1:=ZW.tup hm _ _ gX;refine S8 (ps:=ps) 8 rfl rfl aj1 ee hle Xd cM.cl cM.counts hf5 qc o11 λct H13 Pw R4 ze hf6 Xc hct YX o13 i12 Ys=>?_;have ZV:=ZW.trans YX;have M':=ZV.tup hm _ _ gX;refine ak _ rfl (du pg rfl ⟨_,aI.of M'⟩ (jn (n:=eC.length) (λi ys H'=>i<=eC.length/\∃rs:List e_,ys=rs.map V.ref/\rs.length=i/\ai H13 H'/\(∀a∈rs,H' a=a_ (.lst (([0,0,0,0]:List Int).map V.int)))/\∃R,Own H m H' R/\(∀a v,R4 a v->R a v)/\∀(j:Nat) a,rs[j]?=a_ a->R a (24+6*j)) (dw (dZ (by exact w8))) ⟨cy _,⟨[],rfl,rfl,ai.refl _,λx hx=>(by cases hx),R4,o13,λ_ _ z=>z,λj x z=>(by simp at z)⟩⟩ ?_ ?_ ?_ ?_ ?_))
  ·intro i ys H' av;obtain⟨_,rs,rfl,rfl,_⟩:=av;rw[aO];exact aN _
  ·intro i ys H' hi av;obtain⟨_,rs,_,_,s,_⟩:=av;exact eG _ _ (aI.of (s _ _ M')) (aX hi)
  ·intro ys H' av;obtain⟨_,rs,_,_,s,_⟩:=av;exact ak _ (aI.of (s _ _ M')) (aN _)
  ·intro i ys H' hi av z i0 eW;obtain⟨_,rs,rfl,rfl,s,vx,R,oR,iR,Dd⟩:=av;obtain⟨eH,dG⟩:=eW;subst eH;dsimp only[j',jd];rw[if_pos rfl];refine⟨qc,λy ny=>⟨y,4,_,rfl,rfl,aA,qc,qc,qc,λx nx=>?_⟩⟩;have sy:ai i0 (upd i0 y (.lst [.int 0])):=aM (ai.refl _) ny;have oy:=oR.keep (λb z=>sy.free z);refine aG (oy.nx (o:=.lst (([0,0,0,0]:List Int).map V.int)) (24+6*rs.length) nx) λR' o' i' r'=>?_;have sx:ai i0 (upd (upd i0 y (.lst [.int 0])) x (.lst (([0,0,0,0]:List Int).map V.int))):=aM sy nx;have hx:upd (upd i0 y (.lst [.int 0])) x (.lst (([0,0,0,0]:List Int).map V.int)) x=a_ (.lst (([0,0,0,0]:List Int).map V.int)):=aA;refine⟨hi,⟨rs++[x],by rw[gg];rfl,by rw[dM];rfl,s.trans sx,λy hy=>?_,R',o',λa v z=>i' a v (iR a v z),λj y hy=>?_⟩⟩
   ·rcases jA.mp hy with hy | hy
    ·exact sx _ _ (vx y hy)
    ·rw[gJ.mp hy];exact hx
   ·rcases BH hy with hy | ⟨e1,e2⟩
    ·exact i' _ _ (Dd j y hy)
    ·subst e1;subst e2;exact r'
  intro ys H14 av;obtain⟨_,rs,rfl,anB,xI,vx,R5,o14,i14,Yr⟩:=av;refine⟨by rw[aO];exact dw (dZ (by exact wu)),λrg nrg=>?_⟩;refine gc (o14.nw (o:=.lst (rs.map V.ref)) 10 nrg) λH15 R6 e xH dQ o15 i15 Yq=>?_;rw[<-e];clear e;have Gh:=xH _ _ (xI _ _ Xc);have alq:=λa ha=>xH _ _ (vx a ha);have K15:=ZV.trans (eQ.of (xI.trans xH));refine vr rfl (oa m C dx Pw rfl Gh cM.cl cM.fw (by exact wb) ?_);refine gc (wZ "regs" (V.ref rg) Gh hf6 o15) λZw Bd vG e hf7 Dm alF o16=>?_;rw[<-vG,<-e];clear e;have K16:=K15.trans Dm;refine⟨qc,λy ny=>⟨y,12,_,rfl,rfl,aA,qc,qc,qc,λce YC=>?_⟩⟩;have sy:ai Bd (upd Bd y (.lst [.int 0])):=aM (ai.refl _) ny;have oy:=o16.keep (λb z=>sy.free z);refine aG (oy.nx (o:=.lst ((eD 12 (0:Int)).map V.int)) 12 YC) λR7 Yv i17 Yp=>?_;have xG:ai Bd (upd (upd Bd y (.lst [.int 0])) ce (.lst ((eD 12 (0:Int)).map V.int))):=aM sy YC;have xV:upd (upd Bd y (.lst [.int 0])) ce (.lst ((eD 12 (0:Int)).map V.int)) ce=a_ (.lst ((eD 12 (0:Int)).map V.int)):=aA;rw[show (eD (12:Int).toNat [V.int 0]).flatten=(eD 12 (0:Int)).map V.int from rfl];generalize upd (upd Bd y (.lst [.int 0])) ce (.lst ((eD 12 (0:Int)).map V.int))=H17 at xG xV Yv ⊢;have NX:=xG _ _ alF;have K17:=K16.trans (eQ.of xG);refine vr rfl (oa m C dx Zw rfl NX cM.cl cM.cells (by exact wb) ?_);refine gc (wZ "cells" (V.ref ce) NX hf7 Yv) λfs8 H18 ui e hf8 YW alE o18=>?_;rw[<-ui,<-e];clear e;have K18:=K17.trans YW;refine⟨qc,λac Hx=>?_⟩;refine gc (o18.nw (o:=.lst []) 14 Hx) λH19 R8 e tX gY o19 i19 Yo=>?_;rw[<-e];clear e;have NW:=tX _ _ alE;have K19:=K18.trans (eQ.of tX);refine vr rfl (oa m C dx fs8 rfl NW cM.cl cM.dB (by exact wb) ?_);refine gc (wZ "acts" (V.ref ac) NW hf8 o19) λfs9 H20 sG e hf9 YV alD o20=>?_;rw[<-sG,<-e];clear e;have K20:=K19.trans YV;refine⟨12,rfl,qc,qc,?_⟩;rw[show (12:Int).toNat=12 from rfl];refine jn (n:=12) (λi ys H'=>i<=12/\∃rs:List e_,ys=rs.map V.ref/\rs.length=i/\ai H20 H'/\(∀a∈rs,H' a=a_ (.lst (([]:List Int).map V.int)))/\∃R,Own H m H' R/\(∀a v,R8 a v->R a v)/\∀(j:Nat) a,rs[j]?=a_ a->R a (26+6*j)) (dw (dZ li)) ⟨cy _,⟨[],rfl,rfl,ai.refl _,λx hx=>(by cases hx),R8,o20,λ_ _ z=>z,λj x z=>(by simp at z)⟩⟩ ?_ ?_ ?_ ?_ ?_
  ·intro i ys H' av;obtain⟨_,rs,rfl,rfl,_⟩:=av;rw[aO];exact aN _
  ·intro i ys H' hi av;obtain⟨_,rs,_,_,s,_⟩:=av;exact hi
  ·intro ys H' av;obtain⟨_,rs,_,_,s,_⟩:=av;exact aN _
  ·intro i ys H' hi av z i0 eW;obtain⟨_,rs,rfl,rfl,s,vx,R,oR,iR,Dd⟩:=av;obtain⟨eH,dG⟩:=eW;subst eH;dsimp only[j',jd];rw[if_pos rfl];refine⟨qc,λx nx=>aG (oR.nx (o:=.lst (([]:List Int).map V.int)) (26+6*rs.length) nx) λR' o' i' r'=>?_⟩;have sx:ai i0 (upd i0 x (.lst (([]:List Int).map V.int))):=aM (ai.refl _) nx;have hx:upd i0 x (.lst (([]:List Int).map V.int)) x=a_ (.lst (([]:List Int).map V.int)):=aA;refine⟨hi,⟨rs++[x],by rw[gg];rfl,by rw[dM];rfl,s.trans sx,λy hy=>?_,R',o',λa v z=>i' a v (iR a v z),λj y hy=>?_⟩⟩
   ·rcases jA.mp hy with hy | hy
    ·exact sx _ _ (vx y hy)
    ·rw[gJ.mp hy];exact hx
   ·rcases BH hy with hy | ⟨e1,e2⟩
    ·exact i' _ _ (Dd j y hy)
    ·subst e1;subst e2;exact r'
  intro ys H21 av;obtain⟨_,cs,rfl,alI,Ou,A7,R9,o21,i21,Yn⟩:=av;refine⟨by rw[aO];exact dw (dZ (by exact w6)),λcm ncm=>?_⟩;refine gc (o21.nw (o:=.lst (cs.map V.ref)) 16 ncm) λH22 ij e Hm hcm o22 i22 Ym=>?_;rw[<-e];clear e;have Gg:=Hm _ _ (Ou _ _ alD);have alQ:=λa ha=>Hm _ _ (A7 a ha);have K22:=K20.trans (eQ.of (Ou.trans Hm));refine vr rfl (oa m C dx fs9 rfl Gg cM.cl cM.oB (by exact wb) ?_);refine gc (wZ "comers" (V.ref cm) Gg hf9 o22) λXo Ii qS e anE Hz alC sk=>?_;rw[<-qS,<-e];clear e;have ZU:=K22.trans Hz;have n20:=(eQ.of (m:=m) (Ou.trans Hm)).trans Hz;have YH:=YV.trans n20;have n18:=(eQ.of (m:=m) tX).trans YH;have YI:=YW.trans n18;have n16:=(eQ.of (m:=m) xG).trans YI;have Di:=Dm.trans n16;have YJ:=(eQ.of (m:=m) (xI.trans xH)).trans Di;have YK:=YX.trans YJ;have n9:=YY.trans YK;have n8:=k9.trans n9;have n6:=(eQ.of (m:=m) Hl).trans n8;have n3:=k4.trans (k5.trans (k6.trans n6));have j9:=i22;have j8:∀a v,R8 a v->ij a v:=λa v z=>j9 _ _ (i21 _ _ z);have j7:∀a v,R7 a v->ij a v:=λa v z=>j8 _ _ (i19 _ _ z);have j6:∀a v,R6 a v->ij a v:=λa v z=>j7 _ _ (i17 _ _ z);have j5:∀a v,R5 a v->ij a v:=λa v z=>j6 _ _ (i15 _ _ z);have j4:∀a v,R4 a v->ij a v:=λa v z=>j5 _ _ (i14 _ _ z);have j3:∀a v,R3 a v->ij a v:=λa v z=>j4 _ _ (i12 _ _ z);have j2:∀a v,R2 a v->ij a v:=λa v z=>j3 _ _ (i10 _ _ z);have j1:∀a v,R1 a v->ij a v:=λa v z=>j2 _ _ (i2 _ _ z);have j0:∀a v,R0 a v->ij a v:=λa v z=>j1 _ _ (i1 _ _ z);refine oE sk.l λlab jE=>?_;have lm:=jE _ _ (j0 _ _ r0);have tk:=cO (cO (rW Ie) DK dk) Bb dk;have ali:ts.length=ps.length:=by exact wo
  have ff:rs.length=ps.length:=by exact wo
  have no:∀x∈Vc,Xo.lookup x=none:=by
   intro x hx
   have n:∀y∈(["trays","program","kind","steps","places","counts","regs","cells","acts","comers"]:List Str),x≠y:=by
    intro y hy e;subst e
    revert hx
    revert x
    decide +kernel
   have hn:([]:List (Str×V)).lookup x=none:=rfl;exact cO (cO (cO (cO (cO (cO (cO (cO (cO (cO hn Ie (n _ (by simp))) DK (n _ (by simp))) Bb (n _ (by simp))) Ba (n _ (by simp))) A9 (n _ (by simp))) ze (n _ (by simp))) vG (n _ (by simp))) ui (n _ (by simp))) sG (n _ (by simp))) qS (n _ (by simp))
  have M:aY t C CT Ii m ⟨lt,ts,pg,st,pl,ct,rg,rs,ce,ac,cm,cs⟩ (iX kd ps):=by
   refine⟨⟨dx,Xo,alC,⟨cO (cO (cO (cO (cO (cO (cO (cO (cO (rW Ie) DK dk) Bb dk) Ba dk) A9 dk) ze dk) vG dk) ui dk) sG dk) qS dk,cO (cO (cO (cO (cO (cO (cO (cO (rW DK) Bb dk) Ba dk) A9 dk) ze dk) vG dk) ui dk) sG dk) qS dk,cO (cO (cO (cO (cO (cO (cO (rW Bb) Ba dk) A9 dk) ze dk) vG dk) ui dk) sG dk) qS dk,cO (cO (cO (cO (cO (cO (rW Ba) A9 dk) ze dk) vG dk) ui dk) sG dk) qS dk,cO (cO (cO (cO (cO (rW A9) ze dk) vG dk) ui dk) sG dk) qS dk,cO (cO (cO (cO (rW ze) vG dk) ui dk) sG dk) qS dk,cO (cO (cO (rW vG) ui dk) sG dk) qS dk,cO (cO (rW ui) sG dk) qS dk,cO (rW sG) qS dk,rW qS,no,by exact w4⟩⟩,n3.lst nR dJ,?_,hP.keep (ZU.tup hm),⟨ys,n8.tup Dw _ _ dn,?_⟩,?_,?_,Di.lst Gh dQ,?_,YI.lst NX xV,⟨[],YH.lst NW gY,.nil⟩,Hz.lst Gg hcm,?_⟩
   ·refine D4 ali λx hx=>(T3 x hx).keep (λb hb o e=>n3.k b o (λz=>?_) e) (n3.tup nR);refine oE (vJ hx) λj hj=>?_;have:=jE _ _ (j1 _ _ (r1 j x hj b hb));rw[z,lm]at this;exact wk
   ·refine Paired.cw hs8 λ_ _ q=>q.keep (n8.tup Dw) λb C' zf nX e h=>n8.k b _ (λz=>?_) e;refine eh h λx us v e1 e2=>?_;rw[z,Dw]at e;cases e;rw[e2,yn "trays" dk]at tk;cases tk
   ·have h:=YK.lst Xd gpl;rw[h];show _=a_ (HO.lst ((ps.map λ_=>k0).map λk=>V.int (k.pl:Nat)));rw[sQ];rfl
   ·have h:=YJ.lst Xc hct;rw[h];show _=a_ (HO.lst ((ps.map λ_=>k0).map λk=>V.int (k.ct:Nat)));rw[sQ];rfl
   ·exact D4 (F:=λa (k:Ck)=>Ii a=a_ (.lst (k.rg.map V.int))) (y:=k0) ff λa ha=>Di.lst Gh (alq a ha)
   ·exact Jt (F:=λa (o:List Int)=>Ii a=a_ (.lst (o.map V.int))) (y:=[]) alI λa ha=>Hz.lst Gg (alQ a ha)
  have L:lu lab m ⟨lt,ts,pg,st,pl,ct,rg,rs,ce,ac,cm,cs⟩:=⟨lm,jE _ _ (j2 _ _ r2),jE _ _ (j3 _ _ Yt),jE _ _ (j4 _ _ Ys),jE _ _ (j6 _ _ Yq),jE _ _ (j7 _ _ Yp),jE _ _ (j8 _ _ Yo),jE _ _ Ym,λi a z=>jE _ _ (j5 _ _ (Yr i a z)),λi a z=>jE _ _ (j9 _ _ (Yn i a z)),λi x z b hb=>jE _ _ (j1 _ _ (r1 i x z b hb))⟩;refine q Ii _ lab M L rfl ZU λb hb=>?_;cases hb with
  | m=>exact .inl rfl
  | lt=>exact sk.f _ _ (j2 _ _ r2)
  | pl=>exact sk.f _ _ (j3 _ _ Yt)
  | ct=>exact sk.f _ _ (j4 _ _ Ys)
  | rg=>exact sk.f _ _ (j6 _ _ Yq)
  | ce=>exact sk.f _ _ (j7 _ _ Yp)
  | ac=>exact sk.f _ _ (j8 _ _ Yo)
  | cm=>exact sk.f _ _ Ym
  | rs h=>
   refine oE (vJ h) λj hj=>?_;exact sk.f _ _ (j5 _ _ (Yr j _ hj))
  | cs h=>
   refine oE (vJ h) λj hj=>?_;exact sk.f _ _ (j9 _ _ (Yn j _ hj))
  | ts h h2=>
   refine oE (vJ h) λj hj=>?_;exact sk.f _ _ (j1 _ _ (r1 j _ hj _ h2))
end
structure SA where
 (cl bd ac ov:e_) (ks:List (e_×e_×e_)) (os:List e_)
def Am(H:Hp)(v:V)(e:Ent):Prop:=∃p,v=.ref p/\H p=a_ (.tup [.int e.n,.int e.num,.int e.d])
theorem Am.keep(k:∀b xs,H b=a_ (.tup xs)->H' b=a_ (.tup xs))(h:Am H v e):Am H' v e:=by
 exact af h λp e h=>ak p e (k _ _ h)
structure tO(H:Hp)(x:e_×e_×e_)(k:Ck):Prop where
 st:H x.1=a_ (.lst [.int (k.pl:Nat),.int (k.ct:Nat),.ref x.2.1,.ref x.2.2])
 rg:H x.2.1=a_ (.lst (k.rg.map V.int))
 es:∃vs,H x.2.2=a_ (.lst vs)/\Paired (Am H) vs k.es
structure dh(H:Hp)(s:e_)(B:SA)(S:Mc):Prop where
 st:H s=a_ (.lst [.ref B.cl,.ref B.bd,.ref B.ac,.ref B.ov])
 cl:H B.cl=a_ (.lst (B.ks.map λx=>V.ref x.1))
 ks:Paired (tO H) B.ks S.ck
 bd:H B.bd=a_ (.lst (S.bd.map V.int))
 ac:∃vs,H B.ac=a_ (.lst vs)/\Paired (pW H) vs S.ac
 ov:H B.ov=a_ (.lst (B.os.map V.ref))
 os:Paired (λa (o:List Int)=>H a=a_ (.lst (o.map V.int))) B.os S.ov
structure oN(lab:e_->Nat)(s:e_)(B:SA):Prop where
 s:lab s=1
 cl:lab B.cl=3
 bd:lab B.bd=5
 ac:lab B.ac=7
 ov:lab B.ov=9
 k1:∀i x,B.ks[i]?=a_ x->lab x.1=21+8*i
 k2:∀i x,B.ks[i]?=a_ x->lab x.2.1=23+8*i
 k3:∀i x,B.ks[i]?=a_ x->lab x.2.2=25+8*i
 os:∀i a,B.os[i]?=a_ a->lab a=27+8*i
inductive lZ (s:e_) (B:SA):e_->Prop
 | s:lZ s B s
 | cl:lZ s B B.cl
 | bd:lZ s B B.bd
 | ac:lZ s B B.ac
 | ov:lZ s B B.ov
 | k1 {x:e_×e_×e_}:x∈B.ks->lZ s B x.1
 | k2 {x:e_×e_×e_}:x∈B.ks->lZ s B x.2.1
 | k3 {x:e_×e_×e_}:x∈B.ks->lZ s B x.2.2
 | os {a:e_}:a∈B.os->lZ s B a
section
variable{H H':Hp}{s:e_}{B:SA}{S:Mc}{lab:e_->Nat}
theorem tO.keep{x:e_×e_×e_}(h:tO H x k)(h1:∀o,H x.1=a_ o->H' x.1=a_ o)(h2:∀o,H x.2.1=a_ o->H' x.2.1=a_ o)(h3:∀o,H x.2.2=a_ o->H' x.2.2=a_ o)(kt:∀b xs,H b=a_ (.tup xs)->H' b=a_ (.tup xs)):tO H' x k:=by
 exact af h.es λvs e1 e2=>⟨h1 _ h.st,h2 _ h.rg,vs,h3 _ e1,Paired.cw e2 λ_ _ q=>q.keep kt⟩
theorem dh.keep(M:dh H s B S)(k:∀b,lZ s B b->∀o,H b=a_ o->H' b=a_ o)(kt:∀b xs,H b=a_ (.tup xs)->H' b=a_ (.tup xs)):dh H' s B S:=by
 exact af M.ac λus a1 a2=>⟨k _ .s _ M.st,k _ .cl _ M.cl,eX M.ks λi x c hx _ q=>q.keep (k _ (.k1 (bo hx))) (k _ (.k2 (bo hx))) (k _ (.k3 (bo hx))) kt,k _ .bd _ M.bd,⟨us,k _ .ac _ a1,Paired.cw a2 λ_ _ q=>q.keep kt⟩,k _ .ov _ M.ov,eX M.os λi x c hx _ q=>k x (.os (bo hx)) _ q⟩
theorem dh.same(M:dh H s B S)(k:ai H H'):dh H' s B S:=M.keep (λb _ o e=>k b o e) λb xs e=>k b _ e
theorem dh.lists(M:dh H s B S)(h:lZ s B b):∃xs,H b=a_ (.lst xs):=by
 cases h with
 | s=>exact⟨_,M.st⟩
 | cl=>exact⟨_,M.cl⟩
 | bd=>exact⟨_,M.bd⟩
 | ac=>obtain⟨vs,h,_⟩:=M.ac;exact⟨_,h⟩
 | ov=>exact⟨_,M.ov⟩
 | k1 h=>obtain⟨c,_,q⟩:=mi M.ks h;exact⟨_,q.st⟩
 | k2 h=>obtain⟨c,_,q⟩:=mi M.ks h;exact⟨_,q.rg⟩
 | k3 h=>obtain⟨c,_,q⟩:=mi M.ks h;obtain⟨vs,e,_⟩:=q.es;exact⟨_,e⟩
 | os h=>obtain⟨c,_,q⟩:=mi M.os h;exact⟨_,q⟩
theorem dh.Ak{F:e_->Prop}(M:dh H s B S)(k:aF F H H')(hF:∀b,F b->¬lZ s B b/\∀xs,H b≠a_ (.tup xs)):dh H' s B S:=by
 refine M.keep (λb hb o e=>?_) (k.tup λb z=>(hF b z).2);refine oE (M.lists hb) λxs e'=>?_;rw[e']at e;cases e;exact k.k b _ (λz=>(hF b z).1 hb) (λps z=>by cases z) e'
theorem Mj(M:dh H s B S)(L:oN lab s B){c:Nat}{x:e_×e_×e_}(hk:S.ck[c]?=a_ k)(hx:B.ks[c]?=a_ x){o:HO}(ha:H a=a_ (.lst xs))(hl:lab a=21+8*c\/lab a=23+8*c\/lab a=25+8*c)(hc:tO (upd H a o) x k'):dh (upd H a o) s B { S with ck:=S.ck.set c k' }:=by
 have kt:=pq (o:=o) ha
 have ne:∀b v,lab b=v->v≠21+8*c->v≠23+8*c->v≠25+8*c->∀q,H b=a_ q->upd H a o b=a_ q:=λb v e h1 h2 h3 q hq=>by
  rw[au (bQ (lab:=lab) (by rcases hl with z | z | z <;> rw[z,e] <;> assumption))];exact hq
 refine af M.ac λus a1 a2=>⟨ne _ _ L.s dv dv dv _ M.st,ne _ _ L.cl dv dv dv _ M.cl,?_,ne _ _ L.bd dv dv dv _ M.bd,⟨us,ne _ _ L.ac dv dv dv _ a1,Paired.cw a2 λ_ _ q=>q.keep kt⟩,ne _ _ L.ov dv dv dv _ M.ov,eX M.os λi y c hy _ q=>ne _ _ (L.os i y hy) jw jw jw _ q⟩;refine zI M.ks (λi y b hi hy _ q=>q.keep (ne _ _ (L.k1 i y hy) tQ jw jw) (ne _ _ (L.k2 i y hy) jw tQ jw) (ne _ _ (L.k3 i y hy) jw jw tQ) kt) λy b hy hb q=>?_;rw[hx]at hy;cases hy;exact hc
theorem dh.qL(M:dh H s B S){c:Nat}(h:S.ck[c]?=a_ k):∃x,B.ks[c]?=a_ x/\tO H x k:=jU M.ks h
theorem VF(M:dh H s B S)(L:oN lab s B){c:Nat}{x:e_×e_×e_}(hk:S.ck[c]?=a_ k)(hx:B.ks[c]?=a_ x)(q:tO H x k)(pl ct:Nat):dh (upd H x.1 (.lst [.int (pl:Nat),.int (ct:Nat),.ref x.2.1,.ref x.2.2])) s B { S with ck:=S.ck.set c { k with pl:=pl,ct:=ct } }:=by
 refine Mj M L hk hx q.st (.inl (L.k1 c x hx)) ⟨aA,?_,?_⟩
 ·rw[au (bQ (lab:=lab) (by rw[L.k1 c x hx,L.k2 c x hx];lia))];exact q.rg
 ·refine af q.es λvs e1 e2=>ak vs ?_ (Paired.cw e2 λ_ _ y=>y.keep (pq q.st));rw[au (bQ (lab:=lab) (by rw[L.k1 c x hx,L.k3 c x hx];lia))];exact e1
theorem Fm(M:dh H s B S)(L:oN lab s B){c:Nat}{x:e_×e_×e_}(hk:S.ck[c]?=a_ k)(hx:B.ks[c]?=a_ x)(q:tO H x k)(r:Nat)(v:Int):dh (upd H x.2.1 (.lst ((k.rg.map V.int).set r (.int v)))) s B { S with ck:=S.ck.set c { k with rg:=k.rg.set r v } }:=by
 refine Mj M L hk hx q.rg (.inr (.inl (L.k2 c x hx))) ⟨?_,?_,?_⟩
 ·rw[au (bQ (lab:=lab) (cx (L.k1 c x hx) (L.k2 c x hx) jw))];exact q.st
 ·rw[aA,vV]
 ·refine af q.es λvs e1 e2=>ak vs ?_ (Paired.cw e2 λ_ _ y=>y.keep (pq q.rg));rw[au (bQ (lab:=lab) (by rw[L.k2 c x hx,L.k3 c x hx];lia))];exact e1
theorem aix(M:dh H s B S)(L:oN lab s B){c:Nat}{x:e_×e_×e_}(hk:S.ck[c]?=a_ k)(hx:B.ks[c]?=a_ x)(q:tO H x k){ws vs:List V}(hw:H x.2.2=a_ (.lst ws))(tn:Int)(he:Paired (Am H) vs es):dh (upd H x.2.2 (.lst vs)) s B { S with ck:=S.ck.set c { k with tn:=tn,es:=es } }:=by
 refine Mj M L hk hx hw (.inr (.inr (L.k3 c x hx))) ⟨?_,?_,vs,aA,Paired.cw he λ_ _ y=>y.keep (pq hw)⟩
 ·rw[au (bQ (lab:=lab) (cx (L.k1 c x hx) (L.k3 c x hx) jw))];exact q.st
 ·rw[au (bQ (lab:=lab) (cx (L.k2 c x hx) (L.k3 c x hx) jw))];exact q.rg
theorem Ln(M:dh H s B S)(L:oN lab s B){o:HO}{l:Nat}(ha:H a=a_ (.lst xs))(hl:lab a=l):(∀b v,lab b=v->v≠l->∀q,H b=a_ q->upd H a o b=a_ q)/\∀b ys,H b=a_ (.tup ys)->upd H a o b=a_ (.tup ys):=
 ⟨λb v e h q hq=>by rw[au (bQ (lab:=lab) (by rw[hl,e];exact h))];exact hq,pq ha⟩
theorem aiy(M:dh H s B S)(L:oN lab s B)(n:Nat)(v:Int):dh (upd H B.bd (.lst ((S.bd.map V.int).set n (.int v)))) s B { S with bd:=S.bd.set n v }:=by
 refine oA (Ln (o:=.lst ((S.bd.map V.int).set n (.int v))) M L M.bd L.bd) λne kt=>af M.ac λus a1 a2=>⟨ne _ _ L.s eL _ M.st,ne _ _ L.cl eL _ M.cl,eX M.ks λi y b hy _ q=>q.keep (ne _ _ (L.k1 i y hy) kh) (ne _ _ (L.k2 i y hy) kh) (ne _ _ (L.k3 i y hy) kh) kt,?_,⟨us,ne _ _ L.ac eL _ a1,Paired.cw a2 λ_ _ q=>q.keep kt⟩,ne _ _ L.ov eL _ M.ov,eX M.os λi y c hy _ q=>ne _ _ (L.os i y hy) kh _ q⟩;rw[aA,vV]
theorem Ml(M:dh H s B S)(L:oN lab s B){ws:List V}(hw:H B.ac=a_ (.lst ws))(hx:pW H x a):dh (upd H B.ac (.lst (ws++[x]))) s B { S with ac:=S.ac++[a] }:=by
 refine oA (Ln (o:=.lst (ws++[x])) M L hw L.ac) λne kt=>af M.ac λus a1 a2=>?_;have e:us=ws:=by rw[hw]at a1;cases a1;rfl
 subst e;exact⟨ne _ _ L.s eL _ M.st,ne _ _ L.cl eL _ M.cl,eX M.ks λi y b hy _ q=>q.keep (ne _ _ (L.k1 i y hy) kh) (ne _ _ (L.k2 i y hy) kh) (ne _ _ (L.k3 i y hy) kh) kt,ne _ _ L.bd eL _ M.bd,⟨_,aA,qz (Paired.cw a2 λ_ _ q=>q.keep kt) (hx.keep kt)⟩,ne _ _ L.ov eL _ M.ov,eX M.os λi y c hy _ q=>ne _ _ (L.os i y hy) kh _ q⟩
theorem aiw(M:dh H s B S)(L:oN lab s B){n:Nat}(hn:S.ov[n]?=a_ ov)(ha:B.os[n]?=a_ a)(d:Int):dh (upd H a (.lst (ov.map V.int++[.int d]))) s B { S with ov:=S.ov.set n (ov++[d]) }:=by
 refine af (jU M.os hn) λa' Zk q=>?_;have e:a'=a:=by rw[ha]at Zk;exact(dq Zk).symm
 subst e;refine oA (Ln (o:=.lst (ov.map V.int++[.int d])) M L q (L.os n a' ha)) λne kt=>af M.ac λus a1 a2=>⟨ne _ _ L.s dv _ M.st,ne _ _ L.cl dv _ M.cl,eX M.ks λi y b hy _ q=>q.keep (ne _ _ (L.k1 i y hy) jw) (ne _ _ (L.k2 i y hy) jw) (ne _ _ (L.k3 i y hy) jw) kt,ne _ _ L.bd dv _ M.bd,⟨us,ne _ _ L.ac dv _ a1,Paired.cw a2 λ_ _ q=>q.keep kt⟩,ne _ _ L.ov dv _ M.ov,zI M.os (λi y b hi hy _ q=>ne _ _ (L.os i y hy) tQ _ q) λy b hy hb q=>?_⟩;rw[ha]at hy;cases hy;show upd H a' _ a'=a_ (.lst ((ov++[d]).map V.int));rw[aA,gg];rfl
end
structure FS(s:e_)(B:SA)(H H':Hp):Prop where
 p:aF (lZ s B) H H'
 l:KL H H'
theorem FS.trans(a:FS s B H H1)(b:FS s B H1 H2):FS s B H H2:=⟨a.p.trans b.p,a.l.trans b.l⟩
theorem FS.of(k:ai H H'):FS s B H H':=⟨aF.of k,KL.of k⟩
theorem FS.upd{o:HO}(h:lZ s B a)(e:H a=a_ (.lst xs)):FS s B H (upd H a o):=⟨aF.upd h,KL.upd e⟩
theorem FS.tup(k:FS s B H H')(e:H b=a_ (.tup xs)):H' b=a_ (.tup xs):=k.l.tup _ _ e
def Mo:Sp:=λvs H Q _=>∃s B S p n v d lab,vs=[.ref s,.ref p]/\dh H s B S/\oN lab s B/\H p=a_ (.tup [.int ((n:Nat):Int),.int v,.int d])/\n<12/\S.bd.length=12/\S.ov.length=12/\vp S/\
 ∀H',dh H' s B (kJ S n v d)->FS s B H H'->Q .aJ H'
theorem aiB:ba zLs zLs (aT Kc):=bg
theorem agZ(F:aV K "_law_arrives" "_law_arrives" Kc f fd):ax P w K mg base aB 1 f fd zLs Mo:=by
 refine F.ok aiB (λvs H Q E h=>?_) λaL A _ s H vs Q E hr h=>?_
 ·refine kY h λs B S p n aa=>eh aa λv d lab aa _=>?_;subst aa;rfl
 ·obtain⟨s,B,S,p,n,v,d,lab,aa,M,aH⟩:=h;subst aa;refine iO aH λL hp hn hb ho aa=>oA aa λjH q=>?_;refine let R1:TS:=_;⟨_,aD (mm (az bh (pv 1) aq) (ow (az aS (pv 0) aq) (az bh (pv 1) aq) set_list)) (pR R1 (aE (dg (jZ PySem.F.plainAttrs_list PySem.F.slot_list_append PySem.F.type_list_append ni (az aS (az aS (pv 0) aq) (az bh (pv 1) aq)) (ae (az bh (pv 1) aq) ag))))),?_⟩
  refine dm (j:=1) rfl hp rfl (ic (j:=1) rfl M.st rfl (dm (j:=0) rfl hp rfl (ml B.bd _ _ n rfl rfl M.bd (pD (by rw[aO,hb];exact hn)) ?_)));have M1:=aiy M L n v;have f1:FS s B H (upd H B.bd (.lst ((S.bd.map V.int).set n (.int v)))):=FS.upd .bd M.bd;generalize upd H B.bd (.lst ((S.bd.map V.int).set n (.int v)))=H1 at M1 f1 ⊢;have dW:=f1.tup hp;have CK:S.ov[n]?=a_ (S.ov[n]'wg):=aX wg;refine af (jU M1.os CK) λa ha HR=>?_;have xR:=jH _ (bo CK);have eo:S.ov.getD n []=S.ov[n]'wg:=nv CK;have M2:=aiw M1 L CK ha d;generalize S.ov[n]'wg=o at CK HR xR eo M2;refine ic (j:=3) rfl M1.st rfl (dm (j:=0) rfl dW rfl (rL (v:=.ref a) (aj.of M1.ov) (dA ha) ⟨.inl ⟨rfl,_,aj.of HR⟩,dm (j:=2) rfl dW rfl (jb a _ (.int d) rfl rfl HR (by rw[aO,jl];exact wb) (q _ ?_ (f1.trans (FS.upd (.os (bo ha)) HR))))⟩));unfold kJ;rw[eo];exact M2
theorem aiN:(["_law_name","_law_row"]:List Str).Nodup:=dk
def setG(S:Mc)(c n:Nat)(k:Ck)(g:Int):Mc:=if S.kd = "none" then jo (fk (tL S c n k g) ⟨"set",c,n,b_,a_ g,b_⟩) c n else fk (tL S c n k g) ⟨"set",c,n,b_,a_ g,b_⟩
theorem B4{c n r:Nat}(hk:S.ck[c]?=a_ k):setM S c n r=setG S c n k (k.rg.getD r 0):=by
 unfold setM setG;rw[hk]
theorem dh.tn{c:Nat}(M:dh H s B S)(hk:S.ck[c]?=a_ k)(t:Int):dh H s B { S with ck:=S.ck.set c { k with tn:=t } }:=
 ⟨M.st,M.cl,vX M.ks hk λa _ q=>⟨q.st,q.rg,q.es⟩,M.bd,M.ac,M.ov,M.os⟩
theorem JF{S:Mc}{c n:Nat}{k:Ck}{g:Int}(hk:S.ck[c]?=a_ k)(hd:S.kd = "none")(he:k.es=[]):setG S c n k g={ kJ (fk S ⟨"set",c,n,b_,a_ g,b_⟩) n g S.ac.length with ck:=S.ck.set c { k with tn:=k.tn+1 } }:=by
 have hc:c<S.ck.length:=(dX.mp hk).1;unfold setG;rw[if_pos hd];unfold jo;rw[show (fk (tL S c n k g) ⟨"set",c,n,b_,a_ g,b_⟩).ck[c]?=a_ { k with tn:=k.tn+1,es:=k.es++[⟨k.tn,n,g,S.ac.length⟩] } from jz hc];dsimp only
 have e1:(cu (k.es++[⟨k.tn,n,g,S.ac.length⟩]) n).head?=a_ ⟨k.tn,n,g,S.ac.length⟩:=by
  rw[he,Bo];unfold cu;rw[x8,if_pos (by simp)];rfl
 have e2:lp (k.es++[⟨k.tn,n,g,S.ac.length⟩]) n=k.es:=by
  rw[he,Bo];unfold lp
  first | exact List.eraseP_cons_of_pos (decide_eq_true rfl) | (rw[aa0,decide_eq_true rfl];rfl)
 rw[e1];dsimp only;rw[e2];unfold kJ fk tL;dsimp only;rw[vU]
def UJ:Sp:=λvs H Q _=>∃s B S c k n,vs=[.ref s,.int ((c:Nat):Int),.int ((n:Nat):Int)]/\dh H s B S/\S.ck[c]?=a_ k/\n<12/\S.bd.length=12/\S.ov.length=12/\vp S/\k.es.length<=900/\
 ∀H' p,ai H H'->H' p=a_ (.tup [.int (cF S k n).1,oV (cF S k n).2])->Q (.ref p) H'
theorem UX:ba ["_law_stand","_law_clerk","_law_name","_law_waits"] zLq (aT Mq):=bg
theorem afs(F:aV K "_law_seen" "_law_seen" Mq f fd)(dE:mg "len" = b_)(hmx:mg "max" = b_):ax P w K mg base aB 1 f fd zLq UJ:=by
 refine F.ok UX (λvs H Q E h=>?_) λaL A _ s H vs Q E hr h=>?_
 ·refine lK h λs B S c k n aa _=>?_;subst aa;rfl
 ·refine nZ h λs B S c k n aa M hk hn aH=>?_;subst aa;refine my aH λhb ho jH HU q=>?_;have hu:=hr.units
  refine let R1:TS:=_;let R2:TS:=_;let R3:TS:=_;⟨_,aD (Eg (i:=3) (N:=["_law_name","_law_row"]) (idx:=[2]) UX.nd rfl rfl rfl (eT.of (by kernel_rfl)) (jV (aN _)) (rQ (az aS (az aS (az aS (pv 0) aq) (pv 1)) aq)) (λ_ _ _ _=>de (i:=1) aiN rfl (aP rfl) (.inr rfl))
    (λ_ _ _ _=>La (br dO (az (ML K) (pv 1) aq) (pv 0) (bf _))) λ_ _ _ _=>pv 1)
   (pR R3 (aD (b9 (br (S0 hu) (pv 3) (dN ag) (bf _)) (pR R1 (aE (a8 (gu (ae (az bh (az aS (pv 3) (Ci B3 aq)) aq) (ae (az bh (az aS (pv 3) (Ci B3 aq)) aq) ag)))))) cD) (pR R2 (aE (a8 (gu (ae (az aS (az aS (pv 0) aq) (pv 2)) (ae (az aS (bb wF (az aS (az aS (pv 0) aq) (pv 2)) (dN (ae lM ag))) (cg (adf rfl) rfl hmx boot_max (ae aq (ae (bb E4 (cg fg rfl dE PySem.boot_len (ae (az aS (az aS (pv 0) aq) (pv 2)) ag)) aq) ag))) λ_ _=>rfl) ag)))))))),?_⟩
  refine af (M.qL hk) λx hx C=>af C.es λws hw ig=>?_;have hlen:=Paired.length ig;refine ic (j:=0) rfl M.st rfl (vr rfl (rL (v:=.ref x.1) (aj.of M.cl) (dA hx) (GZ (v:=.ref x.2.2) (j:=3) C.st rfl (du x.2.2 rfl ⟨_,aj.of hw⟩ (jn (n:=ws.length) (λi ys H'=>i<=ws.length/\H'=H/\Paired (Am H) ys (cu (k.es.take i) n)) (dw (dZ w8)) (eM (cy _) rfl .nil) ?_ ?_ ?_ ?_ ?_)))))
  ·intro i ys H' av;refine bp av λ_ _ e=>?_;rw[Paired.length e];unfold cu;exact cC (Bg _ _) (by rw[i8];exact xl)
  ·intro i ys H' hi av;refine bp av λ_ aa _=>?_;clear av;subst aa;exact eG _ _ (aj.of hw) (aX hi)
  ·intro ys H' av;refine bp av λ_ aa _=>?_;clear av;subst aa;exact ak _ (aj.of hw) (aN _)
  ·intro i ys H' hi av z i0 eW;refine bp av λ_ aa e=>?_;clear av;subst aa;refine oA eW λeH dG=>?_;subst eH;have hz:=dG _ (aj.of hw);refine af (rK ig hz) λen ue aa=>af aa λp aa hp=>?_;subst aa;have et:k.es.take (i+1)=k.es.take i++[en]:=by rw[qw,ue];rfl
   rw[et,K'];refine dm (v:=.int en.n) (j:=0) rfl hp rfl (vr rfl ⟨rfl,⟨_,rfl,bq (λh=>?_) λh=>?_⟩⟩)
   ·have h':en.n=(n:Int):=by injection h
    rw[if_pos h'];exact vr rfl (eM hi rfl (qz e (ak p rfl hp)))
   ·have h':¬en.n=(n:Int):=λz=>h (by rw[z]);rw[if_neg h'];exact eM hi rfl e
  intro ys H' av;refine bp av λ_ aa e=>?_;clear av;subst aa;rw[lE li]at e;have Y2:=Paired.length e;have hql:(cu k.es n).length<=k.es.length:=by unfold cu;exact Bg _ _
  refine⟨dw (dZ li),λr dD=>?_⟩;have s1:ai H' (upd H' r (.lst ys)):=aM (ai.refl _) dD;have cX:upd H' r (.lst ys) r=a_ (.lst ys):=aA;generalize upd H' r (.lst ys)=H1 at s1 cX ⊢;refine du _ rfl qc λl hl=>aG (nw (o:=.lst []) hl) λH2 e s2 rm=>?_;rw[e];clear e;have qi:=s1.trans s2;have ji:=s2 _ _ cX;refine jb r l ys rfl rfl ji rm (ak _ rfl ?_);cases hq:we k.es n with
  | none=>
   have eq0:cu k.es n=[]:=by unfold we at hq;exact aal.mp hq
   rw[eq0]at e;cases e;refine fj ?_;have es:cF S k n=(S.bd.getD n 0,(S.ov.getD n []).getLast?):=by unfold cF;rw[hq]
   rw[es]at q;have M2:=M.same qi;have iH:S.ov[n]?=a_ (S.ov[n]'wg):=aX wg;have Dv:S.bd[n]?=a_ (S.bd[n]'wg):=aX wg;refine af (jU M2.os iH) λa ha nU=>?_;have xR:=jH _ (bo iH);rw[nv iH,nv Dv]at q;generalize S.ov[n]'wg=o at iH nU xR q;have dP:=jl;refine ic (j:=1) rfl M2.st rfl (vr rfl (rL (aj.of M2.bd) (dA Dv) (ic (j:=3) rfl M2.st rfl (vr rfl (rL (v:=.ref a) (aj.of M2.ov) (dA ha) ⟨qc,(λl3 y4=>aG (nw (o:=.lst [.aJ]) y4) λH3 e s3 h3=>?_)⟩)))));rw[e];clear e;refine⟨a,l3,_,(jY _ rfl rfl (s3 _ _ nU) h3 (by rw[aO,dP];show o.length+1<=_;exact wb) λl4 hl4=>aG (nw (o:=.lst (o.map V.int++[.aJ])) hl4) λH4 e s4 h4=>?_)⟩;rw[e];clear e;have M4:=M2.same (s3.trans s4);refine ic (j:=3) rfl M4.st rfl (vr rfl (rL (v:=.ref a) (aj.of M4.ov) (dA ha) ⟨a,⟨_,rfl,.inl (aj.of (s4 _ _ (s3 _ _ nU))),_,_,rfl,rfl,_,_,rfl,?_⟩⟩));have fin:∀v,oV o.getLast?=v->∀tp,H4 tp=b_->Q (.ref tp) (upd H4 tp (.tup [.int (S.bd[n]'wg),v])):=λv hv tp ht=>q _ tp ((qi.trans (s3.trans s4)).trans (aM (ai.refl _) ht)) (by rw[aA,hv]);rw[aO];cases yx:o.getLast? with
   | none=>
    have o0:o=[]:=aal.mp yx;subst o0;exact rL (v:=.aJ) (aj.of h4) (rfl) ⟨(sl (n:=2)),(fin .aJ (by rw[yx];rfl))⟩
   | some d=>
    refine oE (aak.mp yx) λo' aa=>?_;subst aa;refine oa l4 _ (o'.length:Nat) (.int d) rfl ?_ (aj.of h4) (cb ?_) (sl (n:=2)) (fin (.int d) (by rw[yx];rfl))
    ·rw[dM];show V.int (if (((o'.length+1:Nat):Int)-1) > 0 then (((o'.length+1:Nat):Int)-1) else 0)=_
     congr 1
     split <;> lia
    ·rw[gg,aaP,DR (by simp)];simp
  | some en=>
   have es:cF S k n=(en.num,a_ en.d):=by unfold cF;rw[hq]
   rw[es]at q;obtain⟨qs,eq1⟩:∃qs,cu k.es n=qs++[en]:=by unfold we at hq;exact aak.mp hq
   rw[eq1]at e
   have yx:∃Hh p,ys=Hh++[.ref p]/\H' p=a_ (.tup [.int en.n,.int en.num,.int en.d]):=by
    have ng:ys.length=qs.length+1:=by rw[Y2,eq1,dM];rfl
    have h0:ys[qs.length]?=a_ (ys[qs.length]' li):=aX om;refine af (rK e h0) λy hy aa=>af aa λp ep hp=>?_;have:y=en:=by rw[DR (aN _)]at hy;simpa using hy.symm
    subst this;refine eG (ys.take qs.length) p ?_ hp;have tt:=qw (l:=ys) (i:=qs.length);rw[h0,lE li,ep]at tt;exact tt
   refine aW yx λHh p aa hp=>?_;clear yx;subst aa;have ne:¬(Hh++[V.ref p]=[]):=by simp
   rw[decide_eq_false ne];exact je (ak _ rfl (ak _ rfl (rL (v:=.ref p) (aj.of ji) (BP _ _) (XT (j:=1) ((qi _ _ hp)) rfl (vr rfl (ak _ rfl (rL (v:=.ref p) (aj.of ji) (BP _ _) (XT (j:=2) ((qi _ _ hp)) rfl ⟨(sl (n:=2)),(λtp ht=>q _ tp (qi.trans (aM (ai.refl _) ht)) aA)⟩))))))))
end TL
namespace L2
open PySem PySem.Spec PyProof.Rows PySem.SeqAt
theorem aei{X:Cx}:WN X (λx y H Q=>∃p xs,∃i:Nat,∃v,x=.ref p/\y=.int (i:Nat)/\H p=a_ (.lst xs)/\xs[i]?=a_ v/\Q v H):=by
 intro p_ s σ H o i ov iv Q I r1 r2 h;refine oz h λp xs j z aa aH=>?_;clear h;subst aa;refine iB aH λaa hq he q=>?_;clear aH;subst aa;cases r1;refine oE r2 λt aa=>?_;clear r2;subst aa;refine aG (I.list (aj.of hq)) λaw r pl hz=>af (r.get he) λw ew qj=>?_;have hl:=r.length;have hn:=wG;have hj:j<xs.length:=(dX.mp he).1;exact wpAny_getItem_list pl.isList li li (by rw[jJ];simpa using ew) ⟨z,H,I,qj,q⟩
end L2
namespace TL
open PySem PySem.Spec PyProof.Rows PySem.SeqAt L2 L3 L4
theorem aga(a:e_)(r n:Nat):iw (.ref a) "put" ([r,n].map λ(n:Nat)=>V.int (n:Int))=aU "number" (.int (n:Nat)) (aU "reg" (.int (r:Nat)) (aU "parts" (.ref a) [])):=by kernel_rfl
theorem agb(a:e_)(r n:Nat):iw (.ref a) "add" ([r,n].map λ(n:Nat)=>V.int (n:Int))=aU "other" (.int (n:Nat)) (aU "reg" (.int (r:Nat)) (aU "parts" (.ref a) [])):=by kernel_rfl
theorem aeq(a:e_)(r n:Nat):iw (.ref a) "skip" ([r,n].map λ(n:Nat)=>V.int (n:Int))=aU "place" (.int (n:Nat)) (aU "reg" (.int (r:Nat)) (aU "parts" (.ref a) [])):=by kernel_rfl
theorem LR{x y:Str}{v u:V}{a:e_}:(aU x v (aU y u (aU "parts" (.ref a) []))).lookup x=a_ v:=by rw[gQ,if_pos rfl]
theorem Fb{x y:Str}{v u:V}{a:e_}(h:y≠x):(aU x v (aU y u (aU "parts" (.ref a) []))).lookup y=a_ u:=by rw[gQ,if_neg h,gQ,if_pos rfl]
def cY(s:Tl)(rg:List Int)(pl:Nat):Nat:=if s.1 = "skip"/\rg.getD (s.2.getD 0 0) 0=0 then s.2.getD 1 0 else pl+1
def aZ(S:Mc)(c:Nat)(s:Tl):Mc:=
 if s.1 = "put" then eZ S c (s.2.getD 0 0) (s.2.getD 1 0:Nat)
 else if s.1 = "add" then (match S.ck[c]? with
  | none=>S
  | some k=>eZ S c (s.2.getD 0 0) ((k.rg.getD (s.2.getD 0 0) 0+k.rg.getD (s.2.getD 1 0) 0)%jD))
 else if s.1 = "set" then setM S c (s.2.getD 0 0) (s.2.getD 1 0)
 else if s.1 = "look" then mz S c (s.2.getD 0 0) (s.2.getD 1 0)
 else if s.1 = "swap" then nC S c (s.2.getD 0 0) (s.2.getD 1 0)
 else S
def pF(S:Mc)(c:Nat)(s:Tl):Mc:=match S.ck[c]? with
 | none=>S
 | some k=>{ S with ck:=S.ck.set c { k with pl:=cY s k.rg k.pl,ct:=k.ct+1 } }
def eR(S:Mc)(c:Nat):Mc:=match S.ck[c]?,S.ps[c]? with
 | some k,a_ p=>(match p[k.pl]? with
  | some s=>pF (aZ S c s) c s
  | none=>S)
 | _,_=>S
section
variable{t:a9}{C CT:e_}{H:Hp}{m:e_}{A:MA}{S:Mc}
theorem aY.aeS(M:aY t C CT H m A S){z cz dz a:e_}{x:Str}{ps:List V}(hz:H z=a_ (.ins cz dz (iw (.ref a) x ps))):¬bz m A z:=by
 intro hb;cases hb with
 | m=>
  refine aW M.obj λdx fs h G=>?_;rw[h]at hz;cases hz;have e:=G.iU;rw[yn "trays" dk]at e;cases e
 | lt=>rw[M.lt]at hz;cases hz
 | pl=>rw[M.pl]at hz;cases hz
 | ct=>rw[M.ct]at hz;cases hz
 | rg=>rw[M.rg]at hz;cases hz
 | ce=>rw[M.ce]at hz;cases hz
 | ac=>obtain⟨vs,h,_⟩:=M.ac;rw[h]at hz;cases hz
 | cm=>rw[M.cm]at hz;cases hz
 | rs h=>
  refine af (mi M.rs h) λc _ q=>?_;rw[q]at hz;cases hz
 | cs h=>
  refine af (mi M.cs h) λc _ q=>?_;rw[q]at hz;cases hz
 | ts h h2=>
  refine af (mi M.ts h) λc _ T=>gc (id T.obj) λsH qq ea e1 e2 e3 em el=>?_;rcases cV.mp h2 with y | y
  ·rw[y,ea]at hz;cases hz;rw[yn _ dk]at e1;cases e1
  ·rcases cV.mp y with y | y
   ·rw[y,T.qs]at hz;cases hz
   ·refine oE (vK y) λi zq=>oE zq λhi ez=>?_;obtain⟨oY,e',_⟩:=T.lx i z (by rw[<-ez];exact aX hi);rw[e']at hz;cases hz
end
section
variable{P:l_}{w:k_}{K:W.Frag}{mg:Str->Option f_}{base:j_}{t:a9}{C CT:e_}{u:qf}
def QB(t:a9):Sp:=λvs H Q _=>∃z a dz s sz ra rg,∃pl:Nat,vs=[.ref z,.int (pl:Nat),.ref ra]/\H z=a_ (.ins (e8 t s.1) dz (iw (.ref a) s.1 (s.2.map λ(n:Nat)=>V.int (n:Int))))/\dH sz s/\H ra=a_ (.lst (rg.map V.int))/\rg.length=4/\Q (.int (cY s rg pl:Nat)) H
theorem abe:ba zLz zLz (aT Jh):=bg
theorem aa8{f:e_}{fd:iJ}(F:aV K "place_behind" "place_behind" Jh f fd)(O:yA K mg t u):ax P w K mg base aB 1 f fd zLz (QB t):=by
 refine F.ok abe (λvs H Q E h=>?_) λaL A _ s H vs Q E hr h=>?_
 ·refine kY h λz a dz s sz aa=>eh aa λra rg pl aa _=>?_;subst aa;rfl
 ·obtain⟨z,a,dz,s,sz,ra,rg,pl,aa,hz,aH⟩:=h;subst aa;refine iB aH λg jS ff q=>?_;refine let R1:TS:=_;let R2:TS:=_;⟨_,aD (b9 (PW.pt (pw_and (gF (cg lL rfl O.st.bl.lA kr (ae (pv 0) (ae (iq (v:=.ref t.lO) rfl O.st.LO rfl) ag)))) (pw_and1 (br dO (az aS (pv 2) (bu (pv 0) rfl)) aq (bf _))))) (pR R1 (aE (a8 (bu (pv 0) rfl)))) cD) (pR R2 (aE (a8 (bb jc (pv 1) aq)))),?_⟩
  refine af (LW O g hz) λD ty c6=>vr rfl (eY _ (.ref t.lO) _ (.ref t.lO) (gG _ rfl ty rfl c6.VU (tk (bq (λhs=>?_) λhs=>?_))))
  ·cases g with
   | skip r p h1 h2 h3=>
    have hz:H z=a_ (.ins (e8 t "skip") dz (iw (.ref a) "skip" ([r,p].map λ(n:Nat)=>V.int (n:Int)))):=hz;rw[Kr,aeq]at hz;have hg:rg[r]?=a_ (rg[r]'wg):=aX wg;have eg:rg.getD r 0=rg[r]'wg:=nv hg;refine vr rfl (vF rfl hz O.st.wH O.st.U9 (Fb dk) (rL (aj.of jS) (dA hg) ⟨rfl,⟨_,rfl,bq (λh0=>?_) λh0=>?_⟩⟩))
    ·have e:cY ("skip",[r,p]) rg pl=p:=by
      unfold cY;rw[if_pos ⟨rfl,by show rg.getD r 0=0;rw[eg];injection h0⟩];rfl
     rw[e]at q;exact vF rfl hz O.st.wH O.st.LL LR q
    ·have e:cY ("skip",[r,p]) rg pl=pl+1:=by
      unfold cY;rw[if_neg λh=>h0 (by have:=h.2;rw[<-show rg.getD r 0=rg[r]'wg from eg];show V.int (rg.getD r 0)=_;rw[show rg.getD r 0=0 from this])]
     rw[e]at q;exact ak _ rfl ⟨_,⟨_,rfl,rfl,q⟩⟩
   | put=>exact absurd (show ("put" : Str) = "skip" from hs) dk
   | add=>exact absurd (show ("add" : Str) = "skip" from hs) dk
   | set=>exact absurd (show ("set" : Str) = "skip" from hs) dk
   | look=>exact absurd (show ("look" : Str) = "skip" from hs) dk
   | swap=>exact absurd (show ("swap" : Str) = "skip" from hs) dk
   | clear=>exact absurd (show ("clear" : Str) = "skip" from hs) dk
  ·have e:cY s rg pl=pl+1:=by
    unfold cY;rw[if_neg λh=>hs h.1]
   rw[e]at q;exact ak _ rfl ⟨_,⟨_,rfl,rfl,q⟩⟩
end
end TL
namespace L2
open PySem PySem.Spec PyProof.Rows
theorem eV.NA{X:Cx}{ss:List Stmt}(h:eV X ss t)(hi:∀D σ H,t' D σ H->t D σ H):eV X ss t':=λp_ s σ H D I q=>h p_ s σ H D I (hi D σ H q)
end L2
namespace TL
open PySem PySem.Spec PyProof.Rows PySem.SeqAt L2 L3 L4
variable{P:l_}{w:k_}{K:PySem.W.Frag}{mg:Str->Option f_}{base:j_}
theorem Tc(a:e_)(r n:Nat):iw (.ref a) "look" ([r,n].map λ(n:Nat)=>V.int (n:Int))=aU "name" (.int (n:Nat)) (aU "reg" (.int (r:Nat)) (aU "parts" (.ref a) [])):=by kernel_rfl
theorem aep(a:e_)(r n:Nat):iw (.ref a) "swap" ([r,n].map λ(n:Nat)=>V.int (n:Int))=aU "name" (.int (n:Nat)) (aU "reg" (.int (r:Nat)) (aU "parts" (.ref a) [])):=by kernel_rfl
theorem zZ(n r:Nat)(a:e_):(aU "name" (.int (n:Nat)) (aU "reg" (.int (r:Nat)) (aU "parts" (.ref a) []))).lookup ("name" : Str)=a_ (V.int (n:Nat)):=by rw[gQ,if_pos rfl]
theorem LS(n r:Nat)(a:e_):(aU "name" (.int (n:Nat)) (aU "reg" (.int (r:Nat)) (aU "parts" (.ref a) []))).lookup ("reg" : Str)=a_ (V.int (r:Nat)):=by rw[gQ,if_neg dk,gQ,if_pos rfl]
section
variable{t:a9}{C CT:e_}{u:qf}
def SN(t:a9)(C CT:e_):Sp:=λvs H Q _=>∃m A S c k z dz a r n lab,vs=[.ref m,.int (c:Nat),.ref z]/\aY t C CT H m A S/\lu lab m A/\lY S/\S.ck[c]?=a_ k/\H z=a_ (.ins t.nF dz (iw (.ref a) "look" ([r,n].map λ(n:Nat)=>V.int (n:Int))))/\r<4/\n<12/\
 ∀H',aY t C CT H' m A (mz S c r n)->aF (bz m A) H H'->KL H H'->Q .aJ H'
theorem J3:ba ["self","clerk","step","setting"] zLh (aT K0):=bg
theorem acO(F:aV K "do_look" "Machine.do_look" K0 f fd)(cM:fb K C)(cT:oC K CT)(ST:tm K mg t)
  (GL:ax P w K mg base aB 1 fL vE zLj (SH CT)) (bL:Binds K vE zLj []) (mL:Meth K CT "latest" fL)
  (GB:ax P w K mg base aB 1 fB qZ zLj (JD t C CT)) (bB:Binds K qZ zLj []) (mB:Meth K C "on_board" fB):ax P w K mg base aB 2 f fd zLh (SN t C CT):=by
 refine F.ok J3 (λvs H Q E h=>?_) λaL A _ s H vs Q E hr h=>?_
 ·refine lF h λm A S c k z dz a r n aa=>af aa λlab aa _=>?_;subst aa;rfl
 ·refine lF h λm A S c k z dz a r n aa=>nA aa λlab aa M L W aH=>?_;subst aa;refine my aH λhk hz nQ hn q=>?_;refine let R1:TS:=_;let R2:TS:=_;let R3:TS:=_;let R4:TS:=_;⟨_,aD (bJ (i:=3) J3.nd rfl (aP rfl) (gm (az aS (bu (pv 0) rfl) (pv 1)) cT.cl mL GL hr bL .nil aR (ae (bu (pv 2) rfl) ag))) (pR R4 (aD (b9 (br LK (pv 3) lM (bf _)) (pR R1 (aE (bJ (i:=3) J3.nd rfl (aP rfl) (gm (pv 0) cM.cl mB GB hr bB .nil aR (ae (bu (pv 2) rfl) ag))))) cD) (eV.NA (t':=λD σ H1=>∃st x,σ=[a_ (.ref m),a_ (.int (c:Nat)),a_ (.ref z),a_ (.ref st)]/\H1 st=a_ (.tup [x,.int (cF S k n).1,oV (cF S k n).2])/\ai H H1/\∀σ' H',aY t C CT H' m A (mz S c r n)->aF (bz m A) H H'->KL H H'->D.nx σ' H') (pR R3 (aD (dg (jZ PySem.F.plainAttrs_list PySem.F.slot_list_append PySem.F.type_list_append ni (bu (pv 0) rfl) (ae (gu (ae cZ (ae (pv 1) (ae (bu (pv 2) rfl) (ae (az bh (pv 3) aq) (ae lM (ae (az bh (pv 3) aq) ag))))))) ag))) (pR R2 (aE (mm (az bh (pv 3) aq) (ow (az aS (bu (pv 0) rfl) (pv 1)) (bu (pv 2) rfl) set_list)))))) ?tl))),?_⟩
  case tl=>
   rintro D σ H1 ⟨st,x,rfl,dn,s1,q⟩;rw[Tc]at hz;have M1:=M.same s1;refine aW (id M1.obj) λdx fs hm G=>af M1.ac λws gY ig=>?_;have dG:=s1 _ _ hz;refine vF rfl hm cM.cl cM.dB G.dB ⟨.inl ⟨rfl,_,aj.of gY⟩,ak _ rfl (vF rfl dG ST.uP ST.E7 (zZ n r a) (dm (j:=1) rfl dn rfl (dm (j:=2) rfl dn rfl ⟨(sl (n:=6)),(λtp ht=>?_)⟩)))⟩;have s2:=aM (o:=.tup [.str "look",.int (c:Nat),.int (n:Nat),.int (cF S k n).1,.aJ,oV (cF S k n).2]) (ai.refl H1) ht;have kj:=Paired.length ig;have Gk:=W.ac;refine jb A.ac ws (.ref tp) rfl rfl (s2 _ _ gY) (by rw[kj,jl];exact wb) ?_;have M2:=Mh (M1.same s2) L (s2 _ _ gY) (x:=.ref tp) (a:=⟨"look",c,n,a_ (cF S k n).1,b_,(cF S k n).2⟩) ⟨tp,rfl,aA⟩;have t9:aF (bz m A) H (upd (upd H1 tp (.tup [.str "look",.int (c:Nat),.int (n:Nat),.int (cF S k n).1,.aJ,oV (cF S k n).2])) A.ac (.lst (ws++[.ref tp]))):=(aF.of s1).trans ((aF.of s2).trans (aF.upd .ac));have l2:KL H1 (upd (upd H1 tp (.tup [.str "look",.int (c:Nat),.int (n:Nat),.int (cF S k n).1,.aJ,oV (cF S k n).2])) A.ac (.lst (ws++[.ref tp]))):=(KL.of s2).trans (KL.upd (s2 _ _ gY));have sq:=l2 _ _ (λxs z=>by cases z) dG;have AA:=l2.tup _ _ dn;generalize upd (upd H1 tp (.tup [.str "look",.int (c:Nat),.int (n:Nat),.int (cF S k n).1,.aJ,oV (cF S k n).2])) A.ac (.lst (ws++[.ref tp]))=H2 at M2 t9 l2 sq AA ⊢;refine aW (id M2.obj) λxY qY nR G3=>af (M2.fw (k:=k) hk) λra jS ff=>?_;have dQ:=W.rg k (bo hk);refine dm (j:=1) rfl AA rfl (vF rfl nR cM.cl cM.fw G3.fw (vr rfl (rL (v:=.ref ra) (aj.of M2.rg) (dA jS) (vF rfl sq ST.uP ST.U' (LS n r a) (ml ra _ _ r rfl rfl ff (pD (by rw[aO,dQ];exact nQ)) ?_)))));have M3:=Fh M2 L (k:=k) hk jS r (cF S k n).1;refine q _ _ ?_ (t9.trans (aF.upd (.rs (bo jS)))) ((KL.of s1).trans (l2.trans (KL.upd ff)))
   have e:mz S c r n={ (fk S ⟨"look",c,n,a_ (cF S k n).1,b_,(cF S k n).2⟩)with ck:=S.ck.set c { k with rg:=k.rg.set r (cF S k n).1 } }:=by
    unfold mz;rw[hk];dsimp only;unfold eZ;rw[show (fk S ⟨"look",c,n,a_ (cF S k n).1,b_,(cF S k n).2⟩).ck[c]?=a_ k from hk];rfl
   rw[e];exact M3
  refine aW (id M.obj) λdx fs hm G=>af (M.wY hk) λx hx T=>gc (id T.obj) λsH qq ea e1 e2 e3 em el=>?_;have alN:=W.bounds hk;have HH:=hz;rw[Tc]at HH;refine vF rfl hm cM.cl cM.iU G.iU (vr rfl (rL (v:=.ref x.1) (aj.of M.lt) (Bv hx) (rM ea (em _ dk) (vF rfl HH ST.uP ST.E7 (zZ n r a) (⟨x.1,n,_,_,_,_,(⟨_,rfl,T,li,li,w4,(λiH=>?_),(λe st he dn=>?_)⟩)⟩)))))
  ·rw[jJ]at iH;refine ak _ rfl ⟨rfl,⟨_,rfl,bq (λ_=>?_) λy=>absurd rfl y⟩⟩;refine vM rfl hm (G.ms _ dk) (vF rfl HH ST.uP ST.E7 (zZ n r a) (oa m A S n rfl M hn W.bd W.ov λtp ht=>?_));have es:cF S k n=(S.bd.getD n 0,(S.ov.getD n []).getLast?):=by unfold cF;rw[iH]
   refine pU tp (.int (n:Nat)) rfl ?_ (aM (ai.refl H) ht) λσ' H' h1 h2 h3=>q H' h1 h2 h3;rw[aA,es];rfl
  ·rw[jJ]at he;refine ak _ rfl ⟨rfl,⟨_,rfl,bq (λy=>by cases y) λ_=>?_⟩⟩;have es:cF S k n=(e.num,a_ e.d):=by unfold cF;rw[he]
   exact pU st (.int e.n) rfl (by rw[es];exact dn) (ai.refl H) λσ' H' h1 h2 h3=>q H' h1 h2 h3
def SK(t:a9)(C CT:e_):Sp:=λvs H Q _=>∃m A S c k z dz a r n lab,vs=[.ref m,.int (c:Nat),.ref z]/\aY t C CT H m A S/\lu lab m A/\lY S/\vp S/\S.ck[c]?=a_ k/\H z=a_ (.ins t.nE dz (iw (.ref a) "swap" ([r,n].map λ(n:Nat)=>V.int (n:Int))))/\r<4/\n<12/\
 ∀H',aY t C CT H' m A (nC S c r n)->aF (bz m A) H H'->KL H H'->Q .aJ H'
theorem J0:ba ["self","clerk","step","gave","setting"] zLh (aT KW):=bg
theorem acM(F:aV K "do_swap" "Machine.do_swap" KW f fd)(cM:fb K C)(ST:tm K mg t)(dE:mg "len" = b_)
  (GB:ax P w K mg base aB 1 fB qZ zLj (JD t C CT)) (bB:Binds K qZ zLj []) (mB:Meth K C "on_board" fB)
  (GC:ax P w K mg base aB 1 fC jT zLC (Lq t C CT)) (bC:Binds K jT zLC []) (mC:Meth K C "come" fC):ax P w K mg base aB 2 f fd zLh (SK t C CT):=by
 refine F.ok J0 (λvs H Q E h=>?_) λaL A _ s H vs Q E hr h=>?_
 ·refine lF h λm A S c k z dz a r n aa=>af aa λlab aa _=>?_;subst aa;rfl
 ·refine lF h λm A S c k z dz a r n aa=>nA aa λlab aa M L W aH=>?_;subst aa;refine iO aH λjH hk hz nQ hn q=>?_;refine let R1:TS:=_;let R2:TS:=_;let R3:TS:=_;let R4:TS:=_;⟨_,aD (bJ (i:=3) J0.nd rfl (aP rfl) (az aS (az aS (bu (pv 0) rfl) (pv 1)) (bu (pv 2) rfl))) (pR R4 (aD (bJ (i:=4) J0.nd rfl (aP rfl) (gm (pv 0) cM.cl mB GB hr bB .nil aR (ae (bu (pv 2) rfl) ag))) (pR R3 (aD (dg (gm (pv 0) cM.cl mC GC hr bC .nil aR (ae (gu (ae (bu (pv 2) rfl) (ae (pv 3) (ae (cg fg rfl dE PySem.boot_len (ae (bu (pv 0) rfl) ag)) ag)))) ag))) (pR R2 (aD (dg (jZ PySem.F.plainAttrs_list PySem.F.slot_list_append PySem.F.type_list_append ni (bu (pv 0) rfl) (ae (gu (ae cZ (ae (pv 1) (ae (bu (pv 2) rfl) (ae (az bh (pv 4) aq) (ae (pv 3) (ae (az bh (pv 4) aq) ag))))))) ag))) (pR R1 (aE (mm (az bh (pv 4) aq) (ow (az aS (bu (pv 0) rfl) (pv 1)) (bu (pv 2) rfl) set_list)))))))))),?_⟩
  rw[aep]at hz;refine aW (id M.obj) λdx fs hm G=>af (M.fw hk) λra jS ff=>?_;have dQ:=W.rg k (bo hk);have hg:k.rg[r]?=a_ (k.rg[r]'wg):=aX wg;have eg:k.rg.getD r 0=k.rg[r]'wg:=nv hg;refine vF rfl hm cM.cl cM.fw G.fw (vr rfl (rL (v:=.ref ra) (aj.of M.rg) (dA jS) (vF rfl hz ST.tj ST.LM (LS n r a) (rL (aj.of ff) (dA hg) ?_))));generalize k.rg[r]'wg=g at eg;refine vM rfl hm (G.ms _ dk) (vF rfl hz ST.tj ST.E6 (zZ n r a) (oa m A S n rfl M hn W.bd W.ov λst alo=>?_));have s1:=aM (o:=.tup (Cd S n)) (ai.refl H) alo;have dn:upd H st (.tup (Cd S n)) st=a_ (.tup [.int (n:Nat),.int (S.bd.getD n 0),oV (S.ov.getD n []).getLast?]):=aA;have M1:=M.same s1;generalize upd H st (.tup (Cd S n))=H1 at s1 dn M1 ⊢;refine af M1.ac λws gY ig=>?_;have kj:=Paired.length ig;have Gk:=W.ac;refine vM rfl (s1 _ _ hm) (G.ms _ dk) (vF rfl (s1 _ _ hz) ST.tj ST.E6 (zZ n r a) (vr rfl (vF rfl (s1 _ _ hm) cM.cl cM.dB G.dB (pU A.ac ws rfl (.inl (aj.of gY)) (sl (n:=3)) λtp ht=>?_))));have s2:=aM (o:=.tup [.int (n:Nat),.int g,.int (ws.length:Nat)]) (ai.refl H1) ht;refine⟨m,A,S,tp,n,g,(ws.length:Nat),lab,rfl,(M1.same s2),L,aA,hn,W.bd,(eM W.ov jH λH2 M2 k2 l2=>?_)⟩;have OH:=(KL.of s2).trans l2;have sq:=OH _ _ (λxs z=>by cases z) (s1 _ _ hz);have AA:=OH.tup _ _ dn;refine aW (id M2.obj) λxY qY nR G3=>af M2.ac λCZ mQ CI=>?_;have ald:CZ.length=S.ac.length:=Paired.length CI;refine ak _ rfl (eY m C xY qY (⟨_,rfl,nR,cM.cl,cM.dB,G3.dB,(.inl ⟨rfl,_,aj.of mQ⟩),(ak _ rfl (vF rfl sq ST.tj ST.E6 (zZ n r a) (dm (j:=1) rfl AA rfl (vr rfl (dm (j:=2) rfl AA rfl ⟨(sl (n:=6)),(λtq hq=>?_)⟩)))))⟩));have s3:=aM (o:=.tup [.str "swap",.int (c:Nat),.int (n:Nat),.int (S.bd.getD n 0),.int g,oV (S.ov.getD n []).getLast?]) (ai.refl H2) hq;refine jb A.ac CZ (.ref tq) rfl rfl (s3 _ _ mQ) (by rw[ald,jl];exact wb) ?_;have M3:=Mh (M2.same s3) L (s3 _ _ mQ) (x:=.ref tq) (a:=⟨"swap",c,n,a_ (S.bd.getD n 0),a_ g,(S.ov.getD n []).getLast?⟩) ⟨tq,rfl,aA⟩;have YS:aF (bz m A) H (upd (upd H2 tq (.tup [.str "swap",.int (c:Nat),.int (n:Nat),.int (S.bd.getD n 0),.int g,oV (S.ov.getD n []).getLast?])) A.ac (.lst (CZ++[.ref tq]))):=((aF.of s1).trans ((aF.of s2).trans k2)).trans ((aF.of s3).trans (aF.upd .ac));have l3:KL H2 (upd (upd H2 tq (.tup [.str "swap",.int (c:Nat),.int (n:Nat),.int (S.bd.getD n 0),.int g,oV (S.ov.getD n []).getLast?])) A.ac (.lst (CZ++[.ref tq]))):=(KL.of s3).trans (KL.upd (s3 _ _ mQ));have HG:=l3 _ _ (λxs z=>by cases z) sq;have W7:=l3.tup _ _ AA;generalize upd (upd H2 tq (.tup [.str "swap",.int (c:Nat),.int (n:Nat),.int (S.bd.getD n 0),.int g,oV (S.ov.getD n []).getLast?])) A.ac (.lst (CZ++[.ref tq]))=H3 at M3 YS l3 HG W7 ⊢;refine aW (id M3.obj) λdx4 Zx A2 G4=>af (M3.fw (k:=k) hk) λYk NS W9=>dm (j:=1) rfl W7 rfl (vF rfl A2 cM.cl cM.fw G4.fw (vr rfl (rL (v:=.ref Yk) (aj.of M3.rg) (dA NS) (vF rfl HG ST.tj ST.LM (LS n r a) (ml Yk _ _ r rfl rfl W9 (pD (by rw[aO,dQ];exact nQ)) ?_)))));have M4:=Fh M3 L (k:=k) hk NS r (S.bd.getD n 0);refine q _ ?_ (YS.trans (aF.upd (.rs (bo NS)))) ((KL.of s1).trans (OH.trans (l3.trans (KL.upd W9))))
  have e:nC S c r n={ (fk (kJ S n g (ws.length:Nat)) ⟨"swap",c,n,a_ (S.bd.getD n 0),a_ g,(S.ov.getD n []).getLast?⟩)with ck:=S.ck.set c { k with rg:=k.rg.set r (S.bd.getD n 0) } }:=by
   unfold nC;rw[hk];dsimp only;rw[eg,kj];unfold eZ;rw[show (fk (kJ S n g (S.ac.length:Nat)) ⟨"swap",c,n,a_ (S.bd.getD n 0),a_ g,(S.ov.getD n []).getLast?⟩).ck[c]?=a_ k from hk];rfl
  rw[e];exact M4
end
section
variable{S:Mc}{c:Nat}{k:Ck}
structure WQ(S S':Mc)(c:Nat)(k k':Ck):Prop where
 at':S'.ck[c]?=a_ k'
 pl:k'.pl=k.pl
 ct:k'.ct=k.ct
 rg:k'.rg.length=k.rg.length
theorem EO{r:Nat}{v:Int}(hk:S.ck[c]?=a_ k):WQ S (eZ S c r v) c k { k with rg:=k.rg.set r v }:=by
 have e:eZ S c r v={ S with ck:=S.ck.set c { k with rg:=k.rg.set r v } }:=by unfold eZ;rw[hk]
 rw[e];exact⟨jz (dX.mp hk).1,rfl,rfl,kv⟩
theorem ahC{sz:Nat}(g:dH sz s)(hk:S.ck[c]?=a_ k):∃k',WQ S (aZ S c s) c k k':=by
 have hc:c<S.ck.length:=(dX.mp hk).1;cases g with
 | put r n h1 h2=>exact⟨_,EO hk⟩
 | add r o h1 h2=>
  have e:aZ S c ("add",[r,o])=eZ S c r ((k.rg.getD r 0+k.rg.getD o 0)%jD):=by
   unfold aZ;rw[if_neg (show ¬("add" : Str) = "put" from dk),if_pos rfl,hk];rfl
  rw[e];exact⟨_,EO hk⟩
 | set n r h1 h2=>
  have e:aZ S c ("set",[n,r])=setM S c n r:=by kernel_rfl
  rw[e];unfold setM;rw[hk];dsimp only
  split
  ·unfold jo;rw[show (fk (tL S c n k (k.rg.getD r 0)) ⟨"set",c,n,b_,a_ (k.rg.getD r 0),b_⟩).ck[c]?=a_ { k with tn:=k.tn+1,es:=k.es++[⟨k.tn,n,k.rg.getD r 0,S.ac.length⟩] } from jz hc];dsimp only
   split
   ·exact⟨_,⟨jz hc,rfl,rfl,rfl⟩⟩
   ·exact⟨{ k with tn:=k.tn+1,es:=lp (k.es++[⟨k.tn,n,k.rg.getD r 0,S.ac.length⟩]) n },⟨jz (by show c<(S.ck.set c _).length;rw[kv];exact hc),rfl,rfl,rfl⟩⟩
  ·exact⟨_,⟨jz hc,rfl,rfl,rfl⟩⟩
 | look r n h1 h2=>
  have e:aZ S c ("look",[r,n])=eZ (fk S ⟨"look",c,n,a_ (cF S k n).1,b_,(cF S k n).2⟩) c r (cF S k n).1:=by
   unfold aZ;rw[if_neg (show ¬("look" : Str) = "put" from dk),if_neg (show ¬("look" : Str) = "add" from dk),if_neg (show ¬("look" : Str) = "set" from dk),if_pos rfl];show mz S c r n=_;unfold mz;rw[hk]
  rw[e];have r:=EO (S:=fk S ⟨"look",c,n,a_ (cF S k n).1,b_,(cF S k n).2⟩) (r:=r) (v:=(cF S k n).1) hk;exact⟨_,⟨r.at',r.pl,r.ct,r.rg⟩⟩
 | swap r n h1 h2=>
  have e:aZ S c ("swap",[r,n])=eZ (fk (kJ S n (k.rg.getD r 0) S.ac.length) ⟨"swap",c,n,a_ (S.bd.getD n 0),a_ (k.rg.getD r 0),(S.ov.getD n []).getLast?⟩) c r (S.bd.getD n 0):=by
   unfold aZ;rw[if_neg (show ¬("swap" : Str) = "put" from dk),if_neg (show ¬("swap" : Str) = "add" from dk),if_neg (show ¬("swap" : Str) = "set" from dk),if_neg (show ¬("swap" : Str) = "look" from dk),if_pos rfl];show nC S c r n=_;unfold nC;rw[hk]
  rw[e];have r:=EO (S:=fk (kJ S n (k.rg.getD r 0) S.ac.length) ⟨"swap",c,n,a_ (S.bd.getD n 0),a_ (k.rg.getD r 0),(S.ov.getD n []).getLast?⟩) (r:=r) (v:=(S.bd.getD n 0)) hk;exact⟨_,⟨r.at',r.pl,r.ct,r.rg⟩⟩
 | clear=>
  have e:aZ S c ("clear",[])=S:=by kernel_rfl
  rw[e];exact⟨k,⟨hk,rfl,rfl,rfl⟩⟩
 | skip r q h1 h2 h3=>
  have e:aZ S c ("skip",[r,q])=S:=by kernel_rfl
  rw[e];exact⟨k,⟨hk,rfl,rfl,rfl⟩⟩
end
section
variable{t:a9}{C CT:e_}{u:qf}
def SM(t:a9)(C CT PT:e_):Sp:=λvs H Q _=>∃m A S c k p s sz lab,vs=[.ref m,.int (c:Nat)]/\aY t C CT H m A S/\lu lab m A/\lY S/\vp S/\cq PT LP LQ H/\S.ck[c]?=a_ k/\S.ps[c]?=a_ p/\p[k.pl]?=a_ s/\dH sz s/\
 ∀H',aY t C CT H' m A (eR S c)->aF (bz m A) H H'->cq PT LP LQ H'->Q .aJ H'
theorem J1:ba ["self","clerk","step","regs"] zLa (aT KY):=bg
theorem ou{c r:Nat}{v:Int}(hk:S.ck[c]?=a_ k):eZ S c r v={ S with ck:=S.ck.set c { k with rg:=k.rg.set r v } }:=by unfold eZ;rw[hk]
theorem acN{f fP fS fL fW PT:e_}(F:aV K "do_step" "Machine.do_step" KY f fd)(cM:fb K C)(O:yA K mg t u)
  (GP:ax P w K mg base aB 1 fP PC zLz (QB t)) (kP:PySem.W.keepIn K (.ref fP)=c_) (bP:Binds K PC zLz []) (mP:mg "place_behind" = a_ (.ref fP))
  (GS:ax P w K mg base aB 5 fS jQ zLh (TB t C CT PT)) (bS:Binds K jQ zLh []) (mS:Meth K C "do_set" fS)
  (GL:ax P w K mg base aB 2 fL vE zLh (SN t C CT)) (bL:Binds K vE zLh []) (mL:Meth K C "do_look" fL)
  (GW:ax P w K mg base aB 2 fW qb zLh (SK t C CT)) (bW:Binds K qb zLh []) (mW:Meth K C "do_swap" fW):ax P w K mg base aB 6 f fd zLa (SM t C CT PT):=by
 refine af O.st.cn.top λuT mT rT=>F.ok J1 (λvs H Q E h=>?_) λaL A _ s H vs Q E hr h=>?_
 ·obtain⟨m,A,S,c,k,p,s,sz,lab,aa,_⟩:=h;subst aa;rfl
 ·obtain⟨m,A,S,c,k,p,st,sz,lab,aa,aH⟩:=h;subst aa;refine iO aH λM L W jH hL aa=>my aa λhk hp hs g q=>?_;have cX:=hr.mono (show 1<=5 by decide);have ji:=hr.mono (show 2<=5 by decide);refine af (M.fw hk) λra jS ff=>?_;have dQ:=W.rg k (bo hk);refine BX (M.part hp) λvs b us h1 h2 h3 h4=>af (jU h4 hs) λv hv aa=>eh aa λz a dz aa hz=>?_;subst aa;have aly:=M.aeS hz
  have xS:eR S c=pF (aZ S c st) c st:=by
   unfold eR;rw[hk,hp];dsimp only;rw[hs]
  refine let R1:TS:=_;let R2:TS:=_;let R3:TS:=_;let R4:TS:=_;let R5:TS:=_;let R6:TS:=_;let R7:TS:=_;let R8:TS:=_;let R9:TS:=_;let ij:TS:=_;let qt:TS:=_;let zk:TS:=_;let zh:TS:=_;⟨_,aD (bJ (i:=2) J1.nd rfl (aP rfl) (az bh (az bh (bu (pv 0) rfl) (pv 1)) (az aS (bu (pv 0) rfl) (pv 1)))) (pR zh (aD (bJ (i:=3) J1.nd rfl (aP rfl) (az aS (bu (pv 0) rfl) (pv 1))) (pR zk (aD (b9 (gF (cg lL rfl O.st.bl.lA kr (ae (pv 2) (ae (iq (v:=.ref t.oK) rfl O.st.V4 rfl) ag)))) (pR R1 (aE (mm (bu (pv 2) rfl) (ow (pv 3) (bu (pv 2) rfl) set_list)))) (pR R9 (aE (b9 (gF (cg lL rfl O.st.bl.lA kr (ae (pv 2) (ae (iq (v:=.ref t.oM) rfl O.st.V5 rfl) ag)))) (pR R2 (aE (mm (bb iN (bb jc (az aS (pv 3) (bu (pv 2) rfl)) (az aS (pv 3) (bu (pv 2) rfl))) (iq rfl mT rT)) (ow (pv 3) (bu (pv 2) rfl) set_list)))) (pR R8 (aE (b9 (gF (cg lL rfl O.st.bl.lA kr (ae (pv 2) (ae (iq (v:=.ref t.mI) rfl O.st.V3 rfl) ag)))) (pR R3 (aE (dg (gm (pv 0) cM.cl mS GS hr bS .nil aR (ae (pv 1) (ae (pv 2) ag)))))) (pR R7 (aE (b9 (gF (cg lL rfl O.st.bl.lA kr (ae (pv 2) (ae (iq (v:=.ref t.nF) rfl O.st.Vb rfl) ag)))) (pR R4 (aE (dg (gm (pv 0) cM.cl mL GL ji bL .nil aR (ae (pv 1) (ae (pv 2) ag)))))) (pR R6 (aE (b9 (gF (cg lL rfl O.st.bl.lA kr (ae (pv 2) (ae (iq (v:=.ref t.nE) rfl O.st.Va rfl) ag)))) (pR R5 (aE (dg (gm (pv 0) cM.cl mW GW ji bW .nil aR (ae (pv 1) (ae (pv 2) ag))))))
         cD)))))))))))))
   (eV.NA (t':=λD σ H1=>σ=[a_ (.ref m),a_ (.int (c:Nat)),a_ (.ref z),a_ (.ref ra)]/\aY t C CT H1 m A (aZ S c st)/\aF (bz m A) H H1/\cq PT LP LQ H1/\∀σ' H',aY t C CT H' m A (eR S c)->aF (bz m A) H H'->cq PT LP LQ H'->D.nx σ' H') (pR qt (aD (mm (dr GP cX rfl mP kP bP .nil aR (ae (pv 2) (ae (az aS (bu (pv 0) rfl) (pv 1)) (ae (pv 3) ag)))) (ow (bu (pv 0) rfl) (pv 1) set_list)) (pR ij (aE (afi (bu (pv 0) rfl) (pv 1) aei aq ahl set_list))))) ?tl))))),?_⟩
  case tl=>
   rintro D σ H1 ⟨rfl,M1,k1,ko,q⟩;refine oE (ahC g hk) λk' ef=>aW (id M1.obj) λdx fs hm G=>?_;have dG:=k1.k z _ aly (λps y=>by cases y) hz;refine af (M1.fw ef.at') λYl W' alr=>?_;have era:Yl=ra:=by rw[jS]at W';exact(dq W').symm
   subst era;have hc:c<(aZ S c st).ck.length:=(dX.mp ef.at').1;refine vr rfl (vF rfl hm cM.cl cM.places G.places (vr rfl (rL (aj.of M1.pl) (dA (f:=λk:Ck=>V.int (k.pl:Nat)) ef.at') (vr rfl (⟨z,a,dz,st,sz,Yl,k'.rg,k'.pl,rfl,dG,g,alr,(by rw[ef.rg];exact dQ),(vF rfl hm cM.cl cM.places G.places (vr rfl (ml A.pl _ _ c rfl rfl M1.pl (pD (by rw[aO];exact hc)) ?_)))⟩)))));have M2:=ail M1 L ef.at' (cY st k'.rg k'.pl);have k2:aF (bz m A) H1 (upd H1 A.pl (.lst (((aZ S c st).ck.map λk=>V.int (k.pl:Nat)).set c (.int (cY st k'.rg k'.pl:Nat))))):=aF.upd .pl;have l2:KL H1 (upd H1 A.pl (.lst (((aZ S c st).ck.map λk=>V.int (k.pl:Nat)).set c (.int (cY st k'.rg k'.pl:Nat))))):=KL.upd M1.pl;generalize upd H1 A.pl (.lst (((aZ S c st).ck.map λk=>V.int (k.pl:Nat)).set c (.int (cY st k'.rg k'.pl:Nat))))=H2 at M2 k2 l2 ⊢;refine aW (id M2.obj) λxY qY nR G3=>?_;have e2:((aZ S c st).ck.set c { k' with pl:=cY st k'.rg k'.pl })[c]?=a_ { k' with pl:=cY st k'.rg k'.pl }:=jz hc;refine ak _ rfl (eY m C xY qY (jY _ rfl nR cM.cl cM.counts G3.counts (vr rfl (ml A.ct _ c (.int (k'.ct:Nat)) rfl rfl M2.ct (by rw[f9,e2];rfl) ⟨_,_,rfl,rfl,A.ct,_,_,c,rfl,rfl,M2.ct,pD (by rw[aO,kv];exact hc),?_⟩))));have M3:=ain M2 L e2 (k'.ct+1);refine q _ _ ?_ ((k1.trans k2).trans (aF.upd .ct)) ((l2.trans (KL.upd M2.ct)).lam ko);rw[xS]
   have e:pF (aZ S c st) c st={ (aZ S c st)with ck:=((aZ S c st).ck.set c { k' with pl:=cY st k'.rg k'.pl }).set c { k' with pl:=cY st k'.rg k'.pl,ct:=k'.ct+1 } }:=by
    unfold pF;rw[ef.at',vU]
   rw[e];exact M3
  refine aW (id M.obj) λdx fs hm G=>vF rfl hm cM.cl cM.steps G.steps (vr rfl (ml A.st _ _ (.ref b) rfl rfl (aI.of h1) (cb h2) (vF rfl hm cM.cl cM.places G.places (vr rfl (rL (aj.of M.pl) (dA (f:=λk:Ck=>V.int (k.pl:Nat)) hk) (ml b _ _ (.ref z) rfl rfl (aI.of h3) (cb hv) (ak _ rfl (eY m C dx fs (jY _ rfl hm cM.cl cM.fw G.fw (vr rfl (rL (v:=.ref ra) (aj.of M.rg) (dA jS) (af (LW O g hz) λD ty c6=>vr rfl (eY _ (.ref t.oK) _ (.ref t.oK) (gG _ rfl ty rfl c6.akB (tk (bq (λh=>?_) λn1=>?_))))))))))))))))
  ·cases g with
   | put r n g1 g2=>
    have hz:H z=a_ (.ins (e8 t "put") dz (iw (.ref a) "put" ([r,n].map λ(n:Nat)=>V.int (n:Int)))):=hz;rw[Lf,aga]at hz;refine vF rfl hz O.st.yv O.st.V0 LR (vr rfl (vF rfl hz O.st.yv O.st.V2 (Fb dk) (ml ra _ _ r rfl rfl ff (pD (by rw[aO,dQ];exact g1)) (⟨rfl,?_,(aF.upd (.rs (bo jS))),((KL.upd ff).lam hL),(λσ' H' h1 h2 h3=>q H' h1 h2 h3)⟩))));have e:aZ S c ("put",[r,n])=eZ S c r (n:Nat):=rfl;rw[e,ou hk];exact Fh M L hk jS r (n:Nat)
   | add=>exact absurd (show ("add" : Str) = "put" from h) dk
   | set=>exact absurd (show ("set" : Str) = "put" from h) dk
   | look=>exact absurd (show ("look" : Str) = "put" from h) dk
   | swap=>exact absurd (show ("swap" : Str) = "put" from h) dk
   | clear=>exact absurd (show ("clear" : Str) = "put" from h) dk
   | skip=>exact absurd (show ("skip" : Str) = "put" from h) dk
  refine vr rfl (eY _ (.ref t.oM) _ (.ref t.oM) (gG _ rfl ty rfl c6.akC (tk (bq (λh=>?_) λn2=>?_))))
  ·cases g with
   | add r o g1 g2=>
    have hz:H z=a_ (.ins (e8 t "add") dz (iw (.ref a) "add" ([r,o].map λ(n:Nat)=>V.int (n:Int)))):=hz;rw[Lg,agb]at hz;have ud:k.rg[r]?=a_ (k.rg[r]'wg):=aX wg;have A3:k.rg[o]?=a_ (k.rg[o]'wg):=aX wg;have eg1:k.rg.getD r 0=k.rg[r]'wg:=nv ud;have eg2:k.rg.getD o 0=k.rg[o]'wg:=nv A3;refine vr rfl (vF rfl hz O.st.wQ O.st.MG (Fb dk) (rL (aj.of ff) (dA ud) (vr rfl (vF rfl hz O.st.wQ O.st.V1 LR (rL (aj.of ff) (dA A3) ⟨_,⟨_,rfl,rfl,_,_,rfl,rfl,by show (0:Int)<jD;decide +kernel,vr rfl (vF rfl hz O.st.wQ O.st.MG (Fb dk) (ml ra _ _ r rfl rfl ff (pD (by rw[aO,dQ];exact g1)) (⟨rfl,?_,(aF.upd (.rs (bo jS))),((KL.upd ff).lam hL),(λσ' H' h1 h2 h3=>q H' h1 h2 h3)⟩)))⟩⟩)))))
    have e:aZ S c ("add",[r,o])=eZ S c r ((k.rg[r]'wg+k.rg[o]'wg)%jD):=by
     unfold aZ;rw[if_neg (show ¬("add" : Str) = "put" from dk),if_pos rfl,hk];show eZ S c r ((k.rg.getD r 0+k.rg.getD o 0)%jD)=_;rw[eg1,eg2]
    rw[e,ou hk];exact Fh M L hk jS r _
   | put=>exact absurd (show ("put" : Str) = "add" from h) dk
   | set=>exact absurd (show ("set" : Str) = "add" from h) dk
   | look=>exact absurd (show ("look" : Str) = "add" from h) dk
   | swap=>exact absurd (show ("swap" : Str) = "add" from h) dk
   | clear=>exact absurd (show ("clear" : Str) = "add" from h) dk
   | skip=>exact absurd (show ("skip" : Str) = "add" from h) dk
  refine vr rfl (eY _ (.ref t.mI) _ (.ref t.mI) (gG _ rfl ty rfl c6.akA (tk (bq (λh=>?_) λn3=>?_))))
  ·cases g with
   | set n r g1 g2=>
    have hz:H z=a_ (.ins (e8 t "set") dz (iw (.ref a) "set" ([n,r].map λ(n:Nat)=>V.int (n:Int)))):=hz;rw[Le]at hz;refine vM rfl hm (G.ms _ dk) (vr rfl (vr rfl ⟨m,⟨A,S,c,k,z,dz,a,n,r,lab,rfl,M,L,W,jH,hL,hk,hz,g1,g2,λH1 M1 k1 ko=>⟨rfl,?_,k1,ko,(λσ' H' h1 h2 h3=>q H' h1 h2 h3)⟩⟩⟩));have e:aZ S c ("set",[n,r])=setM S c n r:=by kernel_rfl
    rw[e];exact M1
   | put=>exact absurd (show ("put" : Str) = "set" from h) dk
   | add=>exact absurd (show ("add" : Str) = "set" from h) dk
   | look=>exact absurd (show ("look" : Str) = "set" from h) dk
   | swap=>exact absurd (show ("swap" : Str) = "set" from h) dk
   | clear=>exact absurd (show ("clear" : Str) = "set" from h) dk
   | skip=>exact absurd (show ("skip" : Str) = "set" from h) dk
  refine vr rfl (eY _ (.ref t.nF) _ (.ref t.nF) (gG _ rfl ty rfl c6.aiJ (tk (bq (λh=>?_) λn4=>?_))))
  ·cases g with
   | look r n g1 g2=>
    have hz:H z=a_ (.ins (e8 t "look") dz (iw (.ref a) "look" ([r,n].map λ(n:Nat)=>V.int (n:Int)))):=hz;rw[Ks]at hz;refine vM rfl hm (G.ms _ dk) (vr rfl (vr rfl ⟨m,⟨A,S,c,k,z,dz,a,r,n,lab,rfl,M,L,W,hk,hz,g1,g2,λH1 M1 k1 l1=>⟨rfl,?_,k1,(l1.lam hL),(λσ' H' h1 h2 h3=>q H' h1 h2 h3)⟩⟩⟩));have e:aZ S c ("look",[r,n])=mz S c r n:=by kernel_rfl
    rw[e];exact M1
   | put=>exact absurd (show ("put" : Str) = "look" from h) dk
   | add=>exact absurd (show ("add" : Str) = "look" from h) dk
   | set=>exact absurd (show ("set" : Str) = "look" from h) dk
   | swap=>exact absurd (show ("swap" : Str) = "look" from h) dk
   | clear=>exact absurd (show ("clear" : Str) = "look" from h) dk
   | skip=>exact absurd (show ("skip" : Str) = "look" from h) dk
  refine vr rfl (eY _ (.ref t.nE) _ (.ref t.nE) (gG _ rfl ty rfl c6.aiI (tk (bq (λh=>?_) λn5=>?_))))
  ·cases g with
   | swap r n g1 g2=>
    have hz:H z=a_ (.ins (e8 t "swap") dz (iw (.ref a) "swap" ([r,n].map λ(n:Nat)=>V.int (n:Int)))):=hz;rw[Kq]at hz;refine vM rfl hm (G.ms _ dk) (vr rfl (vr rfl ⟨m,⟨A,S,c,k,z,dz,a,r,n,lab,rfl,M,L,W,jH,hk,hz,g1,g2,λH1 M1 k1 l1=>⟨rfl,?_,k1,(l1.lam hL),(λσ' H' h1 h2 h3=>q H' h1 h2 h3)⟩⟩⟩));have e:aZ S c ("swap",[r,n])=nC S c r n:=by kernel_rfl
    rw[e];exact M1
   | put=>exact absurd (show ("put" : Str) = "swap" from h) dk
   | add=>exact absurd (show ("add" : Str) = "swap" from h) dk
   | set=>exact absurd (show ("set" : Str) = "swap" from h) dk
   | look=>exact absurd (show ("look" : Str) = "swap" from h) dk
   | clear=>exact absurd (show ("clear" : Str) = "swap" from h) dk
   | skip=>exact absurd (show ("skip" : Str) = "swap" from h) dk
  have e:aZ S c st=S:=by
   unfold aZ;rw[if_neg n1,if_neg n2,if_neg n3,if_neg n4,if_neg n5]
  exact⟨rfl,(by rw[e];exact M),(aF.refl H),hL,(λσ' H' h1 h2 h3=>q H' h1 h2 h3)⟩
end
def Cm:List V->Bool
 | .str _::r=>r.all sg
 | _=>d_
theorem S7:∀{r:List V},r.all sg=c_->∃is:List Int,r=is.map V.int
 | [],_=>⟨[],rfl⟩
 | x::r,h=>by
  rw[zC,i9]at h;refine oE (S7 h.2) λis aa=>?_;subst aa;cases x with
  | int i=>exact⟨i::is,rfl⟩
  | _=>cases h.1
theorem Uy:∀is:List Int,(is.map V.int).all sg=c_
 | []=>rfl
 | i::is=>by rw[gK,zC,Uy is];rfl
theorem af8(h:Cm xs=c_):∃mv,xs=lW mv:=by
 cases xs with
 | nil=>cases h
 | cons x r=>
  cases x with
  | str x=>
   refine oE (S7 (show r.all sg=c_ from h)) λis aa=>?_;subst aa;exact⟨(x,is),rfl⟩
  | _=>cases h
theorem afR(mv:Mv):Cm (lW mv)=true:=Uy mv.2
theorem uD(h:lW a=lW b):a=b:=by
 obtain⟨x,is⟩:=a;obtain⟨y,js⟩:=b;unfold lW at h;injection h with h1 h2
 injection h1 with h1
 have e:∀(is js:List Int),is.map V.int=js.map V.int->is=js:=by
  intro is
  induction is with
  | nil=>intro js h;cases js with
   | nil=>rfl
   | cons _ _=>cases h
  | cons i is ih=>intro js h;cases js with
   | nil=>cases h
   | cons j js=>
    rw[gK,gK]at h;injection h with h1 h2
    injection h1 with h1
    rw[h1,ih js h2]
 rw[show x=y from h1,e is js h2]
def p9(mv:Mv):PyData:=.tuple (.str mv.1::mv.2.map lI)
theorem Te:∀l m:List Int,Bs (l.map lI) (m.map lI)=decide (l=m)
 | [],[]=>by simp[Bs]
 | [],_::_=>by simp[Bs]
 | _::_,[]=>by simp[Bs]
 | a::l,b::m=>by
  rw[gK,gK];simp only[Bs,ux];rw[Te l m]
  by_cases h1:a=b
  ·subst h1
   by_cases h2:l=m
   ·subst h2;simp
   ·simp[h2]
  ·simp[h1]
theorem ahw(a b:Mv):ux (p9 a) (p9 b)=decide (a=b):=by
 obtain⟨x,is⟩:=a;obtain⟨y,js⟩:=b;unfold p9;simp only[ux,Bs];rw[Te]
 by_cases h1:x=y
 ·subst h1
  by_cases h2:is=js
  ·subst h2;simp
  ·simp[h2]
 ·simp[h1]
theorem ahO(l:List Mv)(b:Mv):(l.map p9).any (λd=>ux d (p9 b))=decide (b∈l):=by
 induction l with
 | nil=>simp
 | cons a l ih=>
  rw[gK,zB,ih,ahw]
  by_cases h:a=b
  ·subst h;simp
  ·have h':¬b=a:=λz=>h z.symm;simp[h,h']
theorem JK(h:nY mv.1=c_):shaped (p9 mv)=true:=by
 unfold p9 shaped;rw[i9];refine⟨?_,decide_eq_true ?_⟩
 ·simp only[sM,sJ];rw[h,zD];exact zP λa _=>rfl
 ·have h:=v5 (f:=lI) (k:=1) (l:=mv.2) (λa _=>by simp[pj]);simp only[pj,rF];lia
theorem Jx{K:W.Frag}:∀is:List Int,oF K H (is.map V.int) (is.map lI)
 | []=>.nil
 | i::is=>.cons (.int i) (Jx is)
theorem LN{K:W.Frag}(h:H p=a_ (.tup (lW mv))):iE K H (.ref p) (p9 mv):=.tup (aI.of h) (.cons (.str mv.1) (Jx mv.2))
section
variable{t:a9}{C CT:e_}{u:qf}
def US:Sp:=λvs H Q _=>∃p xs,vs=[.ref p]/\H p=a_ (.tup xs)/\(∀x∈xs,∃T,tyName H x=a_ T)/\xs.length<=1000/\∀H',ai H H'->Q (.bl (Cm xs)) H'
theorem agz:ba ["move"] ["move"] (aT Mw):=bg
theorem ad2:(["part"]:List Str).Nodup:=dk
theorem afB(F:aV K "has_form_of_move" "has_form_of_move" Mw f fd)(T:tm K mg t):ax P w K mg base aB 2 f fd ["move"] US:=by
 have GW:ax P w K mg base aB 1 t.fW t.qb zLF EK:=Kh T.CQ T.bl;refine F.ok agz (λvs H Q E h=>?_) λaL A _ s H vs Q E hr h=>?_
 ·refine aW h λp xs aa _=>?_;clear h;subst aa;rfl
 ·obtain⟨a,xs,aa,ha,sr,hl,k⟩:=h;subst aa;have B:=T.bl
  refine let R1:TS:=_;⟨_,aD (b9 (PW.pt (pw_or (kQ (gF (cg lL rfl B.lA kr (ae (pv 0) (ae (qH (v:=.ty "tuple") rfl B.tuple vY rfl) ag))))) (pw_or (br dO (cg fg rfl B.len PySem.boot_len (ae (pv 0) ag)) aq (bf _)) (pw_or1 (kQ (gF (cg lL rfl B.lA kr (ae (az bh (pv 0) aq) (ae (qH (v:=.ty "str") rfl B.str boot_str rfl) ag))))))))) (aE (a8 nD)) cD) (pR R1 (aE (a8 (cg (BO rfl) rfl B.all ED (ae (jX (N:=["part"]) (idx:=[]) rfl (eT.of (by kernel_rfl)) (jV (cy _))
    (uJ (og Ls (pv 0) (oo aq) oq))
    (λ_ _ _ _=>de (i:=0) ad2 rfl (aP rfl) (.inr rfl))
    (λ_ _ _ _=>jK)
    λ_ _ _ _=>dr GW hr rfl T.mW T.CQ.kp T.bW .nil aR (ae (pv 0) ag)) ag))))),?_⟩
  have hT:=Ed ha;refine vr rfl (eY _ _ _ _ (gG _ rfl (qU hT) rfl (qR hT qc) (ak _ rfl (fj ?_))));cases xs with
  | nil=>
   refine vr rfl (dS a ([]) rfl (.inr (aI.of ha)) ⟨rfl,⟨_,rfl,bq (λe=>?_) λn0=>absurd rfl n0⟩⟩);exact je (k H (ai.refl H))
  | cons y ps=>
   refine vr rfl (dS a (y::ps) rfl (.inr (aI.of ha)) ⟨rfl,⟨_,rfl,bq (λe=>?_) λn0=>?_⟩⟩)
   ·injection e with e
    exact absurd e (by simp only[jk];lia)
   refine oE (sr y hX) λTy hy=>dm (v:=y) (j:=0) rfl ha rfl (eY _ _ _ _ (gG _ rfl (qU hy) rfl (qR hy qc) (ak _ rfl (Cj (λh1=>?_) λh1=>?_))))
   ·have e:Cm (y::ps)=false:=by
     cases y with
     | str x=>exact absurd ((Fc hy).mpr ⟨x,rfl⟩) (by rw[h1];exact dY)
     | _=>rfl
    have q:=k H (ai.refl H);rw[e]at q;exact q
   refine oE ((Fc hy).mp h1) λx0 e0=>?_;subst e0;have k:∀H',ai H H'->Q (.bl (ps.all sg)) H':=k;refine ak _ rfl (ak 1 rfl ⟨a,⟨_,rfl,aI.of ha,?_,λq hq=>?_⟩⟩)
   ·intro z;have z1:=z.1;rw[Nt]at z1;cases z1
   rw[WK];have s2:ai H (upd H q (.tup ps)):=aM (ai.refl H) hq;have vy:upd H q (.tup ps) q=a_ (.tup ps):=aA;generalize upd H q (.tup ps)=H3 at s2 vy ⊢;have ng:ps.length<=1000:=by rw[jk]at hl;lia
   refine du q rfl ⟨_,aI.of vy⟩ (jn (n:=ps.length) (λi ys H'=>i<=ps.length/\H'=H3/\ys=(ps.take i).map λz=>V.bl (sg z)) (dw (dZ w0)) (eM (cy _) rfl rfl) ?_ ?_ ?_ ?_ ?_)
   ·rintro i ys H' ⟨_,_,e⟩;rw[e,aO,i8];exact xl
   ·rintro i ys H' hi ⟨_,rfl,_⟩;exact eG _ _ (aI.of vy) (aX hi)
   ·rintro ys H' ⟨_,rfl,_⟩;exact ak _ (aI.of vy) (aN _)
   ·rintro i ys H' hi ⟨_,rfl,e⟩ z i0 ⟨eH,dG⟩;subst eH;have hz:=dG _ (aI.of vy);refine oE (sr z (gE _ (bo hz))) λTx Pl=>?_;have N7:=QS s2 Pl;dsimp only[j',jd];rw[if_pos rfl];refine vr rfl (⟨z,Tx,rfl,N7,hi,rfl,?_⟩);rw[qw,hz,gg,<-e];rfl
   ·rintro ys H' ⟨_,rfl,e⟩;refine⟨?_,λr dD=>?_⟩
    ·rw[e,aO,i8];have:=dZ (n:=ps.length) w0;lia
    have ey:ys=(ps.map sg).map V.bl:=by
     rw[e,lE (aN _),sQ];rfl
    refine dS r (ps.map sg) rfl (aj.of (by rw[aA,ey])) ?_;rw[zH];exact k _ (aM s2 dD)
end
def iV(S:Mc)(mv:Mv):Mc:=if mv.1 = "do" then eR S (mv.2.getD 0 0).toNat else jo S (mv.2.getD 0 0).toNat (mv.2.getD 1 0).toNat
theorem uy(h:mv∈jL S):(∃c:Nat,mv=(("do" : Str),[(c:Int)])/\c<S.ck.length/\xh S c=c_)\/(∃(c:Nat) (k:Ck) (n:Int),mv=(("carry" : Str),[(c:Int),n])/\S.ck[c]?=a_ k/\n∈jB S.kd k.es):=by
 unfold jL at h;rcases jA.mp h with h | h
 ·left
  unfold vf at h;refine af (pk.mp h) λc hc aa=>?_;subst aa;exact oA (rG.mp hc) λh1 h2=>du c rfl (sO.mp h1) h2
 ·right
  unfold nk xj at h;refine af (aaX.mp h) λaa hx hm=>?_;obtain⟨k,c⟩:=aa;unfold Co at hm;refine af (pk.mp hm) λn hn aa=>?_;subst aa;have hc:S.ck[c]?=a_ k:=aaa.mp hx;exact mq c k n rfl hc hn
theorem zR(h:mv∈jL S):nY mv.1=true:=by
 rcases uy h with ⟨c,rfl,_,_⟩ | ⟨c,k,n,rfl,_,_⟩
 ·show nY "do" = c_;decide +kernel
 ·show nY "carry" = c_;decide +kernel
theorem yj{c:Nat}(W:lY S)(hc:c<S.ck.length)(h:xh S c=c_):∃k p s sz,S.ck[c]?=a_ k/\S.ps[c]?=a_ p/\p[k.pl]?=a_ s/\dH sz s:=by
 have hk:S.ck[c]?=a_ S.ck[c]:=aX hc;refine cR (W.part hk) λp hp _ _ hg=>?_;rw[Ub hk hp]at h;unfold qP at h;cases e:p[S.ck[c].pl]? with
 | none=>rw[e]at h;cases h
 | some s=>exact⟨_,p,s,_,hk,hp,e,hg s (bo e)⟩
section
variable{t:a9}{C CT:e_}{u:qf}
def Cz(t:a9)(C CT PT jr:e_):Sp:=λvs H Q E=>∃m A S p xs lab,vs=[.ref m,.ref p]/\aY t C CT H m A S/\lu lab m A/\lY S/\vp S/\cq PT LP LQ H/\H p=a_ (.tup xs)/\(∀x∈xs,∃T,tyName H x=a_ T)/\xs.length<=1000/\(∀mv,xs=lW mv->nY mv.1=c_)/\
 (∀mv,xs=lW mv->mv∈jL S->∀H',aY t C CT H' m A (iV S mv)->aF (bz m A) H H'->cq PT LP LQ H'->Q .aJ H')/\
 ((∀mv,xs=lW mv->mv∉jL S)->∀H',aF eN H H'->cq PT LP LQ H'->E (.ref jr) b_ H')
theorem aiz:ba zLw zLw (aT Nr):=bg
theorem aeO{k:Nat}(r:fJ k A):A.units+65<cLine:=by have:=r.un;lia
theorem aeC{K:PySem.W.Frag}(h:Paired (jv H) vs l):oF K H vs (l.map p9):=uz (F:=jv H) (λv a q=>by
 obtain⟨p,rfl,q⟩:=q;exact LN q) h
theorem agW{f fF fM fS fC PT jr:e_}(F:aV K "do" "Machine.do" Nr f fd)(cM:fb K C)
  (GF:ax P w K mg base aB 2 fF xX ["move"] US) (kF:PySem.W.keepIn K (.ref fF)=c_) (bF:Binds K xX ["move"] []) (mF:mg "has_form_of_move" = a_ (.ref fF))
  (GM:ax P w K mg base aB 4 fM zc zLe (EL t C CT PT)) (bM:Binds K zc zLe []) (mM:Meth K C "moves" fM)
  (GS:ax P w K mg base aB 6 fS jQ zLa (SM t C CT PT)) (bS:Binds K jQ zLa []) (mS:Meth K C "do_step" fS)
  (GC:ax P w K mg base aB 4 fC jT zLv (KA t C CT PT)) (bC:Binds K jT zLv []) (mC:Meth K C "carry" fC)
  (xc:XC K jr) (mX:mg "NoMove" = a_ (.ref jr)):ax P w K mg base (jh P w) 7 f fd zLw (Cz t C CT PT jr):=by
 refine F.CP aiz (λvs H Q E h=>?_) λaL A outer s H vs Q E hr hL hp h=>?_
 ·refine lK h λm A S p xs lab aa _=>?_;subst aa;rfl
 ·refine nZ h λm A S p xs lab aa M L W aH=>?_;subst aa;refine iO aH λjH xu Y3 sr hl aa=>bp aa λaln q1 q2=>?_;have ji:=hr.mono (show 2<=6 by decide);have nQ:=hr.mono (show 4<=6 by decide);refine let R1:TS:=_;let R2:TS:=_;let R3:TS:=_;let R4:TS:=_;⟨_,aD (b9 (PW.pt (pw_or (kQ (gF (dr GF ji rfl mF kF bF .nil aR (ae (pv 1) ag)))) (pw_or1 (br (acA (aeO hr)) (pv 1) (ip (pv 0) cM.cl mM GM nQ bM .nil aR) rfl)))) (pR R1 (aE (Kd rfl hL xc rfl mX (ae cZ ag)))) cD) (pR R4 (aE (b9 (br dO (az bh (pv 1) aq) cZ (bf _)) (pR R2 (aE (dg (gm (pv 0) cM.cl mS GS hr bS .nil aR (ae (az bh (pv 1) aq) ag))))) (pR R3 (aE (dg (gm (pv 0) cM.cl mC GC nQ bC .nil aR (ae (az bh (pv 1) aq) (ae (az bh (pv 1) aq) ag))))))))),?_⟩
  refine vr rfl (⟨p,xs,rfl,Y3,sr,hl,(λH1 s1=>(ak _ rfl ?_))⟩);cases hf:Cm xs with
  | false=>exact je (je ⟨qc,q2 (λmv e=>by rw[e,afR]at hf;cases hf) H1 (aF.of s1) (gj xu s1)⟩)
  | true=>
  refine oE (af8 hf) λmv aa=>?_;subst aa;have M1:=M.same s1;refine aW (id M1.obj) λdx fs hm G=>fj (vr rfl (vM rfl hm (G.ms _ dk) (jb m A S rfl M1 W (gj xu s1) λH2 l vs k2 nW hn ng nN=>?_)));have m8:=k2.lQ _ _ (s1 _ _ Y3);refine⟨l,vs,_,(⟨_,rfl,(aj.of ng),(aeC nN),(LN m8),(JK (aln mv rfl)),(λd hd=>?_),(ak _ rfl ?_)⟩)⟩
  ·refine af (pk.mp hd) λa ha aa=>?_;subst aa;exact JK (zR ha)
  rw[if_pos rfl,ahO];have YZ:=(aF.of s1).trans k2
  by_cases gH:mv∈jL S
  ·rw[decide_eq_true gH];refine fj ?_;have q:=q1 mv rfl gH;have M2:=M1.eP k2;refine aW (id M2.obj) λxY qY nR G3=>?_;have kk:∀H',aF (bz m A) H2 H'->aF (bz m A) H H':=λH' k=>(YZ.mono λb z=>z.elim).trans k;rcases uy gH with ⟨c,rfl,hc,p7⟩ | ⟨c,k,n,rfl,hk,jy⟩
   ·refine yi (yj W hc p7) λk pt st sz hk AU dn g=>dm (j:=0) rfl m8 rfl ⟨rfl,⟨_,rfl,bq (λ_=>?_) λy=>absurd rfl y⟩⟩;exact vM rfl nR (G3.ms _ dk) (dm (j:=1) rfl m8 rfl (⟨m,A,S,c,k,pt,st,sz,lab,rfl,M2,L,W,jH,(⟨nW,hk,AU,dn,g,(λH3 M3 k3 vD=>q H3 M3 (kk _ k3) vD)⟩)⟩))
   ·refine af (M.wY hk) λx hx T=>aG (JN T.wf jy) λi hi aa _=>?_;subst aa;exact dm (j:=0) rfl m8 rfl ⟨rfl,⟨_,rfl,bq (λy=>absurd (show ("carry" : Str) = "do" from Cy y) dk) λ_=>vM rfl nR (G3.ms _ dk) (dm (j:=1) rfl m8 rfl (dm (j:=2) rfl m8 rfl (⟨m,A,S,c,k,i,lab,rfl,M2,L,nW,hk,jy,hi,(lR W.bd W.ov jH λH3 M3 k3 vD=>q H3 M3 (kk _ k3) vD)⟩)))⟩⟩
  ·rw[decide_eq_false gH];exact je ⟨qc,q2 (λxM e z=>gH (by rw[uD e];exact z)) H2 YZ nW⟩
end
structure ie(n:Nat)(S:Mc):Prop where
 wf:lY S
 ac:S.ac.length<=n
 ov:∀o∈S.ov,o.length<=n
theorem ie.vj{n:Nat}(W:ie n S)(h:n<=16000):vp S:=λo ho=>cC (W.ov o ho) h
structure qe(n:Nat)(S S':Mc)(c:Nat)(k k':Ck):Prop where
 ck:S'.ck=S.ck.set c k'
 ps:S'.ps=S.ps
 kd:S'.kd=S.kd
 rg:k'.rg.length=k.rg.length
 bd:S'.bd.length=S.bd.length
 CO:S'.ov.length=S.ov.length
 AM:S.ac.length<=S'.ac.length
 AL:S'.ac.length<=S.ac.length+1
 es:k'.es.length<=S'.ac.length
 ov:∀o∈S'.ov,o.length<=n+1
theorem afl{n:Nat}(W:ie n S)(i:Nat):(S.ov.getD i []).length<=n:=by
 cases h:S.ov[i]? with
 | none=>rw[nh,h];exact cy _
 | some o=>rw[nh,h];exact W.ov o (bo h)
theorem U5{n i:Nat}{d:Int}(W:ie n S):∀o∈S.ov.set i (S.ov.getD i []++[d]),o.length<=n+1:=by
 intro o ho;rcases zo ho with h | h
 ·exact vO (W.ov o h)
 ·rw[h,dM];exact DW (afl W i)
theorem ME{n:Nat}(W:ie n S):∀o∈S.ov,o.length<=n+1:=λo ho=>vO (W.ov o ho)
theorem aew(es:List Ent)(n:Int):(lp es n).length<=es.length:=List.length_eraseP_le
theorem RC{α:Type}{l:List α}{c:Nat}{k:α}(h:l[c]?=a_ k):l.set c k=l:=by
 refine oE (dX.mp h) λhc e=>?_;rw[<-e];exact List.set_getElem_self hc
section
variable{S:Mc}{n c:Nat}{k:Ck}
theorem Ey(W:ie n S)(hk:S.ck[c]?=a_ k):qe n S S c k k:=⟨(RC hk).symm,rfl,rfl,rfl,rfl,rfl,aN _,lH _,W.wf.es k (bo hk),ME W⟩
theorem z0(h:qe n S S' c k k')(hc:c<S.ck.length)(r:Nat)(v:Int):qe n S (eZ S' c r v) c k { k' with rg:=k'.rg.set r v }:=by
 have e:S'.ck[c]?=a_ k':=by rw[h.ck];exact jz hc
 rw[ou e];exact⟨by show S'.ck.set c _=_;rw[h.ck,vU],h.ps,h.kd,by show (k'.rg.set r v).length=_;rw[kv];exact h.rg,h.bd,h.CO,h.AM,h.AL,h.es,h.ov⟩
theorem JO(W:ie n S)(h:qe n S S' c k k')(jH:S'.ov=S.ov)(hc:c<S.ck.length)(i:Nat):∃yV,qe n S (jo S' c i) c k yV/\yV.pl=k'.pl/\yV.ct=k'.ct:=by
 have e:S'.ck[c]?=a_ k':=by rw[h.ck];exact jz hc
 unfold jo;rw[e];dsimp only;cases (cu k'.es i).head? with
 | none=>exact⟨k',h,rfl,rfl⟩
 | some x=>
  refine du ({ k' with es:=lp k'.es i }) ⟨by show S'.ck.set c _=_;rw[h.ck,vU],h.ps,h.kd,h.rg,?_,?_,h.AM,h.AL,cC (aew _ _) h.es,?_⟩ rfl rfl
  ·show (S'.bd.set i x.num).length=_;rw[kv];exact h.bd
  ·show (S'.ov.set i (S'.ov.getD i []++[x.d])).length=_;rw[kv];exact h.CO
  ·show ∀o∈S'.ov.set i (S'.ov.getD i []++[x.d]),o.length<=n+1;rw[jH];exact U5 W
theorem BZ{sz:Nat}(W:ie n S)(g:dH sz s)(hk:S.ck[c]?=a_ k):∃k',qe n S (aZ S c s) c k k'/\k'.pl=k.pl/\k'.ct=k.ct:=by
 have hc:c<S.ck.length:=(dX.mp hk).1;have f0:=Ey W hk;cases g with
 | put r m h1 h2=>exact⟨_,z0 f0 hc _ _,rfl,rfl⟩
 | add r o h1 h2=>
  have e:aZ S c ("add",[r,o])=eZ S c r ((k.rg.getD r 0+k.rg.getD o 0)%jD):=by
   unfold aZ;rw[if_neg (show ¬("add" : Str) = "put" from dk),if_pos rfl,hk];rfl
  rw[e];exact du _ (z0 f0 hc _ _) rfl rfl
 | set i r h1 h2=>
  have e:aZ S c ("set",[i,r])=setM S c i r:=by kernel_rfl
  rw[e];unfold setM;rw[hk];dsimp only
  have f1:qe n S (fk (tL S c i k (k.rg.getD r 0)) ⟨"set",c,i,b_,a_ (k.rg.getD r 0),b_⟩) c k { k with tn:=k.tn+1,es:=k.es++[⟨k.tn,i,k.rg.getD r 0,S.ac.length⟩] }:=by
   refine⟨rfl,rfl,rfl,rfl,rfl,rfl,?_,?_,?_,λo ho=>ME W o ho⟩
   ·show S.ac.length<=(S.ac++[_]).length;rw[dM];exact DX _ _
   ·show (S.ac++[_]).length<=_;rw[dM];exact aN _
   ·show (k.es++[_]).length<=(S.ac++[_]).length;rw[dM,dM];exact DW (W.wf.es k (bo hk))
  split
  ·exact aG (JO W f1 rfl hc i) λyV f2 e1 e2=>du yV f2 e1 e2
  ·exact du _ f1 rfl rfl
 | look r i h1 h2=>
  have e:aZ S c ("look",[r,i])=eZ (fk S ⟨"look",c,i,a_ (cF S k i).1,b_,(cF S k i).2⟩) c r (cF S k i).1:=by
   unfold aZ;rw[if_neg (show ¬("look" : Str) = "put" from dk),if_neg (show ¬("look" : Str) = "add" from dk),if_neg (show ¬("look" : Str) = "set" from dk),if_pos rfl];show mz S c r i=_;unfold mz;rw[hk]
  rw[e]
  have f1:qe n S (fk S ⟨"look",c,i,a_ (cF S k i).1,b_,(cF S k i).2⟩) c k k:=by
   refine⟨f0.ck,rfl,rfl,rfl,rfl,rfl,?_,?_,?_,λo ho=>ME W o ho⟩
   ·show S.ac.length<=(S.ac++[_]).length;rw[dM];exact DX _ _
   ·show (S.ac++[_]).length<=_;rw[dM];exact aN _
   ·show k.es.length<=(S.ac++[_]).length;rw[dM];exact vO (W.wf.es k (bo hk))
  exact du _ (z0 f1 hc _ _) rfl rfl
 | swap r i h1 h2=>
  have e:aZ S c ("swap",[r,i])=eZ (fk (kJ S i (k.rg.getD r 0) S.ac.length) ⟨"swap",c,i,a_ (S.bd.getD i 0),a_ (k.rg.getD r 0),(S.ov.getD i []).getLast?⟩) c r (S.bd.getD i 0):=by
   unfold aZ;rw[if_neg (show ¬("swap" : Str) = "put" from dk),if_neg (show ¬("swap" : Str) = "add" from dk),if_neg (show ¬("swap" : Str) = "set" from dk),if_neg (show ¬("swap" : Str) = "look" from dk),if_pos rfl];show nC S c r i=_;unfold nC;rw[hk]
  rw[e]
  have f1:qe n S (fk (kJ S i (k.rg.getD r 0) S.ac.length) ⟨"swap",c,i,a_ (S.bd.getD i 0),a_ (k.rg.getD r 0),(S.ov.getD i []).getLast?⟩) c k k:=by
   refine⟨f0.ck,rfl,rfl,rfl,?_,?_,?_,?_,?_,?_⟩
   ·show (S.bd.set i _).length=_;rw[kv]
   ·show (S.ov.set i _).length=_;rw[kv]
   ·show S.ac.length<=(S.ac++[_]).length;rw[dM];exact DX _ _
   ·show (S.ac++[_]).length<=_;rw[dM];exact aN _
   ·show k.es.length<=(S.ac++[_]).length;rw[dM];exact vO (W.wf.es k (bo hk))
   ·exact U5 W
  exact du _ (z0 f1 hc _ _) rfl rfl
 | clear=>
  have e:aZ S c ("clear",[])=S:=by kernel_rfl
  rw[e];exact du k f0 rfl rfl
 | skip r q h1 h2 h3=>
  have e:aZ S c ("skip",[r,q])=S:=by kernel_rfl
  rw[e];exact du k f0 rfl rfl
theorem Vj(W:ie n S)(hn:n<15000)(h:qe n S S' c k k')(hk:S.ck[c]?=a_ k)(ee:∀p,S.ps[c]?=a_ p->k'.pl<=p.length):ie (n+1) S':=by
 have gY:=W.ac;have h2:=h.AL;have h1:=h.AM;have hc:c<S.ck.length:=(dX.mp hk).1;refine⟨⟨by rw[h.ps];exact W.wf.good,by rw[h.ck,kv,h.ps];exact W.wf.len,by rw[h.bd];exact W.wf.bd,by rw[h.CO];exact W.wf.ov,?_,?_,li,?_⟩,li,h.ov⟩
 ·intro x hx;rw[h.ck]at hx;rcases zo hx with y | y
  ·exact W.wf.rg x y
  ·rw[y,h.rg];exact W.wf.rg k (bo hk)
 ·intro i x p hx hp;rw[h.ps]at hp;rw[h.ck]at hx
  by_cases e:c=i
  ·subst e;rw[jz hc]at hx;cases hx;exact ee p hp
  ·rw[zt e]at hx;exact W.wf.pl i x p hx hp
 ·intro x hx;rw[h.ck]at hx;rcases zo hx with y | y
  ·exact cC (W.wf.es x y) h1
  ·rw[y];exact h.es
theorem adh{s:Tl}{rg:List Int}{pl:Nat}{p:Pt}(g:dH p.length s)(h:pl<p.length):cY s rg pl<=p.length:=by
 unfold cY
 split
 ·rename_i hs
  cases g with
  | skip r q h1 h2 h3=>exact h2
  | put=>exact absurd (show ("put" : Str) = "skip" from hs.1) dk
  | add=>exact absurd (show ("add" : Str) = "skip" from hs.1) dk
  | set=>exact absurd (show ("set" : Str) = "skip" from hs.1) dk
  | look=>exact absurd (show ("look" : Str) = "skip" from hs.1) dk
  | swap=>exact absurd (show ("swap" : Str) = "skip" from hs.1) dk
  | clear=>exact absurd (show ("clear" : Str) = "skip" from hs.1) dk
 ·exact h
theorem Lb(W:ie n S)(hn:n<15000)(h:mv∈jL S):ie (n+1) (iV S mv):=by
 rcases uy h with ⟨c,rfl,hc,p7⟩ | ⟨c,k,i,rfl,hk,jy⟩
 ·refine yi (yj W.wf hc p7) λk p s _ hk hp hs _=>cR (W.wf.part hk) λp' fZ _ _ hg=>?_;have ep:p'=p:=by rw[hp]at fZ;exact(dq fZ).symm
  subst ep;have g:=hg s (bo hs);refine aG (BZ W g hk) λk' f e1 e2=>?_
  have e:iV S ("do",[(c:Int)])=pF (aZ S c s) c s:=by
   unfold iV;rw[if_pos rfl];show eR S ((c:Int)).toNat=_;rw[jJ];unfold eR;rw[hk,hp];dsimp only;rw[hs]
  rw[e];have ec:(aZ S c s).ck[c]?=a_ k':=by rw[f.ck];exact jz hc
  have ee:k.pl<p'.length:=(dX.mp hs).1;refine Vj (k':={ k' with pl:=cY s k'.rg k'.pl,ct:=k'.ct+1 }) W hn ?_ hk λq hq=>?_
  ·unfold pF;rw[ec];exact⟨by show (aZ S c s).ck.set c _=_;rw[f.ck,vU],f.ps,f.kd,f.rg,f.bd,f.CO,f.AM,f.AL,f.es,f.ov⟩
  ·rw[hp]at hq;cases hq;exact adh g (by rw[e1];exact ee)
 ·have hc:c<S.ck.length:=(dX.mp hk).1
  have e:iV S ("carry",[(c:Int),i])=jo S c i.toNat:=by
   unfold iV;rw[if_neg (show ¬("carry" : Str) = "do" from dk)];show jo S ((c:Int)).toNat _=_;rw[jJ];rfl
  rw[e];refine aG (JO W (Ey W hk) rfl hc i.toNat) λyV f e1 e2=>?_;exact Vj W hn f hk λp hp=>by rw[e1];exact W.wf.pl c k p hk hp
end
theorem U7(g:wX ps):ie 0 (iX kd ps):=by
 refine⟨⟨g,by show (ps.map _).length=_;rw[aO];rfl,by show (eD 12 (0:Int)).length=12;rfl,by show (eD 12 ([]:List Int)).length=12;rfl,?_,?_,cy _,?_⟩,aN _,?_⟩
 ·intro k hk;refine af (pk.mp hk) λ_ _ aa=>?_;subst aa;rfl
 ·intro c k p hk hp;have:k∈(ps.map λ_=>k0):=bo hk;refine af (pk.mp this) λ_ _ aa=>?_;subst aa;exact cy _
 ·intro k hk;refine af (pk.mp hk) λ_ _ aa=>?_;subst aa;exact aN _
 ·intro o ho;rw[List.eq_of_mem_replicate ho];exact aN _
structure Oj(S:Mc):Prop where
 bd:S.bd.length=12
 ov:S.ov.length=12
 ac:S.ac.length<=800
 es:∀k∈S.ck,k.es.length<=S.ac.length
 vj:vp S
 rg:∀k∈S.ck,k.rg.length=4
def VG:Sp:=λvs H Q _=>∃s B S c k n g lab,vs=[.ref s,.str S.kd,.int ((c:Nat):Int),.int ((n:Nat):Int),.int g]/\dh H s B S/\oN lab s B/\Oj S/\S.ck[c]?=a_ k/\n<12/\(S.kd = "none"->k.es=[])/\
 ∀H',dh H' s B (setG S c n k g)->FS s B H H'->Q .aJ H'
theorem VP:ba ["_law_stand","_law_kind","_law_clerk","_law_name","_law_number","_law_row"] zLf (aT Nm):=bg
theorem agS(F:aV K "_law_set" "_law_set" Nm f fd)(dE:mg "len" = b_)(GA:ax P w K mg base aB 1 fA uh zLs Mo)(kA:PySem.W.keepIn K (.ref fA)=c_)(bA:Binds K uh zLs [])(mA:mg "_law_arrives" = a_ (.ref fA)) :
  ax P w K mg base aB 2 f fd zLf VG:=by
 refine F.ok VP (λvs H Q E h=>?_) λaL A _ s H vs Q E hr h=>?_
 ·refine kY h λs B S c k aa=>eh aa λn g lab aa _=>?_;subst aa;rfl
 ·obtain⟨s,B,S,c,k,n,g,lab,aa,M,aH⟩:=h;subst aa;refine iO aH λL W hk hn Ct q=>?_;refine let R1:TS:=_;let R2:TS:=_;let R3:TS:=_;let R4:TS:=_;⟨_,aD (bJ (i:=5) VP.nd rfl (aP rfl) (gu (ae (pv 3) (ae (pv 4) (ae (cg fg rfl dE PySem.boot_len (ae (az aS (pv 0) aq) ag)) ag))))) (pR R4 (aD (dg (jZ PySem.F.plainAttrs_list PySem.F.slot_list_append PySem.F.type_list_append ni (az aS (pv 0) aq) (ae (gu (ae cZ (ae (pv 2) (ae (pv 3) (ae lM (ae (pv 4) (ae lM ag))))))) ag))) (pR R3 (aE (b9 (br dO (pv 1) cZ (bf _)) (pR R1 (aE (dg (dr GA hr rfl mA kA bA .nil aR (ae (pv 0) (ae (pv 5) ag)))))) (pR R2 (aE (dg (jZ PySem.F.plainAttrs_list PySem.F.slot_list_append PySem.F.type_list_append ni (az aS (az aS (az aS (pv 0) aq) (pv 2)) aq) (ae (pv 5) ag)))))))))),?_⟩
  refine af M.ac λws gY ig=>?_;have kj:=Paired.length ig;have Gk:=W.ac;have dP:=jl;have Zf:=W.es k (bo hk);refine ak _ rfl (vr rfl (ic (j:=2) rfl M.st rfl ⟨B.ac,⟨_,rfl,.inl (aj.of gY),(sl (n:=3)),λqj nrw=>?_⟩⟩));generalize eU:upd H qj (.tup [.int (n:Nat),.int g,.int (ws.length:Nat)])=H1;have s1:ai H (H1):=eU ▸ (aM (ai.refl _) nrw);have hrw:H1 qj=a_ (.tup [.int (n:Nat),.int g,.int (ws.length:Nat)]):=eU ▸ aA;clear eU;have M1:=M.same s1;refine ic (j:=2) rfl M1.st rfl ⟨.inl ⟨rfl,_,aj.of (s1 _ _ gY)⟩,ak _ rfl (vr rfl (vr rfl ⟨(sl (n:=6)),(λtp ht=>aG (nw (o:=.tup [.str "set",.int (c:Nat),.int (n:Nat),.aJ,.int g,.aJ]) ht) λH2 e s2 nO=>?_)⟩))⟩;rw[e];clear e;have mQ:=s2 _ _ (s1 _ _ gY);refine jb B.ac ws (.ref tp) rfl rfl mQ (by rw[kj,dP];exact wb) ?_;have M3:=Ml (M1.same s2) L mQ (x:=.ref tp) (a:=⟨"set",c,n,b_,a_ g,b_⟩) ⟨tp,rfl,nO⟩;have f3:FS s B H (upd H2 B.ac (.lst (ws++[.ref tp]))):=(FS.of (s1.trans s2)).trans (FS.upd .ac mQ);have ZA:FS s B H2 (upd H2 B.ac (.lst (ws++[.ref tp]))):=FS.upd .ac mQ;generalize upd H2 B.ac (.lst (ws++[.ref tp]))=H3 at M3 f3 ZA ⊢;have W8:=ZA.tup (s2 _ _ hrw);refine ak _ rfl ⟨rfl,⟨_,rfl,bq (λhd=>?_) λhd=>?_⟩⟩
  ·have rq:=Cy hd;refine vr rfl (vr rfl (⟨s,B,_,qj,n,g,_,lab,rfl,M3,L,W8,hn,W.bd,(eM W.ov W.vj λH4 M4 f4=>q H4 ?_ (f3.trans f4))⟩));rw[JF hk rq (Ct rq),<-kj];exact M4.tn (c:=c) (k:=k) hk (k.tn+1)
  ·have rq:¬S.kd = "none":=λe=>hd (by rw[e]);refine af (M3.qL (k:=k) hk) λx hx C=>af C.es λvs hv nN=>?_;have HK:=Paired.length nN;refine ic (j:=0) rfl M3.st rfl (vr rfl (rL (v:=.ref x.1) (aj.of M3.cl) (dA hx) (GZ (v:=.ref x.2.2) (j:=3) C.st rfl ⟨.inl ⟨rfl,_,aj.of hv⟩,vr rfl (jb x.2.2 vs (.ref qj) rfl rfl hv (by rw[HK,dP];exact wy) ?_)⟩)));have M4:=aix M3 L (k:=k) hk hx C hv (k.tn+1) (qz (b:=(⟨k.tn,n,g,S.ac.length⟩:Ent)) nN ⟨qj,rfl,by rw[<-kj];exact W8⟩);refine q _ ?_ (f3.trans (FS.upd (.k3 (bo hx)) hv));unfold setG;rw[if_neg rq];exact M4
def uW(S:Mc)(c:Nat)(st:Tl):Mc:=if st.1 = "put" then S else if st.1 = "add" then S else aZ S c st
theorem BY(S:Mc)(c n r:Nat):aZ S c ("set",[n,r])=setM S c n r:=by kernel_rfl
theorem BM(S:Mc)(c r n:Nat):aZ S c ("look",[r,n])=mz S c r n:=by kernel_rfl
theorem BL(S:Mc)(c r n:Nat):aZ S c ("swap",[r,n])=nC S c r n:=by kernel_rfl
theorem aez(S:Mc)(c:Nat)(ns:List Nat):uW S c ("put",ns)=S:=by kernel_rfl
theorem aeB(S:Mc)(c:Nat)(ns:List Nat):uW S c ("add",ns)=S:=by kernel_rfl
theorem By(S:Mc)(c:Nat):uW S c ("clear",[])=S:=by kernel_rfl
theorem BD(S:Mc)(c:Nat)(ns:List Nat):uW S c ("skip",ns)=S:=by kernel_rfl
theorem rP(S:Mc)(c:Nat){st:Tl}(h1:st.1 ≠ "put")(h2:st.1 ≠ "add"):uW S c st=aZ S c st:=by unfold uW;rw[if_neg h1,if_neg h2]
def UW:Sp:=λvs H Q _=>∃s B S c k p st sz lab,vs=[.ref s,.str S.kd,.int ((c:Nat):Int),.ref p]/\dh H s B S/\oN lab s B/\Oj S/\S.ck[c]?=a_ k/\H p=a_ (.tup (tv st))/\dH sz st/\(S.kd = "none"->k.es=[])/\(qJ st=c_->k.es=[])/\
 ∀H',dh H' s B (uW S c st)->FS s B H H'->Q .aJ H'
theorem z8:ba ["_law_stand","_law_kind","_law_clerk","_law_step","_law_registers","_law_number","_law_seen_here"] zLk (aT MB):=bg
theorem afG{f fA fN fT:e_}(F:aV K "_law_deed" "_law_deed" MB f fd)(dE:mg "len" = b_)
  (GA:ax P w K mg base aB 1 fA uh zLs Mo) (kA:PySem.W.keepIn K (.ref fA)=c_) (bA:Binds K uh zLs []) (mA:mg "_law_arrives" = a_ (.ref fA))
  (GN:ax P w K mg base aB 1 fN za zLq UJ) (kN:PySem.W.keepIn K (.ref fN)=c_) (bN:Binds K za zLq []) (mN:mg "_law_seen" = a_ (.ref fN))
  (GT:ax P w K mg base aB 2 fT ug zLf VG) (kT:PySem.W.keepIn K (.ref fT)=c_) (bT:Binds K ug zLf []) (mT:mg "_law_set" = a_ (.ref fT)) :
  ax P w K mg base aB 3 f fd zLk UW:=by
 refine F.ok z8 (λvs H Q E h=>?_) λaL A _ s H vs Q E hr h=>?_
 ·obtain⟨s,B,S,c,k,p,st,sz,lab,aa,_⟩:=h;subst aa;rfl
 ·obtain⟨s,B,S,c,k,p,st,sz,lab,aa,aH⟩:=h;subst aa;refine iO aH λM L W hk hp aa=>iB aa λg Ct Nb q=>?_;have cX:=hr.mono (show 1<=2 by decide);refine let R1:TS:=_;let R2:TS:=_;let R3:TS:=_;let R4:TS:=_;let R5:TS:=_;let R6:TS:=_;let R7:TS:=_;let R8:TS:=_;let R9:TS:=_;let ij:TS:=_;let qt:TS:=_;⟨_,aD (bJ (i:=4) z8.nd rfl (aP rfl) (az aS (az aS (az aS (pv 0) aq) (pv 2)) aq)) (pR qt (aD (b9 (br dO (az bh (pv 3) aq) cZ (bf _)) (pR R1 (aE (dg (dr GT hr rfl mT kT bT .nil aR (ae (pv 0) (ae (pv 1) (ae (pv 2) (ae (az bh (pv 3) aq) (ae (az aS (pv 4) (az bh (pv 3) aq)) ag))))))))) cD) (pR ij (aD (b9 (br dO (az bh (pv 3) aq) cZ (bf _)) (pR R4 (aD (mm (dr GN cX rfl mN kN bN .nil aR (ae (pv 0) (ae (pv 2) (ae (az bh (pv 3) aq) ag)))) (sZ rfl (jW (de (i:=5) z8.nd rfl (aP rfl)) (jW (de (i:=6) z8.nd rfl (aP rfl)) sW)))) (pR R3 (aD (dg (jZ PySem.F.plainAttrs_list PySem.F.slot_list_append PySem.F.type_list_append ni (az aS (pv 0) aq) (ae (gu (ae cZ (ae (pv 2) (ae (az bh (pv 3) aq) (ae (pv 5) (ae lM (ae (pv 6) ag))))))) ag))) (pR R2 (aE (mm (pv 5) (ow (pv 4) (az bh (pv 3) aq) set_list)))))))) cD) (pR R9 (aE (b9 (br dO (az bh (pv 3) aq) cZ (bf _)) (pR R8 (aD (mm (dr GN cX rfl mN kN bN .nil aR (ae (pv 0) (ae (pv 2) (ae (az bh (pv 3) aq) ag)))) (sZ rfl (jW (de (i:=5) z8.nd rfl (aP rfl)) (jW (de (i:=6) z8.nd rfl (aP rfl)) sW)))) (pR R7 (aD (dg (jZ PySem.F.plainAttrs_list PySem.F.slot_list_append PySem.F.type_list_append ni (az aS (pv 0) aq) (ae (gu (ae cZ (ae (pv 2) (ae (az bh (pv 3) aq) (ae (pv 5) (ae (az aS (pv 4) (az bh (pv 3) aq)) (ae (pv 6) ag))))))) ag))) (pR R6 (aD (dg (dr GA cX rfl mA kA bA .nil aR (ae (pv 0) (ae (gu (ae (az bh (pv 3) aq) (ae (az aS (pv 4) (az bh (pv 3) aq)) (ae (bb E4 (cg fg rfl dE PySem.boot_len (ae (az aS (pv 0) aq) ag)) aq) ag)))) ag)))) (pR R5 (aE (mm (pv 5) (ow (pv 4) (az bh (pv 3) aq) set_list)))))))))) cD))))))),?_⟩
  refine af (M.qL hk) λx hx C=>?_;have dQ:=W.rg k (bo hk);have Gk:=W.ac;have dP:=jl;have Zf:=W.es k (bo hk);refine ic (j:=0) rfl M.st rfl (vr rfl (rL (v:=.ref x.1) (aj.of M.cl) (dA hx) (GZ (v:=.ref x.2.1) (j:=2) C.st rfl ?_)));cases g with
  | put r n g1 g2=>
   have hp:H p=a_ (.tup [.str "put",.int (r:Nat),.int (n:Nat)]):=hp;rw[aez]at q;exact eK rfl hp rfl dk (eK rfl hp rfl dk (eK rfl hp rfl dk (q H M (FS.of (ai.refl H)))))
  | add r n g1 g2=>
   have hp:H p=a_ (.tup [.str "add",.int (r:Nat),.int (n:Nat)]):=hp;rw[aeB]at q;exact eK rfl hp rfl dk (eK rfl hp rfl dk (eK rfl hp rfl dk (q H M (FS.of (ai.refl H)))))
  | clear=>
   have hp:H p=a_ (.tup [.str "clear"]):=hp;rw[By]at q;exact eK rfl hp rfl dk (eK rfl hp rfl dk (eK rfl hp rfl dk (q H M (FS.of (ai.refl H)))))
  | skip r n g1 g2 g3=>
   have hp:H p=a_ (.tup [.str "skip",.int (r:Nat),.int (n:Nat)]):=hp;rw[BD]at q;exact eK rfl hp rfl dk (eK rfl hp rfl dk (eK rfl hp rfl dk (q H M (FS.of (ai.refl H)))))
  | set n r g1 g2=>
   have hp:H p=a_ (.tup [.str "set",.int (n:Nat),.int (r:Nat)]):=hp;rw[rP S c (show ("set" : Str) ≠ "put" from dk) (show ("set" : Str) ≠ "add" from dk),BY,B4 hk]at q;have hg:k.rg[r]?=a_ (k.rg[r]'wg):=aX wg;rw[nv hg]at q;refine dm (j:=0) rfl hp rfl ⟨rfl,⟨_,rfl,bq (λ_=>?_) λy=>absurd rfl y⟩⟩;refine vr rfl (vr rfl (vr rfl (dm (j:=1) rfl hp rfl (vr rfl (dm (j:=2) rfl hp rfl (rL (aj.of C.rg) (dA hg) (⟨s,B,S,c,k,n,_,lab,rfl,M,L,W,hk,g1,⟨Ct,(λH1 M1 f1=>?_)⟩⟩)))))));have dW:=f1.tup hp;exact eK rfl dW rfl dk (eK rfl dW rfl dk (q H1 M1 f1))
  | look r n g1 g2=>
   have hp:H p=a_ (.tup [.str "look",.int (r:Nat),.int (n:Nat)]):=hp
   have el:mz S c r n={ (fk S ⟨"look",c,n,a_ (cF S k n).1,b_,(cF S k n).2⟩)with ck:=S.ck.set c { k with rg:=k.rg.set r (cF S k n).1 } }:=by
    unfold mz;rw[hk];dsimp only;exact ou (S:=fk S ⟨"look",c,n,a_ (cF S k n).1,b_,(cF S k n).2⟩) hk
   rw[rP S c (show ("look" : Str) ≠ "put" from dk) (show ("look" : Str) ≠ "add" from dk),BM,el]at q;refine eK rfl hp rfl dk (dm (j:=0) rfl hp rfl ⟨rfl,⟨_,rfl,bq (λ_=>?_) λy=>absurd rfl y⟩⟩);refine vr rfl (vr rfl (dm (j:=2) rfl hp rfl (⟨s,B,S,c,k,n,rfl,M,hk,g2,W.bd,W.ov,W.vj,wx,(λH1 tp s1 nO=>⟨tp,⟨_,rfl,aI.of nO,rfl,_,_,rfl,_,_,rfl,rfl,?_⟩⟩)⟩)));have M1:=M.same s1;refine af M1.ac λws gY ig=>?_;have kj:=Paired.length ig;have dW:=s1 _ _ hp;refine ic (j:=2) rfl M1.st rfl ⟨.inl ⟨rfl,_,aj.of gY⟩,ak _ rfl (dm (j:=2) rfl dW rfl (vr rfl (vr rfl ⟨(sl (n:=6)),(λtq hq=>aG (nw (o:=.tup [.str "look",.int (c:Nat),.int (n:Nat),.int (cF S k n).1,.aJ,oV (cF S k n).2]) hq) λH2 e s2 OR=>?_)⟩)))⟩;rw[e];clear e;have mQ:=s2 _ _ gY;refine jb B.ac ws (.ref tq) rfl rfl mQ (by rw[kj,dP];exact wb) ?_;have M3:=Ml (M1.same s2) L mQ (x:=.ref tq) (a:=⟨"look",c,n,a_ (cF S k n).1,b_,(cF S k n).2⟩) ⟨tq,rfl,OR⟩;have f3:FS s B H (upd H2 B.ac (.lst (ws++[.ref tq]))):=(FS.of (s1.trans s2)).trans (FS.upd .ac mQ);generalize upd H2 B.ac (.lst (ws++[.ref tq]))=H3 at M3 f3 ⊢;have AW:=f3.tup hp;refine af (M3.qL (k:=k) hk) λx3 ua C3=>?_;have ex:x3=x:=by rw[hx]at ua;exact(dq ua).symm
   subst ex;refine ak _ rfl (vr rfl (dm (j:=1) rfl AW rfl (ml x3.2.1 _ _ r rfl rfl C3.rg (pD (by rw[aO,dQ];exact g1)) ?_)));have M4:=Fm M3 L (k:=k) hk hx C3 r (cF S k n).1;have f4:=f3.trans (FS.upd (.k2 (bo hx)) C3.rg (o:=.lst ((k.rg.map V.int).set r (.int (cF S k n).1))));have hp4:=f4.tup hp;exact eK rfl hp4 rfl dk (q _ M4 f4)
  | swap r n g1 g2=>
   have hp:H p=a_ (.tup [.str "swap",.int (r:Nat),.int (n:Nat)]):=hp;have alO:=Nb (RV _);have hg:k.rg[r]?=a_ (k.rg[r]'wg):=aX wg;have eg:k.rg.getD r 0=k.rg[r]'wg:=nv hg
   have esn:cF S k n=(S.bd.getD n 0,(S.ov.getD n []).getLast?):=by
    unfold cF we;rw[alO];rfl
   generalize k.rg[r]'wg=gv at hg eg
   have el:nC S c r n={ (kJ (fk S ⟨"swap",c,n,a_ (S.bd.getD n 0),a_ gv,(S.ov.getD n []).getLast?⟩) n gv S.ac.length)with ck:=S.ck.set c { k with rg:=k.rg.set r (S.bd.getD n 0) } }:=by
    unfold nC;rw[hk];dsimp only;rw[eg];exact ou (S:=fk (kJ S n gv S.ac.length) ⟨"swap",c,n,a_ (S.bd.getD n 0),a_ gv,(S.ov.getD n []).getLast?⟩) hk
   rw[rP S c (show ("swap" : Str) ≠ "put" from dk) (show ("swap" : Str) ≠ "add" from dk),BL,el]at q;refine eK rfl hp rfl dk (eK rfl hp rfl dk (dm (j:=0) rfl hp rfl ⟨rfl,⟨_,rfl,bq (λ_=>?_) λy=>absurd rfl y⟩⟩));refine vr rfl (vr rfl (dm (j:=2) rfl hp rfl (⟨s,B,S,c,k,n,rfl,M,hk,g2,W.bd,W.ov,W.vj,wx,(λH1 tp s1 nO=>?_)⟩)));rw[esn]at nO;refine⟨tp,⟨_,rfl,aI.of nO,rfl,_,_,rfl,_,_,rfl,rfl,?_⟩⟩;have M1:=M.same s1;refine af M1.ac λws gY ig=>?_;have kj:=Paired.length ig;have dW:=s1 _ _ hp;refine ic (j:=2) rfl M1.st rfl ⟨.inl ⟨rfl,_,aj.of gY⟩,ak _ rfl (dm (j:=2) rfl dW rfl (vr rfl (vr rfl (dm (j:=1) rfl dW rfl (rL (aj.of (s1 _ _ C.rg)) (dA hg) (vr rfl ⟨(sl (n:=6)),(λtq hq=>aG (nw (o:=.tup [.str "swap",.int (c:Nat),.int (n:Nat),.int (S.bd.getD n 0),.int gv,oV (S.ov.getD n []).getLast?]) hq) λH2 e s2 OR=>?_)⟩))))))⟩;rw[e];clear e;have mQ:=s2 _ _ gY;refine jb B.ac ws (.ref tq) rfl rfl mQ (by rw[kj,dP];exact wb) ?_;have M3:=Ml (M1.same s2) L mQ (x:=.ref tq) (a:=⟨"swap",c,n,a_ (S.bd.getD n 0),a_ gv,(S.ov.getD n []).getLast?⟩) ⟨tq,rfl,OR⟩;have f3:FS s B H (upd H2 B.ac (.lst (ws++[.ref tq]))):=(FS.of (s1.trans s2)).trans (FS.upd .ac mQ);have Xi:upd H2 B.ac (.lst (ws++[.ref tq])) B.ac=a_ (.lst (ws++[.ref tq])):=aA;generalize upd H2 B.ac (.lst (ws++[.ref tq]))=H3 at M3 f3 Xi ⊢;have AW:=f3.tup hp;refine af (M3.qL (k:=k) hk) λx3 ua C3=>?_;have ex:x3=x:=by rw[hx]at ua;exact(dq ua).symm
   subst ex;refine ak _ rfl (dm (j:=2) rfl AW rfl (vr rfl (dm (j:=1) rfl AW rfl (rL (aj.of C3.rg) (dA hg) (ic (j:=2) rfl M3.st rfl ⟨B.ac,⟨_,rfl,.inl (aj.of Xi),_,_,rfl,rfl,(sl (n:=3)),λtr hrr=>?_⟩⟩)))))
   have ed:(((ws++[V.ref tq]).length:Nat):Int)-1=((S.ac.length:Nat):Int):=by
    have alf:=kj;rw[dM,alf];show ((S.ac.length+1:Nat):Int)-1=_;lia
   dsimp only;rw[ed];refine aG (nw (o:=.tup [.int (n:Nat),.int gv,.int (S.ac.length:Nat)]) hrr) λH4 e s4 htr=>?_;rw[e];clear e;refine⟨s,B,_,tr,n,gv,_,lab,rfl,(M3.same s4),L,htr,g2,W.bd,(eM W.ov W.vj λH5 M5 f5=>?_)⟩;have ZC:=(f3.trans (FS.of s4)).trans f5;have hp5:=ZC.tup hp;refine af (M5.qL (k:=k) hk) λx5 Y4 C5=>?_;have ex:x5=x3:=by rw[hx]at Y4;exact(dq Y4).symm
   subst ex;refine vr rfl (vr rfl (dm (j:=1) rfl hp5 rfl (ml x5.2.1 _ _ r rfl rfl C5.rg (pD (by rw[aO,dQ];exact g1)) ?_)));have M6:=Fm M5 L (k:=k) hk hx C5 r (S.bd.getD n 0);exact q _ M6 (ZC.trans (FS.upd (.k2 (bo hx)) C5.rg))
theorem aip:(10:Int)^(60:Int).toNat=jD:=dk
def pZ(S:Mc)(c:Nat)(st:Tl):Mc:=if st.1 = "put" then aZ S c st else if st.1 = "add" then aZ S c st else S
theorem TX(S:Mc)(c r n:Nat):pZ S c ("put",[r,n])=eZ S c r (n:Nat):=by kernel_rfl
theorem TY{c r o:Nat}(hk:S.ck[c]?=a_ k):pZ S c ("add",[r,o])=eZ S c r ((k.rg.getD r 0+k.rg.getD o 0)%jD):=by
 unfold pZ;rw[if_neg (show ¬("add" : Str) = "put" from dk),if_pos rfl];unfold aZ;rw[if_neg (show ¬("add" : Str) = "put" from dk),if_pos rfl,hk];rfl
theorem Aa{S:Mc}{c:Nat}{st:Tl}(h1:st.1 ≠ "put")(h2:st.1 ≠ "add"):pZ S c st=S:=by unfold pZ;rw[if_neg h1,if_neg h2]
theorem aeA(S:Mc)(c:Nat)(st:Tl):uW (pZ S c st) c st=aZ S c st:=by
 unfold uW pZ
 by_cases h1:st.1 = "put"
 ·rw[if_pos h1,if_pos h1]
 ·rw[if_neg h1,if_neg h1]
  by_cases h2:st.1 = "add"
  ·rw[if_pos h2,if_pos h2]
  ·rw[if_neg h2,if_neg h2]
theorem U4(S:Mc)(c:Nat)(st:Tl):(pZ S c st).kd=S.kd:=by
 unfold pZ aZ eZ
 split
 ·split <;> rfl
 ·split
  ·cases S.ck[c]? <;> rfl
  ·rfl
section
variable{S:Mc}{n c:Nat}{k:Ck}
theorem afj{sz:Nat}(W:ie n S)(g:dH sz s)(hk:S.ck[c]?=a_ k):∃k',qe n S (pZ S c s) c k k'/\k'.pl=k.pl/\k'.ct=k.ct/\k'.es=k.es:=by
 have hc:c<S.ck.length:=(dX.mp hk).1;have f0:=Ey W hk
 by_cases h1:s.1 = "put"
 ·cases g with
  | put r m _ _=>rw[TX];exact⟨_,z0 f0 hc _ _,rfl,rfl,rfl⟩
  | add=>exact absurd (show ("add" : Str) = "put" from h1) dk
  | set=>exact absurd (show ("set" : Str) = "put" from h1) dk
  | look=>exact absurd (show ("look" : Str) = "put" from h1) dk
  | swap=>exact absurd (show ("swap" : Str) = "put" from h1) dk
  | clear=>exact absurd (show ("clear" : Str) = "put" from h1) dk
  | skip=>exact absurd (show ("skip" : Str) = "put" from h1) dk
 ·by_cases h2:s.1 = "add"
  ·cases g with
   | add r m _ _=>rw[TY hk];exact⟨_,z0 f0 hc _ _,rfl,rfl,rfl⟩
   | put=>exact absurd (show ("put" : Str) = "add" from h2) dk
   | set=>exact absurd (show ("set" : Str) = "add" from h2) dk
   | look=>exact absurd (show ("look" : Str) = "add" from h2) dk
   | swap=>exact absurd (show ("swap" : Str) = "add" from h2) dk
   | clear=>exact absurd (show ("clear" : Str) = "add" from h2) dk
   | skip=>exact absurd (show ("skip" : Str) = "add" from h2) dk
  ·rw[Aa h1 h2];exact⟨k,f0,rfl,rfl,rfl⟩
theorem af9(W:ie n S)(hn:n<800)(h:qe n S S' c k k')(hk:S.ck[c]?=a_ k):Oj S':=by
 have gY:=W.ac;have h2:=h.AL;have h1:=h.AM;refine⟨by rw[h.bd];exact W.wf.bd,by rw[h.CO];exact W.wf.ov,li,?_,λo ho=>cC (h.ov o ho) wa,?_⟩
 ·intro x hx;rw[h.ck]at hx;rcases zo hx with y | y
  ·exact cC (W.wf.es x y) h1
  ·rw[y];exact h.es
 ·intro x hx;rw[h.ck]at hx;rcases zo hx with y | y
  ·exact W.wf.rg x y
  ·rw[y,h.rg];exact W.wf.rg k (bo hk)
theorem Af(h:qe n S S' c k k')(hk:S.ck[c]?=a_ k):S'.ck[c]?=a_ k':=by rw[h.ck];exact jz (dX.mp hk).1
theorem acd{sz:Nat}(g:dH sz s)(hk:S.ck[c]?=a_ k)(h:(aZ S c s).ck[c]?=a_ k')(e:k'.pl=k.pl):cY s k'.rg k'.pl=cY s k.rg k.pl:=by
 by_cases hs:s.1 = "skip"
 ·have e1:aZ S c s=S:=by
   unfold aZ;rw[hs,if_neg (show ¬("skip" : Str) = "put" from dk),if_neg (show ¬("skip" : Str) = "add" from dk),if_neg (show ¬("skip" : Str) = "set" from dk),if_neg (show ¬("skip" : Str) = "look" from dk),if_neg (show ¬("skip" : Str) = "swap" from dk)]
  rw[e1,hk]at h;cases h;rfl
 ·unfold cY;rw[if_neg λz=>hs z.1,if_neg λz=>hs z.1,e]
end
def Lp:Sp:=λvs H Q _=>∃s B S c k v pt st sz lab n,vs=[.ref s,v,.str S.kd,.int ((c:Nat):Int)]/\dh H s B S/\oN lab s B/\ie n S/\n<800/\S.ck[c]?=a_ k/\mw H v S.ps/\S.ps[c]?=a_ pt/\pt[k.pl]?=a_ st/\dH sz st/\(S.kd = "none"->k.es=[])/\(qJ st=c_->k.es=[])/\
 ∀H',dh H' s B (eR S c)->FS s B H H'->Q .aJ H'
theorem B6:ba ["_law_stand","_law_program_here","_law_kind","_law_clerk","_law_state","_law_step","_law_after"] zLd (aT Mz):=bg
theorem afF{f fD:e_}{fd md:iJ}(F:aV K "_law_does" "_law_does" Mz f fd)
  (GD:ax P w K mg base aB 3 fD md zLk UW) (kD:PySem.W.keepIn K (.ref fD)=c_) (bD:Binds K md zLk []) (mD:mg "_law_deed" = a_ (.ref fD)) :
  ax P w K mg base aB 4 f fd zLd Lp:=by
 refine F.ok B6 (λvs H Q E h=>?_) λaL A _ s H vs Q E hr h=>?_
 ·refine lF h λs B S c k v pt st sz lab aa=>af aa λn aa _=>?_;subst aa;rfl
 ·refine lF h λs B S c k v pt st sz lab aa=>nA aa λn aa M L W aH=>?_;subst aa;refine iO aH λhn hk hP AU dn aa=>iB aa λg Ct Nb q=>af (M.qL hk) λx hx C=>cI (id hP) λpg eC aa gX pd=>?_;subst aa;refine af (jU pd AU) λpv' hpv aa=>cI aa λpa us aa AV oZ=>?_;subst aa;refine af (jU oZ dn) λuv huv aa=>af aa λp aa hp=>?_;subst aa;have dQ:=W.wf.rg k (bo hk);have hc:c<S.ck.length:=(dX.mp hk).1;refine aG (BZ W g hk) λk' ef e1 e2=>cR (afj W g hk) λk1 pf p1 p2 p3=>?_
  have xS:eR S c={ (aZ S c st)with ck:=(aZ S c st).ck.set c { k' with pl:=cY st k.rg k.pl,ct:=k'.ct+1 } }:=by
   unfold eR;rw[hk,AU];dsimp only;rw[dn];dsimp only;unfold pF;rw[Af ef hk];dsimp only;rw[acd g hk (Af ef hk) e1]
  refine let R1:TS:=_;let R2:TS:=_;let R3:TS:=_;let R4:TS:=_;let R5:TS:=_;let R6:TS:=_;let R7:TS:=_;let R8:TS:=_;let R9:TS:=_;let ij:TS:=_;let qt:TS:=_;⟨_,aD (bJ (i:=4) B6.nd rfl (aP rfl) (az aS (az aS (pv 0) aq) (pv 3))) (pR qt (aD (bJ (i:=5) B6.nd rfl (aP rfl) (az bh (az bh (pv 1) (pv 3)) (az aS (pv 4) aq))) (pR ij (aD (bJ (i:=6) B6.nd rfl (aP rfl) (bb jc (az aS (pv 4) aq) aq)) (pR R9 (aD (b9 (br dO (az bh (pv 5) aq) cZ (bf _)) (pR R1 (aE (mm (az bh (pv 5) aq) (ow (az aS (pv 4) aq) (az bh (pv 5) aq) set_list)))) cD) (pR R8 (aD (b9 (br dO (az bh (pv 5) aq) cZ (bf _)) (pR R2 (aE (mm (bb iN (bb jc (az aS (az aS (pv 4) aq) (az bh (pv 5) aq)) (az aS (az aS (pv 4) aq) (az bh (pv 5) aq))) (bb agO aq aq)) (ow (az aS (pv 4) aq) (az bh (pv 5) aq) set_list)))) cD) (pR R7 (aD (b9 (PW.pt (pw_and (br dO (az bh (pv 5) aq) cZ (bf _)) (pw_and1 (br dO (az aS (az aS (pv 4) aq) (az bh (pv 5) aq)) aq (bf _))))) (pR R3 (aE (bJ (i:=6) B6.nd rfl (aP rfl) (az bh (pv 5) aq)))) cD) (eV.NA (t':=λD σ H1=>σ=[a_ (.ref s),a_ (.ref pg),a_ (.str S.kd),a_ (.int (c:Nat)),a_ (.ref x.1),a_ (.ref p),a_ (.int (cY st k.rg k.pl:Nat))]/\dh H1 s B (pZ S c st)/\FS s B H H1/\∀σ' H',dh H' s B (eR S c)->FS s B H H'->D.nx σ' H') (pR R6 (aD (dg (dr GD hr rfl mD kD bD .nil aR (ae (pv 0) (ae (pv 2) (ae (pv 3) (ae (pv 5) ag)))))) (pR R5 (aD (mm (pv 6) (ow (pv 4) aq set_list)) (pR R4 (aE (mm (bb jc (az aS (pv 4) aq) aq) (ow (pv 4) aq set_list)))))))) ?tl))))))))))),?_⟩
  case tl=>
   intro D σ H1 av;refine iB av λaa M1 f1 q=>?_;clear av;subst aa;refine vr rfl (vr rfl (vr rfl (vr rfl (⟨s,B,(pZ S c st),c,k1,p,st,sz,lab,(by rw[U4];rfl),M1,L,(af9 W hn pf hk),(Af pf hk),⟨f1.tup hp,g,λz=>by rw[p3];exact Ct (by rw[<-U4 S c st];exact z),λz=>by rw[p3];exact Nb z,λH2 M2 f2=>?_⟩⟩))));rw[aeA]at M2;refine af (M2.qL (Af ef hk)) λx2 m8 C2=>?_;have ex:x2=x:=by rw[hx]at m8;exact(dq m8).symm
   subst ex;refine ak _ rfl (vr rfl (ml x2.1 _ 0 0 rfl rfl C2.st rfl ?_));have M3:=VF M2 L (Af ef hk) hx C2 (cY st k.rg k.pl) k'.ct;have f3:FS s B H2 (upd H2 x2.1 (.lst [.int (cY st k.rg k.pl:Nat),.int (k'.ct:Nat),.ref x2.2.1,.ref x2.2.2])):=FS.upd (.k1 (bo hx)) C2.st;have h3:upd H2 x2.1 (.lst [.int (cY st k.rg k.pl:Nat),.int (k'.ct:Nat),.ref x2.2.1,.ref x2.2.2]) x2.1=a_ (.lst [.int (cY st k.rg k.pl:Nat),.int (k'.ct:Nat),.ref x2.2.1,.ref x2.2.2]):=aA;rw[show ([V.int (k'.pl:Nat),V.int (k'.ct:Nat),V.ref x2.2.1,V.ref x2.2.2].set 0 (V.int (cY st k.rg k.pl:Nat)))=[V.int (cY st k.rg k.pl:Nat),V.int (k'.ct:Nat),V.ref x2.2.1,V.ref x2.2.2] from rfl];generalize upd H2 x2.1 (.lst [.int (cY st k.rg k.pl:Nat),.int (k'.ct:Nat),.ref x2.2.1,.ref x2.2.2])=H3 at M3 f3 h3 ⊢;refine ic (j:=1) rfl h3 rfl ⟨_,⟨_,rfl,rfl,_,rfl,x2.1,_,1,1,rfl,rfl,h3,rfl,?_⟩⟩;have y7:(aZ S c st).ck.length=S.ck.length:=by rw[ef.ck,kv]
   have e3:((aZ S c st).ck.set c { k' with pl:=cY st k.rg k.pl,ct:=k'.ct })[c]?=a_ { k' with pl:=cY st k.rg k.pl,ct:=k'.ct }:=jz wg;refine af (M3.qL e3) λx3 ua C3=>?_;have ex:x3=x2:=by rw[hx]at ua;exact(dq ua).symm
   subst ex;have M4:=VF M3 L e3 hx C3 (cY st k.rg k.pl) (k'.ct+1);refine q _ _ ?_ (f1.trans (f2.trans (f3.trans (FS.upd (.k1 (bo hx)) h3))));rw[xS];have e:{ (aZ S c st)with ck:=((aZ S c st).ck.set c { k' with pl:=cY st k.rg k.pl,ct:=k'.ct }).set c { k' with pl:=cY st k.rg k.pl,ct:=k'.ct+1 } }={ (aZ S c st)with ck:=(aZ S c st).ck.set c { k' with pl:=cY st k.rg k.pl,ct:=k'.ct+1 } }:=by rw[vU]
   rw[<-e];exact M4
  refine ic (j:=0) rfl M.st rfl (vr rfl (rL (v:=.ref x.1) (aj.of M.cl) (dA hx) (ak _ rfl (vr rfl (rT (aI.of gX) (cb hpv) (ic (j:=0) rfl C.st rfl (rT (v:=.ref p) (aI.of AV) (cb huv) (ic (j:=0) rfl C.st rfl ⟨_,⟨_,rfl,rfl,?_⟩⟩))))))));have q':∀σ' H',dh H' s B (eR S c)->FS s B H H'->(λ(_:L2.St) H'=>Q .aJ H') σ' H':=λσ' H' a b=>q H' a b
  have eb:st.1 ≠ "skip"->((k.pl:Int)+1)=((cY st k.rg k.pl:Nat):Int):=λh=>by
   unfold cY;rw[if_neg λz=>h z.1];rfl
  cases g with
  | clear=>
   have fZ:H p=a_ (.tup [.str "clear"]):=hp;have eb:=eb (show ("clear" : Str) ≠ "skip" from dk);exact eK rfl fZ rfl dk (eK rfl fZ rfl dk (eK rfl fZ rfl dk (lR (by rw[<-eb];rfl) (by rw[Aa (show ("clear" : Str) ≠ "put" from dk) (show ("clear" : Str) ≠ "add" from dk)];exact M) (FS.of (ai.refl H)) q')))
  | set n' r g1 g2=>
   have fZ:H p=a_ (.tup [.str "set",.int (n':Nat),.int (r:Nat)]):=hp;have eb:=eb (show ("set" : Str) ≠ "skip" from dk);exact eK rfl fZ rfl dk (eK rfl fZ rfl dk (eK rfl fZ rfl dk (lR (by rw[<-eb];rfl) (by rw[Aa (show ("set" : Str) ≠ "put" from dk) (show ("set" : Str) ≠ "add" from dk)];exact M) (FS.of (ai.refl H)) q')))
  | look r n' g1 g2=>
   have fZ:H p=a_ (.tup [.str "look",.int (r:Nat),.int (n':Nat)]):=hp;have eb:=eb (show ("look" : Str) ≠ "skip" from dk);exact eK rfl fZ rfl dk (eK rfl fZ rfl dk (eK rfl fZ rfl dk (lR (by rw[<-eb];rfl) (by rw[Aa (show ("look" : Str) ≠ "put" from dk) (show ("look" : Str) ≠ "add" from dk)];exact M) (FS.of (ai.refl H)) q')))
  | swap r n' g1 g2=>
   have fZ:H p=a_ (.tup [.str "swap",.int (r:Nat),.int (n':Nat)]):=hp;have eb:=eb (show ("swap" : Str) ≠ "skip" from dk);exact eK rfl fZ rfl dk (eK rfl fZ rfl dk (eK rfl fZ rfl dk (lR (by rw[<-eb];rfl) (by rw[Aa (show ("swap" : Str) ≠ "put" from dk) (show ("swap" : Str) ≠ "add" from dk)];exact M) (FS.of (ai.refl H)) q')))
  | put r n' g1 g2=>
   have hp:H p=a_ (.tup [.str "put",.int (r:Nat),.int (n':Nat)]):=hp;have eb:=eb (show ("put" : Str) ≠ "skip" from dk);refine dm (j:=0) rfl hp rfl ⟨rfl,⟨_,rfl,bq (λ_=>?_) λy=>absurd rfl y⟩⟩;refine dm (j:=2) rfl hp rfl (ic (j:=2) rfl C.st rfl (dm (j:=1) rfl hp rfl (ml x.2.1 _ _ r rfl rfl C.rg (pD (by rw[aO,dQ];exact g1)) ?_)));have M1:=Fm M L hk hx C r (n':Nat);have f1:FS s B H (upd H x.2.1 (.lst ((k.rg.map V.int).set r (.int (n':Nat))))):=FS.upd (.k2 (bo hx)) C.rg;generalize upd H x.2.1 (.lst ((k.rg.map V.int).set r (.int (n':Nat))))=H1 at M1 f1 ⊢;have dW:=f1.tup hp;exact eK rfl dW rfl dk (eK rfl dW rfl dk (lR (by rw[<-eb];rfl) (by rw[TX,ou hk];exact M1) f1 q'))
  | add r o g1 g2=>
   have hp:H p=a_ (.tup [.str "add",.int (r:Nat),.int (o:Nat)]):=hp;have eb:=eb (show ("add" : Str) ≠ "skip" from dk);have ud:k.rg[r]?=a_ (k.rg[r]'wg):=aX wg;have A3:k.rg[o]?=a_ (k.rg[o]'wg):=aX wg;have ep:=TY (r:=r) (o:=o) hk;rw[nv ud,nv A3]at ep;generalize k.rg[r]'wg=v1 at ud ep;generalize k.rg[o]'wg=v2 at A3 ep;refine eK rfl hp rfl dk (dm (j:=0) rfl hp rfl ⟨rfl,⟨_,rfl,bq (λ_=>?_) λy=>absurd rfl y⟩⟩);refine ic (j:=2) rfl C.st rfl (dm (j:=1) rfl hp rfl (rL (v:=.int v1) (aj.of C.rg) (dA ud) (ic (j:=2) rfl C.st rfl (dm (j:=2) rfl hp rfl (rL (v:=.int v2) (aj.of C.rg) (dA A3) ⟨_,⟨_,rfl,rfl,_,_,rfl,rfl,⟨qc,qc,qc⟩,_,_,rfl,rfl,by show (0:Int)<10^(60:Int).toNat;decide +kernel,ic (j:=2) rfl C.st rfl (dm (j:=1) rfl hp rfl (ml x.2.1 _ _ r rfl rfl C.rg (pD (by rw[aO,dQ];exact g1)) ?_))⟩⟩)))));have M1:=Fm M L hk hx C r ((v1+v2)%jD);rw[<-aip]at M1 ep;have f1:FS s B H (upd H x.2.1 (.lst ((k.rg.map V.int).set r (.int ((v1+v2)%(10:Int)^(60:Int).toNat))))):=FS.upd (.k2 (bo hx)) C.rg;dsimp only;generalize upd H x.2.1 (.lst ((k.rg.map V.int).set r (.int ((v1+v2)%(10:Int)^(60:Int).toNat))))=H1 at M1 f1 ⊢;have dW:=f1.tup hp;exact eK rfl dW rfl dk (lR (by rw[<-eb];rfl) (by rw[ep,ou hk];exact M1) f1 q')
  | skip r n' g1 g2 g3=>
   have hp:H p=a_ (.tup [.str "skip",.int (r:Nat),.int (n':Nat)]):=hp;have ud:k.rg[r]?=a_ (k.rg[r]'wg):=aX wg;have eg:=nv (d:=0) ud;generalize k.rg[r]'wg=v1 at ud eg;have ep:pZ S c ("skip",[r,n'])=S:=Aa (show ("skip" : Str) ≠ "put" from dk) (show ("skip" : Str) ≠ "add" from dk);refine eK rfl hp rfl dk (eK rfl hp rfl dk (dm (j:=0) rfl hp rfl ⟨rfl,⟨_,rfl,bq (λ_=>?_) λy=>absurd rfl y⟩⟩));refine ic (j:=2) rfl C.st rfl (dm (j:=1) rfl hp rfl (rL (v:=.int v1) (aj.of C.rg) (dA ud) ⟨rfl,⟨_,rfl,bq (λh0=>?_) λh0=>?_⟩⟩))
   ·have h0':v1=0:=by injection h0
    refine dm (j:=2) rfl hp rfl ?_
    have e:cY ("skip",[r,n']) k.rg k.pl=n':=by
     unfold cY;rw[if_pos ⟨rfl,by show k.rg.getD r 0=0;rw[eg];exact h0'⟩];rfl
    exact lR (by rw[e];rfl) (by rw[ep];exact M) (FS.of (ai.refl H)) q'
   ·have e:cY ("skip",[r,n']) k.rg k.pl=k.pl+1:=by
     unfold cY;rw[if_neg λh=>h0 (by have h2:k.rg.getD r 0=0:=h.2;rw[eg]at h2;rw[h2])]
    exact lR (by rw[e];rfl) (by rw[ep];exact M) (FS.of (ai.refl H)) q'
def tM(H0 H:Hp)(R:e_->Nat->Prop):Prop:=∀m,Own H0 m H R
theorem tM.nx{R:e_->Nat->Prop}{o:HO}(n:Nat)(h:tM H0 H R)(hB:H b=b_):∃R',tM H0 (upd H b o) R'/\(∀a v,R a v->R' a v)/\R' b n:=⟨_,λm=>(h m).new (n:=n) hB,λa v z=>.inl z,.inr ⟨rfl,rfl⟩⟩
theorem tM.keep{R:e_->Nat->Prop}(h:tM H0 H R)(s:ai H H'):tM H0 H' R:=λm=>(h m).keep λb z=>s.free z
theorem tM.none{R:e_->Nat->Prop}(h:tM H0 H R){v:Nat}(r:R a v):H0 a=none:=by
 rcases(h 0).f a v r with z | z
 ·rcases(h 1).f a v r with y | y
  ·rw[z]at y;cases y
  ·exact y
 ·exact z
theorem aiP:(["_law_part"]:List Str).Nodup:=dk
theorem aiQ:(["_law_name"]:List Str).Nodup:=dk
def VJ:Sp:=λvs H Q _=>∃v ps kd,vs=[v]/\mw H v ps/\ps.length<=4/\∀H' s B lab,dh H' s B (iX kd ps)->oN lab s B->ai H H'->(∀b,lZ s B b->H b=b_)->Q (.ref s) H'
theorem VQ:ba ["_law_program_here","_law_clerks"] ["_law_program_here"] (aT Nq):=bg
theorem agV(F:aV K "_law_new" "_law_new" Nq f fd)(dQ:mg "range" = b_):ax P w K mg base aB 1 f fd ["_law_program_here"] VJ:=by
 refine F.ok VQ (λvs H Q E h=>?_) λaL A _ s H vs Q E hr h=>?_
 ·refine eh h λv ps kd aa _=>?_;clear h;subst aa;rfl
 ·obtain⟨v,ps,kd,aa,hP,hle,q⟩:=h;subst aa
  refine let R1:TS:=_;⟨_,aD (Eg (i:=1) (N:=["_law_part"]) (idx:=[]) VQ.nd rfl rfl rfl (eT.of (by kernel_rfl)) (jV (cy _)) (uJ (pv 0)) (λ_ _ _ _=>de (i:=0) aiP rfl (aP rfl) (.inr rfl)) (λ_ _ _ _=>jK)
    λ_ _ _ _=>dN (ae aq (ae aq (ae (dN (ae aq (ae aq (ae aq (ae aq ag))))) (ae (dN ag) ag)))))
   (pR R1 (aE (a8 (dN (ae (pv 1) (ae (bb LJ (dN (ae aq ag)) aq) (ae (dN ag) (ae (jX (N:=["_law_name"]) (idx:=[]) rfl (eT.of (by kernel_rfl)) (jV (cy _)) (sU rfl dQ (ae aq ag)) (λ_ _ _ _=>de (i:=0) aiQ rfl (aP rfl) (.inr rfl)) (λ_ _ _ _=>jK) λ_ _ _ _=>dN ag) ag)))))))),?_⟩
  refine cI (id hP) λpg eC aa gX pd=>?_;subst aa;have ee:=Paired.length pd;refine ak _ rfl (du pg rfl ⟨_,aI.of gX⟩ (jn (n:=eC.length) (λi ys H'=>i<=eC.length/\∃ks:List (e_×e_×e_),ys=(ks.map λx=>V.ref x.1)/\ks.length=i/\ai H H'/\(∀x∈ks,tO H' x k0)/\∃R,tM H H' R/\∀j x,ks[j]?=a_ x->R x.1 (21+8*j)/\R x.2.1 (23+8*j)/\R x.2.2 (25+8*j)) (dw (dZ (by exact w8))) ⟨cy _,⟨[],rfl,rfl,ai.refl _,λx hx=>(by cases hx),λ_ _=>False,λm=>⟨⟨λ_=>0,λa v z=>z.elim⟩,λa v z=>z.elim,λa v z=>z.elim,λb z=>z⟩,λj x z=>(by simp at z)⟩⟩ ?_ ?_ ?_ ?_ ?_))
  ·intro i ys H' av;refine oA av λ_ aa=>aG aa λks aa aH _=>?_;subst aa;subst aH;rw[aO];exact aN _
  ·intro i ys H' hi av;exact oA av λ_ aa=>cR aa λks _ _ s2 _=>eG _ _ (aI.of (s2 _ _ gX)) (aX hi)
  ·intro ys H' av;exact oA av λ_ aa=>cR aa λks _ _ s2 _=>ak _ (aI.of (s2 _ _ gX)) (aN _)
  ·intro i ys H' hi av z H2 eW;refine oA av λ_ aa=>nA aa λks aa aH s2 O0 oX=>?_;subst aa;subst aH;refine af oX λR oR rR=>oA eW λeH dG=>?_;subst eH;dsimp only[j',jd];rw[if_pos rfl];refine⟨(sl (n:=4)),λy1 n1=>⟨qc,λy2 n2=>⟨(sl (n:=4)),λy3 n3=>aG (oR.nx (o:=.lst [.int 0,.int 0,.int 0,.int 0]) (23+8*ks.length) n1) λR1 o1 i1 r1=>aG (o1.nx (o:=.lst []) (25+8*ks.length) n2) λR2 o2 i2 r2=>aG (o2.nx (o:=.lst [.int 0,.int 0,.ref y1,.ref y2]) (21+8*ks.length) n3) λR3 o3 i3 r3=>?_⟩⟩⟩;have t1:ai H2 (upd H2 y1 (.lst [.int 0,.int 0,.int 0,.int 0])):=aM (ai.refl _) n1;have h1:upd H2 y1 (.lst [.int 0,.int 0,.int 0,.int 0]) y1=a_ (.lst [.int 0,.int 0,.int 0,.int 0]):=aA;generalize upd H2 y1 (.lst [.int 0,.int 0,.int 0,.int 0])=H3 at t1 h1 n2 n3 o1 o2 o3 ⊢;have t2:ai H3 (upd H3 y2 (.lst [])):=aM (ai.refl _) n2;have h2:upd H3 y2 (.lst []) y2=a_ (.lst []):=aA;generalize upd H3 y2 (.lst [])=H4 at t2 h2 n3 o2 o3 ⊢;have t3:ai H4 (upd H4 y3 (.lst [.int 0,.int 0,.ref y1,.ref y2])):=aM (ai.refl _) n3;have h3:upd H4 y3 (.lst [.int 0,.int 0,.ref y1,.ref y2]) y3=a_ (.lst [.int 0,.int 0,.ref y1,.ref y2]):=aA;generalize upd H4 y3 (.lst [.int 0,.int 0,.ref y1,.ref y2])=H5 at t3 h3 o3 ⊢;have t:=t1.trans (t2.trans t3);refine⟨hi,⟨ks++[(y3,y1,y2)],by rw[gg];rfl,by rw[dM];rfl,s2.trans t,λx hx=>?_,R3,o3,λj x hx=>?_⟩⟩
   ·rcases jA.mp hx with hx | hx
    ·exact(O0 x hx).keep (λo e=>t _ _ e) (λo e=>t _ _ e) (λo e=>t _ _ e) λb xs e=>t _ _ e
    ·rw[gJ.mp hx];exact⟨h3,t3 _ _ (t2 _ _ h1),[],t3 _ _ h2,.nil⟩
   ·have lift:∀a v,R a v->R3 a v:=λa v z=>i3 _ _ (i2 _ _ (i1 _ _ z));rcases BH hx with hx | ⟨e1,e2⟩
    ·exact bp (rR j x hx) λa1 a2 a3=>eM (lift _ _ a1) (lift _ _ a2) (lift _ _ a3)
    ·subst e1;subst e2;exact eM r3 (i3 _ _ (i2 _ _ r1)) (i3 _ _ r2)
  intro ys H1 av;refine oA av λ_ aa=>nA aa λks aa hkl s1 O0 aH=>?_;subst aa;refine af aH λR oR rR=>⟨by rw[aO];exact dw (dZ (by exact wu)),λcl YB=>aG (oR.nx (o:=.lst (ks.map λx=>V.ref x.1)) 3 YB) λR1 o1 i1 r1=>?_⟩;have t1:ai H1 (upd H1 cl (.lst (ks.map λx=>V.ref x.1))):=aM (ai.refl _) YB;have rA:upd H1 cl (.lst (ks.map λx=>V.ref x.1)) cl=a_ (.lst (ks.map λx=>V.ref x.1)):=aA;generalize upd H1 cl (.lst (ks.map λx=>V.ref x.1))=H2 at t1 rA o1 ⊢;refine vr rfl ⟨qc,(λy ny=>⟨y,12,_,rfl,rfl,aA,qc,qc,qc,λbd Hw=>?_⟩)⟩;have ty:ai H2 (upd H2 y (.lst [.int 0])):=aM (ai.refl _) ny;refine aG ((o1.keep ty).nx (o:=.lst ((eD 12 (0:Int)).map V.int)) 5 Hw) λR2 o2 i2 r2=>?_;have t2:ai H2 (upd (upd H2 y (.lst [.int 0])) bd (.lst ((eD 12 (0:Int)).map V.int))):=aM ty Hw;have Zi:upd (upd H2 y (.lst [.int 0])) bd (.lst ((eD 12 (0:Int)).map V.int)) bd=a_ (.lst ((eD 12 (0:Int)).map V.int)):=aA;rw[show (eD (12:Int).toNat [V.int 0]).flatten=(eD 12 (0:Int)).map V.int from rfl];generalize upd (upd H2 y (.lst [.int 0])) bd (.lst ((eD 12 (0:Int)).map V.int))=H3 at t2 Zi o2 ⊢;refine⟨qc,λac Hx=>aG (o2.nx (o:=.lst []) 7 Hx) λR3 o3 i3 r3=>?_⟩;have t3:ai H3 (upd H3 ac (.lst [])):=aM (ai.refl _) Hx;have gY:upd H3 ac (.lst []) ac=a_ (.lst []):=aA;generalize upd H3 ac (.lst [])=H4 at t3 gY o3 ⊢;refine⟨12,rfl,qc,qc,?_⟩;rw[show (12:Int).toNat=12 from rfl];refine jn (n:=12) (λi ys H'=>i<=12/\∃rs:List e_,ys=rs.map V.ref/\rs.length=i/\ai H4 H'/\(∀a∈rs,H' a=a_ (.lst (([]:List Int).map V.int)))/\∃R,tM H H' R/\(∀a v,R3 a v->R a v)/\∀(j:Nat) a,rs[j]?=a_ a->R a (27+8*j)) (dw (dZ li)) ⟨cy _,⟨[],rfl,rfl,ai.refl _,λx hx=>(by cases hx),R3,o3,λ_ _ z=>z,λj x z=>(by simp at z)⟩⟩ ?_ ?_ ?_ ?_ ?_
  ·intro i ys H' av;refine oA av λ_ aa=>aG aa λrs aa aH _=>?_;subst aa;subst aH;rw[aO];exact aN _
  ·intro i ys H' hi av;exact oA av λ_ aa=>cR aa λrs _ _ s _=>hi
  ·intro ys H' av;exact oA av λ_ aa=>cR aa λrs _ _ s _=>aN _
  ·intro i ys H' hi av z i0 eW;refine oA av λ_ aa=>nA aa λrs aa aH s vx oX=>?_;subst aa;subst aH;refine aG oX λR' oR' iR Dd=>oA eW λeH dG=>?_;subst eH;dsimp only[j',jd];rw[if_pos rfl];refine⟨qc,λx nx=>aG (oR'.nx (o:=.lst (([]:List Int).map V.int)) (27+8*rs.length) nx) λR4 o4 i4 r4=>?_⟩;have sx:ai i0 (upd i0 x (.lst (([]:List Int).map V.int))):=aM (ai.refl _) nx;have hx:upd i0 x (.lst (([]:List Int).map V.int)) x=a_ (.lst (([]:List Int).map V.int)):=aA;refine⟨hi,⟨rs++[x],by rw[gg];rfl,by rw[dM];rfl,s.trans sx,λy hy=>?_,R4,o4,λa v z=>i4 a v (iR a v z),λj y hy=>?_⟩⟩
   ·rcases jA.mp hy with hy | hy
    ·exact sx _ _ (vx y hy)
    ·rw[gJ.mp hy];exact hx
   ·rcases BH hy with hy | ⟨e1,e2⟩
    ·exact i4 _ _ (Dd j y hy)
    ·subst e1;subst e2;exact r4
  intro ys H5 av;refine oA av λ_ aa=>nA aa λos aa OW s5 yX aH=>?_;subst aa;refine aG aH λR5 o5 i5 r5=>⟨by rw[aO];exact dw (dZ (by exact w6)),λov Yw=>⟨(sl (n:=4)),λst tY=>aG (o5.nx (o:=.lst (os.map V.ref)) 9 Yw) λR6 o6 i6 r6=>?_⟩⟩;have t6:ai H5 (upd H5 ov (.lst (os.map V.ref))):=aM (ai.refl _) Yw;have jH:upd H5 ov (.lst (os.map V.ref)) ov=a_ (.lst (os.map V.ref)):=aA;generalize upd H5 ov (.lst (os.map V.ref))=H6 at t6 jH o6 tY ⊢;refine aG (o6.nx (o:=.lst [.ref cl,.ref bd,.ref ac,.ref ov]) 1 tY) λR7 o7 i7 r7=>?_;have t7:ai H6 (upd H6 st (.lst [.ref cl,.ref bd,.ref ac,.ref ov])):=aM (ai.refl _) tY;have dn:upd H6 st (.lst [.ref cl,.ref bd,.ref ac,.ref ov]) st=a_ (.lst [.ref cl,.ref bd,.ref ac,.ref ov]):=aA;generalize upd H6 st (.lst [.ref cl,.ref bd,.ref ac,.ref ov])=H7 at t7 dn o7 ⊢;have n5:=t6.trans t7;have n4:=s5.trans n5;have n3:=t3.trans n4;have n2:=t2.trans n3;have n1:=t1.trans n2;have j5:∀a v,R5 a v->R7 a v:=λa v z=>i7 _ _ (i6 _ _ z);have j3:∀a v,R3 a v->R7 a v:=λa v z=>j5 _ _ (i5 _ _ z);have j2:∀a v,R2 a v->R7 a v:=λa v z=>j3 _ _ (i3 _ _ z);have j1:∀a v,R1 a v->R7 a v:=λa v z=>j2 _ _ (i2 _ _ z);have j0:∀a v,R a v->R7 a v:=λa v z=>j1 _ _ (i1 _ _ z);refine oE ((o7 0).l) λlab jE=>?_
  have M:dh H7 st ⟨cl,bd,ac,ov,ks,os⟩ (iX kd ps):=by
   exact⟨dn,n2 _ _ rA,D4 (show ks.length=ps.length by exact wo) λx hx=>(O0 x hx).keep (λo e=>n1 _ _ e) (λo e=>n1 _ _ e) (λo e=>n1 _ _ e) λb xs e=>n1 _ _ e,n3 _ _ Zi,⟨[],n4 _ _ gY,.nil⟩,t7 _ _ jH,Jt (F:=λa (o:List Int)=>H7 a=a_ (.lst (o.map V.int))) (y:=[]) OW λa ha=>n5 _ _ (yX a ha)⟩
  have L:oN lab st ⟨cl,bd,ac,ov,ks,os⟩:=⟨jE _ _ r7,jE _ _ (j1 _ _ r1),jE _ _ (j2 _ _ r2),jE _ _ (j3 _ _ r3),jE _ _ (i7 _ _ r6),λi x z=>jE _ _ (j0 _ _ (rR i x z).1),λi x z=>jE _ _ (j0 _ _ (rR i x z).2.1),λi x z=>jE _ _ (j0 _ _ (rR i x z).2.2),λi a z=>jE _ _ (j5 _ _ (r5 i a z))⟩;refine q H7 st _ lab M L (s1.trans n1) λb hb=>?_;cases hb with
  | s=>exact o7.none r7
  | cl=>exact o7.none (j1 _ _ r1)
  | bd=>exact o7.none (j2 _ _ r2)
  | ac=>exact o7.none (j3 _ _ r3)
  | ov=>exact o7.none (i7 _ _ r6)
  | k1 h=>
   refine oE (vJ h) λj hj=>?_;exact o7.none (j0 _ _ (rR j _ hj).1)
  | k2 h=>
   refine oE (vJ h) λj hj=>?_;exact o7.none (j0 _ _ (rR j _ hj).2.1)
  | k3 h=>
   refine oE (vJ h) λj hj=>?_;exact o7.none (j0 _ _ (rR j _ hj).2.2)
  | os h=>
   refine oE (vJ h) λj hj=>?_;exact o7.none (j5 _ _ (r5 j _ hj))
def pairD(e:Ent):PyData:=.tuple [.int e.n,.int e.num]
theorem abr(es:List Ent):shaped (.list (es.map pairD))=true:=Ee (λe _=>by simp[pairD,sM,sJ]) λe _=>by simp[pairD,pj,rF]
theorem afO:(["_law_row"]:List Str).Nodup:=dk
def oD:Option Int->PyData
 | none=>.none
 | some i=>.int i
def xn(a:Act):PyData:=.tuple [.str a.k,.int (a.c:Nat),.int (a.n:Nat),oD a.got,oD a.gave,oD a.seen]
def pI(S:Mc):Prop:=∀a∈S.ac,nY a.k=c_
theorem Ac{K:PySem.W.Frag}(o:Option Int):iE K H (oV o) (oD o):=by
 cases o with
 | none=>exact .aJ
 | some i=>exact .int i
theorem Li{K:PySem.W.Frag}(h:pW H v a):iE K H v (xn a):=by
 obtain⟨p,rfl,h⟩:=h;exact .tup (aI.of h) (.cons (.str _) (.cons (.int _) (.cons (.int _) (.cons (Ac _) (.cons (Ac _) (.cons (Ac _) .nil))))))
theorem pS(o:Option Int):(oD o).canLay0=c_/\(oD o).depth<=1:=by cases o <;> exact⟨rfl,by simp[oD,pj]⟩
theorem QZ{l:List Act}(h:∀a∈l,nY a.k=c_):shaped (.list (l.map xn))=true:=by
 refine Ee (λa ha=>?_) λa ha=>?_
 ·unfold xn;simp only[sM,sJ];rw[h a ha,(pS a.got).1,(pS a.gave).1,(pS a.seen).1];rfl
 ·unfold xn;have h1:=(pS a.got).2;have h2:=(pS a.gave).2;have h3:=(pS a.seen).2;simp only[pj,rF];lia
theorem yd(l:List Int):shaped (.list (l.map lI))=true:=Ee (λa _=>rfl) λa _=>by simp[pj]
theorem aby(l:List (List Int)):shaped (.list (l.map λo=>Q1 (o.map lI)))=true:=by
 refine Ee (λa _=>?_) λa _=>?_
 ·simp only[sM];exact zP λa _=>rfl
 ·have h:=v5 (f:=lI) (k:=1) (l:=a) (λa _=>by simp[pj]);simp only[pj];exact wb
theorem pQ{K:PySem.W.Frag}{H:Hp}{a:e_}{l:List Int}(h:H a=a_ (.lst (l.map V.int))):iE K H (.ref a) (.list (l.map lI)):=.lst (aj.of h) (Jx l)
theorem SY{K:PySem.W.Frag}(h:wI H v e):iE K H v (pairD e):=by
 obtain⟨p,rfl,h⟩:=h;exact .tup (aI.of h) (.cons (.int _) (.cons (.int _) .nil))
theorem akL(e:Ent):jt [V.int e.n,V.int e.num,V.int e.d] b_ (a_ 2)=[.int e.n,.int e.num]:=rfl
theorem wI.same(s:ai H H')(h:wI H v e):wI H' v e:=by
 exact af h λp e h=>ak p e (s _ _ h)
theorem Rl{K:PySem.W.Frag}:∀{as:List e_} {l:List (List Int)},Paired (λa (o:List Int)=>H a=a_ (.lst (o.map V.int))) as l->oF K H (as.map V.ref) (l.map λo=>Q1 (o.map lI))
 | _,_,.nil=>.nil
 | _,_,.cons h t=>.cons (pQ h) (Rl t)
theorem aiL:¬(HT.cA 3 0 b_=0/\HT.cA 3 3 (a_ 2)=3):=qc
theorem ag2:(["_law_machine","_law_name"]:List Str).Nodup:=dk
section
variable{t:a9}{C CT:e_}
structure Tells(P:l_)(w:k_)(K:PySem.W.Frag)(mg:Str->Option f_)(base:j_)(t:a9)(C CT:e_)(f1 f2 f3 f4 f5 f6 f7:e_)(d1 d2 d3 d4 d5 d6 d7:iJ):Prop where
 cM:fb K C
 g1:ax P w K mg base aB 1 f1 d1 zLa (zW t C CT Ck.pl)
 b1:Binds K d1 zLa []
 m1:Meth K C "where" f1
 g2:ax P w K mg base aB 1 f2 d2 zLa (zW t C CT Ck.ct)
 b2:Binds K d2 zLa []
 m2:Meth K C "steps_done" f2
 g3:ax P w K mg base aB 1 f3 d3 zLa (UM t C CT)
 b3:Binds K d3 zLa []
 m3:Meth K C "registers" f3
 g4:ax P w K mg base aB 2 f4 d4 zLa (Rz t C CT)
 b4:Binds K d4 zLa []
 m4:Meth K C "waiting" f4
 g5:ax P w K mg base aB 1 f5 d5 zLe (KC t C CT)
 b5:Binds K d5 zLe []
 m5:Meth K C "board" f5
 g6:ax P w K mg base aB 1 f6 d6 zLe (zX t C CT)
 b6:Binds K d6 zLe []
 m6:Meth K C "deeds" f6
 g7:ax P w K mg base aB 1 f7 d7 zLj (UO t C CT)
 b7:Binds K d7 zLj []
 m7:Meth K C "over" f7
def UR(t:a9)(C CT:e_):Sp:=λvs H Q _=>∃m A s B S v n,vs=[.ref m,.ref s,v]/\aY t C CT H m A S/\dh H s B S/\ie n S/\n<64/\pI S/\mw H v S.ps/\∀H',ai H H'->Q (.bl c_) H'
theorem Lu:ba ["_law_machine","_law_stand","_law_program_here","_law_clerk","_law_state"] zLl (aT Mu):=bg
theorem afA{f f1 f2 f3 f4 f5 f6 f7:e_}{fd d1 d2 d3 d4 d5 d6 d7:iJ}(F:aV K "_law_like" "_law_like" Mu f fd)(dE:mg "len" = b_)(dQ:mg "range" = b_)(T:Tells P w K mg base t C CT f1 f2 f3 f4 f5 f6 f7 d1 d2 d3 d4 d5 d6 d7):ax P w K mg base aB 3 f fd zLl (UR t C CT):=by
 refine F.ok Lu (λvs H Q E h=>?_) λaL A _ s H vs Q E hr h=>?_
 ·obtain⟨m,A,s,B,S,v,n,aa,_⟩:=h;subst aa;rfl
 ·obtain⟨m,A,s,B,S,v,n,aa,M,N,aH⟩:=h;subst aa;refine my aH λW hn A8 hP q=>?_;have hu:=hr.units;have cX:=hr.mono (show 1<=2 by decide)
  refine let R1:TS:=_;let R2:TS:=_;let R3:TS:=_;let R4:TS:=_;let R5:TS:=_;⟨_,aD (pB mf rfl (sU rfl dQ (ae (cg fg rfl dE PySem.boot_len (ae (pv 2) ag)) ag)) (de (i:=3) Lu.nd rfl (aP rfl)) (pR R3 (aD (bJ (i:=4) Lu.nd rfl (aP rfl) (az aS (az aS (pv 1) aq) (pv 3))) (pR R2 (aD (b9 (PW.pt (pw_or (br Fu (gm (pv 0) T.cM.cl T.m1 T.g1 cX T.b1 .nil aR (ae (pv 3) ag)) (az aS (pv 4) aq) (bf _)) (pw_or1 (br Fu (gm (pv 0) T.cM.cl T.m2 T.g2 cX T.b2 .nil aR (ae (pv 3) ag)) (az aS (pv 4) aq) (bf _))))) (aE (a8 nD)) cD) (pR R1 (aE (b9 (PW.pt (pw_or (br (uK hu) (gm (pv 0) T.cM.cl T.m3 T.g3 cX T.b3 .nil aR (ae (pv 3) ag)) (az aS (pv 4) aq) (bf _)) (pw_or1 (br (uK hu) (gm (pv 0) T.cM.cl T.m4 T.g4 hr T.b4 .nil aR (ae (pv 3) ag)) (jX (N:=["_law_row"]) (idx:=[]) rfl (eT.of (by kernel_rfl)) (jV (cy _)) (rQ (az aS (pv 4) aq)) (λ_ _ _ _=>de (i:=0) afO rfl (aP rfl) (.inr rfl)) (λ_ _ _ _=>jK) λ_ _ _ _=>og (Ai K) (pv 0) oq (oo aq)) (bf _))))) (aE (a8 nD)) cD))))))))
   (pR R5 (aD (b9 (PW.pt (pw_or (br (uK hu) (ip (pv 0) T.cM.cl T.m5 T.g5 cX T.b5 .nil aR) (az aS (pv 1) aq) (bf _)) (pw_or1 (br (uK hu) (ip (pv 0) T.cM.cl T.m6 T.g6 cX T.b6 .nil aR) (az aS (pv 1) aq) (bf _))))) (aE (a8 nD)) cD) (pR R4 (aE (a8 (qG (Cb hu) (jX (N:=["_law_machine","_law_name"]) (idx:=[0]) rfl (eT.of (by kernel_rfl)) (jV (aN _)) (sU rfl dQ (ae aq ag)) (λ_ _ _ _=>de (i:=1) ag2 rfl (aP rfl) (.inr rfl)) (λ_ _ _ _=>jK) λ_ _ _ _=>gm (pv 0) T.cM.cl T.m7 T.g7 cX T.b7 .nil aR (ae (pv 1) ag)) (az aS (pv 1) aq) (bf _))))))),?_⟩
  refine cI (id hP) λpg eC aa gX pd=>?_;subst aa;have ee:eC.length=S.ck.length:=by rw[Paired.length pd];exact W.wf.len.symm
  have h4:=W.wf.four;have ZF:=wG;refine aW (id M.obj) λdx fs hm G=>vr rfl ⟨pg,⟨_,rfl,.inr (aI.of gX),_,rfl,li,li,?_⟩⟩;rw[show ((eC.length:Int)).toNat=eC.length by omega]
  let W1:IV:=λi σ H'=>i<=eC.length/\(∃c y1,σ=[a_ (.ref m),a_ (.ref s),a_ (.ref pg),c,y1])/\ai H H'
  refine yg (n:=eC.length) W1 ⟨cy _,⟨b_,b_,rfl⟩,ai.refl _⟩ ?_ ?_
  ·intro i σ H1 hi av;refine bp av λ_ aa s1=>xy aa λc0 y1 aa=>?_;subst aa;have hk:S.ck[i]?=a_ (S.ck[i]'wf):=aX wf;generalize S.ck[i]'wf=k at hk;have M1:=M.same s1;have N1:=N.same s1;have ma:=s1 _ _ hm;refine af (N1.qL hk) λx hx D=>af D.es λws hw ig=>?_;have hlen:=Paired.length ig;have Zf:=W.wf.es k (bo hk);have gY:=W.ac;have e0:(0+(i:Int))=(i:Int):=Bt _;refine ic (j:=0) rfl N1.st rfl (vr rfl (rL (v:=.ref x.1) (aj.of N1.cl) (by rw[e0];exact dA hx) (vM rfl ma (G.ms _ dk) (vr rfl (⟨m,A,S,i,k,(by rw[e0];rfl),M1,hk,⟨_,rfl,x.1,_,_,_,rfl,rfl,aj.of D.st,cb (j:=0) rfl,rfl,_,rfl,wL (λz=>absurd rfl z) λ_=>vM rfl ma (G.ms _ dk) (vr rfl (⟨m,A,S,i,k,(by rw[e0];rfl),M1,hk,⟨_,rfl,x.1,_,_,_,rfl,rfl,aj.of D.st,cb (j:=1) rfl,rfl,_,rfl,wL (λz=>absurd rfl z) λ_=>vM rfl ma (G.ms _ dk) (vr rfl (⟨m,A,S,i,k,(by rw[e0];rfl),M1,hk,(λl nl=>aG (nw (o:=.lst (k.rg.map V.int)) nl) λH2 e s2 hl=>?_)⟩))⟩⟩))⟩⟩)))));rw[e];clear e;refine ic (v:=.ref x.2.1) (j:=2) rfl ((s2 _ _ D.st)) rfl (zU (pQ hl) (pQ (s2 _ _ D.rg)) (yd _) (ak _ rfl (fj (vM rfl (s2 _ _ ma) (G.ms _ dk) (vr rfl (⟨m,A,S,i,k,(by rw[e0];rfl),(M1.same s2),hk,li,(λH3 l3 us s3 t8 y4 oZ=>?_)⟩))))));have nM:=s3 _ _ (s2 _ _ hw);refine vL (v:=.ref x.2.2) rfl (aj.of (s3 _ _ (s2 _ _ D.st))) (cb (j:=3) rfl) (du x.2.2 rfl ⟨_,aj.of nM⟩ ?_);have Dc:=s2.trans s3;refine jn (n:=ws.length) (λj zs H'=>j<=ws.length/\ai H3 H'/\Paired (wI H') zs (k.es.take j)) (dw (dZ li)) (eM (cy _) (ai.refl _) .nil) ?_ ?_ ?_ ?_ ?_
   ·intro j zs H' av;refine bp av λ_ _ e=>?_;rw[Paired.length e,i8];exact xl
   ·intro j zs H' hj av;exact bp av λ_ s4 _=>eG _ _ (aj.of (s4 _ _ nM)) (aX hj)
   ·intro zs H' av;exact bp av λ_ s4 _=>ak _ (aj.of (s4 _ _ nM)) (aN _)
   ·intro j zs H' hj av z i0 eW;refine bp av λ_ s4 e=>oA eW λeH dG=>?_;subst eH;have hz:=dG _ (aj.of (s4 _ _ nM));refine af (rK ig hz) λen ue aa=>af aa λp aa hp=>?_;subst aa;dsimp only[j',jd];rw[if_pos rfl];refine vr rfl (ak 2 rfl ⟨p,⟨_,rfl,aI.of (s4 _ _ (Dc _ _ hp)),aiL,λtp ht=>⟨hj,s4.trans (aM (ai.refl _) ht),?_⟩⟩⟩);rw[qw,ue];exact qz (Paired.cw e λ_ _ q=>q.same (aM (ai.refl _) ht)) (ak tp rfl (by rw[aA,akL]))
   intro zs H4 av;refine bp av λ_ s4 e=>?_;rw[lE li]at e;have OK:=Paired.length e;refine⟨dw (dZ li),λr nr=>aG (nw (o:=.lst zs) nr) λH5 e s5 Du=>?_⟩;rw[e];clear e;exact zU (d:=.list (k.es.map pairD)) (.lst (aj.of (s5 _ _ (s4 _ _ y4))) (uz (λv a q=>SY q) (Paired.cw oZ λ_ _ q=>q.same (s4.trans s5)))) (.lst (aj.of Du) (uz (λv a q=>SY q) (Paired.cw e λ_ _ q=>q.same s5))) (abr _) (ak _ rfl (fj (eM hi ⟨_,_,rfl⟩ (s1.trans (Dc.trans (s4.trans s5))))))
  ·intro σ H1 av;refine bp av λ_ aa s1=>xy aa λc0 y1 aa=>?_;subst aa;have M1:=M.same s1;have N1:=N.same s1;have ma:=s1 _ _ hm;refine vM rfl ma (G.ms _ dk) (mq m A S rfl M1 λl nl=>aG (nw (o:=.lst (S.bd.map V.int)) nl) λH2 e s2 hl=>?_);rw[e];clear e;have N2:=N1.same s2;refine ic (j:=1) rfl N2.st rfl (zU (pQ hl) (pQ N2.bd) (yd _) (ak _ rfl (fj (vM rfl (s2 _ _ ma) (G.ms _ dk) (mq m A S rfl (M1.same s2) λl3 qh t8 NQ=>aG (nw (o:=.lst qh) t8) λH3 e s3 y4=>?_)))));rw[e];clear e;have N3:=N2.same s3;refine af N3.ac λus alh alg=>ic (j:=2) rfl N3.st rfl (zU (d:=.list (S.ac.map xn)) (.lst (aj.of y4) (uz (λv a q=>Li q) (Paired.cw NQ λ_ _ q=>q.keep λb xs e=>s3 _ _ e))) (.lst (aj.of alh) (uz (λv a q=>Li q) alg)) (QZ A8) (ak _ rfl (fj (⟨12,rfl,qc,qc,?_⟩))));rw[show (12:Int).toNat=12 from rfl];have NM:=s1.trans (s2.trans s3);have OW:=W.wf.ov;refine jn (n:=12) (λj zs H'=>j<=12/\ai H3 H'/\Paired (λv (o:List Int)=>∃a,v=V.ref a/\H' a=a_ (.lst (o.map V.int))) zs (S.ov.take j)) (dw (dZ li)) (eM (cy _) (ai.refl _) .nil) ?_ ?_ ?_ ?_ ?_
   ·intro j zs H' av;refine bp av λ_ _ e=>?_;rw[Paired.length e,i8];exact xl
   ·rintro j zs H' hj _;exact hj
   ·rintro zs H' _;exact aN _
   ·intro j zs H' hj av z i0 eW;refine bp av λ_ s4 e=>oA eW λeH dG=>?_;subst eH;subst dG;have Za:S.ov[j]?=a_ (S.ov[j]'wg):=aX wg;dsimp only[j',jd];rw[if_pos rfl];refine vM rfl (s4 _ _ (NM _ _ hm)) (G.ms _ dk) (vr rfl (⟨m,A,S,j,_,(by rw[Bt];rfl),(M.same (NM.trans s4)),Za,(λl5 Hs=>⟨hj,s4.trans (aM (ai.refl _) Hs),?_⟩)⟩));rw[qw,Za];exact qz (Paired.cw e λ_ _ ⟨a,h1,h2⟩=>⟨a,h1,aM (ai.refl _) Hs _ _ h2⟩) (ak l5 rfl aA)
   intro zs H4 av;refine bp av λ_ s4 e=>?_;rw[lE w6]at e;have OK:=Paired.length e;refine⟨dw (dZ wu),λr nr=>aG (nw (o:=.lst zs) nr) λH5 e s5 Du=>?_⟩;rw[e];clear e;have N5:=N3.same (s4.trans s5);refine ic (j:=3) rfl N5.st rfl (Tf (d:=.list (S.ov.map λo=>Q1 (o.map lI))) (.lst (aj.of Du) (uz (λv a ⟨b,h1,h2⟩=>by rw[h1];exact pQ (s5 _ _ h2)) e)) (.lst (aj.of N5.ov) (Rl N5.os)) (aby _) (q H5 (NM.trans (s4.trans s5))))
end
theorem wA(S:Mc)(c r:Nat)(v:Int):(eZ S c r v).ac=S.ac:=by unfold eZ;cases S.ck[c]? <;> rfl
theorem Vh(S:Mc)(c:Nat)(s:Tl):(pF S c s).ac=S.ac:=by unfold pF;cases S.ck[c]? <;> rfl
theorem BN(S:Mc)(c n:Nat):(jo S c n).ac=S.ac:=by
 unfold jo;cases S.ck[c]? with
 | none=>rfl
 | some k=>
  dsimp only;cases (cu k.es n).head? <;> rfl
theorem ahD{c sz:Nat}(g:dH sz s)(hk:S.ck[c]?=a_ k)(h:pI S):pI (aZ S c s):=by
 have sn:∀(a:Act),nY a.k=c_->∀b∈S.ac++[a],nY b.k=true:=λa ha b hb=>by
  rcases jA.mp hb with y | y
  ·exact h b y
  ·rw[gJ.mp y];exact ha
 unfold pI;cases g with
 | put r n _ _=>
  rw[show aZ S c ("put",[r,n])=eZ S c r (n:Nat) from rfl,wA];exact h
 | add r o _ _=>
  have e:aZ S c ("add",[r,o])=eZ S c r ((k.rg.getD r 0+k.rg.getD o 0)%jD):=by
   unfold aZ;rw[if_neg (show ¬("add" : Str) = "put" from dk),if_pos rfl,hk];rfl
  rw[e,wA];exact h
 | set n r _ _=>
  rw[BY,B4 hk];unfold setG
  split
  ·rw[BN];exact sn _ (by show nY "set" = c_;decide +kernel)
  ·exact sn _ (by show nY "set" = c_;decide +kernel)
 | look r n _ _=>
  rw[BM];unfold mz;rw[hk];dsimp only;rw[wA];exact sn _ (by show nY "look" = c_;decide +kernel)
 | swap r n _ _=>
  rw[BL];unfold nC;rw[hk];dsimp only;rw[wA];exact sn _ (by show nY "swap" = c_;decide +kernel)
 | clear=>
  rw[<-rP S c (show ("clear" : Str) ≠ "put" from dk) (show ("clear" : Str) ≠ "add" from dk),By];exact h
 | skip r q _ _ _=>
  rw[<-rP S c (show ("skip" : Str) ≠ "put" from dk) (show ("skip" : Str) ≠ "add" from dk),BD];exact h
theorem zY{c:Nat}(hk:S.ck[c]?=a_ k)(hp:S.ps[c]?=a_ p)(hs:p[k.pl]?=a_ s):iV S ("do",[(c:Int)])=pF (aZ S c s) c s:=by
 unfold iV;rw[if_pos rfl];show eR S ((c:Int)).toNat=_;rw[jJ];unfold eR;rw[hk,hp];dsimp only;rw[hs]
theorem Bw(S:Mc)(c:Nat)(i:Int):iV S ("carry",[(c:Int),i])=jo S c i.toNat:=by
 unfold iV;rw[if_neg (show ¬("carry" : Str) = "do" from dk)];show jo S ((c:Int)).toNat _=_;rw[jJ];rfl
theorem Uc(W:lY S)(h:mv∈jL S)(ha:pI S):pI (iV S mv):=by
 rcases uy h with ⟨c,rfl,hc,p7⟩ | ⟨c,k,i,rfl,hk,jy⟩
 ·obtain⟨k,p,s,_,hk,hp,hs,g⟩:=(yj W hc p7);rw[zY hk hp hs];unfold pI;rw[Vh];exact ahD g hk ha
 ·rw[Bw];unfold pI;rw[BN];exact ha
theorem U8(kd:Str)(ps:List Pt):pI (iX kd ps):=λa ha=>by cases ha
theorem JL{n:Nat}(W:ie n S)(h:mv∈jL S):(iV S mv).kd=S.kd/\(iV S mv).ps=S.ps/\(iV S mv).ck.length=S.ck.length:=by
 rcases uy h with ⟨c,rfl,hc,p7⟩ | ⟨c,k,i,rfl,hk,jy⟩
 ·refine yi (yj W.wf hc p7) λk p s _ hk hp hs g=>aG (BZ W g hk) λk' f e1 e2=>?_;rw[zY hk hp hs];unfold pF;rw[Af f hk];exact eM f.kd f.ps (by show ((aZ S c s).ck.set c _).length=_;rw[kv,f.ck,kv])
 ·rw[Bw];refine aG (JO W (Ey W hk) rfl (dX.mp hk).1 i.toNat) λyV f e1 e2=>?_;exact eM f.kd f.ps (by rw[f.ck,kv])
def Ma(S:Mc):Prop:=S.kd = "none"->∀k∈S.ck,k.es=[]
theorem aeu{S:Mc}{c sz:Nat}{k:Ck}{s:Tl}(g:dH sz s)(hk:S.ck[c]?=a_ k)(hd:S.kd = "none")(he:k.es=[]):∃k',(aZ S c s).ck=S.ck.set c k'/\k'.es=[]:=by
 have z:=(RC hk).symm;cases g with
 | put r n _ _=>
  rw[show aZ S c ("put",[r,n])=eZ S c r (n:Nat) from rfl,ou hk];exact ak _ rfl he
 | add r o _ _=>
  have e:aZ S c ("add",[r,o])=eZ S c r ((k.rg.getD r 0+k.rg.getD o 0)%jD):=by
   unfold aZ;rw[if_neg (show ¬("add" : Str) = "put" from dk),if_pos rfl,hk];rfl
  rw[e,ou hk];exact ak _ rfl he
 | set n r _ _=>
  rw[BY,B4 hk,JF hk hd he];exact ak ({ k with tn:=k.tn+1 }) rfl he
 | look r n _ _=>
  rw[BM];unfold mz;rw[hk];dsimp only;rw[ou (S:=fk S ⟨"look",c,n,a_ (cF S k n).1,b_,(cF S k n).2⟩) hk];exact ak ({ k with rg:=k.rg.set r (cF S k n).1 }) rfl he
 | swap r n _ _=>
  rw[BL];unfold nC;rw[hk];dsimp only;rw[ou (S:=fk (kJ S n (k.rg.getD r 0) S.ac.length) ⟨"swap",c,n,a_ (S.bd.getD n 0),a_ (k.rg.getD r 0),(S.ov.getD n []).getLast?⟩) hk];exact ak ({ k with rg:=k.rg.set r (S.bd.getD n 0) }) rfl he
 | clear=>
  rw[<-rP S c (show ("clear" : Str) ≠ "put" from dk) (show ("clear" : Str) ≠ "add" from dk),By];exact ak k z he
 | skip r q _ _ _=>
  rw[<-rP S c (show ("skip" : Str) ≠ "put" from dk) (show ("skip" : Str) ≠ "add" from dk),BD];exact ak k z he
theorem acb:jB kd []=[]:=by
 unfold jB
 split
 ·rfl
 ·unfold nB;rw[List.filter_eq_nil_iff.mpr λi _=>by simp[TV]];rfl
theorem acR{n:Nat}{S:Mc}{mv:Mv}(W:ie n S)(h:mv∈jL S)(ha:Ma S):Ma (iV S mv):=by
 intro hd;rw[(JL W h).1]at hd;rcases uy h with ⟨c,rfl,hc,p7⟩ | ⟨c,k,i,rfl,hk,jy⟩
 ·refine yi (yj W.wf hc p7) λk p s _ hk hp hs g=>af (aeu g hk hd (ha hd k (bo hk))) λk' e1 e2=>?_;have e3:(aZ S c s).ck[c]?=a_ k':=by rw[e1];exact jz hc
  rw[zY hk hp hs];unfold pF;rw[e3];intro x hx;have hx:x∈(aZ S c s).ck.set c { k' with pl:=cY s k'.rg k'.pl,ct:=k'.ct+1 }:=hx;rw[e1,vU]at hx;rcases zo hx with y | y
  ·exact ha hd x y
  ·rw[y];exact e2
 ·rw[ha hd k (bo hk),acb]at jy;cases jy
theorem ad0(kd:Str)(ps:List Pt):Ma (iX kd ps):=λ_ k hk=>by
 refine af (pk.mp hk) λ_ _ aa=>?_;subst aa;rfl
def Al(ns:List Int)(k:Int):Int:=ns.getD k.toNat 0
def Aq(c k:Int):Int:=(c%2147483647+7919*k+1)*48271%2147483647
def E9(c k:Int):Int:=Aq c k*(Aq c k/1009+69621)%2147483647
theorem ag9(c k:Int):0<=Aq c k/\Aq c k<2147483647:=⟨yc _ qc,zu _ qc⟩
theorem ad4(c k:Int):0<=E9 c k/\E9 c k<2147483647:=⟨yc _ qc,zu _ qc⟩
def Lr(K:W.Frag):Sp:=λvs H Q _=>∃a ns k,vs=[.ref a,.int k]/\aj K H a (ns.map V.int)/\0<=k/\Q (.int (Al ns k)) H
theorem agC:ba zLu zLu (aT K2):=bg
theorem afo(F:aV K "_law_cell_at" "_law_cell_at" K2 f fd)(dE:mg "len" = b_):ax P w K mg base aB 1 f fd zLu (Lr K):=by
 refine F.ok agC (λvs H Q E h=>?_) λaL A _ s H vs Q E hr h=>?_
 ·obtain⟨a,ns,k,rfl,_⟩:=h;rfl
 ·obtain⟨a,ns,j,rfl,ha,hj,k⟩:=h;refine let R1:TS:=_;⟨_,aD (b9 (br rY (pv 1) (cg fg rfl dE PySem.boot_len (ae (pv 0) ag)) (bf _)) (pR R1 (aE (a8 (az aS (pv 0) (pv 1))))) cD) (aE (a8 aq)),?_⟩
  refine⟨_,rfl,_,rfl,a,_,rfl,.inl ha,_,_,rfl,rfl,_,rfl,bq (λh1=>?_) λh1=>?_⟩
  ·rw[aO]at h1;have dJ:j.toNat<ns.length:=li;refine⟨_,rfl,_,rfl,a,_,j,.int (Al ns j),rfl,rfl,ha,?_,k⟩;have e:j=(j.toNat:Int):=li;rw[e];refine cb ?_;rw[f9,aX dJ];unfold Al;rw[jJ,nh,aX dJ];rfl
  ·rw[aO]at h1
   have e:Al ns j=0:=by
    unfold Al;rw[nh,Qb li];rfl
   rw[e]at k;exact k
def Mn:Sp:=λvs H Q _=>∃c j,vs=[.int c,.int j]/\Q (.int (E9 c j)) H
theorem VR:ba ["_law_cell","_law_k","_law_number"] zLx (aT Lx):=bg
theorem agQ(F:aV K "_law_mixed" "_law_mixed" Lx f fd):ax P w K mg base aB 1 f fd zLx Mn:=by
 refine F.ok VR (λvs H Q E h=>?_) λaL A _ s H vs Q E hr h=>?_
 ·obtain⟨a,j,rfl,_⟩:=h;rfl
 ·obtain⟨c,j,rfl,k⟩:=h;refine let R1:TS:=_;⟨_,aD (bJ (i:=2) VR.nd rfl (aP rfl) (bb iN (bb Ab (bb jc (bb jc (bb iN (pv 0) aq) (bb Ab aq (pv 1))) aq) aq) aq)) (pR R1 (aE (a8 (bb iN (bb Ab (pv 2) (bb jc (bb pA (pv 2) aq) aq)) aq)))),?_⟩
  have hb:=ag9 c j;refine⟨_,rfl,_,_,rfl,rfl,(by show (0:Int)<2147483647;decide),_,rfl,_,_,rfl,rfl,.inl ⟨qc,qc⟩,_,_,rfl,rfl,_,_,rfl,rfl,_,_,rfl,rfl,.inr ⟨qc,qc⟩,_,_,rfl,rfl,(by show (0:Int)<2147483647;decide),⟨_,rfl,_,rfl,_,_,rfl,rfl,⟨qc,qc⟩,_,_,rfl,rfl,_,_,rfl,rfl,.inl ⟨?_,?_⟩,_,_,rfl,rfl,(by show (0:Int)<2147483647;decide),k⟩⟩
  ·show -(2^64)<Aq c j;lia
  ·show Aq c j<2^64;lia
theorem yr(d:Int)(h:0<=d)(m:Int)(hm:0<m):∃r:Nat,d%m=(r:Int)/\(r:Int)<m:=by
 have h1:=yc d (show m≠0 by lia);have h2:=zu d hm;exact⟨(d%m).toNat,li,li⟩
theorem MS{d m:Int}(h:0<=d)(hm:0<=m):0<=d/m:=Int.ediv_nonneg h hm
theorem JH{o:HO}(s:ai H0 H)(h:H0 r=b_):ai H0 (upd H r o):=λb u e=>by
 rw[au (bw e h)];exact s b u e
theorem ado(r:Nat)(h:(r:Int)<3):r<10^60:=by
 have:=Kx;lia
def Sy:Sp:=λvs H Q _=>∃(c:Int) (n:Nat),vs=[.int c,.int (n:Nat)]/\n<=100/\∀(H':Hp) (l:e_) (ds:List Int),ai H H'->H l=b_->H' l=a_ (.lst (ds.map V.int))->ds.length=n->(∀d∈ds,(0:Int)<=d)->Q (.ref l) H'
theorem BI:ba ["_law_cell","_law_amount","_law_draws","_law_rest","_law_k"] zLy (aT KJ):=bg
theorem acH{f fM:e_}(F:aV K "_law_stream" "_law_stream" KJ f fd)(dQ:mg "range" = b_)
  (GM:ax P w K mg base aB 1 fM zc zLx Mn) (kM:W.keepIn K (.ref fM)=c_) (bM:Binds K zc zLx []) (mM:mg "_law_mixed" = a_ (.ref fM)):ax P w K mg base aB 2 f fd zLy Sy:=by
 refine F.ok BI (λvs H Q E h=>?_) λaL A _ s H vs Q E hr h=>?_
 ·obtain⟨c,n,rfl,_⟩:=h;rfl
 ·obtain⟨c,n,rfl,hn,q⟩:=h;refine let R1:TS:=_;let R2:TS:=_;let R3:TS:=_;let R4:TS:=_;let R5:TS:=_;let R6:TS:=_;⟨_,aD (bJ (i:=2) BI.nd rfl (aP rfl) (dN ag)) (pR R6 (aD (bJ (i:=3) BI.nd rfl (aP rfl) (bb pA (pv 0) aq)) (pR R5 (aD (pB mf rfl (sU rfl dQ (ae (pv 1) ag)) (de (i:=4) BI.nd rfl (aP rfl)) (pR R4 (aE (b9 (br dO (bb iN (pv 0) aq) aq (bf _)) (pR R1 (aE (dg (jZ PySem.F.plainAttrs_list PySem.F.slot_list_append PySem.F.type_list_append ni (pv 2) (ae (dr GM hr rfl mM kM bM .nil aR (ae (pv 3) (ae (pv 4) ag))) ag))))) (pR R3 (aD (dg (jZ PySem.F.plainAttrs_list PySem.F.slot_list_append PySem.F.type_list_append ni (pv 2) (ae (bb iN (pv 3) aq) ag))) (pR R2 (aE (bJ (i:=3) BI.nd rfl (aP rfl) (bb pA (pv 3) aq)))))))))) (aE (a8 (pv 2))))))),?_⟩
  have dP:=jl;refine⟨qc,λL nL=>?_⟩;obtain⟨H0,e,s0,hL⟩:=nw (o:=.lst []) nL;rw[e];clear e;refine⟨_,rfl,_,_,rfl,rfl,⟨qc,qc⟩,⟨_,rfl,_,rfl,li,li,?_⟩⟩;rw[show ((n:Int)).toNat=n by lia]
  let W1:IV:=λi σ H'=>∃(ds:List Int) (r:Int) (w4:Option V),σ=[a_ (.int c),a_ (.int (n:Nat)),a_ (.ref L),a_ (.int r),w4]/\ai H H'/\H' L=a_ (.lst (ds.map V.int))/\ds.length=i/\∀d∈ds,(0:Int)<=d
  refine yg (n:=n) W1 ⟨[],_,b_,rfl,s0,hL,rfl,λd z=>by cases z⟩ ?_ ?_
  ·rintro i σ H1 hi ⟨ds,r,w4,rfl,s1,ko,hl,hd⟩
   have fin:∀(x:Int) (r':Int) (w5:Option V),0<=x->∃(PJ:List Int) (r'':Int) (w4':Option V),([a_ (.int c),a_ (.int (n:Nat)),a_ (.ref L),a_ (.int r'),w5]:L2.St)=[a_ (.int c),a_ (.int (n:Nat)),a_ (.ref L),a_ (.int r''),w4']/\ai H (upd H1 L (.lst (ds.map V.int++[.int x])))/\upd H1 L (.lst (ds.map V.int++[.int x])) L=a_ (.lst (PJ.map V.int))/\PJ.length=i+1/\∀d∈PJ,(0:Int)<=d:=λx r' w5 hx=>by
    refine⟨ds++[x],r',w5,rfl,JH (s1) nL,by rw[aA,gg];rfl,by rw[dM,hl];rfl,λd rq=>?_⟩;rcases jA.mp rq with z | z
    ·exact hd d z
    ·rw[gJ.mp z];exact hx
   exact⟨_,rfl,_,_,rfl,rfl,(by show (0:Int)<2;decide),rfl,_,rfl,bq (λ_=>⟨_,rfl,.inl ⟨rfl,_,aj.of ko⟩,_,rfl,_,rfl,_,_,rfl,L,_,_,rfl,rfl,ko,by rw[aO,dP];lia,fin _ _ _ (ad4 _ _).1⟩) λ_=>⟨_,rfl,.inl ⟨rfl,_,aj.of ko⟩,_,rfl,_,_,rfl,rfl,(by show (0:Int)<6912;decide),L,_,_,rfl,rfl,ko,by rw[aO,dP];omega,⟨_,rfl,_,_,rfl,rfl,⟨qc,qc⟩,fin _ _ _ (yc _ qc)⟩⟩⟩
  ·rintro σ H1 ⟨ds,r,w4,rfl,s1,ko,hl,hd⟩;exact⟨_,rfl,q H1 L ds s1 nL ko hl hd⟩
def UN:Sp:=λvs H Q _=>∃(c k:Int) (n:Nat),vs=[.int c,.int k,.int (n:Nat)]/\0<n/\∀i:Nat,i<n->Q (.int (i:Nat)) H
theorem agw:ba zLn zLn (aT Mr):=bg
theorem FE(d:Int){n:Nat}(h:0<n):∃r:Nat,d%(n:Int)=(r:Int)/\r<n:=by
 have h1:=yc d (show (n:Int)≠0 by lia);have h2:=zu d (show (0:Int)<(n:Int) by lia);exact⟨(d%(n:Int)).toNat,li,li⟩
theorem afw{f fM:e_}(F:aV K "_law_pick" "_law_pick" Mr f fd)
  (GM:ax P w K mg base aB 1 fM zc zLx Mn) (kM:W.keepIn K (.ref fM)=c_) (bM:Binds K zc zLx []) (mM:mg "_law_mixed" = a_ (.ref fM)):ax P w K mg base aB 2 f fd zLn UN:=by
 refine F.ok agw (λvs H Q E h=>?_) λaL A _ s H vs Q E hr h=>?_
 ·obtain⟨c,k,n,rfl,_⟩:=h;rfl
 ·obtain⟨c,k,n,rfl,hn,q⟩:=h;refine let R1:TS:=_;let R2:TS:=_;⟨_,aD (b9 (br dO (bb iN (pv 0) aq) aq (bf _)) (pR R1 (aE (a8 (bb iN (bb pA (dr GM hr rfl mM kM bM .nil aR (ae (bb pA (pv 0) aq) (ae (pv 1) ag))) aq) (pv 2))))) cD) (pR R2 (aE (a8 (bb iN (bb pA (pv 0) aq) (pv 2))))),?_⟩
  refine⟨_,rfl,_,_,rfl,rfl,(by show (0:Int)<2;decide),rfl,_,rfl,bq (λ_=>?_) λ_=>?_⟩
  ·obtain⟨r,er,ub⟩:=FE (E9 (c/2) k/8) hn;refine⟨_,rfl,_,_,rfl,rfl,⟨qc,qc⟩,_,rfl,_,_,rfl,_,_,rfl,rfl,⟨qc,qc⟩,_,rfl,_,_,rfl,rfl,(by show (0:Int)<(n:Int);lia),?_⟩;have:=q r ub;rw[<-er]at this;exact this
  ·obtain⟨r,er,ub⟩:=FE (c/2) hn;refine⟨_,rfl,_,_,rfl,rfl,⟨qc,qc⟩,_,rfl,_,_,rfl,rfl,(by show (0:Int)<(n:Int);lia),?_⟩;have:=q r ub;rw[<-er]at this;exact this
def VI:Sp:=λvs H Q _=>∃d nm,∃len:Nat,vs=[.int d,.int (len:Nat),.int nm]/\0<=d/\len<=120/\0<nm/\nm<=12/\∀v H' s,ai H H'->tu H' v s->dH len s->Q v H'
theorem Fo:ba ["_law_draw","_law_length","_law_names","_law_kind","_law_box","_law_name"] zLo (aT Np):=bg
theorem agU(F:aV K "_law_one" "_law_one" Np f fd):ax P w K mg base aB 1 f fd zLo VI:=by
 refine F.ok Fo (λvs H Q E h=>?_) λaL A _ s H vs Q E hr h=>?_
 ·obtain⟨d,nm,len,rfl,_⟩:=h;rfl
 ·obtain⟨d,nm,len,rfl,hd,hlen,HQ,AZ,q⟩:=h;refine let R1:TS:=_;let R2:TS:=_;let R3:TS:=_;let R4:TS:=_;let R5:TS:=_;let R6:TS:=_;let R7:TS:=_;let R8:TS:=_;let R9:TS:=_;let ij:TS:=_;let qt:TS:=_;let zk:TS:=_;let zh:TS:=_;⟨_,aD (bJ (i:=3) Fo.nd rfl (aP rfl) (bb iN (pv 0) aq)) (pR zh (aD (bJ (i:=4) Fo.nd rfl (aP rfl) (bb iN (bb pA (pv 0) aq) aq)) (pR zk (aD (bJ (i:=5) Fo.nd rfl (aP rfl) (bb iN (bb pA (pv 0) aq) (pv 2))) (pR qt (aD (b9 (br dO (pv 3) aq (bf _)) (pR R1 (aE (a8 (gu (ae cZ (ae (pv 4) (ae (bb iN (bb pA (pv 0) aq) aq) ag))))))) cD) (pR ij (aD (b9 (br dO (pv 3) aq (bf _)) (pR R2 (aE (a8 (gu (ae cZ (ae (pv 4) (ae (bb iN (bb pA (pv 0) aq) aq) ag))))))) cD) (pR R9 (aD (b9 (br rY (pv 3) aq (bf _)) (pR R3 (aE (a8 (gu (ae cZ (ae (pv 5) (ae (pv 4) ag))))))) cD) (pR R8 (aD (b9 (br rY (pv 3) aq (bf _)) (pR R4 (aE (a8 (gu (ae cZ (ae (pv 4) (ae (pv 5) ag))))))) cD) (pR R7 (aD (b9 (br dO (pv 3) aq (bf _)) (pR R5 (aE (a8 (az aS (dN (ae (gu (ae cZ ag)) (ae (gu (ae cZ (ae (pv 4) (ae (pv 5) ag)))) ag))) (bb iN (bb pA (pv 0) aq) aq))))) cD) (pR R6 (aE (a8 (gu (ae cZ (ae (pv 4) (ae (bb iN (bb pA (pv 0) aq) (bb jc (pv 1) aq)) ag))))))))))))))))))))),?_⟩
  have h12:(0:Int)<12:=qc;obtain⟨bx,Bc,HX⟩:=yr (d/12) (MS hd qc) 4 qc;obtain⟨na,PF,hna⟩:=yr (d/48) (MS hd qc) nm HQ;have HJ:0<=d/576:=MS hd qc;refine⟨_,rfl,_,_,rfl,rfl,(by show (0:Int)<12;decide),⟨_,rfl,_,_,rfl,rfl,⟨qc,qc⟩,_,_,rfl,rfl,(by show (0:Int)<4;decide),⟨_,rfl,_,_,rfl,rfl,⟨qc,qc⟩,_,rfl,_,_,rfl,rfl,HQ,⟨_,rfl,rfl,_,rfl,bq (λh0=>?_) λh0=>?_⟩⟩⟩⟩
  ·obtain⟨r,er,rj⟩:=yr (d/576) HJ 3 qc;refine⟨_,rfl,_,rfl,_,_,rfl,rfl,⟨qc,qc⟩,_,_,rfl,rfl,(by show (0:Int)<3;decide),(sl (n:=3)),λtp ht=>q _ _ ("put",[bx,r]) (aM (ai.refl _) ht) ⟨tp,rfl,?_⟩ (.put bx r li (ado r rj))⟩;rw[aA];show a_ (HO.tup [.str "put",V.int (d/12%4),V.int (d/576%3)])=_;rw[Bc,er];rfl
  refine⟨_,rfl,rfl,_,rfl,bq (λh1=>?_) λh1=>?_⟩
  ·obtain⟨r,er,nQ⟩:=yr (d/576) HJ 4 qc;refine⟨_,rfl,_,rfl,_,_,rfl,rfl,⟨qc,qc⟩,_,_,rfl,rfl,(by show (0:Int)<4;decide),(sl (n:=3)),λtp ht=>q _ _ ("add",[bx,r]) (aM (ai.refl _) ht) ⟨tp,rfl,?_⟩ (.add bx r om li)⟩;rw[aA];show a_ (HO.tup [.str "add",V.int (d/12%4),V.int (d/576%4)])=_;rw[Bc,er];rfl
  refine⟨_,rfl,_,_,rfl,rfl,_,rfl,bq (λh2=>?_) λh2=>?_⟩
  ·refine⟨_,rfl,_,rfl,(sl (n:=3)),λtp ht=>q _ _ ("set",[na,bx]) (aM (ai.refl _) ht) ⟨tp,rfl,?_⟩ (.set na bx li li)⟩;rw[aA];show a_ (HO.tup [.str "set",V.int (d/48%nm),V.int (d/12%4)])=_;rw[Bc,PF];rfl
  refine⟨_,rfl,_,_,rfl,rfl,_,rfl,bq (λh3=>?_) λh3=>?_⟩
  ·refine⟨_,rfl,_,rfl,(sl (n:=3)),λtp ht=>q _ _ ("look",[bx,na]) (aM (ai.refl _) ht) ⟨tp,rfl,?_⟩ (.look bx na om om)⟩;rw[aA];show a_ (HO.tup [.str "look",V.int (d/12%4),V.int (d/48%nm)])=_;rw[Bc,PF];rfl
  refine⟨_,rfl,rfl,_,rfl,bq (λh4=>?_) λh4=>?_⟩
  ·refine⟨(sl (n:=1)),λt1 n1=>⟨_,rfl,_,rfl,(sl (n:=3)),λt2 n2=>⟨(sl (n:=2)),λl nl=>?_⟩⟩⟩;have g1:upd H t1 (.tup [.str "clear"]) t1=a_ (.tup [.str "clear"]):=aA;have s1:ai H (upd H t1 (.tup [.str "clear"])):=aM (ai.refl _) n1;generalize upd H t1 (.tup [.str "clear"])=H1 at g1 s1 n2 nl ⊢;have s2:=aM (o:=.tup [.str "swap",V.int (d/12%4),V.int (d/48%nm)]) (ai.refl H1) n2;have g2:upd H1 t2 (.tup [.str "swap",V.int (d/12%4),V.int (d/48%nm)]) t2=a_ (.tup [.str "swap",V.int (d/12%4),V.int (d/48%nm)]):=aA;have s3:=aM (o:=.lst [.ref t1,.ref t2]) s2 nl;obtain⟨ix,ZD,hix⟩:=yr (d/576) HJ 2 qc;have alJ:ix=0\/ix=1:=li;rcases alJ with e | e
   ·subst e;exact⟨_,rfl,_,_,rfl,rfl,⟨qc,qc⟩,_,_,rfl,rfl,(by show (0:Int)<2;decide),l,_,(0:Nat),.ref t1,rfl,by show V.int (d/576%2)=_;rw[ZD],aj.of aA,cb (j:=0) rfl,q _ _ ("clear",[]) (s1.trans s3) ⟨t1,rfl,s3 _ _ g1⟩ .clear⟩
   ·subst e;refine⟨_,rfl,_,_,rfl,rfl,⟨qc,qc⟩,_,_,rfl,rfl,(by show (0:Int)<2;decide),l,_,(1:Nat),.ref t2,rfl,by show V.int (d/576%2)=_;rw[ZD],aj.of aA,cb (j:=1) rfl,q _ _ ("swap",[bx,na]) (s1.trans s3) ⟨t2,rfl,?_⟩ (.swap bx na om om)⟩;have nl':upd H1 t2 (.tup [.str "swap",V.int (d/12%4),V.int (d/48%nm)]) l=none:=nl;show upd (upd H1 t2 (.tup [.str "swap",V.int (d/12%4),V.int (d/48%nm)])) l (.lst [.ref t1,.ref t2]) t2=a_ (HO.tup [.str "swap",V.int ((bx:Nat):Int),V.int ((na:Nat):Int)]);rw[au (bw g2 nl'),g2,Bc,PF]
  ·obtain⟨r,er,nQ⟩:=yr (d/576) HJ ((len:Int)+1) li;refine⟨_,rfl,_,rfl,_,_,rfl,rfl,⟨qc,qc⟩,_,rfl,_,_,rfl,rfl,_,_,rfl,rfl,(by show (0:Int)<(len:Int)+1;lia),(sl (n:=3)),λtp ht=>q _ _ ("skip",[bx,r]) (aM (ai.refl _) ht) ⟨tp,rfl,?_⟩ (.skip bx r om li li)⟩;rw[aA];show a_ (HO.tup [.str "skip",V.int (d/12%4),V.int (d/576%((len:Int)+1))])=_;rw[Bc,er];rfl
end TL
namespace L2
open PySem PySem.Spec PyProof.Rows PySem.SeqAt
section
variable{X:Cx}{e:Expr}{es:List Expr}
theorem PE.imp(h:PE X e t)(hi:∀σ H Q,t' σ H Q->t σ H Q):PE X e t':=λp_ s σ H Q I q=>h p_ s σ H Q I (hi σ H Q q)
theorem PA.imp(h:PA X es t)(hi:∀σ H Q,t' σ H Q->t σ H Q):PA X es t':=λpos p_ s σ H Q I q=>h pos p_ s σ H Q I (hi σ H Q q)
end
end L2
namespace TL
open PySem PySem.Spec PyProof.Rows PySem.SeqAt L2 L3 L4
variable{P:l_}{w:k_}{K:PySem.W.Frag}{mg:Str->Option f_}{base:j_}
def notStar:Expr->Bool
 | .Starred _ _=>d_
 | _=>c_
theorem ags{es:List Expr}{env:Env}(h:notStar e=c_):cQ (e::es) env=(d_,eval e env)::cQ es env:=by
 rw[cQ];intro e' p z;subst z;cases h
def tK(R:Hp->V->Prop)(pre:L2.St->Prop):TE:=λσ H Q=>pre σ/\∀v H',ai H H'->R H' v->Q v H'
def Gv(R:Hp->V->Prop)(pre:L2.St->Prop)(n:Nat):TA:=λσ H Q=>pre σ/\∀(vs:List V) H',vs.length=n->ai H H'->(∀v∈vs,R H' v)->Q vs H'
def XM(R:Hp->V->Prop)(pre:L2.St->Prop)(n:Nat):TE:=λσ H Q=>pre σ/\∀l (vs:List V) H',vs.length=n->ai H H'->H l=b_->H' l=a_ (.lst vs)->(∀v∈vs,R H' v)->Q (.ref l) H'
section
variable{X:Cx}{R:Hp->V->Prop}{pre:L2.St->Prop}{e:Expr}{es:List Expr}{n m:Nat}{p:Pos}
theorem ahj:PA X [] (Gv R pre 0):=ag.imp λ_ H _ h=>h.2 [] H rfl (ai.refl H) (λ_ z=>by cases z)
theorem Ue(hR:∀{H H':Hp} {v:V},R H v->ai H H'->R H' v)(he:PE X e (tK R pre))(hn:notStar e=c_)(hr:PA X es (Gv R pre n)):PA X (e::es) (Gv R pre (n+1)):=(ae he hr (ags hn)).imp λσ H Q h=>
 ⟨h.1,λv H1 s1 hv=>⟨h.1,λvs H2 hl s2 nN=>h.2 (v::vs) H2 (by rw[jk,hl]) (s1.trans s2) λx hx=>by rcases cV.mp hx with e | e;(rw[e];exact hR hv s2);exact nN x e⟩⟩
theorem kl(hR:∀{H H':Hp} {v:V},R H v->ai H H'->R H' v)(h:PA X es (Gv R pre n))(hn:n<=1000:=by decide):PE X (.List es p) (XM R pre n):=(dN h).imp λσ H Q q=>
 ⟨q.1,λvs H1 hl s1 nN=>⟨dw (dZ w7),λr hr=>q.2 r vs _ hl (aM s1 hr) (s1.free hr) aA λv hv=>hR (nN v hv) (aM (ai.refl _) hr)⟩⟩
end
theorem akM(us:List V)(i:Nat):jt us b_ (a_ (i:Int))=us.take i:=by
 unfold jt;rw[HT.KS,HT.J',Ja,Nat.sub_zero]
 by_cases h:i<=us.length
 ·rw[IT h]
 ·rw[Qs li,lE (aN _),lE om]
def rZ(sz:Nat)(H:Hp)(v:V):Prop:=∃t,tu H v t/\dH sz t
theorem rZ.same{sz:Nat}(h:rZ sz H v)(s:ai H H'):rZ sz H' v:=by
 exact af h λt h1 h2=>ak t (h1.keep λb xs e=>s _ _ e) h2
theorem QU{sz:Nat}:∀{vs:List V},(∀v∈vs,rZ sz H v)->∃ts,Paired (tu H) vs ts/\∀t∈ts,dH sz t
 | [],_=>⟨[],.nil,λ_ z=>by cases z⟩
 | v::vs,h=>by
  refine af (h v (by simp)) λt h1 h2=>af (QU λv hv=>h v (gE _ hv)) λts h3 h4=>ak (t::ts) (.cons h1 h3) λx hx=>?_;rcases cV.mp hx with e | e
  ·rw[e];exact h2
  ·exact h4 x e
def akK:Stmt->List Stmt
 | .For _ _ b _ _=>b
 | _=>[]
def akJ:Stmt->Expr
 | .For g _ _ _ _=>g
 | _=>.Constant .none 0 ⟨0,0,0,0⟩
def akI:Stmt->Expr
 | .For _ i _ _ _=>i
 | _=>.Constant .none 0 ⟨0,0,0,0⟩
def vAt:Stmt->Expr
 | .Assign _ (.Subscript v _ _) _=>v
 | .Assign _ (.BinOp _ _ v _) _=>v
 | .Assign _ v _=>v
 | _=>.Constant .none 0 ⟨0,0,0,0⟩
def iAt:Stmt->Expr
 | .Assign _ (.Subscript _ i _) _=>i
 | _=>.Constant .none 0 ⟨0,0,0,0⟩
abbrev yI(n:Nat):Stmt:=(ir B8).getD n (.Pass ⟨0,0,0,0⟩)
abbrev CN(n:Nat):Stmt:=(akK (yI 3)).getD n (.Pass ⟨0,0,0,0⟩)
@[irreducible] def CB:Expr:=vAt (CN 1)
theorem ahG:∃p1 p2 p3 p4,ir B8=[yI 0,yI 1,yI 2,.For (akJ (yI 3)) (akI (yI 3)) [CN 0,.Assign [.Name "_law_steps" p1] (.Subscript CB (iAt (CN 1)) p2) p3,CN 2,CN 3] [] p4,yI 4]:=by
 unfold CB;exact eY _ _ _ _ rfl
def FR:L2.St->Prop:=λσ=>∃i:Nat,i<4/\σ[4]?=a_ (a_ (.int (0+(i:Int))))
theorem adq(i:Nat)(h:i<4):7*i+2<10^60:=by
 have:=Kx;lia
theorem agP(i:Nat)(h:i<4):1+i<10^60:=by
 have:=Kx;lia
theorem agL{X:Cx}(hN:X.N[4]?=a_ ("_law_clerk" : Str))(hV:G' X.env.scope ("_law_clerk" : Str)):PE X CB (XM (rZ 0) FR 2):=by
 unfold CB;refine @kl X (rZ 0) FR _ 2 _ rZ.same (@Ue X (rZ 0) FR _ _ 1 rZ.same (λp_ s σ H Q I q=>gu (ae cZ (ae aq (ae (bb jc aq (LI hN hV)) ag))) p_ s σ H Q I ?_) rfl (@Ue X (rZ 0) FR _ _ 0 rZ.same (λp_ s σ H Q I q=>gu (ae cZ (ae aq (ae (bb jc (bb Ab aq (LI hN hV)) aq) ag))) p_ s σ H Q I ?_) rfl ahj)) qc
 ·refine oA q λaa k=>af aa λi hi hσ=>ak _ hσ ⟨_,⟨_,rfl,rfl,(sl (n:=3)),λtp ht=>k _ _ (aM (ai.refl _) ht) (ak ("put",[0,1+i]) ⟨tp,rfl,?_⟩ (.put 0 _ qc (agP i hi)))⟩⟩;rw[aA];show a_ (HO.tup [.str "put",.int 0,V.int (1+(0+(i:Int)))])=a_ (HO.tup [.str "put",.int 0,V.int ((1+i:Nat):Int)]);rw[show (1+(0+(i:Int)))=((1+i:Nat):Int) by lia]
 ·refine oA q λaa k=>af aa λi hi hσ=>ak _ hσ ⟨_,⟨_,rfl,rfl,.inl ⟨qc,qc⟩,_,_,rfl,rfl,(sl (n:=3)),λtp ht=>k _ _ (aM (ai.refl _) ht) (ak ("put",[1,7*i+2]) ⟨tp,rfl,?_⟩ (.put 1 _ qc (adq i hi)))⟩⟩;rw[aA];show a_ (HO.tup [.str "put",.int 1,V.int (7*(0+(i:Int))+2)])=a_ (HO.tup [.str "put",.int 1,V.int ((7*i+2:Nat):Int)]);rw[show (7*(0+(i:Int))+2)=((7*i+2:Nat):Int) by lia]
theorem Tb{k:Nat}{Q:L2.St->Hp->Prop}(e:x=y)(h:jd k y σ H Q):jd k x σ H Q:=by rw[e];exact h
theorem EU{ds:List Int}{i:Nat}(h:i<ds.length):∃d,d∈ds/\jg (ds.map V.int) (i:Int)=a_ (.int d):=⟨ds[i],uo h,cb (by rw[f9,aX h];rfl)⟩
def Tv:Sp:=λvs H Q _=>∃c,vs=[.int c]/\∀H' v ps,ai H H'->mw H' v ps->wX ps->ps.length<=3->(∀p∈ps,p.length<=8)->Q v H'
theorem v9:ba ["_law_cell","_law_parts","_law_draws","_law_names","_law_clerk","_law_length","_law_steps","_law_k"] ["_law_cell"] (aT B8):=bg
theorem adS{f fT fO:e_}{fd ug sh:iJ}(F:aV K "_law_program" "_law_program" B8 f fd)(dE:mg "len" = b_)(dQ:mg "range" = b_)(nO:mg "tuple" = b_)
  (GT:ax P w K mg base aB 2 fT ug zLy Sy) (kT:W.keepIn K (.ref fT)=c_) (bT:Binds K ug zLy []) (mT:mg "_law_stream" = a_ (.ref fT))
  (GO:ax P w K mg base aB 1 fO sh zLo VI) (kO:W.keepIn K (.ref fO)=c_) (bO:Binds K sh zLo []) (mO:mg "_law_one" = a_ (.ref fO)) :
  ax P w K mg base aB 3 f fd ["_law_cell"] Tv:=by
 refine F.ok v9 (λvs H Q E h=>?_) λaL A _ s H vs Q E hr h=>?_
 ·refine af h λc aa _=>?_;clear h;subst aa;rfl
 ·refine af h λc aa q=>?_;clear h;subst aa;have cX:=hr.mono (show 1<=2 by decide);obtain⟨p1,p2,p3,p4,eB⟩:=ahG;rw[eB]
  refine let R1:TS:=_;let R2:TS:=_;let R3:TS:=_;let R4:TS:=_;let R5:TS:=_;let R6:TS:=_;let R7:TS:=_;let R8:TS:=_;let R9:TS:=_;⟨_,aD (bJ (i:=1) v9.nd rfl (aP rfl) (dN ag)) (pR R9 (aD (bJ (i:=2) v9.nd rfl (aP rfl) (dr GT hr rfl mT kT bT .nil aR (ae (pv 0) (ae aq ag)))) (pR R8 (aD (bJ (i:=3) v9.nd rfl (aP rfl) (bb jc aq (bb iN (az aS (pv 2) aq) aq))) (pR R7 (aD (pB mf rfl (sU rfl dQ (ae (bb jc aq (bb iN (az aS (pv 2) aq) aq)) ag)) (de (i:=4) v9.nd rfl (aP rfl)) (pR R5 (aD (bJ (i:=5) v9.nd rfl (aP rfl) (bb iN (az aS (pv 2) (bb jc aq (pv 4))) aq)) (pR R4 (aD (bJ (i:=6) v9.nd rfl (aP rfl) (og yk (agL rfl (aP rfl)) oq (oo (pv 5))) (by first | rfl | (unfold CB;rfl)))
    (pR R3 (aD (pB mf rfl (RH rfl dQ (ae (cg fg rfl dE PySem.boot_len (ae (pv 6) ag)) (ae (pv 5) ag))) (de (i:=7) v9.nd rfl (aP rfl)) (pR R1 (aE (dg (jZ PySem.F.plainAttrs_list PySem.F.slot_list_append PySem.F.type_list_append ni (pv 6) (ae (dr GO cX rfl mO kO bO .nil aR (ae (az aS (pv 2) (bb jc (bb jc aq (bb Ab aq (pv 4))) (pv 7))) (ae (pv 5) (ae (pv 3) ag)))) ag)))))) (pR R2 (aE (dg (jZ PySem.F.plainAttrs_list PySem.F.slot_list_append PySem.F.type_list_append ni (pv 1) (ae (rO Bq rfl nO vY (ae (pv 6) ag)) ag))))))))))))
   (pR R6 (aE (a8 (rO Bq rfl nO vY (ae (pv 1) ag))))))))))),?_⟩
  have dP:=jl;refine⟨qc,λL nL=>?_⟩;obtain⟨H0,e,s0,hL⟩:=nw (o:=.lst []) nL;rw[e];clear e;refine vr rfl (dS c 29 rfl qc λH1 ld ds s1 nd hd HV Zg=>?_);have ko:=s1 _ _ hL;have nLd:L≠ld:=λz=>by rw[<-z,hL]at nd;cases nd
  refine af (EU (ds:=ds) (i:=0) li) λd0 m0 e0=>af (EU (ds:=ds) (i:=1) li) λd1 m1 e1=>?_;have b0:=yc d0 (show (3:Int)≠0 by decide);have b1:=zu d0 (show (0:Int)<3 by decide);have c0:=yc d1 (show (2:Int)≠0 by decide);have c1:=zu d1 (show (0:Int)<2 by decide);refine ak _ rfl (rL (v:=.int d0) (aj.of hd) (e0) ⟨_,⟨_,rfl,rfl,(by show (0:Int)<3;decide),_,_,rfl,rfl,?_⟩⟩);obtain⟨nm,enm⟩:∃nm,nm=1+d0%3:=⟨_,rfl⟩;refine Tb (y:=.int nm) (by show V.int (1+d0%3)=_;rw[enm]) ?_;have HQ:0<nm:=li;have AZ:nm<=12:=li;refine ak _ rfl (rL (v:=.int d1) (aj.of hd) (e1) ⟨_,⟨_,rfl,rfl,(by show (0:Int)<2;decide),_,_,rfl,rfl,_,rfl,li,li,?_⟩⟩);obtain⟨n,hn,hn4,hn5⟩:∃n:Nat,(2+d1%2).toNat=n/\1<=n/\n<=3:=⟨_,rfl,li,li⟩;rw[hn]
  let W1:IV:=λi σ H'=>∃ys ps w4 w5 w6 w7,σ=[a_ (.int c),a_ (.ref L),a_ (.ref ld),a_ (.int nm),w4,w5,w6,w7]/\ai H H'/\H' ld=a_ (.lst (ds.map V.int))/\H' L=a_ (.lst ys)/\Paired (IsPart H') ys ps/\ps.length=i/\∀p∈ps,p.length<=8/\∀t∈p,dH p.length t
  refine yg (n:=n) W1 ⟨[],[],b_,b_,b_,b_,rfl,s0.trans s1,hd,ko,.nil,rfl,λp z=>by cases z⟩ ?_ ?_
  ·rintro i σ H2 hi ⟨ys,ps,w4,w5,w6,w7,rfl,s2,hd2,nW,HI,ee,gX⟩;have Y2:=Paired.length HI;refine af (EU (ds:=ds) (i:=2+i) li) λd2 m2 e2=>af (yr d2 (Zg d2 m2) 9 qc) λlen el hl9=>vr rfl (vr rfl ⟨_,⟨_,rfl,rfl,ld,_,((2+i:Nat):Int),.int d2,rfl,by show V.int (2+(0+(i:Int)))=_;rw[show (2+(0+(i:Int)))=((2+i:Nat):Int) by lia],aj.of hd2,e2,_,_,rfl,rfl,(by show (0:Int)<9;decide),Tb (y:=.int (len:Nat)) (by show V.int (d2%9)=_;rw[el]) ⟨⟨i,xb,rfl⟩,λl vs H3 HK s3 nl hl nN=>⟨_,rfl,(len:Int),rfl,l,vs,rfl,aj.of hl,λp np=>?_⟩⟩⟩⟩);rw[akM];have Dc:=aM (o:=.lst (vs.take len)) s3 np;have Yh:=aM (o:=.lst (vs.take len)) (ai.refl H3) np;have np2:=s3.free np;have hp:upd H3 p (.lst (vs.take len)) p=a_ (.lst (vs.take len)):=aA;generalize upd H3 p (.lst (vs.take len))=H4 at Dc Yh hp ⊢;refine af (QU (vs:=vs.take len) (H:=H4) (sz:=0) λv hv=>(nN v (List.mem_of_mem_take hv)).same Yh) λts0 NR hg0=>?_;have HS:(vs.take len).length<=len:=by rw[i8];exact xl
   have rm:=Paired.length NR;refine vr rfl ⟨p,⟨_,rfl,.inl (aj.of hp),_,rfl,_,_,rfl,⟨li,li,li,li⟩,?_⟩⟩;generalize vs.take len=us at hp NR HS rm ⊢;rw[show ((len:Int)-(us.length:Int)).toNat=len-us.length by lia]
   let W2:IV:=λj σ H'=>∃zs ts w7,σ=[a_ (.int c),a_ (.ref L),a_ (.ref ld),a_ (.int nm),a_ (.int (0+(i:Int))),a_ (.int (len:Nat)),a_ (.ref p),w7]/\ai H2 H'/\H' p=a_ (.lst zs)/\Paired (tu H') zs ts/\ts.length=us.length+j/\∀t∈ts,dH len t
   refine yg (n:=len-us.length) W2 ⟨us,ts0,_,rfl,Dc,hp,NR,li,λt ht=>(hg0 t ht).mono (cy _)⟩ ?_ ?_
   ·rintro j σ H5 hj ⟨zs,ts,w7,rfl,s5,hz,Dn,Y7,hg⟩;have OK:=Paired.length Dn;refine af (EU (ds:=ds) (i:=5+8*i+(us.length+j)) li) λdk mk ek=>?_;have eI:(5+8*(0+(i:Int))+((us.length:Int)+(j:Int)))=((5+8*i+(us.length+j):Nat):Int):=li;refine vr rfl ⟨.inl ⟨rfl,_,aj.of hz⟩,⟨_,rfl,_,rfl,_,_,rfl,rfl,.inl ⟨qc,qc⟩,_,_,rfl,rfl,_,rfl,_,_,rfl,rfl,ld,_,_,.int dk,rfl,rfl,aj.of (s5 _ _ hd2),(by rw[eI];exact ek),_,rfl,_,rfl,dk,nm,len,rfl,Zg dk mk,li,HQ,AZ,λv H6 t s6 ht6 hg6=>⟨p,zs,v,rfl,rfl,s6 _ _ hz,by rw[dP];lia,?_⟩⟩⟩;have OM:=s6 _ _ hz;have kt:=pq (o:=.lst (zs++[v])) OM;refine xB (zs++[v]) (ts++[t]) (jY _ rfl (JH (s5.trans s6) np2) aA (qz (Paired.cw Dn λ_ _ q=>q.keep λb xs e=>kt _ _ (s6 _ _ e)) (ht6.keep kt)) (by rw[dM,Y7];rfl) λx hx=>?_);rcases jA.mp hx with hx | hx
    ·exact hg x hx
    ·rw[gJ.mp hx];exact hg6
   ·rintro σ H5 ⟨zs,ts,w7,rfl,s5,hz,Dn,Y7,hg⟩;have OK:=Paired.length Dn;have HZ:=s5 _ _ nW;have hd5:=s5 _ _ hd2;refine du _ rfl (.inl ⟨rfl,_,aj.of HZ⟩) (vr rfl (eG p zs rfl (.inl ⟨aj.of hz,λtp ht=>⟨L,ys,.ref tp,rfl,rfl,?_,by rw[dP];lia,?_⟩⟩)))
    ·rw[au (bw HZ ht)];exact HZ
    ·have s6:=aM (o:=.tup zs) (ai.refl H5) ht;have alj:ts.length=len:=li;have hL6:=s6 _ _ HZ;have kt:=pq (o:=.lst (ys++[.ref tp])) hL6;have Yd:=s5.trans s6;refine⟨(ys++[.ref tp]),(ps++[ts]),_,_,_,(⟨_,rfl,(JH (s2.trans Yd) nL),?_,aA,(qz (Paired.cw HI λ_ _ q=>q.keep λb xs e=>kt _ _ (Yd _ _ e)) ⟨tp,zs,rfl,kt _ _ aA,Paired.cw Dn λ_ _ q=>q.keep λb xs e=>kt _ _ (s6 _ _ e)⟩),(by rw[dM,ee];rfl),(λx hx=>?_)⟩)⟩
     ·rw[au nLd.symm];exact s6 _ _ hd5
     ·rcases jA.mp hx with hx | hx
      ·exact gX x hx
      ·rw[gJ.mp hx];refine⟨li,λt ht=>?_⟩;rw[alj];exact hg t ht
  ·rintro σ H2 ⟨ys,ps,w4,w5,w6,w7,rfl,s2,hd2,nW,HI,ee,gX⟩;refine vr rfl (eG L ys rfl (.inl ⟨aj.of nW,λtp ht=>?_⟩));have s3:=aM (o:=.tup ys) (ai.refl H2) ht;exact q _ _ ps (s2.trans s3) ⟨tp,ys,rfl,aA,Paired.cw HI λ_ _ q=>q.keep λb xs e=>s3 _ _ e⟩ ⟨li,w8,λp hp=>⟨by have:=(gX p hp).1;lia,(gX p hp).2⟩⟩ w8 λp hp=>(gX p hp).1
section
variable{t:a9}{C CT:e_}
def EW(t:a9)(C CT:e_):Sp:=λvs H Q _=>∃m A S,vs=[.ref m]/\aY t C CT H m A S/\Q (.int (S.ac.length:Nat)) H
theorem agB:ba zLe zLe (aT Js):=bg
theorem afE(F:aV K "deeds_done" "Machine.deeds_done" Js f fd)(dE:mg "len" = b_)(cM:fb K C):ax P w K mg base aB 1 f fd zLe (EW t C CT):=by
 refine F.ok agB (λvs H Q E h=>?_) λaL A _ s H vs Q E hr h=>?_
 ·refine eh h λm A S aa _=>?_;subst aa;rfl
 ·refine gw h λm A S aa M q=>?_;subst aa;refine lS (aE (a8 (cg fg rfl dE PySem.boot_len (ae (bu (pv 0) rfl) ag)))) (aW (id M.obj) λdx fs hm G=>af (id M.ac) λws h1 h2=>vF rfl hm cM.cl cM.dB G.dB (dS A.ac ws rfl (.inl (aj.of h1)) ?_));rw[Paired.length h2];exact q
def SO(t:a9)(C CT:e_):Sp:=λvs H Q _=>∃m A S i a,vs=[.ref m,.int (i:Nat)]/\aY t C CT H m A S/\S.ac[i]?=a_ a/\∀p,H p=a_ (.tup (pH a))->Q (.ref p) H
theorem ady:ba ["self","number"] ["self","number"] (aT K1):=bg
theorem acP(F:aV K "deed_at" "Machine.deed_at" K1 f fd)(cM:fb K C):ax P w K mg base aB 1 f fd ["self","number"] (SO t C CT):=by
 refine F.ok ady (λvs H Q E h=>?_) λaL A _ s H vs Q E hr h=>?_
 ·refine rS h λm A S i a aa _=>?_;subst aa;rfl
 ·obtain⟨m,A,S,i,a,aa,M,ha,q⟩:=h;subst aa;refine lS (aE (a8 (az aS (bu (pv 0) rfl) (pv 1)))) (aW (id M.obj) λdx fs hm G=>af (id M.ac) λws h1 h2=>af (jU h2 ha) λv hv aa=>af aa λp e hp=>?_);subst e;exact vF rfl hm cM.cl cM.dB G.dB (vr rfl (rL (v:=.ref p) (aj.of h1) (cb hv) (q p hp)))
def tS(j k:Ck)(p:Pt):Bool:=decide (j.ct<k.ct) && !decide (j.pl=p.length)
def Ky(t:a9)(C CT:e_):Sp:=λvs H Q _=>∃x B T m A S c j k p,vs=[.ref x,.ref m,.int (c:Nat)]/\aY t C CT H x B T/\aY t C CT H m A S/\T.ck[c]?=a_ j/\S.ck[c]?=a_ k/\T.ps[c]?=a_ p/\p.length<=1000/\Q (.bl (tS j k p)) H
theorem ae1:ba zLg zLg (aT Ly):=bg
theorem adO(F:aV K "may_go_on" "may_go_on" Ly f fd)(cM:fb K C)
  (GD:ax P w K mg base aB 1 fD md zLa (zW t C CT Ck.ct)) (bD:Binds K md zLa []) (mD:Meth K C "steps_done" fD)
  (GE:ax P w K mg base aB 1 fE DJ zLa (KD t C CT)) (bE:Binds K DJ zLa []) (mE:Meth K C "at_end" fE):ax P w K mg base aB 2 f fd zLg (Ky t C CT):=by
 refine F.ok ae1 (λvs H Q E h=>?_) λaL A _ s H vs Q E hr h=>?_
 ·refine lF h λx B T m A S c j k p aa=>oA aa λaa _=>?_;subst aa;rfl
 ·refine lF h λx B T m A S c j k p aa=>iO aa λaa N M hj hk aH=>?_;subst aa;refine bp aH λhp hl q=>?_;refine lS (aE (a8 (wD (qG rY (gm (pv 0) cM.cl mD GD hr bD .nil aR (ae (pv 2) ag)) (gm (pv 1) cM.cl mD GD hr bD .nil aR (ae (pv 2) ag)) (bf _)) (wC (E3 (gm (pv 0) cM.cl mE GE hr bE .nil aR (ae (pv 2) ag))))))) ?_;refine aW (id M.obj) λdx fs hm G=>aW (id N.obj) λdy gs hx G2=>?_;unfold tS at q;refine vM rfl hx (G2.ms _ dk) (vr rfl (⟨x,B,T,c,j,rfl,N,hj,(vM rfl hm (G.ms _ dk) (vr rfl (⟨m,A,S,c,k,rfl,M,hk,⟨_,⟨_,rfl,rfl,_,rfl,bq (λh=>?_) λh=>?_⟩⟩⟩)))⟩))
  ·rw[decide_eq_true (show j.ct<k.ct by lia),zD]at q;exact vM rfl hx (G2.ms _ dk) (vr rfl (⟨x,B,T,c,j,p,rfl,N,hj,hp,hl,(ak _ rfl q)⟩))
  ·rw[decide_eq_false (show ¬j.ct<k.ct by lia),rH]at q;exact q
end
inductive yD:Mc->List Mv->Mc->Prop
 | nil (S:Mc):yD S [] S
 | snoc {S S':Mc} {ms:List Mv} {mv:Mv} {r:List Mv}:yD S ms S'->nk S'=mv::r->yD S (ms++[mv]) (iV S' mv)
def jq(S:Mc):Nat:=(S.ck.map λk=>k.es.length).sum
theorem sum_set{α:Type}(f:α->Nat){x y:α}:∀{l:List α} {c:Nat},l[c]?=a_ x->((l.set c y).map f).sum+f x=(l.map f).sum+f y
 | [],_,h=>by simp at h
 | z::l,0,h=>by
  simp at h;subst h;simp only[List.set_cons_zero,gK,Jg];lia
 | z::l,c+1,h=>by
  have ih:=sum_set f (y:=y) (l:=l) (c:=c) (by simpa using h);simp only[List.set_cons_succ,gK,Jg];lia
theorem abL{c n:Nat}(hk:S.ck[c]?=a_ k)(hq:cu k.es n=e::r):jq (jo S c n)<jq S:=by
 have hm:e∈cu k.es n:=by rw[hq];simp
 unfold cu at hm;refine oA (rG.mp hm) λh1 h2=>?_;unfold jo;rw[hk];dsimp only;rw[hq];show ((S.ck.set c { k with es:=lp k.es n }).map λk=>k.es.length).sum<_;have h3:=sum_set (λk:Ck=>k.es.length) (y:={ k with es:=lp k.es n }) hk
 have h4:(lp k.es n).length=k.es.length-1:=by
  unfold lp;exact List.length_eraseP_of_mem h1 h2
 have h5:=List.length_pos_of_mem h1;unfold jq;have h6:({ k with es:=lp k.es n }:Ck).es.length=(lp k.es n).length:=rfl;rw[h6,h4]at h3;lia
theorem Jz(h:mv∈nk S):∃(c:Nat) (k:Ck) (n:Int),mv=(("carry" : Str),[(c:Int),n])/\S.ck[c]?=a_ k/\n∈jB S.kd k.es:=by
 unfold nk xj at h;refine af (aaX.mp h) λaa hx hm=>?_;obtain⟨k,c⟩:=aa;unfold Co at hm;refine af (pk.mp hm) λn hn aa=>?_;subst aa;exact mq c k n rfl (aaa.mp hx) hn
theorem abh(h:mv∈nk S):mv∈jL S:=hG _ h
theorem acj(hwf:∀k∈S.ck,oW k.tn k.es)(h:mv∈nk S):jq (iV S mv)<jq S:=by
 refine gw (Jz h) λc k n aa hk hf=>?_;subst aa;refine aG (JN (hwf k (bo hk)) hf) λi _ aa aH=>?_;subst aa;refine xy aH λe r hq=>?_;unfold iV;rw[if_neg (show ¬("carry" : Str) = "do" from dk)];show jq (jo S ((c:Int)).toNat ((i:Int)).toNat)<jq S;rw[jJ,jJ];exact abL hk hq
theorem aY.wK(M:aY t C CT H m A S)(hb:bz m A b):∃o,H b=a_ o/\((∃C dx fs,o=.ins C dx fs)\/∃xs,o=.lst xs):=by
 cases hb with
 | m=>obtain⟨dx,fs,h,_⟩:=M.obj;exact⟨_,h,.inl ⟨_,_,_,rfl⟩⟩
 | lt=>exact⟨_,M.lt,.inr ⟨_,rfl⟩⟩
 | pl=>exact⟨_,M.pl,.inr ⟨_,rfl⟩⟩
 | ct=>exact⟨_,M.ct,.inr ⟨_,rfl⟩⟩
 | rg=>exact⟨_,M.rg,.inr ⟨_,rfl⟩⟩
 | ce=>exact⟨_,M.ce,.inr ⟨_,rfl⟩⟩
 | ac=>obtain⟨vs,h,_⟩:=M.ac;exact⟨_,h,.inr ⟨_,rfl⟩⟩
 | cm=>exact⟨_,M.cm,.inr ⟨_,rfl⟩⟩
 | rs h=>obtain⟨c,_,q⟩:=mi M.rs h;exact⟨_,q,.inr ⟨_,rfl⟩⟩
 | cs h=>obtain⟨c,_,q⟩:=mi M.cs h;exact⟨_,q,.inr ⟨_,rfl⟩⟩
 | ts h h2=>
  exact af (mi M.ts h) λc _ q=>oE (q.there _ h2) λo e=>⟨o,e,q.kinds _ h2 _ e⟩
theorem aY.FP(M:aY t C CT H m A S):∀b,bz m A b->∀xs,H b≠a_ (.tup xs):=λb hb xs e=>by
 refine af (M.wK hb) λo e' h=>?_;rw[e]at e';cases e';rcases h with ⟨_,_,_,z⟩ | ⟨_,z⟩ <;> cases z
theorem aY.akk(M:aY t C CT H m A S):∀k∈S.ck,oW k.tn k.es:=λk hk=>by
 refine oE (vJ hk) λi hi=>?_;exact af (M.wY hi) λx _ T=>T.wf
theorem E8(mv:Mv):∀x∈lW mv,∃T,tyName H x=a_ T:=by
 intro x hx;unfold lW at hx;rcases cV.mp hx with e | e
 ·rw[e];exact⟨_,rfl⟩
 ·refine af (pk.mp e) λi _ aa=>?_;subst aa;exact⟨_,rfl⟩
section
variable{t:a9}{C CT:e_}
def Sz(t:a9)(C CT PT:e_):Sp:=λvs H Q _=>∃m A S lab n,vs=[.ref m]/\aY t C CT H m A S/\lu lab m A/\ie n S/\n+jq S<=10000/\cq PT LP LQ H/\
 ∀H' l ws ms S' n',yD S ms S'->nk S'=[]->ie n' S'->n'+jq S'<=n+jq S->aY t C CT H' m A S'->aF (bz m A) H H'->cq PT LP LQ H'->H l=b_->H' l=a_ (.lst ws)->Paired (jv H') ws ms->Q (.ref l) H'
theorem Et:ba ["self","made","carries"] zLe (aT KP):=bg
theorem acI{f fC fD PT jr:e_}(F:aV K "settle" "Machine.settle" KP f fd)(cM:fb K C)(dE:mg "len" = b_)
  (GC:ax P w K mg base aB 3 fC jT zLe (JE t C CT PT)) (bC:Binds K jT zLe []) (mC:Meth K C "carries" fC)
  (GD:ax P w K mg base (jh P w) 7 fD md zLw (Cz t C CT PT jr)) (bD:Binds K md zLw []) (mD:Meth K C "do" fD):ax P w K mg base aB 8 f fd zLe (Sz t C CT PT):=by
 have zl:=Ag GD;refine F.ok Et (λvs H Q E h=>?_) λaL A _ s H vs Q E hr h=>?_
 ·refine rS h λm A S lab n aa _=>?_;subst aa;rfl
 ·refine lG h λm A S lab n aa M L W hn aH=>?_;subst aa;refine oA aH λlam q=>?_;have rj:=hr.mono (show 3<=7 by decide);refine let R1:TS:=_;let R2:TS:=_;let R3:TS:=_;let R4:TS:=_;let R5:TS:=_;⟨_,aD (bJ (i:=1) Et.nd rfl (aP rfl) (dN ag)) (pR R5 (aD (bJ (i:=2) Et.nd rfl (aP rfl) (ip (pv 0) cM.cl mC GC rj bC .nil aR)) (pR R4 (aD (BJ mf (br yt (cg fg rfl dE PySem.boot_len (ae (pv 2) ag)) aq (bf _)) (pR R3 (aD (dg (gm (pv 0) cM.cl mD zl hr bD .nil aR (ae (az aS (pv 2) aq) ag))) (pR R2 (aD (dg (jZ PySem.F.plainAttrs_list PySem.F.slot_list_append PySem.F.type_list_append ni (pv 1) (ae (az aS (pv 2) aq) ag))) (pR R1 (aE (bJ (i:=2) Et.nd rfl (aP rfl) (ip (pv 0) cM.cl mC GC rj bC .nil aR))))))))) (aE (a8 (pv 1))))))),?_⟩
  have dP:=jl;refine⟨qc,λlw nw=>?_⟩;have s0:ai H (upd H lw (.lst [])):=aM (ai.refl _) nw;have OO:upd H lw (.lst []) lw=a_ (.lst []):=aA
  have Dh:¬bz m A lw:=λz=>by
   refine af (M.wK z) λo e _=>?_;rw[nw]at e;cases e
  generalize upd H lw (.lst [])=H0 at s0 OO ⊢;refine aW (id (M.same s0).obj) λdx fs hm G=>vM rfl hm (G.ms _ dk) (jb m A S rfl (M.same s0) W.wf.four (gj lam s0) λH1 lc cs k1 kg nc hc A7=>⟨λμ σ H2=>∃S' ms ws lc cs n',σ=[a_ (.ref m),a_ (.ref lw),a_ (.ref lc)]/\μ=jq S'/\yD S ms S'/\aY t C CT H2 m A S'/\ie n' S'/\ms.length+jq S'<=jq S/\n'+jq S'<=n+jq S/\cq PT LP LQ H2/\aF (bz m A) H H2/\H2 lw=a_ (.lst ws)/\Paired (jv H2) ws ms/\H2 lc=a_ (.lst cs)/\¬bz m A lc/\lc≠lw/\Paired (jv H2) cs (nk S'),⟨_,S,[],[],lc,cs,n,rfl,rfl,.nil S,(M.same s0).eP k1,W,by simp,aN _,kg,(aF.of s0).trans (k1.mono λb z=>z.elim),k1.iC OO,.nil,hc,λz=>?_,λz=>?_,A7⟩,?_⟩)
  ·refine af ((M.same s0).wK z) λo e _=>?_;rw[nc]at e;cases e
  ·rw[z,OO]at nc;cases nc
  rintro μ σ H2 ⟨S',ms,ws,lc,cs,n',rfl,rfl,hC,M2,W2,xW,HY,xr,k2,AR,CI,DB,Hv,ncw,Xh⟩;have rA:=Paired.length Xh;refine vr rfl (dS lc cs rfl (.inl (aj.of DB)) ⟨_,⟨_,rfl,rfl,_,rfl,bq (λdJ=>?_) λvA=>?_⟩⟩)
  ·have AB:0<cs.length:=li;have h0:cs[0]?=a_ cs[0]:=aX AB;refine af (rK Xh h0) λmv qo aa=>af aa λp ep hp=>?_
   obtain⟨r,Pf⟩:∃r,nk S'=mv::r:=by
    cases e:nk S' with
    | nil=>rw[e]at qo;simp at qo
    | cons x r=>rw[e]at qo;simp at qo;exact⟨r,by rw[qo]⟩
   have gH:mv∈nk S':=by rw[Pf];simp
   have NY:=abh gH;have hwt:=acj M2.akk gH;refine⟨λσ' H'=>∃μ',μ'<jq S'/\∃zg Dj X6 Hy ZH YM,σ'=[a_ (.ref m),a_ (.ref lw),a_ (.ref Hy)]/\μ'=jq zg/\yD S Dj zg/\aY t C CT H' m A zg/\ie YM zg/\Dj.length+jq zg<=jq S/\YM+jq zg<=n+jq S/\cq PT LP LQ H'/\aF (bz m A) H H'/\H' lw=a_ (.lst X6)/\Paired (jv H') X6 Dj/\H' Hy=a_ (.lst ZH)/\¬bz m A Hy/\Hy≠lw/\Paired (jv H') ZH (nk zg),λσ' H' z=>z,aW (id M2.obj) λsH qq hm2 G2=>?_⟩;have hat:jg cs (0:Nat)=a_ (.ref p):=by rw[<-ep];exact cb h0
   refine vM rfl hm2 (G2.ms _ dk) (vr rfl (rL (v:=.ref p) (aj.of DB) (hat) (⟨m,A,S',p,_,lab,rfl,M2,L,W2.wf,(W2.vj li),xr,hp,(E8 _),(lR ?_ (λxM e=>(by rw[<-uD e];exact zR NY)) (λxM e Xf H3 M3 k3 NP=>?_) λz _ _ _=>absurd NY (z mv rfl))⟩)))
   ·refine eh (Jz gH) λc k i aa _=>?_;subst aa;simp[lW]
   have zd:=uD e;subst zd;have YR:=k3.tup λb z=>M2.FP b z;have nM:=k3.k _ _ Dh (λps z=>by cases z) AR;have hc3:=k3.k _ _ Hv (λps z=>by cases z) DB;have kj:=Paired.length CI;refine du _ rfl (.inl ⟨rfl,_,aj.of nM⟩) (vr rfl (rL (v:=.ref p) (aj.of hc3) (hat) (jb lw ws (.ref p) rfl rfl nM (by rw[dP];lia) ?_)));have YQ:=pq (o:=.lst (ws++[.ref p])) nM;have k4:aF (λb=>b=lw) H3 (upd H3 lw (.lst (ws++[.ref p]))):=aF.upd rfl;have M4:=M3.Ak k4 λb z=>⟨by rw[z];exact Dh,λo e=>by rw[z,nM]at e;cases e;exact⟨_,rfl⟩⟩;have tP:=Ud (o:=.lst (ws++[.ref p])) nM NP;have Dq:upd H3 lw (.lst (ws++[.ref p])) lw=a_ (.lst (ws++[.ref p])):=aA;have K4:aF (bz m A) H (upd H3 lw (.lst (ws++[.ref p]))):=⟨λb o h1 h2 e=>k4.k b o (λz=>by rw[z,nw]at e;cases e) h2 (k3.k b o h1 h2 (k2.k b o h1 h2 e)),λb e=>k2.t b (k3.t b (k4.t b e))⟩;have P4:Paired (jv (upd H3 lw (.lst (ws++[.ref p])))) (ws++[.ref p]) (ms++[mv]):=qz (Paired.cw CI λ_ _ q=>jv.keep (λb xs e=>YQ _ _ (YR _ _ e)) q) ⟨p,rfl,YQ _ _ (YR _ _ hp)⟩;generalize upd H3 lw (.lst (ws++[.ref p]))=H4 at k4 M4 tP Dq K4 P4 ⊢;have W4:=Lb W2 li NY;refine aW (id M4.obj) λdx4 Zx A2 G4=>vM rfl A2 (G4.ms _ dk) (jb m A (iV S' mv) rfl M4 W4.wf.four tP λH5 lc5 cs5 k5 yG AQ hc5 alP=>⟨_,⟨hwt,iV S' mv,ms++[mv],ws++[.ref p],lc5,cs5,n'+1,rfl,rfl,.snoc hC Pf,M4.eP k5,W4,by rw[dM];simp;lia,li,yG,K4.trans (k5.mono λb z=>z.elim),k5.iC Dq,Paired.cw P4 λ_ _ q=>jv.keep k5.lQ q,hc5,λz=>?_,λz=>?_,alP⟩⟩)
   ·refine af (M4.wK z) λo e _=>?_;rw[AQ]at e;cases e
   ·rw[z,Dq]at AQ;cases AQ
  ·have e0:nk S'=[]:=vH.mp li;exact vr rfl (q H2 lw ws ms S' n' hC e0 W2 HY M2 k2 xr nw AR CI)
end
def wU(ov:List (List Int))(ac:List Act):Prop:=(∀o∈ov,∀d∈o,(0:Int)<=d/\d<(ac.length:Nat))/\∀a∈ac,∀d,a.seen=a_ d->(0:Int)<=d/\d<(ac.length:Nat)
theorem JZ{ov:List (List Int)}{ac:List Act}{a:Act}(h:wU ov ac)(ha:∀d,a.seen=a_ d->(0:Int)<=d/\d<(ac.length:Nat)):wU ov (ac++[a]):=by
 have up:∀d:Int,(0<=d/\d<(ac.length:Nat))->0<=d/\d<((ac++[a]).length:Nat):=λd z=>⟨z.1,by rw[dM,Qa];lia⟩;refine⟨λo ho d hd=>up d (h.1 o ho d hd),λb hb d e=>up d ?_⟩;rcases jA.mp hb with y | y
 ·exact h.2 b y d e
 ·rw[gJ.mp y]at e;exact ha d e
theorem TH{ov:List (List Int)}{ac:List Act}{d:Int}(n:Nat)(h:wU ov ac)(hd:(0:Int)<=d/\d<(ac.length:Nat)):wU (ov.set n (ov.getD n []++[d])) ac:=by
 refine⟨λo ho b hb=>?_,h.2⟩;rcases zo ho with y | y
 ·exact h.1 o y b hb
 ·rw[y]at hb;rcases jA.mp hb with z | z
  ·cases e:ov[n]? with
   | none=>rw[nh,e]at z;cases z
   | some p=>rw[nh,e]at z;exact h.1 p (bo e) b z
  ·rw[gJ.mp z];exact hd
theorem RD{ov:List (List Int)}{ac:List Act}(n:Nat)(h:wU ov ac)(d:Int)(e:(ov.getD n []).getLast?=a_ d):(0:Int)<=d/\d<(ac.length:Nat):=by
 cases z:ov[n]? with
 | none=>rw[nh,z]at e;cases e
 | some p=>
  rw[nh,z]at e;exact h.1 p (bo z) d (List.mem_of_getLast? e)
theorem S5(ac:List Act)(a:Act):((ac.length:Nat):Int)<((ac++[a]).length:Nat):=by rw[dM,Qa];lia
theorem aet{S:Mc}{c sz:Nat}{k:Ck}{s:Tl}(g:dH sz s)(hk:S.ck[c]?=a_ k)(hd:S.kd = "none")(he:k.es=[])(h:wU S.ov S.ac):wU (aZ S c s).ov (aZ S c s).ac:=by
 cases g with
 | put r n _ _=>
  rw[show aZ S c ("put",[r,n])=eZ S c r (n:Nat) from rfl,ou hk];exact h
 | add r o _ _=>
  have e:aZ S c ("add",[r,o])=eZ S c r ((k.rg.getD r 0+k.rg.getD o 0)%jD):=by
   unfold aZ;rw[if_neg (show ¬("add" : Str) = "put" from dk),if_pos rfl,hk];rfl
  rw[e,ou hk];exact h
 | set n r _ _=>
  rw[BY,B4 hk,JF hk hd he];exact TH n (JZ h λd e=>by cases e) ⟨IF _,S5 S.ac _⟩
 | look r n _ _=>
  rw[BM];unfold mz;rw[hk];dsimp only;rw[ou (S:=fk S ⟨"look",c,n,a_ (cF S k n).1,b_,(cF S k n).2⟩) hk];refine JZ h λd e=>RD n h d ?_;unfold cF at e;rw[he]at e;exact e
 | swap r n _ _=>
  rw[BL];unfold nC;rw[hk];dsimp only;rw[ou (S:=fk (kJ S n (k.rg.getD r 0) S.ac.length) ⟨"swap",c,n,a_ (S.bd.getD n 0),a_ (k.rg.getD r 0),(S.ov.getD n []).getLast?⟩) hk];exact TH n (JZ h λd e=>RD n h d e) ⟨IF _,S5 S.ac _⟩
 | clear=>
  rw[<-rP S c (show ("clear" : Str) ≠ "put" from dk) (show ("clear" : Str) ≠ "add" from dk),By];exact h
 | skip r q _ _ _=>
  rw[<-rP S c (show ("skip" : Str) ≠ "put" from dk) (show ("skip" : Str) ≠ "add" from dk),BD];exact h
def fh(S:Mc):Nat:=(S.ck.map λk=>k.ct).sum
structure q9(S T:Mc):Prop where
 kd:T.kd = "none"
 ps:T.ps=S.ps
 len:T.ck.length=S.ck.length
 no:∀k∈T.ck,k.es=[]
 W:ie (fh T) T
 le:∀(c:Nat) j k,T.ck[c]?=a_ j->S.ck[c]?=a_ k->j.ct<=k.ct
 ao:pI T
 se:wU T.ov T.ac
theorem q9.sum{S T:Mc}(h:q9 S T):fh T<=fh S:=by
 have g:∀(l r:List Ck),l.length=r.length->(∀(c:Nat) j k,l[c]?=a_ j->r[c]?=a_ k->j.ct<=k.ct)->(l.map λk=>k.ct).sum<=(r.map λk=>k.ct).sum:=by
  intro l
  induction l with
  | nil=>intro r _ _;exact cy _
  | cons j l ih=>
   intro r hl hc;cases r with
   | nil=>cases hl
   | cons k r=>
    have h1:=hc 0 j k rfl rfl;have h2:=ih r (D8 hl) λc j k e1 e2=>hc (c+1) j k (by simpa using e1) (by simpa using e2);simp only[gK,Jg];lia
 exact g _ _ h.len h.le
def jF(S T:Mc)(c:Nat):Bool:=match T.ck[c]?,S.ck[c]?,T.ps[c]? with
 | some j,a_ k,a_ p=>tS j k p
 | _,_,_=>d_
theorem Ae{S T:Mc}{c:Nat}{j k:Ck}{p:Pt}(h1:T.ck[c]?=a_ j)(h2:S.ck[c]?=a_ k)(h3:T.ps[c]?=a_ p):jF S T c=tS j k p:=by unfold jF;rw[h1,h2,h3]
structure FJ(S T:Mc)(c:Nat):Prop where
 mv:(("do" : Str),[(c:Int)])∈jL T
 eq:iV T ("do",[(c:Int)])=eR T c
 pl:q9 S (eR T c)
 ct:∃j k',T.ck[c]?=a_ j/\(eR T c).ck[c]?=a_ k'/\k'.ct=j.ct+1
 a1:T.ac.length<=(eR T c).ac.length
 a2:(eR T c).ac.length<=T.ac.length+1
 st:∃j p s sz,T.ck[c]?=a_ j/\T.ps[c]?=a_ p/\p[j.pl]?=a_ s/\dH sz s/\j.es=[]
theorem q9.step{S T:Mc}{c:Nat}(h:q9 S T)(hn:fh S<15000)(hg:jF S T c=c_):FJ S T c:=by
 unfold jF at hg;cases e1:T.ck[c]? with
 | none=>rw[e1]at hg;cases hg
 | some j=>
 cases e2:S.ck[c]? with
 | none=>rw[e1,e2]at hg;cases hg
 | some k=>
 cases e3:T.ps[c]? with
 | none=>rw[e1,e2,e3]at hg;cases hg
 | some p=>
 rw[e1,e2,e3]at hg;have hg:tS j k p=true:=hg;unfold tS at hg;rw[i9,decide_eq_true_eq,Qq,decide_eq_false_iff_not]at hg;have hle:=h.W.wf.pl c j p e1 e3;have dJ:j.pl<p.length:=li;have hs:p[j.pl]?=a_ p[j.pl]:=aX dJ;have hc:c<T.ck.length:=(dX.mp e1).1;have HU:=h.no j (bo e1);refine cR (h.W.wf.part e1) λp' fZ _ _ hgd=>?_;have ep:p'=p:=by rw[e3]at fZ;exact(dq fZ).symm
 subst ep;have g:=hgd _ (uo dJ)
 have qo:(("do" : Str),[(c:Int)])∈jL T:=by
  unfold jL vf;refine pO _ (pk.mpr (ak c (rG.mpr ⟨sO.mpr hc,?_⟩) rfl));unfold xh;rw[e1,e3];show qP j p'=c_;unfold qP;rw[hs];show (decide (j.es=[])||_)=c_;rw[decide_eq_true HU];rfl
 have heq:iV T ("do",[(c:Int)])=eR T c:=by kernel_rfl
 have hmd:=zY e1 e3 hs;refine aG (BZ h.W g e1) λk' f q1 q2=>?_;have ec:(aZ T c p'[j.pl]).ck[c]?=a_ k':=by rw[f.ck];exact jz hc
 have xS:eR T c={ aZ T c p'[j.pl]with ck:=T.ck.set c { k' with pl:=cY p'[j.pl] k'.rg k'.pl,ct:=k'.ct+1 } }:=by
  rw[<-heq,hmd];unfold pF;rw[ec];show ({ aZ T c p'[j.pl]with ck:=(aZ T c p'[j.pl]).ck.set c _ }:Mc)=_;rw[f.ck,vU]
 have y7:(eR T c).ck=T.ck.set c { k' with pl:=cY p'[j.pl] k'.rg k'.pl,ct:=k'.ct+1 }:=by rw[xS]
 have alk:fh (eR T c)=fh T+1:=by
  have:=sum_set (λk:Ck=>k.ct) (y:={ k' with pl:=cY p'[j.pl] k'.rg k'.pl,ct:=k'.ct+1 }) e1;unfold fh;rw[y7];dsimp only at this;lia
 have hW:ie (fh T+1) (eR T c):=by rw[<-heq];exact Lb h.W (sI h.sum hn) qo
 refine bp (JL h.W qo) λs1 s2 s3=>?_;rw[heq]at s1 s2 s3;have iH:=acR h.W qo λ_=>h.no;have A8:=Uc h.W.wf qo h.ao;rw[heq]at iH A8;refine⟨qo,heq,⟨s1.trans h.kd,s2.trans h.ps,s3.trans h.len,iH (s1.trans h.kd),by rw[alk];exact hW,λd i k0 d1 d2=>?_,A8,?_⟩,⟨j,_,e1,by rw[y7];exact jz hc,by show k'.ct+1=_;rw[q2]⟩,by rw[xS];exact f.AM,by rw[xS];exact f.AL,⟨j,p',_,_,e1,e3,hs,g,HU⟩⟩
 ·rw[y7]at d1
  by_cases z:d=c
  ·subst z;rw[jz hc]at d1;cases d1;rw[e2]at d2;cases d2;show k'.ct+1<=k.ct;lia
  ·rw[zt λy=>z y.symm]at d1;exact h.le d i k0 d1 d2
 ·rw[xS];exact aet g e1 h.kd HU h.se
def oH(p:Mc->Bool)(c:Nat):Nat->Mc->Mc
 | 0,T=>T
 | f+1,T=>if p T=c_ then oH p c f (eR T c) else T
def Fz(S:Mc)(c:Nat):Nat:=(S.ck.map λk=>k.ct).getD c 0
def lz(S:Mc)(c n:Nat)(T:Mc):Bool:=decide (T.ac.length=n)&&jF S T c
def iW(S:Mc)(c:Nat)(T:Mc):Mc:=oH (lz S c T.ac.length) c (Fz S c) T
def aiC(S:Mc)(c:Nat)(T:Mc):Mc:=oH (λT=>jF S T c) c (Fz S c) T
theorem z9{p:Mc->Bool}{c f:Nat}{T:Mc}(h:p T=d_):oH p c f T=T:=by
 cases f with
 | zero=>rfl
 | succ f=>unfold oH;rw[h];rfl
theorem BV{p:Mc->Bool}{c f:Nat}{T:Mc}(h:p T=c_):oH p c (f+1) T=oH p c f (eR T c):=by
 show (if p T=c_ then _ else _)=_;rw[if_pos h]
def Fuel(S T:Mc)(c f:Nat):Prop:=∀j k,T.ck[c]?=a_ j->S.ck[c]?=a_ k->k.ct<=f+j.ct
theorem En(S T:Mc)(c:Nat):Fuel S T c (Fz S c):=λj k _ e=>by
 unfold Fz;rw[nh,f9,e];exact DX _ _
theorem Em{S T:Mc}{c f:Nat}(h:Fuel S T c f)(s:FJ S T c)(hg:jF S T c=c_):∃g,f=g+1/\Fuel S (eR T c) c g:=by
 refine cI s.ct λj k' e1 e2 e3=>?_;unfold jF at hg;rw[e1]at hg;cases e4:S.ck[c]? with
 | none=>rw[e4]at hg;cases hg
 | some k=>
 rw[e4]at hg;cases e5:T.ps[c]? with
 | none=>rw[e5]at hg;cases hg
 | some p=>
 rw[e5]at hg;have hg:tS j k p=true:=hg;unfold tS at hg;rw[i9,decide_eq_true_eq]at hg;have h1:=h j k e1 e4;cases f with
 | zero=>lia
 | succ f=>
  refine ak f rfl λi l d1 d2=>?_;rw[e2]at d1;rw[e4]at d2;cases d1;cases d2;lia
theorem aY.ag1{t:a9}{C CT:e_}{H:Hp}{m:e_}{A:MA}{S:Mc}(M:aY t C CT H m A S){b:e_}(hb:bz m A b){c dx:e_}{fs:List (Str×V)}(e:H b=a_ (.ins c dx fs)):fs.lookup ("trays" : Str)≠b_\/fs.lookup ("queues" : Str)≠none:=by
 have no:∀{xs:List V},H b=a_ (.lst xs)->fs.lookup ("trays" : Str)≠b_\/fs.lookup ("queues" : Str)≠none:=λh=>by rw[e]at h;cases h
 cases hb with
 | m=>obtain⟨zf,nX,h,G⟩:=M.obj;rw[e]at h;cases h;exact .inl (by rw[G.iU];exact λz=>by cases z)
 | lt=>exact no M.lt
 | pl=>exact no M.pl
 | ct=>exact no M.ct
 | rg=>exact no M.rg
 | ce=>exact no M.ce
 | ac=>obtain⟨vs,h,_⟩:=M.ac;exact no h
 | cm=>exact no M.cm
 | rs h=>obtain⟨c,_,q⟩:=mi M.rs h;exact no q
 | cs h=>obtain⟨c,_,q⟩:=mi M.cs h;exact no q
 | ts h h2=>
  refine af (mi M.ts h) λc _ q=>?_;rcases cV.mp h2 with z | z
  ·refine kZ (dR.obj q) λzf nX h1 _ _ aa=>oA aa λh4 _=>?_;rw[<-z,e]at h1;cases h1;exact .inr (by rw[h4];exact λz=>by cases z)
  ·rcases cV.mp z with z | z
   ·exact no (by rw[z];exact dR.qs q)
   ·refine oE (vK z) λi zq=>oE zq λhi ei=>af (dR.lx q i _ (by rw[aX hi,ei])) λws hw _=>?_;exact no hw
theorem aY.other{t:a9}{C CT:e_}{H H':Hp}{m x:e_}{A A1:MA}{S S1:Mc}(M1:aY t C CT H x A1 S1)(M:aY t C CT H m A S)(k:aF (bz m A) H H')(dj:∀b,bz x A1 b->¬bz m A b):aY t C CT H' x A1 S1:=by
 have k1:∀b,bz x A1 b->∀o,H b=a_ o->H' b=a_ o:=λb hb o e=>k.k b o (dj b hb) (λps z=>by
  refine af (M1.wK hb) λo' e' h=>?_;rw[e]at e';cases e';rcases h with ⟨_,_,_,h⟩ | ⟨_,h⟩ <;> rw[h]at z <;> cases z) e
 have kt:=k.tup M.FP;obtain⟨⟨dx,fs,h1,h2⟩,lt,ts,pg,⟨vs,s1,s2⟩,pl,ct,rg,rs,ce,⟨us,a1,a2⟩,cm,cs⟩:=M1;refine⟨⟨dx,fs,k1 _ .m _ h1,h2⟩,k1 _ .lt _ lt,eX ts λi x c hx _ q=>q.keep (λb hb o e=>k1 b (.ts (bo hx) hb) o e) kt,pg.keep kt,⟨vs,kt _ _ s1,Paired.cw s2 λ_ _ q=>q.keep kt λb C dx fs e h=>?_⟩,k1 _ .pl _ pl,k1 _ .ct _ ct,k1 _ .rg _ rg,?_,k1 _ .ce _ ce,⟨us,k1 _ .ac _ a1,Paired.cw a2 λ_ _ q=>q.keep kt⟩,k1 _ .cm _ cm,?_⟩
 ·refine k.k b _ (λhb=>?_) (λps z=>by cases z) e;refine eh h λy ps v _ aa=>?_;clear h;subst aa;rcases M.ag1 hb e with z | z
  ·exact z (yn "trays" dk v y ps)
  ·exact z (yn "queues" dk v y ps)
 ·exact eX rs λi x c hx _ q=>k1 x (.rs (bo hx)) _ q
 ·exact eX cs λi x c hx _ q=>k1 x (.cs (bo hx)) _ q
structure PM(t:a9)(C CT PT:e_)(H:Hp)(m:e_)(A:MA)(S:Mc)(x:e_)(B:MA)(T:Mc):Prop where
 M:aY t C CT H m A S
 N:aY t C CT H x B T
 L:∃lab,lu lab x B
 dj:∀b,bz m A b->¬bz x B b
 pl:q9 S T
 lam:cq PT LP LQ H
 wf:S.ck.length=S.ps.length
section
variable{t:a9}{C CT PT:e_}{H H':Hp}{m x:e_}{A B:MA}{S T:Mc}
theorem PM.eP(h:PM t C CT PT H m A S x B T)(k:aF eN H H')(l:cq PT LP LQ H'):PM t C CT PT H' m A S x B T:=⟨h.M.eP k,h.N.eP k,h.L,h.dj,h.pl,l,h.wf⟩
theorem PM.same(h:PM t C CT PT H m A S x B T)(s:ai H H'):PM t C CT PT H' m A S x B T:=h.eP (aF.of s) (gj h.lam s)
theorem PM.at{c:Nat}(h:PM t C CT PT H m A S x B T)(hc:c<S.ck.length):∃j k p,T.ck[c]?=a_ j/\S.ck[c]?=a_ k/\T.ps[c]?=a_ p/\p.length<=1000:=by
 have h1:c<T.ck.length:=by rw[h.pl.len];exact hc
 have h2:c<T.ps.length:=by rw[h.pl.ps,<-h.wf];exact hc
 refine⟨_,_,_,(aX h1),(aX hc),(aX h2),?_⟩;exact cC (h.pl.W.wf.good.part _ (uo h2)).1 qc
theorem PM.step{c:Nat}(h:PM t C CT PT H m A S x B T)(s:FJ S T c)(N':aY t C CT H' x B (iV T ("do",[(c:Int)])))(k:aF (bz x B) H H')(l:cq PT LP LQ H'):PM t C CT PT H' m A S x B (eR T c):=by
 rw[s.eq]at N';exact⟨h.M.other h.N k h.dj,N',h.L,h.dj,s.pl,l,h.wf⟩
end
section
variable{t:a9}{C CT PT jr:e_}
def TC(t:a9)(C CT PT:e_):Sp:=λvs H Q _=>∃m A S x B T c,vs=[.ref x,.ref m,.int (c:Nat)]/\PM t C CT PT H m A S x B T/\fh S<800/\c<S.ck.length/\
 ∀H',PM t C CT PT H' m A S x B (iW S c T)->aF (bz x B) H H'->Q (.bl (decide (T.ac.length<(iW S c T).ac.length))) H'
def Vq(t:a9)(C CT PT:e_)(H:Hp)(m:e_)(A:MA)(S:Mc)(x:e_)(B:MA)(T:Mc)(c:Nat):Nat->L2.St->Hp->Prop:=λμ σ H2=>∃T',σ=[a_ (.ref x),a_ (.ref m),a_ (.int (c:Nat)),a_ (.int (T.ac.length:Nat))]/\PM t C CT PT H2 m A S x B T'/\aF (bz x B) H H2/\Fuel S T' c μ/\oH (lz S c T.ac.length) c μ T'=iW S c T
theorem TN:ba ["plain","machine","clerk","many"] zLg (aT LC):=bg
theorem adW{f fN fG fD:e_}(F:aV K "comes_to_deed" "comes_to_deed" LC f fd)(cM:fb K C)
  (GN:ax P w K mg base aB 1 fN za zLe (EW t C CT)) (bN:Binds K za zLe []) (mN:Meth K C "deeds_done" fN)
  (GG:ax P w K mg base aB 2 fG DI zLg (Ky t C CT)) (kG:W.keepIn K (.ref fG)=c_) (bG:Binds K DI zLg []) (mG:mg "may_go_on" = a_ (.ref fG))
  (GD:ax P w K mg base (jh P w) 7 fD md zLw (Cz t C CT PT jr)) (bD:Binds K md zLw []) (mD:Meth K C "do" fD):ax P w K mg base aB 8 f fd zLg (TC t C CT PT):=by
 have zl:=Ag GD;refine F.ok TN (λvs H Q E h=>?_) λaL A _ s H vs Q E hr h=>?_
 ·obtain⟨m,A,S,x,B,T,c,aa,_⟩:=h;subst aa;rfl
 ·refine kY h λm A S x B aa=>?_;obtain⟨T,c,rfl,h,hn,hc,q⟩:=aa;have cX:=hr.mono (show 1<=7 by decide);have ji:=hr.mono (show 2<=7 by decide);refine let R1:TS:=_;let R2:TS:=_;let R3:TS:=_;⟨_,aD (bJ (i:=3) TN.nd rfl (aP rfl) (ip (pv 0) cM.cl mN GN cX bN .nil aR)) (pR R3 (aD (BJ mf (PW.pt (pw_and (br dO (ip (pv 0) cM.cl mN GN cX bN .nil aR) (pv 3) (bf _)) (pw_and1 (gF (dr GG ji rfl mG kG bG .nil aR (ae (pv 0) (ae (pv 1) (ae (pv 2) ag)))))))) (pR R1 (aE (dg (gm (pv 0) cM.cl mD zl hr bD .nil aR (ae (gu (ae cZ (ae (pv 2) ag))) ag)))))) (pR R2 (aE (a8 (qG yt (ip (pv 0) cM.cl mN GN cX bN .nil aR) (pv 3) (bf _))))))),?_⟩
  refine aW (id h.N.obj) λdx fs hx G=>vM rfl hx (G.ms _ dk) (mq x B T rfl h.N (ak (Vq t C CT PT H m A S x B T c) ⟨_,T,rfl,h,aF.refl H,En S T c,rfl⟩ ?_));intro μ σ H2 av;refine nA av λT' aa h2 k2 hf jO=>?_;clear av;subst aa;refine aW (id h2.N.obj) λsH qq m8 G2=>BX (h2.at hc) λj k p e1 e2 e3 hl=>?_
  have fin:lz S c T.ac.length T'=d_->∀D:Ends,D.rt=Q->Cw (lV (xx λi j=>.bl (decide (i > j))) (Fj C "deeds_done" (EW t C CT) [] E0 (ib 0) An) (ib 3)) D [a_ (.ref x),a_ (.ref m),a_ (.int (c:Nat)),a_ (.int (T.ac.length:Nat))] H2:=λe D hD=>by
   rw[z9 e]at jO;subst jO;refine vM rfl m8 (G2.ms _ dk) (mq x B _ rfl h2.N (vr rfl ⟨_,⟨_,rfl,rfl,?_⟩⟩));have:=q H2 h2 k2;rw[show decide (T.ac.length<(iW S c T).ac.length)=decide (((iW S c T).ac.length:Int) > (T.ac.length:Int)) from decide_eq_decide.mpr li,<-hD]at this;exact this
  refine vM rfl m8 (G2.ms _ dk) (mq x B T' rfl h2.N (vr rfl ⟨rfl,_,rfl,bq (λe=>?_) λe=>?_⟩))
  ·have ea:T'.ac.length=T.ac.length:=by injection e with e;lia
   refine ak _ rfl (vr rfl (vr rfl (⟨x,B,T',m,A,S,c,j,k,p,rfl,h2.N,h2.M,e1,(lR e2 e3 hl (ak _ rfl (Aw (λhb=>?_) λhb=>?_)))⟩)))
   ·have hg:jF S T' c=true:=by rw[Ae e1 e2 e3];exact hb
    have s1:=h2.pl.step wa hg;refine af (Em hf s1 hg) λg eg vC=>?_;subst eg;rw[BV (show lz S c T.ac.length T'=c_ by unfold lz;rw[decide_eq_true ea,hg];rfl)]at jO;refine⟨λσ' H'=>∃μ',μ'<g+1/\Vq t C CT PT H m A S x B T c μ' σ' H',λσ' H' z=>z,vM rfl m8 (G2.ms _ dk) (vr rfl ⟨(sl (n:=2)),λpa na=>?_⟩)⟩;have ss:ai H2 (upd H2 pa (.tup [.str "do",.int (c:Nat)])):=aM (ai.refl _) na;have hp:upd H2 pa (.tup [.str "do",.int (c:Nat)]) pa=a_ (.tup (lW (("do" : Str),[(c:Int)]))):=aA;have h3:=h2.same ss;generalize upd H2 pa (.tup [.str "do",.int (c:Nat)])=H3 at ss hp h3 ⊢;refine oE h3.L λlab L=>?_;have gH:=s1.mv;refine⟨x,B,T',pa,_,lab,rfl,h3.N,L,h3.pl.W.wf,(h3.pl.W.vj (by have:=h3.pl.sum;lia)),h3.lam,hp,(E8 _),(lR (by simp[lW]) (λxM e=>(by rw[<-uD e];exact zR gH)) (λxM e Xf H4 N4 k4 tP=>?_) λz _ _ _=>absurd gH (z _ rfl))⟩;have zd:=uD e;subst zd;exact ak g (vP g) (gG (eR T' c) rfl (h3.step s1 N4 k4 tP) (k2.trans ((aF.of ss).trans k4)) vC jO)
   ·exact fin (by unfold lz;rw[Ae e1 e2 e3,hb,Bp]) _ rfl
  ·exact fin (by unfold lz;rw[decide_eq_false λz=>e (by rw[z]),rH]) _ rfl
end
def qF(S:Mc):Nat->Mc->Mc
 | 0,T=>T
 | n+1,T=>aiC S n (qF S n T)
section
variable{t:a9}{C CT PT jr:e_}
def UL(t:a9)(C CT PT:e_):Sp:=λvs H Q _=>∃m A S x B T,vs=[.ref x,.ref m]/\PM t C CT PT H m A S x B T/\fh S<800/\S.ck.length<=4/\
 ∀H',PM t C CT PT H' m A S x B (qF S S.ck.length T)->aF (bz x B) H H'->Q .aJ H'
def VS(t:a9)(C CT PT:e_)(H:Hp)(m:e_)(A:MA)(S:Mc)(x:e_)(B:MA)(R:Mc)(c:Nat):Nat->L2.St->Hp->Prop:=λμ σ H2=>∃T',σ=[a_ (.ref x),a_ (.ref m),a_ (.int (c:Nat))]/\PM t C CT PT H2 m A S x B T'/\aF (bz x B) H H2/\Fuel S T' c μ/\oH (λT=>jF S T c) c μ T'=R
theorem UY:ba zLg ["plain","machine"] (aT KZ):=bg
theorem afu(F:aV K "do_rest" "do_rest" KZ f fd)(cM:fb K C)(dE:mg "len" = b_)(dQ:mg "range" = b_)
  (GG:ax P w K mg base aB 2 fG DI zLg (Ky t C CT)) (kG:W.keepIn K (.ref fG)=c_) (bG:Binds K DI zLg []) (mG:mg "may_go_on" = a_ (.ref fG))
  (GD:ax P w K mg base (jh P w) 7 fD md zLw (Cz t C CT PT jr)) (bD:Binds K md zLw []) (mD:Meth K C "do" fD):ax P w K mg base aB 8 f fd ["plain","machine"] (UL t C CT PT):=by
 have zl:=Ag GD;refine F.ok UY (λvs H Q E h=>?_) λaL A _ s H vs Q E hr h=>?_
 ·refine lK h λm A S x B T aa _=>?_;subst aa;rfl
 ·refine kY h λm A S x B aa=>?_;obtain⟨T,rfl,h,hn,h4,q⟩:=aa;have ji:=hr.mono (show 2<=7 by decide);refine⟨_,aE (pB mf rfl (sU rfl dQ (ae (cg fg rfl dE PySem.boot_len (ae (bu (pv 1) rfl) ag)) ag)) (de (i:=2) UY.nd rfl (aP rfl)) (aE (BJ mf (gF (dr GG ji rfl mG kG bG .nil aR (ae (pv 0) (ae (pv 1) (ae (pv 2) ag))))) (aE (dg (gm (pv 0) cM.cl mD zl hr bD .nil aR (ae (gu (ae cZ (ae (pv 2) ag))) ag))))))),?_⟩;refine aW (id h.M.obj) λdx fs hm G=>cI (id h.M.pg) λpg eC aa gX pd=>?_;cases aa;have ee:eC.length=S.ck.length:=by rw[Paired.length pd];exact h.wf.symm
  have ZF:=wG;refine vF rfl hm cM.cl cM.program G.program ⟨A.pg,⟨_,rfl,.inr (aI.of gX),_,rfl,li,li,?_⟩⟩;rw[show ((eC.length:Int)).toNat=eC.length by lia];refine yg (n:=eC.length) (λi σ H'=>i<=eC.length/\(∃c,σ=[a_ (.ref x),a_ (.ref m),c])/\PM t C CT PT H' m A S x B (qF S i T)/\aF (bz x B) H H') ⟨cy _,⟨b_,rfl⟩,h,aF.refl H⟩ ?_ ?_
  ·intro i σ H1 hi av;refine iB av λ_ aa h1 k1=>oE aa λc0 aa=>?_;subst aa;have e0:(0+(i:Int))=(i:Int):=Bt _;have hc:=wf;refine ak (VS t C CT PT H m A S x B (qF S (i+1) T) i) ⟨_,_,by rw[e0];rfl,h1,k1,En S _ i,rfl⟩ ?_;intro μ σ H2 av;refine nA av λT' aa h2 k2 hf jO=>?_;clear av;subst aa;refine aW (id h2.N.obj) λsH qq m8 G2=>BX (h2.at hc) λj k p e1 e2 e3 hl=>ak _ rfl (vr rfl (vr rfl (⟨x,B,T',m,A,S,i,j,k,p,rfl,h2.N,h2.M,e1,(lR e2 e3 hl (ak _ rfl (Aw (λhb=>?_) λhb=>?_)))⟩)))
   ·have hg:jF S T' i=true:=by rw[Ae e1 e2 e3];exact hb
    have s1:=h2.pl.step wa hg;refine af (Em hf s1 hg) λg eg vC=>?_;subst eg;rw[BV (p:=λT=>jF S T i) hg]at jO;refine⟨λσ' H'=>∃μ',μ'<g+1/\VS t C CT PT H m A S x B (qF S (i+1) T) i μ' σ' H',λσ' H' z=>z,vM rfl m8 (G2.ms _ dk) (vr rfl ⟨(sl (n:=2)),λpa na=>?_⟩)⟩;have ss:ai H2 (upd H2 pa (.tup [.str "do",.int (i:Nat)])):=aM (ai.refl _) na;have hp:upd H2 pa (.tup [.str "do",.int (i:Nat)]) pa=a_ (.tup (lW (("do" : Str),[(i:Int)]))):=aA;have h3:=h2.same ss;generalize upd H2 pa (.tup [.str "do",.int (i:Nat)])=H3 at ss hp h3 ⊢;refine oE h3.L λlab L=>?_;have gH:=s1.mv;refine⟨x,B,T',pa,_,lab,rfl,h3.N,L,h3.pl.W.wf,(h3.pl.W.vj (by have:=h3.pl.sum;lia)),h3.lam,hp,(E8 _),(lR (by simp[lW]) (λxM e=>(by rw[<-uD e];exact zR gH)) (λxM e Xf H4 N4 k4 tP=>?_) λz _ _ _=>absurd gH (z _ rfl))⟩;have zd:=uD e;subst zd;exact ak g (vP g) (gG (eR T' i) rfl (h3.step s1 N4 k4 tP) (k2.trans ((aF.of ss).trans k4)) vC jO)
   ·rw[z9 (p:=λT=>jF S T i) (by show jF S T' i=d_;rw[Ae e1 e2 e3,hb])]at jO;subst jO;exact lR wg ⟨_,rfl⟩ h2 k2
  ·intro σ H1 av;refine iB av λ_ aa h1 k1=>oE aa λc0 aa=>?_;subst aa;rw[ee]at h1;exact q H1 h1 k1
end
def CF(a:Act):List V:=[.str a.k,.int (a.c:Nat),.int (a.n:Nat),oV a.got,oV a.gave]
def pE(a:Act):PyData:=.tuple [.str a.k,.int (a.c:Nat),.int (a.n:Nat),oD a.got,oD a.gave]
def pC(ns:List Int)(a:Act):Option Int:=a.seen.map λd=>ns.getD d.toNat 0
def qI(ns:List Int)(a b:Act):Bool:=same (pE a) (pE b)&&decide (oV (pC ns a)=oV b.seen)
theorem Fw(a:Act):¬(HT.cA (pH a).length 0 b_=0/\HT.cA (pH a).length (pH a).length (a_ 5)=(pH a).length):=(by decide:¬(HT.cA 6 0 b_=0/\HT.cA 6 6 (a_ 5)=6))
theorem EC{K:W.Frag}(h:H p=a_ (.tup (CF a))):iE K H (.ref p) (pE a):=.tup (aI.of h) (.cons (.str _) (.cons (.int _) (.cons (.int _) (.cons (Ac _) (.cons (Ac _) .nil)))))
theorem Eb(h:nY a.k=c_):shaped (pE a)=true:=by
 unfold shaped pE;rw[i9];refine⟨?_,decide_eq_true ?_⟩
 ·simp only[sM,sJ];rw[h,(pS a.got).1,(pS a.gave).1];rfl
 ·have h1:=(pS a.got).2;have h2:=(pS a.gave).2;simp only[pj,rF];lia
theorem Rp(a b:Act):noMix (pE a) (pE b)=true:=by
 unfold pE;cases a.got <;> cases a.gave <;> cases b.got <;> cases b.gave <;> rfl
theorem TJ(a b:Option Int):Nk (oV a) (oV b)=true:=by cases a <;> cases b <;> rfl
def SJ:Sp:=λvs H Q _=>∃p p' r a b ns,vs=[.ref p,.ref p',.ref r]/\H p=a_ (.tup (pH a))/\H p'=a_ (.tup (pH b))/\H r=a_ (.lst (ns.map V.int))/\(∀d,a.seen=a_ d->(0:Int)<=d/\d<(ns.length:Nat))/\nY a.k=c_/\nY b.k=c_/\
 ∀H',ai H H'->Q (.bl (qI ns a b)) H'
theorem SV:ba ["done","told","row","seen"] ["done","told","row"] (aT KU):=bg
theorem acL(F:aV K "is_like" "is_like" KU f fd):ax P w K mg base aB 1 f fd ["done","told","row"] SJ:=by
 refine F.ok SV (λvs H Q E h=>?_) λaL A _ s H vs Q E hr h=>?_
 ·refine lK h λp p' r a b ns aa _=>?_;subst aa;rfl
 ·refine nZ h λp p' r a b ns aa hp fZ ub aH=>?_;subst aa;refine iB aH λhs ha hb q=>?_;have hu:=hr.units;refine let R1:TS:=_;⟨_,aD (bJ (i:=3) SV.nd rfl (aP rfl) (Kg (br LK (az bh (pv 0) aq) lM (bf _)) lM (az aS (pv 2) (az bh (pv 0) aq)))) (pR R1 (aE (a8 (wD (qG (Cb hu) (og (Ai K) (pv 0) oq (oo aq)) (og (Ai K) (pv 1) oq (oo aq)) (bf _)) (wC (qG dO (pv 3) (az bh (pv 1) aq) (bf _))))))),?_⟩
  have tail:∀D:Ends,D.rt=Q->Cw (VE (lV (Ap K d_) (CM (Ao K) (ib 0) BS (Cf (tC (.int 5)))) (CM (Ao K) (ib 1) BS (Cf (tC (.int 5))))) (lV Od (ib 3) (lV (tG K) (ib 1) (tC (.int 5))))) D [a_ (.ref p),a_ (.ref p'),a_ (.ref r),a_ (oV (pC ns a))] H:=by
   intro D hD;refine ak _ rfl (ak 5 rfl ⟨p,⟨_,rfl,aI.of hp,Fw a,λp1 n1=>?_⟩⟩);generalize eU:upd H p1 (.tup (jt (pH a) b_ (a_ 5)))=H1;have s1:ai H (H1):=eU ▸ (aM (ai.refl _) n1);have h1:H1 p1=a_ (.tup (CF a)):=eU ▸ aA;clear eU;refine vr rfl (ak 5 rfl ⟨p',⟨_,rfl,aI.of (s1 _ _ fZ),Fw b,λp2 n2=>?_⟩⟩);generalize eU:upd H1 p2 (.tup (jt (pH b) b_ (a_ 5)))=H2;have s2:ai H1 (H2):=eU ▸ (aM (ai.refl _) n2);have h2:H2 p2=a_ (.tup (CF b)):=eU ▸ aA;clear eU;have s3:=s1.trans s2;have q:=q H2 s3;rw[<-hD]at q;refine⟨(pE a),(pE b),(EC (s2 _ _ h1)),(EC h2),(Eb ha),(Eb hb),(Rp a b),(ak _ rfl ?_)⟩;rw[if_neg dY];unfold qI at q;refine Aw (λe=>?_) λe=>?_
   ·rw[e,zD]at q;exact vr rfl (vT (v:=oV b.seen) rfl (aI.of (s3 _ _ fZ)) (cb (j:=5) rfl) ⟨TJ _ _,q⟩)
   ·rw[e,rH]at q;exact q
  cases ea:a.seen with
  | none=>
   have e0:pC ns a=none:=by unfold pC;rw[ea];rfl
   rw[e0]at tail;refine vT (v:=.aJ) rfl (aI.of hp) (cb (j:=5) (by show a_ (oV a.seen)=_;rw[ea];rfl)) ⟨rfl,_,rfl,bq (λ_=>?_) λe=>absurd rfl e⟩;exact tail _ rfl
  | some d=>
   have e0:pC ns a=a_ (ns.getD d.toNat 0):=by unfold pC;rw[ea];rfl
   rw[e0]at tail;have h5:jg (pH a) (5:Nat)=a_ (.int d):=cb (j:=5) (by show a_ (oV a.seen)=_;rw[ea];rfl);refine oA (hs d ea) λd0 d1=>oE (P7 d0) λi aa=>?_;subst aa;have hi:i<ns.length:=li;refine vT (v:=.int (i:Nat)) rfl (aI.of hp) h5 ⟨rfl,⟨_,rfl,bq (λe=>by cases e) λ_=>vr rfl (vT (v:=.int (i:Nat)) rfl (aI.of hp) h5 (rL (aj.of ub) (dA (f:=V.int) (aX hi)) ?_))⟩⟩;have e1:ns.getD ((i:Int)).toNat 0=ns[i]:=by rw[jJ,nh,aX hi];rfl
   rw[e1]at tail;exact tail _ rfl
theorem ae'{c n:Nat}(hn:fh S<15000):∀(f:Nat) (T:Mc),q9 S T->n<=T.ac.length->T.ac.length<=n+1->q9 S (oH (lz S c n) c f T)/\n<=(oH (lz S c n) c f T).ac.length/\(oH (lz S c n) c f T).ac.length<=n+1:=by
 intro f
 induction f with
 | zero=>intro T h h1 h2;exact⟨h,h1,h2⟩
 | succ f ih=>
  intro T h h1 h2;cases e:lz S c n T with
  | false=>rw[z9 e];exact⟨h,h1,h2⟩
  | true=>
   rw[BV e];unfold lz at e;rw[i9,decide_eq_true_eq]at e;have s:=h.step hn e.2;exact ih _ s.pl (cC h1 s.a1) (cC s.a2 (by rw[e.1];exact aN _))
theorem Ti{c:Nat}(hn:fh S<15000)(h:q9 S T):q9 S (iW S c T)/\T.ac.length<=(iW S c T).ac.length/\(iW S c T).ac.length<=T.ac.length+1:=ae' hn _ T h (aN _) (lH _)
def jR(S:Mc)(row:List Int):List Int->Mc->Int ⊕ Mc
 | [],T=>.inr T
 | n::r,T=>match S.ac[n.toNat]? with
  | none=>.inr T
  | some b=>match (iW S b.c T).ac[T.ac.length]? with
   | none=>.inl n
   | some a=>if qI row a b=c_ then jR S row r (iW S b.c T) else .inl n
theorem Uq{n:Int}(hb:S.ac[n.toNat]?=a_ b):jR S row (n::r) T=match (iW S b.c T).ac[T.ac.length]? with
   | none=>.inl n
   | some a=>if qI row a b=c_ then jR S row r (iW S b.c T) else .inl n:=by
 show (match S.ac[n.toNat]? with
  | none=>(.inr T:Int ⊕ Mc)
  | some b=>match (iW S b.c T).ac[T.ac.length]? with
   | none=>.inl n
   | some a=>if qI row a b=c_ then jR S row r (iW S b.c T) else .inl n)=_
 rw[hb]
section
variable{t:a9}{C CT PT jr:e_}
def FQ(C:e_):Sp:=λvs H Q _=>∃a fv c,vs=[.ref a,c]/\H a=a_ (mZ a (.ref C) b_ fv)/\∀d,H d=b_->Q .aJ (upd (upd H a (mZ a (.ref C) (a_ d) fv)) d (oS d [("deed",c)]))
theorem aks:ba zLD zLD (aT Nl):=bg
theorem aiG(F:aV K "__init__" "Unlike.__init__" Nl f fd)(xf:XF K C)(n1:cj K C "deed"):ax P w K mg base aB 1 f fd zLD (FQ C):=by
 refine F.ok aks (λvs H Q E h=>?_) λaL A _ s H vs Q E hr h=>?_
 ·refine eh h λa fv c aa _=>?_;clear h;subst aa;rfl
 ·refine gw h λa fv c aa ha k=>?_;clear h;subst aa;exact lS (aE (adE (pv 0) (pv 1) rfl)) (vr rfl (vr rfl (jb a C fv rfl ha xf n1 λd hd=>k d hd)))
structure X3(S:Mc)(ns:List Int):Prop where
 len:ns.length<=63
 ac:ns.length=S.ac.length
 ix:∀n∈ns,(0:Int)<=n/\n<(S.ac.length:Nat)
 ao:pI S
 cl:∀a∈S.ac,a.c<S.ck.length
 sm:fh S<800
def RB(t:a9)(C CT PT cU:e_):Sp:=λvs H Q E=>∃m A S x B T r ns,vs=[.ref x,.ref m,.ref r]/\PM t C CT PT H m A S x B T/\T.ac=[]/\X3 S ns/\H r=a_ (.lst (ns.map V.int))/\¬bz x B r/\
 (∀T',jR S ns ns T=.inr T'->∀H',PM t C CT PT H' m A S x B T'->aF (bz x B) H H'->Q .aJ H')/\
 (∀n,jR S ns ns T=.inl n->∀d H' T',PM t C CT PT H' m A S x B T'->aF (bz x B) H H'->H d=b_->H' d=a_ (oS d [("deed",.int n)])->E (.ref cU) (a_ d) H')
theorem Ej:ba ["plain","machine","row","deeds","place","number"] zLB (aT Ka):=bg
theorem ab4(F:aV K "do_deeds" "do_deeds" Ka f fd)(cM:fb K C)(ue:mg "enumerate" = b_)
  (GS:ax P w K mg base aB 1 fS jQ zLe (zX t C CT)) (bS:Binds K jQ zLe []) (mS:Meth K C "deeds" fS)
  (GC:ax P w K mg base aB 8 fC jT zLg (TC t C CT PT)) (kC:W.keepIn K (.ref fC)=c_) (bC:Binds K jT zLg []) (mC:mg "comes_to_deed" = a_ (.ref fC))
  (GA:ax P w K mg base aB 1 fA uh ["self","number"] (SO t C CT)) (bA:Binds K uh ["self","number"] []) (mA:Meth K C "deed_at" fA)
  (GL:ax P w K mg base aB 1 fL vE ["done","told","row"] SJ) (kL:W.keepIn K (.ref fL)=c_) (bL:Binds K vE ["done","told","row"] []) (mL:mg "is_like" = a_ (.ref fL))
  (xU:G9 K cU fI) (GI:ax P w K mg base aB 1 fI iF zLD (FQ cU)) (bI:Binds K iF zLD []) (mU:mg "Unlike" = a_ (.ref cU)) :
  ax P w K mg base (jh P w) 9 f fd zLB (RB t C CT PT cU):=by
 refine F.CP Ej (λvs H Q E h=>?_) λaL A outer s H vs Q E hr hL hp h=>?_
 ·refine kY h λm A S x B aa=>eh aa λT r ns aa _=>?_;subst aa;rfl
 ·refine kY h λm A S x B aa=>?_;obtain⟨T,r,ns,rfl,h,hT,hR,dD,nr,kq,ke⟩:=aa;have cX:=hr.mono (show 1<=8 by decide);have ji:=hr.mono (show 2<=8 by decide);refine let R1:TS:=_;let R2:TS:=_;let R3:TS:=_;let R4:TS:=_;let R5:TS:=_;⟨_,aD (bJ (i:=3) Ej.nd rfl (aP rfl) (ip (pv 1) cM.cl mS GS cX bS .nil aR)) (pR R5 (aE (pB hp rfl (BW (b:=c_) rfl ue (ae (pv 2) ag)) (sZ rfl (jW (de (i:=4) Ej.nd rfl (aP rfl)) (jW (de (i:=5) Ej.nd rfl (aP rfl)) sW))) (pR R4 (aD (b9 (kQ (gF (dr GC hr rfl mC kC bC .nil aR (ae (pv 0) (ae (pv 1) (ae (az bh (az aS (pv 3) (pv 5)) aq) ag)))))) (pR R1 (aE (JJ rfl hL xU GI ji bI rfl mU (ae (pv 5) ag)))) cD) (pR R3 (aE (b9 (kQ (gF (dr GL cX rfl mL kL bL .nil aR (ae (gm (pv 0) cM.cl mA GA cX bA .nil aR (ae (pv 4) ag)) (ae (az aS (pv 3) (pv 5)) (ae (pv 2) ag)))))) (pR R2 (aE (JJ rfl hL xU GI ji bI rfl mU (ae (pv 5) ag)))) cD)))))))),?_⟩
  refine aW (id h.M.obj) λdx fs hm G=>vM rfl hm (G.ms _ dk) (mq m A S rfl h.M λl ws nl ig=>?_)
  have Dh:¬bz x B l:=λz=>by
   refine af (h.N.wK z) λo e _=>?_;rw[nl]at e;cases e
  generalize eU:upd H l (.lst ws)=H0;have s0:ai H (H0):=eU ▸ (aM (ai.refl _) nl);have HS:H0 l=a_ (.lst ws):=eU ▸ aA;have alc:Paired (pW (H0)) ws S.ac:=Paired.cw ig λ_ _ q=>q.keep λb xs e=>s0 _ _ e;clear eU
  let W1:IV:=λi σ H'=>i<=ns.length/\∃pl nm T',σ=[a_ (.ref x),a_ (.ref m),a_ (.ref r),a_ (.ref l),pl,nm]/\PM t C CT PT H' m A S x B T'/\aF (bz x B) H H'/\aF (bz x B) H0 H'/\T'.ac.length=i/\jR S ns (ns.drop i) T'=jR S ns ns T
  refine vr rfl (dS r (ns.map V.int) rfl (aj.of (s0 _ _ dD)) (Fd (n:=ns.length) W1 ⟨cy _,b_,b_,T,rfl,h.same s0,aF.of s0,aF.refl H0,by rw[hT];rfl,by rw[Ja]⟩ ?_ ?_ ?_ ?_))
  ·intro i σ H' hi av;exact oA av λ_ aa=>gw aa λ_ _ _ _ _ aa=>iB aa λ_ k1 _ _=>eG _ _ (aj.of (k1.k _ _ nr (λps z=>by cases z) (s0 _ _ dD))) (aX (by rw[aO];exact hi))
  ·intro σ H' av;exact oA av λ_ aa=>gw aa λ_ _ _ _ _ aa=>iB aa λ_ k1 _ _=>ak _ (aj.of (k1.k _ _ nr (λps z=>by cases z) (s0 _ _ dD))) (by rw[aO];exact aN _)
  ·intro i σ H1 hi av z H2 eW;refine oA av λ_ aa=>gw aa λpl nm T' aa h1 aH=>?_;subst aa;refine iB aH λOJ k1 ha hd=>kZ eW λpr y hpr ez eH lB=>?_;subst ez;subst eH;have CJ:=k1.k _ _ nr (λps z=>by cases z) (s0 _ _ dD);have vw:=lB _ (aj.of CJ);rw[f9,aX hi]at vw;have ey:=(dq vw).symm;subst ey;refine oA (hR.ix _ (uo hi)) λj0 j1=>oE (P7 j0) λj ej=>?_;have hj:j<S.ac.length:=li;have hb:S.ac[j]?=a_ S.ac[j]:=aX hj;have nV:=uo hj;generalize S.ac[j]=b at hb nV;have y8:S.ac[(ns[i]).toNat]?=a_ b:=by rw[ej];exact hb
   rw[Iq hi,Uq y8]at hd;refine aG (nw (o:=.tup [.int (i:Nat),.int ns[i]]) hpr) λH2 e s2 vz=>?_;rw[e];clear e;have h2:=h1.same s2;have kk2:=OJ.trans (aF.of s2);have k2:=k1.trans (aF.of s2);refine pU pr ([.int (i:Nat),.int ns[i]]) rfl (aI.of vz) rfl (eG (.int (i:Nat)) ([.int ns[i]]) rfl (dS (.int ns[i]) ([]) rfl rfl ?_))
   have rs:jR S ns ns T=.inl ns[i]->∀H3 gZ,PM t C CT PT H3 m A S x B gZ->aF (bz x B) H H3->∀D,Tt cU (FQ cU) (λ_=>E) (Fl (ib 5) An) D [a_ (.ref x),a_ (.ref m),a_ (.ref r),a_ (.ref l),a_ (.int (i:Nat)),a_ (.int ns[i])] H3:=λA5 H3 gZ h3 k3 D=>by
    refine vr rfl ⟨(sl (n:=1)),λea ta Pb=>⟨ea,_,.int ns[i],rfl,aA,λd hd=>⟨rfl,a_ d,?_,?_⟩⟩⟩
    ·rw[au (bw aA hd)];exact aA
    ·have Df:d≠ea:=λz=>by rw[z,aA]at hd;cases hd
     have HW:H3 d=none:=by rw[au Df]at hd;exact hd
     have s7:ai H3 (del (upd (upd (upd H3 ea (mZ ea (.ref cU) b_ (yq ta))) ea (mZ ea (.ref cU) (a_ d) (yq ta))) d (oS d [("deed",.int ns[i])])) ea):=λg o e=>by
      have n1:=bw e Pb;have n2:=bw e HW;rw[uO n1,au n2,au n1,au n1];exact e
     exact ke _ A5 d _ gZ (h3.same s7) (k3.trans (aF.of s7)) (k3.t d HW) (by rw[uO Df];exact aA)
   refine af (jU alc hb) λv hv aa=>af aa λpb eb uc=>?_;subst eb;have ng:=k2.k _ _ Dh (λps z=>by cases z) HS;have alx:=(k2.tup λb z=>(h.same s0).N.FP b z) _ _ uc;have hat:jg ws ns[i]=a_ (.ref pb):=by rw[ej];exact cb hv
   refine ak _ rfl (vr rfl (vr rfl (vr rfl (rL (aj.of ng) (hat) (cT (aI.of alx) (cb (j:=1) rfl) (⟨m,A,S,x,B,T',b.c,rfl,h2,hR.sm,(hR.cl b nV),(λH3 h3 k3=>⟨_,rfl,bp (Ti (S:=S) (T:=T') (c:=b.c) (by have:=hR.sm;exact wa) h2.pl) λp3 l3 u3=>?_⟩)⟩))))));have xP:=k2.trans k3;have OI:=kk2.trans k3;cases ea:(iW S b.c T').ac[T'.ac.length]? with
   | none=>
    rw[ea]at hd;have hn:=Ip.mp ea;rw[decide_eq_false (show ¬T'.ac.length<(iW S b.c T').ac.length by lia)];exact je (rs hd.symm H3 _ h3 OI _)
   | some a=>
    rw[ea]at hd;have dJ:=(dX.mp ea).1;rw[decide_eq_true dJ];refine fj ?_;have xt:=bo ea;refine aW (id h3.N.obj) λxY qY ua G3=>?_;have y4:=xP.k _ _ Dh (λps z=>by cases z) HS;have rj:=xP.k _ _ nr (λps z=>by cases z) (s0 _ _ dD);have alw:=(xP.tup λb z=>(h.same s0).N.FP b z) _ _ uc;refine vM rfl ua (G3.ms _ dk) (vr rfl (⟨x,B,(iW S b.c T'),i,a,rfl,h3.N,(by rw[<-ha];exact ea),(λpa AV=>vr rfl (vr rfl (rL (aj.of y4) (hat) (vr rfl (⟨pa,pb,r,a,b,ns,rfl,AV,alw,rj,(λd e=>oA (p3.se.2 a xt d e) λd0 d1=>⟨d0,li⟩),(p3.ao a xt),(hR.ao b nV),(λH4 s4=>⟨_,rfl,?_⟩)⟩)))))⟩));dsimp only at hd;cases Zb:qI ns a b with
    | false=>
     rw[Zb]at hd;exact je (rs hd.symm H4 _ (h3.same s4) (OI.trans (aF.of s4)) _)
    | true=>
     rw[Zb,if_pos rfl]at hd;exact fj ⟨hi,⟨_,_,iW S b.c T',rfl,h3.same s4,OI.trans (aF.of s4),xP.trans (aF.of s4),li,hd⟩⟩
  ·intro σ H' av;refine oA av λ_ aa=>gw aa λpl nm T' aa h1 aH=>?_;subst aa;refine iB aH λOJ k1 ha hd=>?_;rw[Bf (aN _)]at hd;exact kq T' hd.symm H' h1 OJ
end
def cJ(n:Nat):List Int:=(List.range n).map λ(i:Nat)=>(i:Int)
theorem same_ints:∀l m:List Int,same (.list (l.map lI)) (.list (m.map lI))=decide (l=m)
 | [],[]=>by simp[same,sameAll]
 | [],_::_=>by simp[same,sameAll]
 | _::_,[]=>by simp[same,sameAll]
 | a::l,b::m=>by
  have ih:=same_ints l m;simp only[same]at ih;rw[gK,gK];simp only[same,sameAll];rw[ih]
  by_cases h1:a=b
  ·subst h1
   by_cases h2:l=m
   ·subst h2;simp
   ·simp[h2]
  ·simp[h1]
theorem noMix_ints:∀l m:List Int,noMix (.list (l.map lI)) (.list (m.map lI))=true:=by
 intro l m;show BR _ _=c_
 induction l generalizing m with
 | nil=>cases m <;> rfl
 | cons a l ih=>
  cases m with
  | nil=>rfl
  | cons b m=>exact ih m
theorem agG(n:Nat):(cJ n).Pairwise (·<=·):=by
 unfold cJ;rw[DV];exact(aat (n:=n)).imp λh=>li
theorem TQ{n:Nat}(h:zs.Perm ns)(p:zs.Pairwise (·<=·)):decide (zs=cJ n)=c_↔ns.Perm (cJ n):=by
 rw[decide_eq_true_eq];exact⟨λe=>by rw[<-e];exact h.symm,λe=>yh.eq_of_pairwise (λa b _ _ h1 h2=>Int.le_antisymm h1 h2) p (agG n) (h.trans e)⟩
theorem ab6:(["number"]:List Str).Nodup:=dk
section
variable{t:a9}
def UU:Sp:=λvs H Q _=>∃(r:e_) (ns:List Int) (n:Nat),vs=[.ref r,.int (n:Nat)]/\H r=a_ (.lst (ns.map V.int))/\ns.length<64/\n<=1000/\∀b H',ai H H'->(b=c_↔ns.Perm (cJ n))->Q (.bl b) H'
theorem agA:ba ["row","many"] ["row","many"] (aT My):=bg
theorem afD(F:aV K "has_each_once" "has_each_once" My f fd)(T:tm K mg t)(Dt:mg "sorted" = b_)(jI:mg "list" = b_)(dQ:mg "range" = b_):ax P w K mg base aB 2 f fd ["row","many"] UU:=by
 have GW:ax P w K mg base aB 1 t.fW t.qb zLF EK:=Kh T.CQ T.bl;refine F.ok agA (λvs H Q E h=>?_) λaL A _ s H vs Q E hr h=>?_
 ·refine eh h λr ns n aa _=>?_;clear h;subst aa;rfl
 ·obtain⟨r,ns,n,aa,dD,Pr,hn,q⟩:=h;subst aa;have B:=T.bl;have hu:=hr.units
  refine⟨_,aE (a8 (wD (cg (BO rfl) rfl B.all ED (ae (jX (N:=["number"]) (idx:=[]) rfl (eT.of (by kernel_rfl)) (jV (cy _)) (rQ (pv 0)) (λ_ _ _ _=>de (i:=0) ab6 rfl (aP rfl) (.inr rfl)) (λ_ _ _ _=>jK) λ_ _ _ _=>dr GW hr rfl T.mW T.CQ.kp T.bW .nil aR (ae (pv 0) ag)) ag))
   (wC (qG (Cb hu) (cg QM rfl Dt Jn (ae (pv 0) ag)) (Kf rfl rfl jI rfl dQ (ae (pv 1) ag)) (bf _))))),?_⟩
  refine ak _ rfl (du r rfl ⟨_,aj.of dD⟩ (jn (n:=ns.length) (λi ys H'=>i<=ns.length/\H'=H/\ys=(ns.take i).map λ_=>V.bl c_) (dw (dZ w5)) (eM (cy _) rfl rfl) ?_ ?_ ?_ ?_ ?_))
  ·intro i ys H' av;refine bp av λ_ _ e=>?_;rw[e,aO,i8];exact xl
  ·intro i ys H' hi av;refine bp av λ_ aa _=>?_;clear av;subst aa;exact eG _ _ (aj.of dD) (aX (by rw[aO];exact hi))
  ·intro ys H' av;refine bp av λ_ aa _=>?_;clear av;subst aa;exact ak _ (aj.of dD) (by rw[aO];exact aN _)
  ·intro i ys H' hi av z i0 eW;refine bp av λ_ aa e=>?_;clear av;subst aa;refine oA eW λeH dG=>?_;subst eH;have hz:=dG _ (aj.of dD);rw[f9,aX hi]at hz;have ez:=(dq hz).symm;subst ez;dsimp only[j',jd];rw[if_pos rfl];refine vr rfl (⟨_,("int"),rfl,rfl,hi,rfl,?_⟩);rw[qw,aX hi,gg,<-e];rfl
  ·intro ys H' av;refine bp av λ_ aa e=>?_;clear av;subst aa;refine⟨?_,λl hl=>?_⟩
   ·rw[e,aO,i8];have:=dZ (n:=ns.length) w5;lia
   have ey:ys=(ns.map λ_=>c_).map V.bl:=by
    rw[e,lE (aN _),sQ];rfl
   refine dS l (ns.map λ_=>c_) rfl (aj.of (by rw[aA,ey])) ?_;rw[zH,show ns.all (id ∘ λ_=>c_)=c_ from DY.mpr λ_ _=>rfl];have s1:ai H' (upd H' l (.lst ys)):=aM (ai.refl _) hl;generalize upd H' l (.lst ys)=H1 at s1 ⊢;refine ak _ rfl (je (vr rfl (pU r ns rfl (aj.of (s1 _ _ dD)) Pr λl2 zs xJ hp hs=>aG (nw (o:=.lst (zs.map V.int)) xJ) λH2 e s2 h2=>?_)));rw[e];clear e;refine vr rfl (du n rfl hn λl3 t8=>?_)
   have er:((List.range n).map λ(i:Nat)=>V.int (i:Nat))=(cJ n).map V.int:=by
    unfold cJ;rw[sQ];rfl
   rw[er];refine aG (nw (o:=.lst ((cJ n).map V.int)) t8) λH3 e s3 h3=>?_;rw[e];clear e;refine⟨_,_,(pQ (s3 _ _ h2)),(pQ h3),(yd _),(yd _),(noMix_ints _ _),?_⟩;rw[if_neg dY,same_ints];exact q _ H3 (s1.trans (s2.trans s3)) (TQ hp hs)
end
structure CS(S:Mc):Prop where
 good:wX S.ps
 len:S.ck.length=S.ps.length
 four:S.ck.length<=4
 ao:pI S
 cl:∀a∈S.ac,a.c<S.ck.length
 sm:fh S<800
 tU:S.ac.length<=63
theorem T6(kd:Str)(ps:List Pt):fh (iX kd ps)=0:=by
 show ((ps.map λ_=>(⟨0,0,[0,0,0,0],0,[]⟩:Ck)).map λk=>k.ct).sum=0
 induction ps with
 | nil=>rfl
 | cons p ps ih=>simpa using ih
theorem T7(h:CS S):q9 S (iX "none" S.ps):=by
 have w:=U7 (kd:="none") h.good;refine⟨rfl,rfl,?_,λk hk=>ad0 "none" S.ps rfl k hk,?_,λc j k e _=>?_,U8 _ _,⟨λo ho d hd=>?_,λa ha=>by cases ha⟩⟩
 ·rw[h.len];exact w.wf.len
 ·rw[T6];exact w
 ·have hm:=bo e
  have:j.ct=0:=by
   unfold iX at hm;refine af (pk.mp hm) λp _ z=>?_;subst z;rfl
  lia
 ·have:=w.ov o ho;rw[List.eq_nil_of_length_eq_zero (Nat.le_zero.mp this)]at hd;cases hd
section
variable{t:a9}{C CT PT jr:e_}
def SE(t:a9)(C CT PT cU:e_):Sp:=λvs H Q E=>∃(m:e_) (A:MA) (S:Mc) (r:e_) (ns:List Int),vs=[.ref m,.ref r]/\aY t C CT H m A S/\CS S/\cq PT LP LQ H/\H r=a_ (.lst (ns.map V.int))/\ns.length<=63/\
 (¬ns.Perm (cJ S.ac.length)->∀d H',aF eN H H'->cq PT LP LQ H'->H' d=a_ (oS d [("deed",.aJ)])->E (.ref cU) (a_ d) H')/\
 (ns.Perm (cJ S.ac.length)->∀n,jR S ns ns (iX "none" S.ps)=.inl n->∀d H',aF eN H H'->cq PT LP LQ H'->H' d=a_ (oS d [("deed",.int n)])->E (.ref cU) (a_ d) H')/\
 (ns.Perm (cJ S.ac.length)->∀T,jR S ns ns (iX "none" S.ps)=.inr T->∀H' x B,PM t C CT PT H' m A S x B (qF S S.ck.length T)->aF eN H H'->(∀b,bz x B b->H b=b_)->Q (.ref x) H')
theorem SS:ba ["machine","row","plain"] ["machine","row"] (aT KQ):=bg
theorem acJ{f fE fN fI fM fD fR cU:e_}(F:aV K "replay" "replay" KQ f fd)(cM:fb K C)
  (GE:ax P w K mg base aB 2 fE DJ ["row","many"] UU) (kE:W.keepIn K (.ref fE)=c_) (bE:Binds K DJ ["row","many"] []) (mE:mg "has_each_once" = a_ (.ref fE))
  (GN:ax P w K mg base aB 1 fN za zLe (EW t C CT)) (bN:Binds K za zLe []) (mN:Meth K C "deeds_done" fN)
  (xU:G9 K cU fI) (GI:ax P w K mg base aB 1 fI iF zLD (FQ cU)) (bI:Binds K iF zLD []) (mU:mg "Unlike" = a_ (.ref cU))
  (mk:Mk K C fM) (GM:ax P w K mg base aB 7 fM dI zLr (Kz t C CT)) (M9:mg "Machine" = a_ (.ref C)) (b3:Binds K dI zLr [])
  (GD:ax P w K mg base (jh P w) 9 fD md zLB (RB t C CT PT cU)) (kD:W.keepIn K (.ref fD)=c_) (bD:Binds K md zLB []) (mD:mg "do_deeds" = a_ (.ref fD))
  (GR:ax P w K mg base aB 8 fR DH ["plain","machine"] (UL t C CT PT)) (kR:W.keepIn K (.ref fR)=c_) (bR:Binds K DH ["plain","machine"] []) (mR:mg "do_rest" = a_ (.ref fR)) :
  ax P w K mg base (jh P w) 10 f fd ["machine","row"] (SE t C CT PT cU):=by
 refine F.CP SS (λvs H Q E h=>?_) λaL A outer s H vs Q E hr hL hp h=>?_
 ·refine rS h λm A S r ns aa _=>?_;subst aa;rfl
 ·refine lG h λm A S r ns aa M hS lam dD aH=>?_;subst aa;refine iB aH λDF k1 k2 k3=>?_;have cX:=hr.mono (show 1<=9 by decide);have ji:=hr.mono (show 2<=9 by decide);have HP:=hr.mono (show 8<=9 by decide);refine let R1:TS:=_;let R2:TS:=_;let R3:TS:=_;let R4:TS:=_;⟨_,aD (b9 (kQ (gF (dr GE ji rfl mE kE bE .nil aR (ae (pv 1) (ae (ip (pv 0) cM.cl mN GN cX bN .nil aR) ag))))) (pR R1 (aE (JJ rfl hL xU GI ji bI rfl mU (ae lM ag)))) cD) (pR R4 (aD (bJ (i:=2) SS.nd rfl (aP rfl) (sX mk GM HP rfl M9 b3 .nil aR (ae (bu (pv 0) rfl) (ae cZ ag)))) (pR R3 (aD (dg (SX GD hr hL rfl mD kD bD .nil (ae (pv 2) (ae (pv 0) (ae (pv 1) ag))))) (pR R2 (aD (dg (dr GR HP rfl mR kR bR .nil aR (ae (pv 2) (ae (pv 0) ag)))) (aE (a8 (pv 2))))))))),?_⟩
  refine aW (id M.obj) λdx fs hm G=>ak _ rfl (vM rfl hm (G.ms _ dk) (mq m A S rfl M (jb r ns S.ac.length rfl dD wb (by have:=hS.tU;exact w4) λb H1 s1 hb=>⟨_,rfl,?_⟩)));cases b with
  | false=>
   have AX:¬ns.Perm (cJ S.ac.length):=λz=>dY (hb.mpr z);refine je ⟨(sl (n:=1)),λea ta Pb=>⟨ea,_,.aJ,rfl,aA,λd hd=>⟨rfl,a_ d,?_,?_⟩⟩⟩
   ·rw[au (bw aA hd)];exact aA
   ·have Df:d≠ea:=λz=>by rw[z,aA]at hd;cases hd
    have HW:H1 d=none:=by rw[au Df]at hd;exact hd
    have s7:ai H1 (del (upd (upd (upd H1 ea (mZ ea (.ref cU) b_ (yq ta))) ea (mZ ea (.ref cU) (a_ d) (yq ta))) d (oS d [("deed",.aJ)])) ea):=λg o e=>by
     have n1:=bw e Pb;have n2:=bw e HW;rw[uO n1,au n2,au n1,au n1];exact e
    have s8:=s1.trans s7;exact k1 AX d _ (aF.of s8) (gj lam s8) (by rw[uO Df];exact aA)
  | true=>
  have m9:=hb.mp rfl;refine fj ?_;have M1:=M.same s1;have kg:=gj lam s1;refine vF rfl (s1 _ _ hm) cM.cl cM.program G.program λx ph nx iG ne=>?_;have sb:ai H1 (upd (upd H1 ph (.own x)) x (.ins C ph [])):=aM (aM (ai.refl _) iG) (by rw[au ne.symm];exact nx);have hxb:upd (upd H1 ph (.own x)) x (.ins C ph []) x=a_ (.ins C ph []):=aA;refine qA x ph (.ref A.pg) S.ps "none" rfl hxb (M1.same sb).pg hS.good (.inr (.inr rfl)) λH2 B lab N L ev kk fr=>⟨rfl,?_⟩;have S12:ai H1 H2:=λb o e=>kk.k b o (bw e nx) (sb _ _ e);have DP:=s1.trans S12
  have Ia:∀b,bz x B b->H b=none:=λb hb=>by
   rcases fr b hb with z | z
   ·rw[z];exact s1.free nx
   ·exact s1.free (sb.free z)
  have dj:∀b,bz m A b->¬bz x B b:=λb h1 h2=>by
   refine af (M.wK h1) λo e _=>?_;rw[Ia b h2]at e;cases e
  have h2:PM t C CT PT H2 m A S x B (iX "none" S.ps):=⟨M.same DP,N,⟨lab,L⟩,dj,T7 hS,gj lam DP,hS.len⟩;have kf:∀H3,aF (bz x B) H2 H3->aF eN H H3:=λH3 kx=>⟨λb o _ h2 e=>kx.k b o (λz=>by rw[Ia b z]at e;cases e) h2 (DP b o e),λb e=>DP.free (kx.t b e)⟩;have hlen:ns.length=S.ac.length:=by rw[m9.length_eq];unfold cJ;rw[aO,rD]
  have hD:X3 S ns:=⟨DF,hlen,λn hn=>by
   have:=m9.mem_iff.mp hn;unfold cJ at this;refine af (pk.mp this) λi hi z=>?_;have:=sO.mp hi;lia,hS.ao,hS.cl,hS.sm⟩
  exact ak _ rfl (vr rfl (vr rfl (⟨m,A,S,x,B,(iX "none" S.ps),r,ns,rfl,h2,rfl,hD,(DP _ _ dD),(λz=>by rw[Ia r z]at dD;cases dD),⟨λT e H3 h3 kx=>ak _ rfl (vr rfl (⟨m,A,S,x,B,T,rfl,h3,hS.sm,hS.four,(λH4 h4 ky=>vr rfl (k3 m9 T e H4 x B h4 (kf H4 (kx.trans ky)) Ia))⟩)),(λn e d H3 T' h3 kx nd hd=>k2 m9 n e d H3 (kf H3 kx) h3.lam hd)⟩⟩)))
end
structure SD(H:Hp)(s:e_)(B:SA)(S T:Mc)(v:V):Prop where
 st:dh H s B T
 L:∃lab,oN lab s B
 pl:q9 S T
 P:mw H v S.ps
 wf:S.ck.length=S.ps.length
 sm:fh S<800
section
variable{H H':Hp}{s:e_}{B:SA}{S T:Mc}{v:V}
theorem FS.akl(k:FS s B H H'):∀b xs,H b=a_ (.tup xs)->H' b=a_ (.tup xs):=λ_ _ e=>k.tup e
theorem SD.same(h:SD H s B S T v)(k:ai H H'):SD H' s B S T v:=⟨h.st.same k,h.L,h.pl,h.P.keep λb xs e=>k _ _ e,h.wf,h.sm⟩
theorem SD.step{c:Nat}(h:SD H s B S T v)(s1:FJ S T c)(M:dh H' s B (eR T c))(k:FS s B H H'):SD H' s B S (eR T c) v:=⟨M,h.L,s1.pl,h.P.keep k.akl,h.wf,h.sm⟩
theorem SD.at{c:Nat}(h:SD H s B S T v)(hc:c<S.ck.length):∃j k p,T.ck[c]?=a_ j/\S.ck[c]?=a_ k/\T.ps[c]?=a_ p/\S.ps[c]?=a_ p/\p.length<=1000/\j.pl<=p.length:=by
 have h1:c<T.ck.length:=by rw[h.pl.len];exact hc
 have h2:c<S.ps.length:=by rw[<-h.wf];exact hc
 have h3:T.ps[c]?=a_ S.ps[c]:=by rw[h.pl.ps];exact aX h2
 have g:=h.pl.W.wf.good;rw[h.pl.ps]at g;exact⟨_,_,_,aX h1,aX hc,h3,aX h2,cC (g.part _ (uo h2)).1 qc,h.pl.W.wf.pl c _ _ (aX h1) h3⟩
end
theorem Wa(h:j.pl<=p.length):tS j k p=(decide (j.ct<k.ct)&&decide (j.pl<p.length)):=by
 unfold tS
 congr 1
 by_cases z:j.pl=p.length
 ·rw[decide_eq_true z,decide_eq_false li];rfl
 ·rw[decide_eq_false z,decide_eq_true li];rfl
def UP:Sp:=λvs H Q _=>∃(s:e_) (B:SA) (S T:Mc) (v:V) (c:Nat) (k:Ck),vs=[.ref s,v,.int (c:Nat),.int (k.ct:Nat)]/\SD H s B S T v/\S.ck[c]?=a_ k/\
 ∀H',SD H' s B S (iW S c T) v->FS s B H H'->Q (.bl (decide (T.ac.length<(iW S c T).ac.length))) H'
def VV(H:Hp)(s:e_)(B:SA)(S T:Mc)(v:V)(c:Nat)(k:Ck):Nat->L2.St->Hp->Prop:=λμ σ H2=>∃T',σ=[a_ (.ref s),a_ v,a_ (.int (c:Nat)),a_ (.int (k.ct:Nat)),a_ (.int (T.ac.length:Nat))]/\SD H2 s B S T' v/\FS s B H H2/\T'.ac.length=T.ac.length/\Fuel S T' c μ/\oH (lz S c T.ac.length) c μ T'=iW S c T
theorem UZ:ba ["_law_stand","_law_program_here","_law_clerk","_law_most","_law_known"] zLi (aT Mt):=bg
theorem afy(F:aV K "_law_next" "_law_next" Mt f fd)(dE:mg "len" = b_)
  (GD:ax P w K mg base aB 4 fD md zLd Lp) (kD:W.keepIn K (.ref fD)=c_) (bD:Binds K md zLd []) (mD:mg "_law_does" = a_ (.ref fD)) :
  ax P w K mg base aB 5 f fd zLi UP:=by
 refine F.ok UZ (λvs H Q E h=>?_) λaL A _ s H vs Q E hr h=>?_
 ·obtain⟨s,B,S,T,v,c,k,aa,_⟩:=h;subst aa;rfl
 ·obtain⟨s,B,S,T,v,c,k,rfl,h,hk,q⟩:=h;have hc:c<S.ck.length:=(dX.mp hk).1;refine let R1:TS:=_;let R2:TS:=_;let R3:TS:=_;⟨_,aD (bJ (i:=4) UZ.nd rfl (aP rfl) (cg fg rfl dE PySem.boot_len (ae (az aS (pv 0) aq) ag))) (pR R3 (aD (BJ mf (PW.pt (pw_and (br rY (az aS (az aS (az aS (pv 0) aq) (pv 2)) aq) (pv 3) (bf _)) (pw_and1 (br rY (az aS (az aS (az aS (pv 0) aq) (pv 2)) aq) (cg fg rfl dE PySem.boot_len (ae (az bh (pv 1) (pv 2)) ag)) (bf _))))) (pR R2 (aD (dg (dr GD hr rfl mD kD bD .nil aR (ae (pv 0) (ae (pv 1) (ae cZ (ae (pv 2) ag)))))) (pR R1 (aE (b9 (br yt (cg fg rfl dE PySem.boot_len (ae (az aS (pv 0) aq) ag)) (pv 4) (bf _)) (aE (a8 nD)) cD)))))) (aE (a8 nD)))),?_⟩
  refine af (id h.st.ac) λws hw ig=>vL rfl (aj.of h.st.st) (cb (j:=2) rfl) (dS B.ac ws rfl (.inl (aj.of hw)) ?_);rw[Paired.length ig];refine ak (VV H s B S T v c k) ⟨_,T,rfl,h,FS.of (ai.refl H),rfl,En S T c,rfl⟩ ?_;intro μ σ H2 av;obtain⟨T',rfl,h2,k2,ha,hf,jO⟩:=av;refine gw (h2.at hc) λj k' p e1 e2 aa=>iB aa λe3 e4 hl hle=>?_;have ek:k'=k:=by rw[hk]at e2;exact(dq e2).symm
  subst ek;have go:=Ae e1 e2 e3;rw[Wa hle]at go
  have fin:jF S T' c=d_->Q (.bl d_) H2:=λe=>by
   rw[z9 (show lz S c T.ac.length T'=d_ by unfold lz;rw[e,Bp])]at jO;subst jO;have:=q H2 h2 k2;rw[decide_eq_false li]at this;exact this
  refine cI (id h2.P) λpg eC aa gX pd=>?_;subst aa;refine af (jU pd e4) λv1 Ds aa=>cI aa λpb us aa uc oZ=>?_;subst aa;refine af (h2.st.qL e1) λy hy D=>vL rfl (aj.of h2.st.st) (cb (j:=0) rfl) (vr rfl (rL (aj.of h2.st.cl) (dA hy) (cL (aj.of D.st) (cb (j:=1) rfl) (vr rfl ⟨_,⟨_,rfl,rfl,_,rfl,bq (λdJ=>?_) λdJ=>?_⟩⟩))))
  ·refine⟨_,rfl,_,_,_,_,rfl,rfl,aj.of h2.st.st,cb (j:=0) rfl,_,rfl,_,_,_,_,rfl,rfl,aj.of h2.st.cl,dA hy,_,_,_,_,rfl,rfl,aj.of D.st,cb (j:=0) rfl,_,rfl,_,rfl,_,_,_,_,rfl,rfl,aI.of gX,cb Ds,pb,us,rfl,.inr (aI.of uc),?_⟩;rw[Paired.length oZ];refine⟨_,⟨_,rfl,rfl,_,rfl,bq (λng=>?_) λng=>?_⟩⟩
   ·have hg:jF S T' c=true:=by rw[go,decide_eq_true li,decide_eq_true om];rfl
    have s1:=h2.pl.step (by have:=h.sm;exact wa) hg;refine af (Em hf s1 hg) λg eg vC=>?_;subst eg;rw[BV (show lz S c T.ac.length T'=c_ by unfold lz;rw[decide_eq_true ha,hg];rfl)]at jO;refine⟨λσ' H'=>∃μ',μ'<g+1/\VV H s B S T (.ref pg) c k' μ' σ' H',λσ' H' z=>z,oE h2.L λlab L=>T5 s1.st λj2 p2 st sz d1 d2 aa=>bp aa λd3 d4 d5=>vr rfl (vr rfl (vr rfl ⟨s,⟨B,T',c,j2,.ref pg,p2,st,sz,lab,fh T',by rw[h2.pl.kd];rfl,h2.st,L,h2.pl.W,sI h2.pl.sum h.sm,d1,by rw[h2.pl.ps];exact h2.P,d2,d3,d4,λ_=>d5,λ_=>d5,λH3 M3 f3=>?_⟩⟩))⟩;have h3:=h2.step s1 M3 f3;refine af (id M3.ac) λqh nM NQ=>vL rfl (aj.of M3.st) (cb (j:=2) rfl) (dS B.ac qh rfl (.inl (aj.of nM)) ?_);rw[Paired.length NQ];refine vr rfl ⟨_,⟨_,rfl,rfl,_,rfl,bq (λy6=>?_) λy6=>?_⟩⟩
    ·rw[z9 (show lz S c T.ac.length (eR T' c)=d_ by unfold lz;rw[decide_eq_false li,rH])]at jO;rw[jO]at h3 y6;have:=q H3 h3 (k2.trans f3);rw[decide_eq_true li]at this;exact this
    ·have:=s1.a1;exact ak g (vP g) (jY (eR T' c) rfl h3 (k2.trans f3) li vC jO)
   ·exact fin (by rw[go,decide_eq_false (show ¬j.pl<p.length by lia),Bp])
  ·exact fin (by rw[go,decide_eq_false li,rH])
structure DU(t:a9)(C CT PT:e_)(H0 H:Hp)(m:e_)(A:MA)(S:Mc)(s:e_)(B:SA)(T:Mc)(v:V):Prop where
 M:aY t C CT H m A S
 D:SD H s B S T v
 lam:cq PT LP LQ H
 k:aF eN H0 H
 fs:∀b,lZ s B b->H0 b=b_
 dj:∀b,lZ s B b->¬bz m A b
section
variable{t:a9}{C CT PT:e_}{H0 H H':Hp}{m s:e_}{A:MA}{B:SA}{S T T':Mc}{v:V}
theorem DU.same(h:DU t C CT PT H0 H m A S s B T v)(k:ai H H'):DU t C CT PT H0 H' m A S s B T v:=⟨h.M.same k,h.D.same k,gj h.lam k,h.k.trans (aF.of k),h.fs,h.dj⟩
theorem DU.go(h:DU t C CT PT H0 H m A S s B T v)(D:SD H' s B S T' v)(f:FS s B H H'):DU t C CT PT H0 H' m A S s B T' v:=by
 refine⟨h.M.Ak f.p λb z=>⟨h.dj b z,λo e=>?_⟩,D,f.l.lam h.lam,⟨λb o z hn e=>f.p.k b o (λy=>?_) hn (h.k.k b o z hn e),λb e=>h.k.t b (f.p.t b e)⟩,h.fs,h.dj⟩
 ·refine oE (h.D.st.lists z) λxs q=>?_;rw[q]at e;cases e;exact⟨_,rfl⟩
 ·rw[h.fs b y]at e;cases e
end
section
variable{t:a9}{C CT PT:e_}
def VN(t:a9)(C CT PT:e_):Sp:=λvs H Q _=>∃(m:e_) (A:MA) (S:Mc) (v:V) (r:e_) (ns:List Int),vs=[.ref m,v,.ref r]/\aY t C CT H m A S/\CS S/\mw H v S.ps/\cq PT LP LQ H/\H r=a_ (.lst (ns.map V.int))/\ns.length<=63/\
 (¬ns.Perm (cJ S.ac.length)->∀H' l,aF eN H H'->cq PT LP LQ H'->H l=b_->H' l=a_ (.lst [.aJ])->Q (.ref l) H')/\
 (ns.Perm (cJ S.ac.length)->∀n,jR S ns ns (iX "none" S.ps)=.inl n->∀H' l,aF eN H H'->cq PT LP LQ H'->H l=b_->H' l=a_ (.lst [.int n])->Q (.ref l) H')/\
 (ns.Perm (cJ S.ac.length)->∀T,jR S ns ns (iX "none" S.ps)=.inr T->∀H' s B,SD H' s B S (qF S S.ck.length T) v->aF eN H H'->cq PT LP LQ H'->(∀b,lZ s B b->H b=b_)->Q (.ref s) H')
theorem tx:ba ["_law_machine","_law_program_here","_law_row","_law_deeds","_law_stand","_law_number","_law_clerk","_law_told","_law_seen_here","_law_most"] zLc (aT Nv):=bg
theorem agY{f fS fN fX fC fD:e_}(F:aV K "_law_due" "_law_due" Nv f fd)(cM:fb K C)(dE:mg "len" = b_)(dQ:mg "range" = b_)(Dt:mg "sorted" = b_)(jI:mg "list" = b_)
  (GS:ax P w K mg base aB 1 fS jQ zLe (zX t C CT)) (bS:Binds K jQ zLe []) (mS:Meth K C "deeds" fS)
  (GN:ax P w K mg base aB 1 fN za ["_law_program_here"] VJ) (kN:W.keepIn K (.ref fN)=c_) (bN:Binds K za ["_law_program_here"] []) (mN:mg "_law_new" = a_ (.ref fN))
  (GX:ax P w K mg base aB 5 fX fdX zLi UP) (kX:W.keepIn K (.ref fX)=c_) (bX:Binds K fdX zLi []) (mX:mg "_law_next" = a_ (.ref fX))
  (GC:ax P w K mg base aB 1 fC jT zLa (zW t C CT Ck.ct)) (bC:Binds K jT zLa []) (mC:Meth K C "steps_done" fC)
  (GD:ax P w K mg base aB 4 fD md zLd Lp) (kD:W.keepIn K (.ref fD)=c_) (bD:Binds K md zLd []) (mD:mg "_law_does" = a_ (.ref fD)) :
  ax P w K mg base aB 6 f fd zLc (VN t C CT PT):=by
 refine F.ok tx (λvs H Q E h=>?_) λaL A _ s H vs Q E hr h=>?_
 ·refine lK h λm A S v r ns aa _=>?_;subst aa;rfl
 ·refine nZ h λm A S v r ns aa M hS hP aH=>?_;subst aa;refine iO aH λlam dD DF k1 k2 k3=>?_;have hu:=hr.units;have cX:=hr.mono (show 1<=5 by decide);have nQ:=hr.mono (show 4<=5 by decide);refine let R1:TS:=_;let R2:TS:=_;let R3:TS:=_;let R4:TS:=_;let R5:TS:=_;let R6:TS:=_;let R7:TS:=_;let R8:TS:=_;let R9:TS:=_;let ij:TS:=_;let qt:TS:=_;let zk:TS:=_;let zh:TS:=_;let PQ:TS:=_;let R15:TS:=_;let R16:TS:=_;let R17:TS:=_;⟨_,aD (bJ (i:=3) tx.nd rfl (aP rfl) (ip (pv 0) cM.cl mS GS cX bS .nil aR)) (pR R17 (aD (b9 (br (uK hu) (cg QM rfl Dt Jn (ae (pv 2) ag)) (Kf rfl rfl jI rfl dQ (ae (cg fg rfl dE PySem.boot_len (ae (pv 3) ag)) ag)) (bf _)) (pR R1 (aE (a8 (dN (ae lM ag))))) cD) (pR R16 (aD (bJ (i:=4) tx.nd rfl (aP rfl) (dr GN cX rfl mN kN bN .nil aR (ae (pv 1) ag))) (pR R15 (aD (pB mf rfl (rQ (pv 2)) (de (i:=5) tx.nd rfl (aP rfl)) (pR ij (aD (bJ (i:=6) tx.nd rfl (aP rfl) (az bh (az aS (pv 3) (pv 5)) aq)) (pR R9 (aD (b9 (kQ (gF (dr GX hr rfl mX kX bX .nil aR (ae (pv 4) (ae (pv 1) (ae (pv 6) (ae (gm (pv 0) cM.cl mC GC cX bC .nil aR (ae (pv 6) ag)) ag))))))) (pR R2 (aE (a8 (dN (ae (pv 5) ag))))) cD) (pR R8 (aD (bJ (i:=7) tx.nd rfl (aP rfl) (az aS (az aS (pv 4) aq) (Ci B3 aq))) (pR R7 (aD (bJ (i:=8) tx.nd rfl (aP rfl) (az bh (pv 7) aq)) (pR R6 (aD (b9 (br afm (pv 8) lM (bf _)) (pR R3 (aE (bJ (i:=8) tx.nd rfl (aP rfl) (az aS (pv 2) (pv 8))))) cD) (pR R5 (aE (b9 (PW.pt (pw_or (br (uK hu) (og (Ai K) (pv 7) oq (oo aq)) (og (Ai K) (az aS (pv 3) (pv 5)) oq (oo aq)) (bf _)) (pw_or1 (br Fu (pv 8) (az bh (az aS (pv 3) (pv 5)) aq) (bf _))))) (pR R4 (aE (a8 (dN (ae (pv 5) ag))))) cD)))))))))))))) (pR PQ (aD (pB mf rfl (sU rfl dQ (ae (cg fg rfl dE PySem.boot_len (ae (pv 1) ag)) ag)) (de (i:=6) tx.nd rfl (aP rfl)) (pR zh (aD (bJ (i:=9) tx.nd rfl (aP rfl) (gm (pv 0) cM.cl mC GC cX bC .nil aR (ae (pv 6) ag))) (pR zk (aE (BJ mf (PW.pt (pw_and (br rY (az aS (az aS (az aS (pv 4) aq) (pv 6)) aq) (pv 9) (bf _)) (pw_and1 (br rY (az aS (az aS (az aS (pv 4) aq) (pv 6)) aq) (cg fg rfl dE PySem.boot_len (ae (az bh (pv 1) (pv 6)) ag)) (bf _))))) (pR qt (aE (dg (dr GD nQ rfl mD kD bD .nil aR (ae (pv 4) (ae (pv 1) (ae cZ (ae (pv 6) ag)))))))))))))) (aE (a8 (pv 4))))))))))),?_⟩
  refine aW (id M.obj) λdx fs hm G=>vM rfl hm (G.ms _ dk) (mq m A S rfl M λl ws nl ig=>?_);generalize eU:upd H l (.lst ws)=H1;have s1:ai H (H1):=eU ▸ (aM (ai.refl _) nl);have rm:H1 l=a_ (.lst ws):=eU ▸ aA;have Gd:Paired (pW (H1)) ws S.ac:=Paired.cw ig λ_ _ q=>q.keep λb xs e=>s1 _ _ e;clear eU;refine vr rfl (pU r ns rfl (aj.of (s1 _ _ dD)) wb λl2 zs xJ hp hs=>aG (nw (o:=.lst (zs.map V.int)) xJ) λH2 e s2 h2=>?_);rw[e];clear e;refine vr rfl (dS l ws rfl (.inl (aj.of (s2 _ _ rm))) ?_);rw[Paired.length Gd];refine du S.ac.length rfl (by have:=hS.tU;exact w4) λl3 t8=>?_
  have er:((List.range S.ac.length).map λ(i:Nat)=>V.int (i:Nat))=(cJ S.ac.length).map V.int:=by
   unfold cJ;rw[sQ];rfl
  rw[er];refine aG (nw (o:=.lst ((cJ S.ac.length).map V.int)) t8) λH3 e s3 h3=>?_;rw[e];clear e;have nK:=s2.trans s3;have Ov:=s1.trans nK;refine⟨_,_,(pQ (s3 _ _ h2)),(pQ h3),(yd _),(yd _),(noMix_ints _ _),(ak _ rfl ?_)⟩;rw[if_pos rfl,same_ints];have Xg:=TQ (n:=S.ac.length) hp hs;refine wL (λlC=>?_) λheq=>?_
  ·refine⟨(sl (n:=1)),λl4 Yx=>?_⟩;have s4:ai H3 (upd H3 l4 (.lst [.aJ])):=aM (ai.refl _) Yx;have s5:=Ov.trans s4;exact k1 (λz=>lC (of_decide_eq_true (Xg.mpr z))) _ l4 (aF.of s5) (gj lam s5) (Ov.free Yx) aA
  have m9:=Xg.mp (decide_eq_true heq);have hlen:ns.length=S.ac.length:=by rw[m9.length_eq];unfold cJ;rw[aO,rD]
  refine vr rfl (⟨v,S.ps,("none"),rfl,(hP.keep λb xs e=>Ov _ _ e),(by rw[<-hS.len];exact hS.four),(λH4 sa B lab N L s4 fr=>?_)⟩);have xI:=nK.trans s4;have jP:=λb z=>nK.free (fr b z)
  have h4:DU t C CT PT H1 H4 m A S sa B (iX "none" S.ps) v:=⟨M.same (s1.trans xI),⟨N,⟨lab,L⟩,T7 hS,hP.keep λb xs e=>(s1.trans xI) _ _ e,hS.len,hS.sm⟩,gj lam (s1.trans xI),aF.of xI,jP,λb h1 h2=>by
   refine af (M.wK h2) λo e _=>?_;rw[s1.free (jP b h1)]at e;cases e⟩
  have CJ:∀{H5 T'},DU t C CT PT H1 H5 m A S sa B T' v->H5 r=a_ (.lst (ns.map V.int)):=λh=>h.k.k _ _ (λz=>z) (λps z=>by cases z) (s1 _ _ dD);have HV:∀{H5 T'},DU t C CT PT H1 H5 m A S sa B T' v->H5 l=a_ (.lst ws):=λh=>h.k.k _ _ (λz=>z) (λps z=>by cases z) rm
  let W1:IV:=λi σ H'=>∃nm cl td se ms T',σ=[a_ (.ref m),a_ v,a_ (.ref r),a_ (.ref l),a_ (.ref sa),nm,cl,td,se,ms]/\DU t C CT PT H1 H' m A S sa B T' v/\T'.ac.length=i/\jR S ns (ns.drop i) T'=jR S ns ns (iX "none" S.ps)
  refine ak _ rfl (du r rfl ⟨_,aj.of (CJ h4)⟩ (Kl (xs:=ns.map V.int) W1 ⟨b_,b_,b_,b_,b_,_,rfl,h4,rfl,rfl⟩ ?_ ?_ ?_))
  ·intro i σ H' hi av;exact kY av λ_ _ _ _ _ aa=>cR aa λT' _ h5 _ _=>aj.of (CJ h5)
  ·intro i y σ H5 hy av;refine kY av λnm cl td se ms aa=>cR aa λT' aa h5 ha hd=>?_;subst aa;rw[f9]at hy;cases qm:ns[i]? with
   | none=>rw[qm]at hy;cases hy
   | some n=>
   rw[qm]at hy;cases hy;have hi:=(dX.mp qm).1;have xt:=m9.mem_iff.mp (bo qm);unfold cJ at xt;refine af (pk.mp xt) λj hj0 ej=>?_;have hj:=sO.mp hj0;subst ej;have hb:S.ac[j]?=a_ S.ac[j]:=aX hj;have nV:=uo hj;generalize S.ac[j]=b at hb nV;rw[Iq hi,(dX.mp qm).2,Uq (n:=(j:Int)) (by rw[jJ];exact hb)]at hd;have hcb:=hS.cl b nV;have O3:S.ck[b.c]?=a_ S.ck[b.c]:=aX hcb;generalize S.ck[b.c]=kb at O3;refine af (jU Gd hb) λvb Dr aa=>af aa λpb eb uc=>?_;subst eb;have NT:∀{H6 gZ},DU t C CT PT H1 H6 m A S sa B gZ v->H6 pb=a_ (.tup (pH b)):=λh=>h.k.lQ _ _ uc;refine aW (id h5.M.obj) λZG Px xQ G5=>?_
   have ret:∀{H6 gZ},DU t C CT PT H1 H6 m A S sa B gZ v->jR S ns ns (iX "none" S.ps)=.inl (j:Int)->∀D:Ends,D.rt=Q->∀c6 c7 c8 c9,Cw (Ng (Fl (ib 5) An)) D [a_ (.ref m),a_ v,a_ (.ref r),a_ (.ref l),a_ (.ref sa),a_ (.int (j:Nat)),c6,c7,c8,c9] H6:=λ{H6 gZ} h6 e D hD c6 c7 c8 c9=>by
    refine vr rfl ⟨(sl (n:=1)),(λl6 Oz=>?_)⟩;have s6:ai H6 (upd H6 l6 (.lst [.int (j:Nat)])):=aM (ai.refl _) Oz;have:=k2 m9 _ e _ l6 ((aF.of s1).trans (h6.k.trans (aF.of s6))) (gj h6.lam s6) (s1.free (h6.k.t _ Oz)) aA;rw[<-hD]at this;exact this
   refine vr rfl (vr rfl (rL (aj.of (HV h5)) (cb Dr) (cT (aI.of (NT h5)) (cb (j:=1) rfl) (ak _ rfl (vr rfl (vr rfl (vM rfl xQ (G5.ms _ dk) (vr rfl (⟨m,A,S,b.c,kb,rfl,h5.M,O3,(⟨sa,B,S,T',v,b.c,kb,rfl,h5.D,O3,(λH6 D6 f6=>⟨_,rfl,?_⟩)⟩)⟩)))))))));have h6:=h5.go D6 f6;refine bp (Ti (S:=S) (T:=T') (c:=b.c) (by have:=hS.sm;exact wa) h5.D.pl) λp6 l6 u6=>?_;cases ea:(iW S b.c T').ac[T'.ac.length]? with
   | none=>
    rw[ea]at hd;have hn:=Ip.mp ea;rw[decide_eq_false (show ¬T'.ac.length<(iW S b.c T').ac.length by lia)];exact je (ret h6 hd.symm _ rfl _ _ _ _)
   | some a=>
    rw[ea]at hd;dsimp only at hd;have dJ:=(dX.mp ea).1;rw[decide_eq_true dJ];refine fj ?_;have xt:=bo ea;refine af (id D6.st.ac) λHi hw6 W3=>af (jU W3 ea) λva hva aa=>af aa λpa epa AV=>?_;subst epa;have kj:=Paired.length W3
    have elast:jg Hi (-1)=a_ (.ref pa):=by
     have e1:Hi=Hi.take T'.ac.length++[.ref pa]:=by
      conv=>lhs;rw[<-Iz T'.ac.length Hi]
      rw[Iq wg,Bf w7,(dX.mp hva).2]
     rw[e1];exact BP _ _
    have tail:∀D:Ends,D.rt=Q->(∀H7,DU t C CT PT H1 H7 m A S sa B (iW S b.c T') v->qI ns a b=c_->D.nx [a_ (.ref m),a_ v,a_ (.ref r),a_ (.ref l),a_ (.ref sa),a_ (.int (j:Nat)),a_ (.int (b.c:Nat)),a_ (.ref pa),a_ (oV (pC ns a)),ms] H7)->
      Wv (XJ (Fi (lV (Ap K c_) (CM (Ao K) (ib 7) BS (Cf (tC (.int 5)))) (CM (Ao K) (lV (vc K) (ib 3) (ib 5)) BS (Cf (tC (.int 5)))))) (Fi (lV XO (ib 8) (lV (tG K) (lV (vc K) (ib 3) (ib 5)) (tC (.int 5)))))) (Cw (Ng (Fl (ib 5) An))) VB D [a_ (.ref m),a_ v,a_ (.ref r),a_ (.ref l),a_ (.ref sa),a_ (.int (j:Nat)),a_ (.int (b.c:Nat)),a_ (.ref pa),a_ (oV (pC ns a)),ms] H6:=by
     intro D hD kn;refine ak _ rfl (ak 5 rfl ⟨pa,⟨_,rfl,aI.of AV,Fw a,λp1 n1=>?_⟩⟩);generalize eU:upd H6 p1 (.tup (jt (pH a) b_ (a_ 5)))=H7;have t1:ai H6 (H7):=eU ▸ (aM (ai.refl _) n1);have g1:H7 p1=a_ (.tup (CF a)):=eU ▸ aA;clear eU;have h7:=h6.same t1;refine ak _ rfl (vr rfl (rL (aj.of (HV h7)) (cb Dr) (ak 5 rfl ⟨pb,⟨_,rfl,aI.of (NT h7),Fw b,λp2 n2=>?_⟩⟩)));generalize eU:upd H7 p2 (.tup (jt (pH b) b_ (a_ 5)))=H8;have t2:ai H7 (H8):=eU ▸ (aM (ai.refl _) n2);have g2:H8 p2=a_ (.tup (CF b)):=eU ▸ aA;clear eU;have h8:=h7.same t2;have nl:qI ns a b=d_->jR S ns ns (iX "none" S.ps)=.inl (j:Int):=λe=>by rw[<-hd,e,if_neg dY]
     refine⟨(pE a),(pE b),(EC (t2 _ _ g1)),(EC g2),(Eb (p6.ao a xt)),(Eb (hS.ao b nV)),(Rp a b),(ak _ rfl ?_)⟩;rw[if_pos rfl];cases e5:same (pE a) (pE b)with
     | false=>exact je (ret h8 (nl (by unfold qI;rw[e5,rH])) _ hD _ _ _ _)
     | true=>
     refine fj (vr rfl (vr rfl (vr rfl (rL (aj.of (HV h8)) (cb Dr) (cT (aI.of (NT h8)) (cb (j:=5) rfl) ⟨TJ _ _,⟨_,rfl,?_⟩⟩)))));cases e6:decide (oV (pC ns a)=oV b.seen)with
     | false=>exact je (ret h8 (nl (by unfold qI;rw[e6,Bp])) _ hD _ _ _ _)
     | true=>exact fj (kn H8 h8 (by unfold qI;rw[e5,e6];rfl))
    refine vL rfl (aj.of D6.st.st) (cb (j:=2) rfl) (ak _ rfl (rL (aj.of hw6) (elast) (vT rfl (aI.of AV) (cb (j:=5) rfl) ?_)))
    have kn:∀H7,DU t C CT PT H1 H7 m A S sa B (iW S b.c T') v->qI ns a b=c_->∃nm cl td se Dj gZ,[a_ (.ref m),a_ v,a_ (.ref r),a_ (.ref l),a_ (.ref sa),a_ (.int (j:Nat)),a_ (.int (b.c:Nat)),a_ (.ref pa),a_ (oV (pC ns a)),ms]=[a_ (.ref m),a_ v,a_ (.ref r),a_ (.ref l),a_ (.ref sa),nm,cl,td,se,Dj]/\DU t C CT PT H1 H7 m A S sa B gZ v/\gZ.ac.length=i+1/\jR S ns (ns.drop (i+1)) gZ=jR S ns ns (iX "none" S.ps):=λH7 h7 e=>by
     rw[e,if_pos rfl]at hd;exact⟨_,_,_,_,_,(⟨_,rfl,h7,li,hd⟩)⟩
    cases es:a.seen with
    | none=>
     have e0:pC ns a=none:=by unfold pC;rw[es];rfl
     rw[e0]at tail kn;exact⟨_,rfl,rfl,_,rfl,wL (λe=>absurd rfl e) λ_=>tail _ rfl kn⟩
    | some d=>
     have e0:pC ns a=a_ (ns.getD d.toNat 0):=by unfold pC;rw[es];rfl
     rw[e0]at tail kn;refine oA (p6.se.2 a xt d es) λd0 d1=>oE (P7 d0) λq aa=>?_;subst aa;have hq:q<ns.length:=li;have e1:ns.getD ((q:Int)).toNat 0=ns[q]:=by rw[jJ,nh,aX hq];rfl
     rw[e1]at tail kn;exact⟨_,rfl,rfl,_,rfl,wL (λ_=>⟨_,rfl,_,rfl,_,_,_,_,rfl,rfl,aj.of (CJ h6),dA (f:=V.int) (aX hq),tail _ rfl kn⟩) λe=>by cases e⟩
  ·intro σ H5 av;refine kY av λnm cl td se ms aa=>cR aa λT' aa h5 ha hd=>?_;subst aa;rw[aO,Bf (aN _)]at hd;refine cI (id hP) λpg eC aa gX pd=>?_;subst aa;have ee:eC.length=S.ck.length:=by rw[Paired.length pd];exact hS.len.symm
   have h4':=hS.four;have ZF:=wG;have Xa:∀{H6 gZ},DU t C CT PT H1 H6 m A S sa B gZ (.ref pg)->H6 pg=a_ (.tup eC):=λh=>h.k.lQ _ _ (s1 _ _ gX);refine⟨_,rfl,pg,eC,rfl,.inr (aI.of (Xa h5)),_,rfl,li,li,?_⟩;rw[show ((eC.length:Int)).toNat=eC.length by omega]
   let W2:IV:=λi σ H'=>i<=eC.length/\∃cl ms,σ=[a_ (.ref m),a_ (.ref pg),a_ (.ref r),a_ (.ref l),a_ (.ref sa),nm,cl,td,se,ms]/\DU t C CT PT H1 H' m A S sa B (qF S i T') (.ref pg)
   refine yg (n:=eC.length) W2 ⟨cy _,cl,ms,rfl,h5⟩ ?_ ?_
   ·intro i σ H6 hi av;refine oA av λ_ aa=>aW aa λcl ms aa h6=>?_;subst aa;have e0:(0+(i:Int))=(i:Int):=Bt _;have hc:=wf;have O2:S.ck[i]?=a_ S.ck[i]:=aX hc;generalize S.ck[i]=ki at O2;refine aW (id h6.M.obj) λdx6 Pw OZ G6=>vM rfl OZ (G6.ms _ dk) (vr rfl (⟨m,A,S,i,ki,(by rw[e0];rfl),h6.M,O2,⟨λμ σ H2=>∃gZ,σ=[a_ (.ref m),a_ (.ref pg),a_ (.ref r),a_ (.ref l),a_ (.ref sa),nm,a_ (.int (i:Nat)),td,se,a_ (.int (ki.ct:Nat))]/\DU t C CT PT H1 H2 m A S sa B gZ (.ref pg)/\Fuel S gZ i μ/\oH (λT=>jF S T i) i μ gZ=qF S (i+1) T',⟨_,_,by rw[e0];rfl,h6,En S _ i,rfl⟩,?_⟩⟩));intro μ σ H7 av;refine cR av λgZ aa h7 hf jO=>?_;clear av;subst aa;refine gw (h7.D.at hc) λj k' p e1 e2 aa=>iB aa λe3 e4 hl hle=>?_;have ek:k'=ki:=by rw[O2]at e2;exact(dq e2).symm
    subst ek;have go:=Ae e1 e2 e3;rw[Wa hle]at go
    have fin:jF S gZ i=d_->i+1<=eC.length/\∃cl ms,[a_ (.ref m),a_ (.ref pg),a_ (.ref r),a_ (.ref l),a_ (.ref sa),nm,a_ (.int (i:Nat)),td,se,a_ (.int (k'.ct:Nat))]=[a_ (.ref m),a_ (.ref pg),a_ (.ref r),a_ (.ref l),a_ (.ref sa),nm,cl,td,se,ms]/\DU t C CT PT H1 H7 m A S sa B (qF S (i+1) T') (.ref pg):=λe=>by
     rw[z9 (p:=λT=>jF S T i) e]at jO;subst jO;exact⟨hi,_,⟨_,rfl,h7⟩⟩
    refine af (h7.D.st.qL e1) λy hy D=>af (jU pd e4) λv1 Ds aa=>cI aa λpb us aa uc oZ=>?_;subst aa;have alv:=h7.k.lQ _ _ (s1 _ _ uc);refine vL rfl (aj.of h7.D.st.st) (cb (j:=0) rfl) (vr rfl (rL (aj.of h7.D.st.cl) (dA hy) (cL (aj.of D.st) (cb (j:=1) rfl) (vr rfl ⟨_,⟨_,rfl,rfl,_,rfl,bq (λdJ=>?_) λdJ=>?_⟩⟩))))
    ·refine⟨_,rfl,_,_,_,_,rfl,rfl,aj.of h7.D.st.st,cb (j:=0) rfl,_,rfl,_,_,_,_,rfl,rfl,aj.of h7.D.st.cl,dA hy,_,_,_,_,rfl,rfl,aj.of D.st,cb (j:=0) rfl,_,rfl,_,rfl,_,_,_,_,rfl,rfl,aI.of (Xa h7),cb Ds,pb,us,rfl,.inr (aI.of alv),?_⟩;rw[Paired.length oZ];refine⟨_,⟨_,rfl,rfl,_,rfl,bq (λng=>?_) λng=>?_⟩⟩
     ·have hg:jF S gZ i=true:=by rw[go,decide_eq_true li,decide_eq_true li];rfl
      have Oo:=h7.D.pl.step (by have:=hS.sm;exact wa) hg;refine af (Em hf Oo hg) λg eg vC=>?_;subst eg;rw[BV (p:=λT=>jF S T i) hg]at jO;exact⟨λσ' H'=>∃μ',μ'<g+1/\∃gZ,σ'=[a_ (.ref m),a_ (.ref pg),a_ (.ref r),a_ (.ref l),a_ (.ref sa),nm,a_ (.int (i:Nat)),td,se,a_ (.int (k'.ct:Nat))]/\DU t C CT PT H1 H' m A S sa B gZ (.ref pg)/\Fuel S gZ i μ'/\oH (λT=>jF S T i) i μ' gZ=qF S (i+1) T',λσ' H' z=>z,oE h7.D.L λlab L=>T5 Oo.st λj2 p2 st sz d1 d2 aa=>bp aa λd3 d4 d5=>vr rfl (vr rfl (vr rfl ⟨sa,⟨B,gZ,i,j2,.ref pg,p2,st,sz,lab,fh gZ,by rw[h7.D.pl.kd];rfl,h7.D.st,L,h7.D.pl.W,sI h7.D.pl.sum hS.sm,d1,by rw[h7.D.pl.ps];exact h7.D.P,d2,d3,d4,λ_=>d5,λ_=>d5,λH8 M8 f8=>⟨g,vP g,eR gZ i,rfl,h7.go (h7.D.step Oo M8 f8) f8,vC,jO⟩⟩⟩))⟩
     ·exact fin (by rw[go,decide_eq_false (show ¬j.pl<p.length by lia),Bp])
    ·exact fin (by rw[go,decide_eq_false li,rH])
   ·intro σ H6 av;refine oA av λ_ aa=>aW aa λcl ms aa h6=>?_;subst aa;rw[ee]at h6;exact vr rfl (k3 m9 T' hd.symm H6 sa B h6.D ((aF.of s1).trans h6.k) h6.lam λb z=>s1.free (h6.fs b z))
end
theorem ahu{X:Cx}(K:W.Frag)(he:PE X e ta)(hb:Br e f X.env (eval e X.env)=eval e X.env)(h:X.K=K:=by rfl):PE X (.Attribute e f pos) (VC K ta f):=by subst h;exact afk he hb
theorem aeH:vS "ValueError" = a_ (.type "ValueError"):=dk
def L9(S:Mc):PyData:=.tuple [.list (S.ac.map xn),.list (S.bd.map lI),.list ((jL S).map p9)]
def xq(H:Hp)(p:e_)(S:Mc):Prop:=∃l1 l2 l3 nJ qh,H p=a_ (.tup [.ref l1,.ref l2,.ref l3])/\H l1=a_ (.lst nJ)/\Paired (pW H) nJ S.ac/\H l2=a_ (.lst (S.bd.map V.int))/\H l3=a_ (.lst qh)/\Paired (jv H) qh (jL S)
theorem xq.eP(k:aF eN H H')(h:xq H p S):xq H' p S:=by
 exact lG h λl1 l2 l3 nJ qh a b c d e g=>qA l1 l2 l3 nJ qh (k.lQ _ _ a) (k.iC b) (Paired.cw c λ_ _ q=>q.keep k.lQ) (k.iC d) (k.iC e) (Paired.cw g λ_ _ q=>jv.keep k.lQ q)
theorem xq.dat{K:W.Frag}(h:xq H p S):iE K H (.ref p) (L9 S):=by
 exact lG h λl1 l2 l3 nJ qh a b c d e g=>.tup (aI.of a) (.cons (.lst (aj.of b) (uz (λ_ _ q=>Li q) c)) (.cons (pQ d) (.cons (.lst (aj.of e) (uz (λv mv q=>by obtain⟨x,rfl,hx⟩:=q;exact LN hx) g)) .nil)))
theorem abz(A8:pI S):shaped (L9 S)=true:=by
 have a1:=QZ A8
 have d1:rF (S.ac.map xn)<=3:=v5 λa _=>by
  unfold xn;have h1:=(pS a.got).2;have h2:=(pS a.gave).2;have h3:=(pS a.seen).2;simp only[pj,rF];lia
 have d2:=v5 (f:=lI) (k:=1) (l:=S.bd) (λa _=>by simp[pj])
 have d3:rF ((jL S).map p9)<=3:=v5 λmv _=>by
  have h1:=v5 (f:=lI) (k:=1) (l:=mv.2) (λa _=>by simp[pj]);unfold p9;simp only[pj,rF];lia
 have c2:=zP (f:=lI) (l:=S.bd) (λa _=>rfl)
 have c3:sJ ((jL S).map p9)=true:=zP λmv h=>by
  have:=JK (zR h);unfold shaped at this;rw[i9]at this;exact this.1
 unfold shaped at a1 ⊢;rw[i9]at a1 ⊢;have c1:=a1.1;simp only[sM]at c1;unfold L9;refine⟨?_,decide_eq_true ?_⟩
 ·simp only[sM,sJ,c1,c2,c3];rfl
 ·simp only[pj,rF];lia
theorem TZ{K:W.Frag}{d:Option Int}(h:H l=a_ (.lst [oV d])):iE K H (.ref l) (.list [oD d]):=.lst (aj.of h) (.cons (Ac d) .nil)
theorem abY(d:Option Int):shaped (.list [oD d])=true:=by cases d <;> rfl
theorem xcd{o:Option ClassData}(h:o.any (λcd=>uB cd.mro&&cd.hasDict)=c_):∃cd,o=a_ cd/\uB cd.mro=c_/\cd.hasDict=true:=by
 cases o with
 | none=>cases h
 | some cd=>
  have z:(uB cd.mro&&cd.hasDict)=true:=h;rw[i9]at z;exact du cd rfl z.1 z.2
structure XU(K:W.Frag)(cU cE:e_):Prop where
 base:W.kitCls K (.ref cU) (.type "BaseException")=a_ c_
 self:W.kitCls K (.ref cU) (.ref cU)=a_ c_
 x1:G8 K cU
 te:W.kitOne K (.ref cU) (.ref cE)=a_ c_
 ve:W.kitOne K (.ref cU) (.type "ValueError")=a_ c_
 xf:XF K cU
 n1:cj K cU "deed"
def Fin(t:a9)(C CT PT:e_)(H:Hp)(m:e_)(A:MA)(S:Mc)(v:V)(l:e_)(pv:V)(lb:e_):Prop:=(∃d:Option Int,H l=a_ (.lst [oV d])/\H lb=a_ (.lst [oV d]))\/∃x B T B',pv=.ref x/\PM t C CT PT H m A S x B T/\SD H l B' S T v/\H lb=a_ (.lst [])
theorem Fin.eP{C CT PT:e_}{pv:V}(h:Fin t C CT PT H m A S v l pv lb)(k:aF eN H H')(lam:cq PT LP LQ H'):Fin t C CT PT H' m A S v l pv lb:=by
 rcases h with ⟨d,h1,h2⟩ | ⟨x,B,T,B',h1,h2,h3,h4⟩
 ·exact .inl (ak d (k.iC h1) (k.iC h2))
 ·exact .inr (⟨x,B,T,B',h1,(h2.eP k lam),⟨h3.st.Ak k λb z=>z.elim,h3.L,h3.pl,h3.P.keep k.lQ,h3.wf,h3.sm⟩,(k.iC h4)⟩)
abbrev Gy:List Str:=["_law_machine","_law_program_here","_law_row","_law_due_here","_law_ahead","_law_plain","_law_bad","e"]
abbrev aeR:List Stmt->List Stmt
 | .Try _ (.ExceptHandler _ _ b _::_) _ _ _::_=>b
 | _=>[]
abbrev agr:List Stmt:=aeR ((ir uI).drop 4)
def F8(S:Mc)(ns:List Int)(H:Hp)(l:e_)(v:V):Prop:=(¬ns.Perm (cJ S.ac.length)/\H l=a_ (.lst [.aJ]))\/(ns.Perm (cJ S.ac.length)/\∃n,jR S ns ns (iX "none" S.ps)=.inl n/\H l=a_ (.lst [.int n]))\/(ns.Perm (cJ S.ac.length)/\∃T B,jR S ns ns (iX "none" S.ps)=.inr T/\SD H l B S (qF S S.ck.length T) v)
theorem SD.eP(h:SD H s B S T v)(k:aF eN H H'):SD H' s B S T v:=⟨h.st.Ak k λb z=>z.elim,h.L,h.pl,h.P.keep k.lQ,h.wf,h.sm⟩
theorem F8.eP(h:F8 S ns H l v)(k:aF eN H H'):F8 S ns H' l v:=by
 rcases h with ⟨a,b⟩ | ⟨a,n,b,c⟩ | ⟨a,T,B,b,c⟩
 ·exact .inl ⟨a,k.iC b⟩
 ·exact .inr (.inl ⟨a,⟨n,b,k.iC c⟩⟩)
 ·exact .inr (.inr ⟨a,⟨T,B,b,c.eP k⟩⟩)
section
variable{t:a9}{C CT PT:e_}
def Tw(t:a9)(C CT PT:e_):Sp:=λvs H Q _=>∃(m:e_) (A:MA) (S:Mc) (v:V) (r:e_) (ns:List Int),vs=[.ref m,v,.ref r]/\aY t C CT H m A S/\CS S/\lY S/\fh S<64/\mw H v S.ps/\cq PT LP LQ H/\H r=a_ (.lst (ns.map V.int))/\ns.length<=63/\
 ∀H',aF eN H H'->cq PT LP LQ H'->Q (.bl c_) H'
theorem wc:ba Gy ["_law_machine","_law_program_here","_law_row"] (aT uI):=bg
theorem adT{f fU fS fB fM fR fL cU cE:e_}(F:aV K "_law_holds" "_law_holds" uI f fd)(cM:fb K C)(dE:mg "len" = b_)(Xe:mg "isinstance" = b_)(hve:mg "ValueError" = b_)(mE:mg "TrayError" = a_ (.ref cE))(mU:mg "Unlike" = a_ (.ref cU))(xU:XU K cU cE)
  (GU:ax P w K mg base aB 6 fU fdU zLc (VN t C CT PT)) (kU:PySem.W.keepIn K (.ref fU)=c_) (bU:Binds K fdU zLc []) (akT:mg "_law_due" = a_ (.ref fU))
  (GS:ax P w K mg base aB 1 fS jQ zLe (zX t C CT)) (bS:Binds K jQ zLe []) (mS:Meth K C "deeds" fS)
  (GB:ax P w K mg base aB 1 fB qZ zLe (KC t C CT)) (bB:Binds K qZ zLe []) (mB:Meth K C "board" fB)
  (GM:ax P w K mg base aB 4 fM zc zLe (EL t C CT PT)) (bM:Binds K zc zLe []) (mM:Meth K C "moves" fM)
  (GR:ax P w K mg base (jh P w) 10 fR DH ["machine","row"] (SE t C CT PT cU)) (kR:PySem.W.keepIn K (.ref fR)=c_) (bR:Binds K DH ["machine","row"] []) (mR:mg "replay" = a_ (.ref fR))
  (GL:ax P w K mg base aB 3 fL vE zLl (UR t C CT)) (kL:PySem.W.keepIn K (.ref fL)=c_) (bL:Binds K vE zLl []) (mL:mg "_law_like" = a_ (.ref fL)) :
  ax P w K mg base aB 11 f fd zLc (Tw t C CT PT):=by
 refine F.ok wc (λvs H Q E h=>?_) λaL Ar outer s H vs Q E hr h=>?_
 ·refine lK h λm A S v r ns aa _=>?_;subst aa;rfl
 ·refine nZ h λm A S v r ns aa M hS W aH=>?_;subst aa;refine iO aH λHM hP lam dD DF q=>?_;have hu:=hr.units;have cX:=hr.mono (show 1<=10 by decide);have rj:=hr.mono (show 3<=10 by decide);have nQ:=hr.mono (show 4<=10 by decide);have hr6:=hr.mono (show 6<=10 by decide)
  obtain⟨t1,p1,u1⟩:∃t1,eV (nG aB P w K mg base Gy "_law_holds" (aT uI) f aL Ar outer s H E).qW ((ir uI).drop 5) t1/\∀(D:Ends) (σ:L2.St) (H1:Hp),(∃l ah pv lb e7,σ=[a_ (.ref m),a_ v,a_ (.ref r),a_ (.ref l),a_ (.ref ah),a_ pv,a_ (.ref lb),e7]/\aY t C CT H1 m A S/\mw H1 v S.ps/\cq PT LP LQ H1/\aF eN H H1/\xq H1 ah S/\Fin t C CT PT H1 m A S v l pv lb/\D.rt=Q)->t1 D σ H1:=by
   refine let R1:TS:=_;let R2:TS:=_;let R3:TS:=_;⟨_,aD (b9 (br (uK hu) (gu (ae (ip (pv 0) cM.cl mS GS cX bS .nil aR) (ae (ip (pv 0) cM.cl mB GB cX bB .nil aR) (ae (ip (pv 0) cM.cl mM GM nQ bM .nil aR) ag)))) (pv 4) (bf _)) (aE (a8 nD)) cD) (pR R3 (aD (b9 (br dO (cg fg rfl dE PySem.boot_len (ae (pv 3) ag)) aq (bf _)) (pR R1 (aE (a8 (qG (Cb hu) (pv 6) (pv 3) (bf _))))) cD) (pR R2 (aE (a8 (wD (qG (adI hu) (pv 6) (dN ag) (bf _)) (wD (qG dO (bu (pv 5) rfl) cZ (bf _)) (wC (dr GL rj rfl mL kL bL .nil aR (ae (pv 5) (ae (pv 3) (ae (pv 1) ag)))))))))))),?_⟩
   intro D σ H1 av;refine lG av λl ah pv lb e7 aa M1 hP1 kg k1 aH=>?_;subst aa;refine bp aH λhah alL hD=>aW (id M1.obj) λdx fs hm G=>vM rfl hm (G.ms _ dk) (mq m A S rfl M1 λl1 nJ n1 ON=>aG (nw (o:=.lst nJ) n1) λH2 e s2 g1=>?_);rw[e];clear e;refine vM rfl (s2 _ _ hm) (G.ms _ dk) (mq m A S rfl (M1.same s2) λl2 n2=>aG (nw (o:=.lst (S.bd.map V.int)) n2) λH3 e s3 g2=>?_);rw[e];clear e;have nK:=s2.trans s3;refine vM rfl (nK _ _ hm) (G.ms _ dk) (jb m A S rfl (M1.same nK) W (gj kg nK) λH4 l3 qh k4 tP n3 g3 nM=>⟨(sl (n:=3)),λp5 n5=>aG (nw (o:=.tup [.ref l1,.ref l2,.ref l3]) n5) λH5 e s5 g5=>?_⟩);rw[e];clear e;have yT:=(aF.of nK).trans (k4.trans (aF.of s5));have Dl:=k4.trans (aF.of s5);have yG:=gj tP s5;have a5:xq H5 p5 S:=⟨l1,l2,l3,nJ,qh,g5,Dl.iC (s3 _ _ g1),Paired.cw ON λ_ _ q=>q.keep yT.lQ,Dl.iC g2,s5 _ _ g3,Paired.cw nM λ_ _ q=>jv.keep (λb xs e=>s5 _ _ e) q⟩;refine vr rfl (zU a5.dat (hah.eP yT).dat (abz hS.ao) (ak _ rfl (fj ?_)));have qg:∀H',aF eN H5 H'->cq PT LP LQ H'->D.rt (.bl c_) H':=λH' k l=>by rw[hD];exact q H' (k1.trans (yT.trans k)) l
   rcases alL.eP yT yG with ⟨d,f1,f2⟩ | ⟨x,B,T,B',rfl,f2,f3,f4⟩
   ·refine vr rfl ⟨l,⟨_,rfl,.inl (aj.of f1),rfl,_,rfl,bq (λ_=>?_) λz=>absurd rfl z⟩⟩;exact vr rfl (vr rfl (Tf (TZ f2) (TZ f1) (abY d) (qg H5 (aF.refl _) yG)))
   ·refine vr rfl ⟨l,⟨_,rfl,.inl (aj.of f3.st.st),rfl,_,rfl,bq (λz=>by cases z) λ_=>du _ rfl qc λl6 n6=>aG (nw (o:=.lst []) n6) λH6 e s6 g6=>?_⟩⟩;rw[e];clear e;refine jb lb l6 ([]) rfl rfl (s6 _ _ f4) g6 (tk (bq (λ_=>?_) λz=>absurd rfl z));refine aW (id (f2.same s6).N.obj) λdx6 Pw hx6 G6=>?_;have pe:=G6.kind;rw[f2.pl.kd]at pe;refine vF rfl hx6 cM.cl cM.kind pe ⟨rfl,⟨_,rfl,bq (λ_=>?_) λz=>absurd rfl z⟩⟩;exact vr rfl (vr rfl (vr rfl (⟨x,B,l,B',T,v,(fh T),rfl,((f2.same s6).N),((f3.same s6).st),f2.pl.W,(sI f2.pl.sum HM),f2.pl.ao,(by rw[f2.pl.ps];exact(f3.same s6).P),(λH7 s7=>qg H7 (aF.of (s6.trans s7)) (gj yG (s6.trans s7)))⟩)))
  obtain⟨t3,p3,u3⟩:∃t3,(∀ea pn,eV ((nG aB P w K mg base Gy "_law_holds" (aT uI) f aL Ar outer s H E).qW.lg ea pn) agr t3)/\∀(D:Ends) (σ:L2.St) (H1:Hp),(∃l4 ah pv lb ea d dd,σ=[a_ (.ref m),a_ v,a_ (.ref r),l4,ah,pv,lb,a_ (.ref ea)]/\H1 ea=a_ (tV ea (.ref cU) (a_ d))/\H1 d=a_ (oS d [("deed",oV dd)])/\∀H2 xO,ai H1 H2->H2 xO=a_ (.lst [oV dd])->D.nx [a_ (.ref m),a_ v,a_ (.ref r),l4,ah,pv,a_ (.ref xO),a_ (.ref ea)] H2)->t3 D σ H1:=by
   refine⟨_,λea pn=>aD (bJ (i:=6) wc.nd rfl (aP rfl) (dN (ae (ahu K (pv 7) rfl) ag))) (aE (b9 (PW.pt (pw_or (kQ (gF (cg (Vf K) rfl Xe kr (ae (pv 7) (ae (iq (v:=.ref cE) rfl mE rfl) ag))))) (pw_or1 (kQ (gF (cg (Vf K) rfl Xe kr (ae (pv 7) (ae (qH (v:=.ty "ValueError") rfl hve aeH rfl) ag)))))))) (aE (a8 nD)) cD)),?_⟩;intro D σ H1 av;obtain⟨l4,ah,pv,lb,ea,d,dd,aa,he,hd,nx⟩:=av;subst aa;refine ak _ rfl (⟨ea,cU,d,_,(oV dd),rfl,he,hd,xU.xf,xU.n1,rfl,(sl (n:=1)),(λxO nb=>?_)⟩);generalize eU:upd H1 xO (.lst [oV dd])=H2;have s2:ai H1 (H2):=eU ▸ (aM (ai.refl _) nb);have g2:H2 xO=a_ (.lst [oV dd]):=eU ▸ aA;clear eU;refine vr rfl (⟨ea,cU,(a_ d),(.ref cE),_,c_,rfl,(s2 _ _ he),(λd' z=>by cases z;exact⟨_,s2 _ _ hd⟩),xU.x1,rfl,xU.te,⟨_,rfl,fj (vr rfl (⟨ea,cU,(a_ d),(.ty "ValueError"),_,c_,rfl,(s2 _ _ he),(λd' z=>by cases z;exact⟨_,s2 _ _ hd⟩),xU.x1,rfl,xU.ve,⟨_,rfl,fj (nx H2 xO s2 g2)⟩⟩))⟩⟩)
  obtain⟨t2,p2,u2⟩:∃t2,eV (nG aB P w K mg base Gy "_law_holds" (aT uI) f aL Ar outer s H E).qW ((ir uI).drop 1) t2/\∀(D:Ends) (σ:L2.St) (H1:Hp),(∃l,σ=[a_ (.ref m),a_ v,a_ (.ref r),a_ (.ref l),b_,b_,b_,b_]/\cq PT LP LQ H1/\aF eN H H1/\F8 S ns H1 l v/\D.rt=Q)->t2 D σ H1:=by
   refine let R1:TS:=_;let R2:TS:=_;let R3:TS:=_;⟨_,aD (bJ (i:=4) wc.nd rfl (aP rfl) (gu (ae (ip (pv 0) cM.cl mS GS cX bS .nil aR) (ae (ip (pv 0) cM.cl mB GB cX bB .nil aR) (ae (ip (pv 0) cM.cl mM GM nQ bM .nil aR) ag))))) (pR R3 (aD (bJ (i:=5) wc.nd rfl (aP rfl) lM) (pR R2 (aD (bJ (i:=6) wc.nd rfl (aP rfl) (dN ag)) (pR R1 (aD (adD (i:=7) rfl rfl rfl wc.nd rfl rfl rfl mU xU.base (λW pn E hL hp=>aE (bJ (i:=5) wc.nd rfl (aP rfl) (SX GR hr hL rfl mR kR bR .nil (ae (pv 0) (ae (pv 2) ag))))) p3) p1)))))),?_⟩
   intro D σ H1 av;refine nA av λl aa kg k1 hdu hD=>?_;clear av;subst aa;have M1:=M.eP k1;refine aW (id M1.obj) λdx fs hm G=>vM rfl hm (G.ms _ dk) (mq m A S rfl M1 λl1 nJ n1 ON=>aG (nw (o:=.lst nJ) n1) λH2 e s2 g1=>?_);rw[e];clear e;refine vM rfl (s2 _ _ hm) (G.ms _ dk) (mq m A S rfl (M1.same s2) λl2 n2=>aG (nw (o:=.lst (S.bd.map V.int)) n2) λH3 e s3 g2=>?_);rw[e];clear e;have nK:=s2.trans s3;refine vM rfl (nK _ _ hm) (G.ms _ dk) (jb m A S rfl (M1.same nK) W (gj kg nK) λH4 l3 qh k4 tP n3 g3 nM=>⟨(sl (n:=3)),λp5 n5=>aG (nw (o:=.tup [.ref l1,.ref l2,.ref l3]) n5) λH5 e s5 g5=>?_⟩);rw[e];clear e;have yT:=(aF.of nK).trans (k4.trans (aF.of s5));have Dl:=k4.trans (aF.of s5);have yG:=gj tP s5;have a5:xq H5 p5 S:=⟨l1,l2,l3,nJ,qh,g5,Dl.iC (s3 _ _ g1),Paired.cw ON λ_ _ q=>q.keep yT.lQ,Dl.iC g2,s5 _ _ g3,Paired.cw nM λ_ _ q=>jv.keep (λb xs e=>s5 _ _ e) q⟩;refine⟨qc,λlb nb=>aG (nw (o:=.lst []) nb) λH6 e s6 g6=>?_⟩;rw[e];clear e;have Dm:=yT.trans (aF.of s6);have yU:=k1.trans Dm;have yF:=gj yG s6;have a6:=a5.eP (aF.of s6);have d6:=hdu.eP Dm
   have bad:∀(dd:Option Int) (d:e_) (H7:Hp),aF eN H6 H7->cq PT LP LQ H7->H7 d=a_ (oS d [("deed",oV dd)])->H6 l=a_ (.lst [oV dd])->∀ea,H7 ea=b_->∀D':Ends,(∀σ2 H2,D'.nx σ2 H2=t1 D (σ2.set 7 b_) H2)->t3 D' [a_ (.ref m),a_ v,a_ (.ref r),a_ (.ref l),a_ (.ref p5),a_ .aJ,a_ (.ref lb),a_ (.ref ea)] (upd H7 ea (tV ea (.ref cU) (a_ d))):=λdd d H7 k7 yE hd hl ea De D' hD'=>by
    have s8:ai H7 (upd H7 ea (tV ea (.ref cU) (a_ d))):=aM (ai.refl _) De;refine u3 _ _ _ (⟨_,_,_,_,ea,d,dd,rfl,aA,(s8 _ _ hd),(λH9 xO s9 g9=>?_)⟩);rw[hD'];have Dk:=k7.trans (aF.of (s8.trans s9));have NO:=gj yE (s8.trans s9);exact u1 _ _ _ (⟨l,p5,.aJ,xO,b_,rfl,(M.eP (yU.trans Dk)),(hP.keep (yU.trans Dk).lQ),NO,(yU.trans Dk),(a6.eP Dk),(.inl ⟨dd,Dk.iC hl,g9⟩),hD⟩)
   refine ak _ rfl (vr rfl (⟨m,A,S,r,ns,rfl,(M.eP yU),hS,yF,(yU.iC dD),DF,(λAX d H7 k7 yE hd=>⟨xU.self,λea De=>?_⟩),(λm9 n hn d H7 k7 yE hd=>⟨xU.self,λea De=>?_⟩),(λm9 T hT H7 x B h7 k7 fx=>?_)⟩))
   ·rcases d6 with ⟨_,b⟩ | ⟨a,_⟩ | ⟨a,_⟩
    ·exact bad b_ d H7 k7 yE hd b ea De _ λ_ _=>rfl
    ·exact absurd a AX
    ·exact absurd a AX
   ·rcases d6 with ⟨a,_⟩ | ⟨_,n',b,c⟩ | ⟨_,T,B,b,_⟩
    ·exact absurd m9 a
    ·rw[hn]at b;cases b;exact bad (a_ n) d H7 k7 yE hd c ea De _ λ_ _=>rfl
    ·rw[hn]at b;cases b
   ·rcases d6 with ⟨a,_⟩ | ⟨_,n',b,c⟩ | ⟨_,T',B',b,c⟩
    ·exact absurd m9 a
    ·rw[hT]at b;cases b
    ·rw[hT]at b;cases b;exact u1 _ _ _ (⟨l,p5,(.ref x),lb,b_,rfl,h7.M,(hP.keep (yU.trans k7).lQ),h7.lam,(yU.trans k7),(a6.eP k7),(.inr ⟨x,B,_,B',rfl,h7,c.eP k7,k7.iC g6⟩),hD⟩)
  exact lS (aD (bJ (i:=3) wc.nd rfl (aP rfl) (dr GU hr6 rfl akT kU bU .nil aR (ae (pv 0) (ae (pv 1) (ae (pv 2) ag))))) p2) (vr rfl (vr rfl (vr rfl (⟨m,A,S,v,r,ns,rfl,M,hS,hP,lam,dD,DF,(λAX H1 l k1 kg _ hl=>u2 _ _ _ (gG l rfl kg k1 (.inl ⟨AX,hl⟩) rfl)),⟨λm9 n hn H1 l k1 kg _ hl=>u2 _ _ _ (gG l rfl kg k1 (.inr (.inl ⟨m9,n,hn,hl⟩)) rfl),(λm9 T hT H1 sa B D k1 kg _=>u2 _ _ _ (gG sa rfl kg k1 (.inr (.inr ⟨m9,T,B,hT,D⟩)) rfl))⟩⟩))))
end
theorem Ro:vS "min" = a_ (.builtin "min"):=dk
theorem zT{K:PySem.W.Frag}(k:aF eN H H')(h:aj K H a xs):aj K H' a xs:=by
 rcases h with (h | ⟨o,h⟩) | h
 ·exact .inl (.inl (k.k _ _ (λz=>z) (λps z=>by cases z) h))
 ·exact .inl (.inr ⟨o,k.k _ _ (λz=>z) (λps z=>by cases z) h⟩)
 ·exact .inr h
theorem ahd{PT m C dx:e_}{fs:List (Str×V)}(k:eQ m H H')(hm:H m=a_ (.ins C dx fs))(h:cq PT LP LQ H):cq PT LP LQ H':=
 Bx (F:=[m]) h (λb o n e=>k.k b o (λz=>n (by rw[z];exact gJ.mpr rfl)) e) λb hb o e=>by rw[gJ.mp hb,hm]at e;cases e;exact .inl ⟨_,_,_,rfl⟩
theorem eQ.eP(k1:aF eN H H1)(hm:H m=b_)(k:eQ m H1 H2):aF eN H H2:=⟨λb o n hn e=>k.k b o (λz=>by rw[z,hm]at e;cases e) (k1.k b o n hn e),λb h=>k1.t b (k.t b h)⟩
theorem aev{c sz:Nat}(g:dH sz s)(hk:S.ck[c]?=a_ k):∀a∈(aZ S c s).ac,a∈S.ac\/a.c=c:=by
 have sn:∀(b:Act),b.c=c->∀a∈S.ac++[b],a∈S.ac\/a.c=c:=λb hb a ha=>by
  rcases jA.mp ha with y | y
  ·exact .inl y
  ·rw[gJ.mp y];exact .inr hb
 cases g with
 | put r n _ _=>
  rw[show aZ S c ("put",[r,n])=eZ S c r (n:Nat) from rfl,wA];exact λa h=>.inl h
 | add r o _ _=>
  have e:aZ S c ("add",[r,o])=eZ S c r ((k.rg.getD r 0+k.rg.getD o 0)%jD):=by
   unfold aZ;rw[if_neg (show ¬("add" : Str) = "put" from dk),if_pos rfl,hk];rfl
  rw[e,wA];exact λa h=>.inl h
 | set n r _ _=>
  rw[BY,B4 hk];unfold setG
  split
  ·rw[BN];exact sn _ rfl
  ·exact sn _ rfl
 | look r n _ _=>
  rw[BM];unfold mz;rw[hk];dsimp only;rw[wA];exact sn _ rfl
 | swap r n _ _=>
  rw[BL];unfold nC;rw[hk];dsimp only;rw[wA];exact sn _ rfl
 | clear=>
  rw[<-rP S c (show ("clear" : Str) ≠ "put" from dk) (show ("clear" : Str) ≠ "add" from dk),By];exact λa h=>.inl h
 | skip r q _ _ _=>
  rw[<-rP S c (show ("skip" : Str) ≠ "put" from dk) (show ("skip" : Str) ≠ "add" from dk),BD];exact λa h=>.inl h
theorem Si(S:Mc)(c n:Nat):fh (jo S c n)=fh S:=by
 unfold jo;cases hk:S.ck[c]? with
 | none=>rfl
 | some k=>
  dsimp only;cases (cu k.es n).head? with
  | none=>rfl
  | some e=>
   have:=sum_set (λk:Ck=>k.ct) (y:={ k with es:=lp k.es n }) hk;dsimp only at this;unfold fh kJ;dsimp only;lia
structure F6(kd:Str)(ps:List Pt)(n:Nat)(S:Mc):Prop where
 W:ie n S
 ao:pI S
 cl:∀a∈S.ac,a.c<S.ck.length
 sm:fh S<=n
 kd:S.kd=kd
 ps:S.ps=ps
theorem F6.made{kd:Str}{ps:List Pt}{n:Nat}{S:Mc}{mv:Mv}(h:F6 kd ps n S)(hn:n<15000)(gH:mv∈jL S):F6 kd ps (n+1) (iV S mv):=by
 refine bp (JL h.W gH) λs1 s2 s3=>⟨Lb h.W hn gH,Uc h.W.wf gH h.ao,?_,?_,s1.trans h.kd,s2.trans h.ps⟩
 ·rw[s3];rcases uy gH with ⟨c,rfl,hc,p7⟩ | ⟨c,k,i,rfl,hk,jy⟩
  ·refine yi (yj h.W.wf hc p7) λk p s _ hk hp hs _=>cR (h.W.wf.part hk) λp' fZ _ _ hg=>?_;have ep:p'=p:=by rw[hp]at fZ;exact(dq fZ).symm
   subst ep;rw[zY hk hp hs,Vh];intro a ha;rcases aev (hg s (bo hs)) hk a ha with y | y
   ·exact h.cl a y
   ·rw[y];exact hc
  ·rw[Bw,BN];exact h.cl
 ·rcases uy gH with ⟨c,rfl,hc,p7⟩ | ⟨c,k,i,rfl,hk,jy⟩
  ·refine yi (yj h.W.wf hc p7) λk p s _ hk hp hs _=>cR (h.W.wf.part hk) λp' fZ _ _ hg=>?_;have ep:p'=p:=by rw[hp]at fZ;exact(dq fZ).symm
   subst ep;refine aG (BZ h.W (hg s (bo hs)) hk) λk' f q1 q2=>?_;have ec:(aZ S c s).ck[c]?=a_ k':=by rw[f.ck];exact jz hc
   have:=sum_set (λk:Ck=>k.ct) (y:={ k' with pl:=cY s k'.rg k'.pl,ct:=k'.ct+1 }) hk;rw[zY hk hp hs];unfold pF;rw[ec]
   have e:fh { aZ S c s with ck:=(aZ S c s).ck.set c { k' with pl:=cY s k'.rg k'.pl,ct:=k'.ct+1 } }=((S.ck.set c { k' with pl:=cY s k'.rg k'.pl,ct:=k'.ct+1 }).map λk=>k.ct).sum:=by
    unfold fh;dsimp only;rw[f.ck,vU]
   have hs:=h.sm;show fh { aZ S c s with ck:=(aZ S c s).ck.set c { k' with pl:=cY s k'.rg k'.pl,ct:=k'.ct+1 } }<=n+1;rw[e];unfold fh at hs;dsimp only at this;lia
  ·rw[Bw,Si];exact vO h.sm
theorem ade(h:yD S ms S'):S'.ac=S.ac/\fh S'=fh S/\S'.ck.length=S.ck.length/\S'.ps=S.ps:=by
 induction h with
 | nil=>exact⟨rfl,rfl,rfl,rfl⟩
 | snoc hc e ih=>
  rename_i S1 ms mv r
  refine iB ih λh1 h2 h3 h4=>?_;obtain⟨c,k,n,rfl,hk,_⟩:=Jz (S:=S1) (mv:=mv) (by rw[e];simp);rw[Bw];refine lR ((BN _ _ _).trans h1) ((Si _ _ _).trans h2) ?_ ?_
  ·unfold jo;rw[hk];dsimp only;cases (cu k.es n.toNat).head? with
   | none=>exact h3
   | some e=>show (S1.ck.set c _).length=_;rw[kv];exact h3
  ·unfold jo;rw[hk];dsimp only;cases (cu k.es n.toNat).head? with
   | none=>exact h4
   | some e=>exact h4
abbrev nmR:List Str:=["_law_script","_law_program_here","_law_kind","_law_machine","_law_k","_law_moves_here"]
theorem UG{α:Type}(f:α->Nat)(n:Nat):∀(l:List α),(∀x∈l,f x<=n)->(l.map f).sum<=l.length*n
 | [],_=>by simp
 | x::l,h=>by
  have h1:=h x hX;have h2:=UG f n l λy hy=>h y (gE _ hy);rw[gK,Jg,jk,QP];lia
theorem aeN{n:Nat}(W:ie n S):jq S<=4*n:=by
 have h:=UG (λk:Ck=>k.es.length) n S.ck λk hk=>cC (W.wf.es k hk) W.ac;have h4:=W.wf.four;unfold jq;exact cC h (Nat.mul_le_mul_right n h4)
structure RM(t:a9)(C CT PT:e_)(H0 H:Hp)(kd:Str)(ps:List Pt)(n:Nat)(m:e_)(A:MA)(S:Mc):Prop where
 M:aY t C CT H m A S
 L:∃lab,lu lab m A
 R:F6 kd ps n S
 lam:cq PT LP LQ H
 k:aF eN H0 H
 fr:∀b,bz m A b->H0 b=b_
section
variable{t:a9}{C CT PT:e_}{H0 H H':Hp}{kd:Str}{ps:List Pt}{n:Nat}{m:e_}{A:MA}{S:Mc}
theorem RM.eP(h:RM t C CT PT H0 H kd ps n m A S)(k:aF eN H H')(l:cq PT LP LQ H'):RM t C CT PT H0 H' kd ps n m A S:=⟨h.M.eP k,h.L,h.R,l,h.k.trans k,h.fr⟩
theorem RM.same(h:RM t C CT PT H0 H kd ps n m A S)(s:ai H H'):RM t C CT PT H0 H' kd ps n m A S:=h.eP (aF.of s) (gj h.lam s)
theorem RM.away(h:RM t C CT PT H0 H kd ps n m A S)(k:aF (bz m A) H H'):aF eN H0 H':=⟨λb o h1 h2 e=>k.k b o (λz=>by rw[h.fr b z]at e;cases e) h2 (h.k.k b o h1 h2 e),λb e=>h.k.t b (k.t b e)⟩
end
section
variable{t:a9}{C CT PT jr:e_}
def VH(K:PySem.W.Frag)(t:a9)(C CT PT:e_):Sp:=λvs H Q _=>∃(a:e_) (ns:List Int) (v:V) (ps:List Pt) (kd:Str),vs=[.ref a,v,.str kd]/\aj K H a (ns.map V.int)/\ns.length<=63/\mw H v ps/\wX ps/\ps.length<=3/\(kd = "row"\/kd = "name"\/kd = "none")/\cq PT LP LQ H/\
 ∀H' m A S,aY t C CT H' m A S->CS S->lY S->fh S<64->S.ps=ps->S.ac.length<=41->cq PT LP LQ H'->aF eN H H'->Q (.ref m) H'
theorem Fn:ba nmR zLm (aT Nn):=bg
theorem agT(F:aV K "_law_ran" "_law_ran" Nn f fd)(cM:fb K C)(dE:mg "len" = b_)(dQ:mg "range" = b_)(NV:mg "min" = b_)
  (mk:Mk K C fI) (GI:ax P w K mg base aB 7 fI dI zLr (Kz t C CT)) (M9:mg "Machine" = a_ (.ref C)) (b3:Binds K dI zLr [])
  (GV:ax P w K mg base aB 4 fV fdV zLe (EL t C CT PT)) (bV:Binds K fdV zLe []) (mV:Meth K C "moves" fV)
  (GD:ax P w K mg base (jh P w) 7 fD md zLw (Cz t C CT PT jr)) (bD:Binds K md zLw []) (mD:Meth K C "do" fD)
  (GP:ax P w K mg base aB 2 fP PC zLn UN) (kP:PySem.W.keepIn K (.ref fP)=c_) (bP:Binds K PC zLn []) (mP:mg "_law_pick" = a_ (.ref fP))
  (GC:ax P w K mg base aB 1 fC jT zLu (Lr K)) (kC:PySem.W.keepIn K (.ref fC)=c_) (bC:Binds K jT zLu []) (mC:mg "_law_cell_at" = a_ (.ref fC))
  (GS:ax P w K mg base aB 8 fS jQ zLe (Sz t C CT PT)) (bS:Binds K jQ zLe []) (mS:Meth K C "settle" fS) :
  ax P w K mg base aB 9 f fd zLm (VH K t C CT PT):=by
 have zl:=Ag GD;refine F.ok Fn (λvs H Q E h=>?_) λaL Ar outer s H vs Q E hr h=>?_
 ·refine rS h λa ns v ps kd aa _=>?_;subst aa;rfl
 ·refine lG h λa ns v ps kd aa hS hlen hP hg aH=>?_;subst aa;refine iB aH λh3 pe lam q=>?_;have hu:=hr.units;have cX:=hr.mono (show 1<=8 by decide);have ji:=hr.mono (show 2<=8 by decide);have nQ:=hr.mono (show 4<=8 by decide);have HP:=hr.mono (show 7<=8 by decide);refine let R1:TS:=_;let R2:TS:=_;let R3:TS:=_;let R4:TS:=_;let R5:TS:=_;let R6:TS:=_;⟨_,aD (bJ (i:=3) Fn.nd rfl (aP rfl) (sX mk GI hr rfl M9 b3 .nil aR (ae (pv 1) (ae (pv 2) ag)))) (pR R6 (aD (pB mf rfl (RH rfl dQ (ae aq (ae (cg (Sj rfl) rfl NV Ro (ae (cg fg rfl dE PySem.boot_len (ae (pv 0) ag)) (ae aq ag))) ag))) (de (i:=4) Fn.nd rfl (aP rfl)) (pR R3 (aD (bJ (i:=5) Fn.nd rfl (aP rfl) (ip (pv 3) cM.cl mV GV nQ bV .nil aR)) (pR R2 (aE (b9 (br (S0 hu) (pv 5) (dN ag) (bf _)) (pR R1 (aE (dg (gm (pv 3) cM.cl mD zl HP bD .nil aR (ae (az aS (pv 5) (dr GP ji rfl mP kP bP .nil aR (ae (az aS (pv 0) (pv 4)) (ae (pv 4) (ae (cg fg rfl dE PySem.boot_len (ae (pv 5) ag)) ag))))) ag))))) cD)))))) (pR R5 (aD (b9 (br rY (bb iN (dr GC cX rfl mC kC bC .nil aR (ae (pv 0) (ae aq ag))) aq) aq (bf _)) (pR R4 (aE (dg (ip (pv 3) cM.cl mS GS hr bS .nil aR)))) cD) (aE (a8 (pv 3))))))),?_⟩
  refine ak _ rfl (vr rfl λm dx nm iG ne=>?_);have nm2:upd H dx (.own m) m=none:=by rw[au ne.symm];exact nm
  generalize eU:upd (upd H dx (.own m)) m (.ins C dx [])=Hb;have sa:ai H (Hb):=eU ▸ (aM (aM (ai.refl _) iG) nm2);have hm:Hb m=a_ (.ins C dx []):=eU ▸ aA;clear eU;refine qA m dx v ps kd rfl hm (hP.keep λb xs e=>sa _ _ e) hg pe λH4 A lab M L ev k4 fr=>⟨rfl,?_⟩;have k04:=eQ.eP (aF.of sa) nm k4
  have h4:RM t C CT PT H H4 kd ps 0 m A (iX kd ps):=⟨M,⟨lab,L⟩,⟨U7 hg,U8 kd ps,λa ha=>(by cases ha),rJ (T6 kd ps),rfl,rfl⟩,ahd k4 hm (gj lam sa),k04,λb hb=>by
   rcases fr b hb with e | e
   ·rw[e];exact nm
   ·exact sa.free e⟩
  have Wq:(if (42:Int)<((ns.map V.int).length:Int) then (42:Int) else ((ns.map V.int).length:Int))<=42/\0<=(if (42:Int)<((ns.map V.int).length:Int) then (42:Int) else ((ns.map V.int).length:Int))/\(if (42:Int)<((ns.map V.int).length:Int) then (42:Int) else ((ns.map V.int).length:Int))<=ns.length:=by
   rw[aO]
   split <;> lia
  refine vr rfl ⟨a,⟨_,rfl,.inl (zT h4.k hS),_,_,rfl,2,_,rfl,⟨qc,qc,li,om⟩,?_⟩⟩;generalize hmm:(if (42:Int)<((ns.map V.int).length:Int) then (42:Int) else ((ns.map V.int).length:Int))=mx at Wq;refine bp Wq λx1 x2 x3=>?_
  let W1:IV:=λi σ H'=>i<=(mx-2).toNat/\∃S z4 z5 n,σ=[a_ (.ref a),a_ v,a_ (.str kd),a_ (.ref m),z4,z5]/\RM t C CT PT H H' kd ps n m A S/\n<=i
  refine yg (n:=(mx-2).toNat) W1 ⟨cy _,iX kd ps,_,_,0,rfl,h4,aN _⟩ ?_ ?_
  ·intro i σ H5 hi av;refine oA av λ_ aa=>oz aa λS z4 z5 n aa aH=>?_;subst aa;refine oA aH λh5 qm=>aW (id h5.M.obj) λZG Px xQ G5=>vM rfl xQ (G5.ms _ dk) (jb m A S rfl h5.M h5.R.W.wf h5.lam λH6 l ws k6 yF nl hl ig=>?_);have h6:=h5.eP k6 yF;refine du _ rfl qc λle nle=>aG (nw (o:=.lst []) nle) λH7 e s7 hle=>?_;rw[e];clear e;have h7:=h6.same s7;refine jb l le ws rfl rfl (s7 _ _ hl) hle (ak _ rfl (wL (λhe=>?_) λhe=>?_))
   ·have AB:=List.length_pos_iff.mpr he;refine aW (id h7.M.obj) λdx7 Zw hm7 G7=>oE h7.L λakW L7=>?_;have hc:i+2<ns.length:=om
    have hat:jg (ns.map V.int) (2+(i:Int))=a_ (.int ns[i+2]):=by
     rw[show (2+(i:Int))=((i+2:Nat):Int) by lia];exact dA (f:=V.int) (aX hc)
    refine vM rfl hm7 (G7.ms _ dk) (vr rfl (vr rfl (vr rfl (⟨_,_,_,(gG _ rfl rfl (zT h7.k hS) hat (vr rfl (vr rfl (dS l ws rfl (.inl (aj.of (s7 _ _ hl))) (mq _ _ ws.length rfl AB λj hj=>?_)))))⟩))));have Y6:ws[j]?=a_ ws[j]:=aX hj;refine af (rK ig Y6) λmv qo aa=>af aa λp ep hp=>?_;have gH:=bo qo;refine rL (v:=.ref p) (aj.of (s7 _ _ hl)) (by rw[<-ep];exact cb Y6) ⟨m,A,S,p,_,akW,rfl,h7.M,L7,h7.R.W.wf,h7.R.W.vj li,h7.lam,s7 _ _ hp,E8 _,?_,λxM e=>(by rw[<-uD e];exact zR gH),λxM e _ H8 M8 k8 akV=>?_,λz _ _ _=>absurd gH (z mv rfl)⟩
    ·rcases uy gH with ⟨c,rfl,_⟩ | ⟨c,k,n,rfl,_⟩ <;> simp[lW]
    have zd:=uD e;subst zd;exact⟨hi,⟨iV S mv,_,_,n+1,rfl,⟨M8,h7.L,h7.R.made li gH,akV,h7.away k8,h7.fr⟩,li⟩⟩
   ·exact⟨hi,⟨S,_,_,n,rfl,h7,li⟩⟩
  ·intro σ H5 av;refine oA av λ_ aa=>oz aa λS z4 z5 n aa aH=>?_;subst aa;refine oA aH λh5 qm=>?_
   have fin:∀H6 S',aY t C CT H6 m A S'->S'.ac=S.ac->fh S'=fh S->S'.ck.length=S.ck.length->S'.ps=S.ps->lY S'->cq PT LP LQ H6->aF eN H H6->Q (.ref m) H6:=λH6 S' M6 e1 e2 e3 e4 W6 yF k6=>by
    have gY:=h5.R.W.ac;have HM:=h5.R.sm;refine q H6 m A S' M6 ⟨W6.good,W6.len,W6.four,λx hx=>h5.R.ao x (by rw[<-e1];exact hx),λx hx=>by rw[e3];exact h5.R.cl x (by rw[<-e1];exact hx),by rw[e2];omega,by rw[e1];omega⟩ W6 (by rw[e2];omega) (e4.trans h5.R.ps) (by rw[e1];omega) yF k6
   refine vr rfl (⟨a,ns,1,rfl,(zT h5.k hS),qc,⟨_,⟨_,rfl,rfl,(by show (0:Int)<4;decide),_,_,rfl,rfl,_,rfl,bq (λ_=>?_) λ_=>?_⟩⟩⟩)
   ·refine aW (id h5.M.obj) λZG Px xQ G5=>oE h5.L λakX L5=>vM rfl xQ (G5.ms _ dk) (⟨m,A,S,akX,n,rfl,h5.M,L5,h5.R.W,?_,h5.lam,(λH6 l ws ms S' n' hC _ W6 _ M6 k6 yF _ _ _=>?_)⟩)
    ·have:=aeN h5.R.W;omega
    ·exact iB (ade hC) λc1 c2 c3 c4=>vr rfl (fin H6 S' M6 c1 c2 c3 c4 W6.wf yF (h5.away k6))
   ·exact vr rfl (fin H5 S h5.M rfl rfl rfl rfl h5.R.W.wf h5.lam h5.k)
end
abbrev XR:List Str:=["_law_amount","_law_deeds","_law_cell","_law_numbers","_law_by_clerk","_law_rows_here","_law_one_here","_law_other","_law_turned","_law_shifted","_law_at"]
def mJ(H:Hp)(n:Nat)(q:e_):Prop:=∃ns:List Int,H q=a_ (.lst (ns.map V.int))/\ns.length<=n
def Vu(H:Hp)(rs:List e_):Prop:=∀q∈rs,mJ H 63 q
theorem mJ.same{n:Nat}(s:ai H H')(h:mJ H n q):mJ H' n q:=by
 exact af h λns a b=>ak ns (s _ _ a) b
theorem mJ.mono{n k:Nat}(l:n<=k)(h:mJ H n q):mJ H k q:=by
 exact af h λns a b=>ak ns a (cC b l)
theorem We(ns:List Int){v:Int}{k:Nat}(hv:v=(k:Nat)):jt (ns.map V.int) b_ (a_ v)=(ns.take k).map V.int:=by rw[hv,ahE,List.map_take]
theorem FG(ns:List Int){v:Int}{k:Nat}(hv:v=(k:Nat)):jt (ns.map V.int) (a_ v) b_=(ns.drop k).map V.int:=by rw[hv,aeD,List.map_drop]
theorem afP:(["_law_deeds","_law_k"]:List Str).Nodup:=dk
theorem T8:(["_law_draw","_law_number"]:List Str).Nodup:=dk
def Av(dB:List Act)(k:Nat):Int:=(((dB.map λa=>a.c).getD k 0:Nat):Int)*100+k
theorem acW(dB:List Act)(n:Nat)(h:n<=99):((List.range n).map (Av dB)).Nodup:=by
 unfold List.Nodup;rw[DV];refine(aat (n:=n)).imp_of_mem λ{a b} ha hb hab=>?_;have h1:=sO.mp ha;have h2:=sO.mp hb;unfold Av;generalize (dB.map λa=>a.c).getD a 0=x;generalize (dB.map λa=>a.c).getD b 0=y;intro z;lia
theorem U3{i j:Int}{r:Nat}(h:0<j)(e:i%j=(r:Nat))(q:Q (.int (r:Nat)) H):rI (λ_ j=>0<j) (λi j=>.int (i%j)) (.int i) (.int j) H Q:=⟨i,j,rfl,rfl,h,by show Q (.int (i%j)) H;rw[e];exact q⟩
theorem EN{H:Hp}{p:e_}{ns:List Int}{n:Nat}(h:ns.length<=n):mJ (upd H p (.lst (ns.map V.int))) n p:=⟨ns,aA,h⟩
def UK:Sp:=λvs H Q _=>∃(n:Nat) (l:e_) (ws:List V) (dB:List Act) (c:Int),vs=[.int (n:Nat),.ref l,.int c]/\H l=a_ (.lst ws)/\Paired (pW H) ws dB/\dB.length=n/\n<=60/\
 ∀H' l' rs,ai H H'->H l'=b_->H' l'=a_ (.lst (rs.map V.ref))->Vu H' rs->rs.length<=20->Q (.ref l') H'
theorem sY:ba XR zLp (aT Cg):=bg
theorem aft{f:e_}{fd:iJ}(F:aV K "_law_rows" "_law_rows" Cg f fd)(Dt:mg "sorted" = b_)(jI:mg "list" = b_)(dQ:mg "range" = b_)(NV:mg "min" = b_):ax P w K mg base aB 1 f fd zLp UK:=by
 refine F.ok sY (λvs H Q E h=>?_) λaL Ar outer s H vs Q E hr h=>?_
 ·refine rS h λn l ws dB c aa _=>?_;subst aa;rfl
 ·refine lG h λn l ws dB c aa hl ig hn h60 q=>?_;subst aa;have dP:=jl
  obtain⟨t1,p1,u1⟩:∃t1,eV (nG aB P w K mg base XR "_law_rows" (aT Cg) f aL Ar outer s H E).qW ((ir Cg).drop 3) t1/\∀(D:Ends) (σ:L2.St) (H1:Hp),(∃l0 l1 l2,σ=[a_ (.int (n:Nat)),a_ (.ref l),a_ (.int c),a_ (.ref l0),a_ (.ref l1),a_ (.ref l2),b_,b_,b_,b_,b_]/\H1 l0=a_ (.lst ((cJ n).map V.int))/\H1 l2=a_ (.lst [.ref l0,.ref l1])/\mJ H1 60 l0/\mJ H1 60 l1/\ai H H1/\H l2=b_/\D.rt=Q)->t1 D σ H1:=by
   refine let R1:TS:=_;let R2:TS:=_;let R3:TS:=_;let R4:TS:=_;let R5:TS:=_;let R6:TS:=_;let R7:TS:=_;let R8:TS:=_;let R9:TS:=_;let ij:TS:=_;⟨_,aD (b9 (br yt (pv 0) aq (bf _)) (pR ij (aD (bJ (i:=6) sY.nd rfl (aP rfl) (bb iN (pv 2) (pv 0))) (pR R9 (aD (bJ (i:=7) sY.nd rfl (aP rfl) (bb iN (bb jc (bb jc (pv 6) aq) (bb iN (bb pA (pv 2) aq) (bb E4 (pv 0) aq))) (pv 0))) (pR R8 (aD (bJ (i:=8) sY.nd rfl (aP rfl) (rO zF rfl jI zS (ae (pv 3) ag))) (pR R7 (aD (mm (pv 7) (ow (pv 8) (pv 6) set_list)) (pR R6 (aD (mm (pv 6) (ow (pv 8) (pv 7) set_list)) (pR R5 (aD (bJ (i:=9) sY.nd rfl (aP rfl) (bb wF (og yk (pv 3) oq (oo (pv 6))) (og yk (pv 3) (oo (bb jc (pv 6) aq)) oq))) (pR R4 (aD (dg (jZ PySem.F.plainAttrs_list PySem.F.slot_list_insert PySem.F.type_list_insert acQ (pv 9) (ae (pv 7) (ae (pv 6) ag)))) (pR R3 (aD (bJ (i:=5) sY.nd rfl (aP rfl) (bb wF (pv 5) (dN (ae (pv 8) (ae (pv 9) (ae (og yk (pv 3) (oo aq) oq) (ae (bb wF (pv 3) (dN (ae (pv 6) ag))) (ae (bb wF (dN (ae (pv 6) ag)) (og yk (pv 3) (oo aq) oq)) ag)))))))) (pR R2 (aD (bJ (i:=10) sY.nd rfl (aP rfl) (cg (Sj rfl) rfl NV Ro (ae (pv 6) (ae (bb E4 (pv 0) aq) ag)))) (pR R1 (aE (dg (jZ PySem.F.plainAttrs_list PySem.F.slot_list_append PySem.F.type_list_append ni (pv 5) (ae (bb wF (bb wF (og yk (pv 3) oq (oo (pv 10))) (dN (ae (bb jc (pv 10) aq) (ae (pv 10) ag)))) (og yk (pv 3) (oo (bb jc (pv 10) aq)) oq)) ag))))))))))))))))))))))) cD) (aE (a8 (pv 5))),?_⟩
   intro D σ H1 av;refine gw av λl0 l1 l2 aa h0 aH=>?_;clear av;subst aa;refine iO aH λh2 r0 r1 s1 xJ hD=>vr rfl ⟨_,⟨_,rfl,rfl,_,rfl,bq (λy6=>?_) λ_=>?_⟩⟩
   ·have AY:2<=n:=li;refine af (FE c (show 0<n by lia)) λgf e1 cX=>vr rfl (vr rfl (U3 (show (0:Int)<(n:Int) by lia) e1 (af (FE ((gf:Int)+1+c/64%((n:Int)-1)) (show 0<n by lia)) λr2 e2 ji=>ak _ rfl ⟨_,⟨_,rfl,rfl,_,rfl,_,_,rfl,rfl,⟨qc,qc⟩,_,rfl,_,_,rfl,rfl,_,_,rfl,rfl,(by show (0:Int)<(n:Int)-1;lia),_,_,rfl,rfl,_,rfl,U3 (show (0:Int)<(n:Int) by lia) e2 ?_⟩⟩)));have ff:(cJ n).length=n:=by unfold cJ;rw[aO,rD]
    refine vr rfl ⟨l0,⟨_,rfl,.inl (aj.of h0),λlt Oy=>ak _ rfl (vr rfl (vr rfl (ml lt _ (gf:Int) gf rfl rfl aA (pD (by rw[aO,ff];exact cX)) (ak _ rfl (vr rfl (vr rfl (ml lt _ (r2:Int) r2 rfl rfl aA (pD (by rw[kv,aO,ff];exact ji)) ?_)))))))⟩⟩;rw[nu,nu,show ((((cJ n).map V.int).set gf (V.int (r2:Nat))).set r2 (V.int (gf:Nat)))=(((cJ n).set gf (r2:Nat)).set r2 (gf:Nat)).map V.int by rw[vV,vV]];generalize eU:upd H1 lt (.lst ((((cJ n).set gf (r2:Nat)).set r2 (gf:Nat)).map V.int))=H2;have s2:ai H1 (H2):=eU ▸ (aM (ai.refl _) Oy);have rt:mJ (H2) 60 lt:=eU ▸ (EN (by rw[kv,kv,ff];exact h60));clear eU;refine ak _ rfl (ak _ rfl (ak _ rfl ⟨l0,⟨_,rfl,aj.of (s2 _ _ h0),λa1 na1=>?_⟩⟩));rw[We (cJ n) (k:=gf) rfl];have lm1:((cJ n).take gf).length=gf:=by rw[i8,ff];lia
    generalize (cJ n).take gf=m1 at lm1 ⊢;refine aG (nw (o:=.lst (m1.map V.int)) na1) λH3 e s3 g3=>?_;rw[e];clear e;have nK:=s2.trans s3;refine vr rfl (ak _ rfl ⟨_,⟨_,rfl,rfl,_,rfl,l0,_,rfl,aj.of (nK _ _ h0),λa2 na2=>?_⟩⟩);rw[FG (cJ n) (k:=gf+1) li];have lm2:((cJ n).drop (gf+1)).length=n-(gf+1):=by rw[vQ,ff]
    generalize (cJ n).drop (gf+1)=m2 at lm2 ⊢;refine aG (nw (o:=.lst (m2.map V.int)) na2) λH4 e s4 g4=>?_;rw[e];clear e;refine⟨a1,a2,_,(jY _ rfl rfl (s4 _ _ g3) g4 (by rw[aO,aO,dP];lia) λls nls=>du _ rfl (.inl ⟨rfl,_,aj.of aA⟩) (vr rfl (vr rfl (oa ls _ r2 (.int (gf:Nat)) rfl rfl aA (by rw[dM,aO,aO,dP];lia) (by exact wz) ?_))))⟩;rw[nu,show ((m1.map V.int++m2.map V.int).take r2++V.int (gf:Nat)::(m1.map V.int++m2.map V.int).drop r2)=((m1++m2).take r2++(gf:Int)::(m1++m2).drop r2).map V.int by rw[gg,List.map_take,gK,List.map_drop,gg]];generalize eU:upd H4 ls (.lst (((m1++m2).take r2++(gf:Int)::(m1++m2).drop r2).map V.int))=H5;have s5:ai H4 (H5):=eU ▸ (aM (ai.refl _) nls);have rs:mJ (H5) 60 ls:=eU ▸ (EN (by rw[dM,jk,i8,vQ,dM];omega));clear eU;have xH:=nK.trans (s4.trans s5);have rt5:=rt.same (s3.trans (s4.trans s5));have r05:=r0.same xH;have Pu:=xH _ _ h0;refine ak _ rfl (ak _ rfl (vr rfl (vr rfl (ak 1 rfl ⟨l0,⟨_,rfl,aj.of Pu,λb1 nb1=>?_⟩⟩))));rw[FG (cJ n) (v:=1) (k:=1) rfl];have lm3:((cJ n).drop 1).length<=n:=by rw[vQ,ff];lia
    generalize (cJ n).drop 1=m3 at lm3 ⊢;generalize eU:upd H5 b1 (.lst (m3.map V.int))=H6;have s6:ai H5 (H6):=eU ▸ (aM (ai.refl _) nb1);have rb1:mJ (H6) 60 b1:=eU ▸ (EN (by exact wj));clear eU;refine vr rfl (vr rfl ⟨(sl (n:=1)),(λb2 YF=>⟨l0,b2,_,_,rfl,rfl,aM s6 YF _ _ Pu,aA,by rw[aO,ff,dP];show n+1<=_;exact wb,λb3 nb3=>?_⟩)⟩);generalize eU:upd (upd H6 b2 (.lst [.int (gf:Nat)])) b3 (.lst ((cJ n).map V.int++[.int (gf:Nat)]))=H7;have s7:ai H6 (H7):=eU ▸ (aM (aM (ai.refl _) YF) nb3);have rb3:mJ (H7) 61 b3:=eU ▸ ⟨cJ n++[(gf:Int)],by rw[aA,gg];rfl,by rw[dM,ff];show n+1<=61;exact wb⟩;clear eU;have s57:=s6.trans s7;refine vr rfl ⟨(sl (n:=1)),(λb4 YE=>⟨_,rfl,1,rfl,l0,_,rfl,aj.of (aM s57 YE _ _ Pu),λb5 YD=>?_⟩)⟩;rw[FG (cJ n) (v:=1) (k:=1) rfl];have lm4:((cJ n).drop 1).length<=n:=by rw[vQ,ff];lia
    generalize (cJ n).drop 1=m4 at lm4 ⊢;refine oa b4 b5 ([.int (gf:Nat)]) (m4.map V.int) rfl rfl (aM (ai.refl _) YD _ _ aA) aA (by rw[aO,dP];show 1+m4.length<=_;lia) λb6 nb6=>?_;generalize eU:upd (upd (upd H7 b4 (.lst [.int (gf:Nat)])) b5 (.lst (m4.map V.int))) b6 (.lst ([.int (gf:Nat)]++m4.map V.int))=H8;have s8:ai H7 (H8):=eU ▸ (aM (aM (aM (ai.refl _) YE) YD) nb6);have rb6:mJ (H8) 61 b6:=eU ▸ ⟨(gf:Int)::m4,by rw[aA];rfl,by rw[jk];exact wy⟩;clear eU;refine⟨(sl (n:=5)),λb7 nb7=>aG (nw (o:=.lst [.ref lt,.ref ls,.ref b1,.ref b3,.ref b6]) nb7) λH9 e s9 g9=>?_⟩;rw[e];clear e;have Yb:=s8.trans s9;have Yc:=s7.trans Yb;have Ot:=s6.trans Yc;have tX:=xH.trans Ot
    have amq:Vu H9 [l0,l1,lt,ls,b1,b3,b6]:=λx hx=>by
     simp only[cV,rE,or_false]at hx;rcases hx with z | z | z | z | z | z | z <;> subst z
     ·exact(r0.same tX).mono qc
     ·exact(r1.same tX).mono qc
     ·exact(rt5.same Ot).mono qc
     ·exact(rs.same Ot).mono qc
     ·exact(rb1.same Yc).mono qc
     ·exact(rb3.same Yb).mono qc
     ·exact(rb6.same s9).mono qc
    refine⟨l2,b7,_,(jY _ rfl rfl (tX _ _ h2) g9 (by show 2+5<=cW;decide) λl3 t8=>?_)⟩;generalize eU:upd H9 l3 (.lst ([.ref l0,.ref l1]++[.ref lt,.ref ls,.ref b1,.ref b3,.ref b6]))=HA;have sA:ai H9 (HA):=eU ▸ (aM (ai.refl _) t8);have gA:HA l3=a_ (.lst ([l0,l1,lt,ls,b1,b3,b6].map V.ref)):=eU ▸ aA;clear eU
    obtain⟨qa,eqa,hqa⟩:∃qa:Nat,(if (n:Int)-2<(gf:Int) then (n:Int)-2 else (gf:Int))=(qa:Nat)/\qa+2<=n:=by
     split
     ·exact ak (n-2) li li
     ·exact ak gf rfl li
    refine ak _ rfl (vr rfl ⟨_,⟨_,rfl,rfl,_,_,rfl,?_⟩⟩);rw[eqa];have Zr:=(tX.trans sA) _ _ h0;refine du _ rfl (.inl ⟨rfl,_,aj.of gA⟩) (vr rfl (ak _ rfl (ak _ rfl ⟨l0,⟨_,rfl,aj.of Zr,λc1 OC=>?_⟩⟩)));rw[We (cJ n) (k:=qa) rfl];have lc1:((cJ n).take qa).length=qa:=by rw[i8,ff];lia
    generalize (cJ n).take qa=k1 at lc1 ⊢;refine aG (nw (o:=.lst (k1.map V.int)) OC) λHB e sB gB=>?_;rw[e];clear e;refine ak _ rfl ⟨_,⟨_,rfl,rfl,_,rfl,(sl (n:=2)),λc2 Hv=>⟨c1,c2,k1.map V.int,[.int ((qa:Int)+1),.int (qa:Nat)],rfl,rfl,aM (ai.refl _) Hv _ _ gB,aA,by rw[aO,dP];show k1.length+2<=_;lia,λc3 nc3=>?_⟩⟩⟩;generalize eU:upd (upd HB c2 (.lst [.int ((qa:Int)+1),.int (qa:Nat)])) c3 (.lst (k1.map V.int++[.int ((qa:Int)+1),.int (qa:Nat)]))=HC;have sC:ai HB (HC):=eU ▸ (aM (aM (ai.refl _) Hv) nc3);have gC:HC c3=a_ (.lst ((k1++[(qa:Int)+1,(qa:Int)]).map V.int)):=by rw[<-eU];rw[aA,gg];rfl
    clear eU;have Oq:=sB.trans sC;refine vr rfl (ak _ rfl ⟨_,⟨_,rfl,rfl,_,rfl,l0,_,rfl,aj.of (Oq _ _ Zr),λc4 OB=>?_⟩⟩);rw[FG (cJ n) (k:=qa+2) li];have lc4:((cJ n).drop (qa+2)).length=n-(qa+2):=by rw[vQ,ff]
    generalize (cJ n).drop (qa+2)=k4 at lc4 ⊢;refine⟨c3,c4,_,(jY _ rfl rfl (aM (ai.refl _) OB _ _ gC) aA (by rw[aO,aO,dM,dP];show k1.length+2+k4.length<=_;lia) λc5 AQ=>?_)⟩;generalize eU:upd (upd HC c4 (.lst (k4.map V.int))) c5 (.lst ((k1++[(qa:Int)+1,(qa:Int)]).map V.int++k4.map V.int))=HD;have sD:ai HC (HD):=eU ▸ (aM (aM (ai.refl _) OB) AQ);have gD:mJ (HD) 63 c5:=eU ▸ ⟨(k1++[(qa:Int)+1,(qa:Int)])++k4,by rw[aA];simp only[gg],by rw[dM,dM];show k1.length+2+k4.length<=63;lia⟩;have n35:=bw (aM Oq OB _ _ gA) AQ;clear eU;have X9:=Oq.trans sD;have g3D:=X9 _ _ gA;refine jb l3 _ (.ref c5) rfl rfl g3D (by rw[aO,dP];show 7<16777216;decide) (vr rfl ?_);rw[hD];have YG:=(s1.trans tX).free t8;have X':=sA.trans X9
    have sF:ai H (upd HD l3 (.lst ([l0,l1,lt,ls,b1,b3,b6].map V.ref++[.ref c5]))):=λb o e=>by
     rw[au (bw e YG)];exact(s1.trans (tX.trans X')) _ _ e
    refine q _ l3 ([l0,l1,lt,ls,b1,b3,b6]++[c5]) sF YG (by rw[aA,gg];rfl) (λx hx=>?_) (by show 8<=20;decide);rcases jA.mp hx with z | z
    ·exact af (amq x z) λns a b=>ak ns (by rw[au (bw a t8)];exact X' _ _ a) b
    ·rw[gJ.mp z];exact af gD λns a b=>ak ns (by rw[au n35.symm];exact a) b
   ·refine vr rfl ?_;rw[hD];refine q H1 l2 [l0,l1] s1 xJ h2 (λx hx=>?_) (by show 2<=20;decide);rcases cV.mp hx with z | z
    ·rw[z];exact r0.mono qc
    ·rw[gJ.mp z];exact r1.mono qc
  refine let R1:TS:=_;let R2:TS:=_;⟨_,aD (bJ (i:=3) sY.nd rfl (aP rfl) (Kf rfl rfl jI rfl dQ (ae (pv 0) ag))) (pR R2 (aD (Eg (i:=4) (N:=["_law_draw","_law_number"]) (idx:=[]) sY.nd rfl rfl rfl (eT.of (by kernel_rfl)) (Eh (cy _) (cy _))
    (rQ (cg QL rfl Dt Jn (ae (jX (N:=["_law_deeds","_law_k"]) (idx:=[1]) rfl (eT.of (by kernel_rfl)) (jV (aN _)) (rQ (pv 3)) (λ_ _ _ _=>de (i:=1) afP rfl (aP rfl) (.inr rfl)) (λ_ _ _ _=>jK)
     λ_ _ _ _=>gu (ae (bb jc (bb Ab (az (ML K) (az (MM K) (pv 0) (pv 1)) aq) aq) (pv 1)) (ae (pv 1) ag))) ag)))
    (λ_ _ _ _=>sZ rfl (jW (de (i:=0) T8 rfl (aP rfl)) (jW (de (i:=1) T8 rfl (aP rfl)) sW))) (λ_ _ _ _=>jK) λ_ _ _ _=>pv 1)
   (pR R1 (aD (bJ (i:=5) sY.nd rfl (aP rfl) (dN (ae (pv 3) (ae (pv 4) ag)))) p1)))),?_⟩
  have ff:(cJ n).length=n:=by unfold cJ;rw[aO,rD]
  refine vr rfl (du n rfl (by exact w4) λl0 nl0=>?_)
  have er:((List.range n).map λ(i:Nat)=>V.int (i:Nat))=(cJ n).map V.int:=by
   unfold cJ;rw[sQ];rfl
  rw[er];refine aG (nw (o:=.lst ((cJ n).map V.int)) nl0) λH1 e s1 g0=>?_;rw[e];clear e;refine ak _ rfl (du l0 rfl ⟨_,aj.of g0⟩ (jn (n:=n) (λi ys H'=>i<=n/\ai H1 H'/\∃ps:List (Int×V),ys=ps.map (·.2)/\ps.map (·.1)=(List.range i).map (Av dB)/\∀q∈ps,∃a k,q.2=.ref a/\H' a=a_ (.tup [.int q.1,.int k])) (by rw[dP];exact w4) ⟨cy _,ai.refl _,[],rfl,rfl,λq hq=>by cases hq⟩ ?_ ?_ ?_ ?_ ?_))
  ·intro i ys H' av;refine bp av λ_ _ aa=>aG aa λps aa hk _=>?_;subst aa;have:=congrArg Jo hk;rw[aO,aO,rD]at this;rw[aO];lia
  ·intro i ys H' hi av;exact bp av λ_ s2 _=>eG _ _ (aj.of (s2 _ _ g0)) (aX (by rw[aO,ff];exact hi))
  ·intro ys H' av;exact bp av λ_ s2 _=>ak _ (aj.of (s2 _ _ g0)) (by rw[aO,ff];exact aN _)
  ·intro i ys H2 hi av z H3 eW;refine bp av λ_ s2 aa=>aG aa λps aa hk km=>?_;subst aa;refine oA eW λeH dG=>?_;subst eH;have hz:=dG _ (aj.of (s2 _ _ g0))
   have ez:z=V.int (i:Nat):=by
    unfold cJ at hz;rw[sQ,f9,List.getElem?_range hi]at hz;exact(dq hz).symm
   subst ez;have Pk:dB[i]?=a_ dB[i]:=aX (by exact wg)
   have Gi:Av dB i=(dB[i].c:Int)*100+i:=by
    unfold Av;rw[nh,f9,Pk];rfl
   generalize dB[i]=b at Pk Gi;refine af (jU ig Pk) λvb Dr aa=>af aa λpb eb uc=>?_;subst eb;dsimp only[j',jd];rw[if_pos rfl];have qi:=s1.trans s2;refine ak _ rfl (vr rfl (rL (aj.of (qi _ _ hl)) (cb Dr) (cT (aI.of (qi _ _ uc)) (cb (j:=1) rfl) ⟨_,⟨_,rfl,rfl,.inr ⟨qc,qc⟩,_,rfl,_,_,rfl,rfl,_,rfl,(sl (n:=2)),λa na=>⟨hi,aM s2 na,ps++[((b.c:Int)*100+i,.ref a)],by rw[gg];rfl,by rw[gg,hk,x9,gg];show _++[_]=_++[Av dB i];rw[Gi],λq hq=>?_⟩⟩⟩)));rcases jA.mp hq with y | y
   ·exact aW (km q y) λa' k e1 e2=>eG a' k e1 (aM (ai.refl _) na _ _ e2)
   ·rw[gJ.mp y];exact eG a (i:Int) rfl aA
  ·intro ys H2 av;refine bp av λ_ s2 aa=>aG aa λps aa hk km=>?_;subst aa
   have ee:ps.length=n:=by
    have:=congrArg Jo hk;rw[aO,aO,rD]at this;exact this
   refine⟨by rw[aO,dP];lia,λa3 na3=>aG (nw (o:=.lst (ps.map (·.2))) na3) λH3 e s3 g3=>?_⟩;rw[e];clear e;refine⟨a3,ps,rfl,(aj.of g3),li,(λq hq=>aW (km q hq) λa' k e1 e2=>eG a' _ e1 (aI.of (s3 _ _ e2))),?_,(λl5 qs Hs hp _=>?_)⟩
   ·rw[hk];exact acW dB n li
   refine aG (nw (o:=.lst (qs.map (·.2))) Hs) λH5 e s5 g5=>?_;rw[e];clear e;have hql:qs.length=n:=by rw[hp.length_eq,ee]
   have Yi:=s3.trans s5;refine du l5 rfl ⟨_,aj.of g5⟩ (jn (n:=n) (λi ys H'=>i<=n/\ai H5 H'/\∃ns:List Int,ys=ns.map V.int/\ns.length=i) (by rw[dP];lia) ⟨cy _,ai.refl _,[],rfl,rfl⟩ ?_ ?_ ?_ ?_ ?_)
   ·intro i ys H' av;refine bp av λ_ _ aa=>af aa λns aa e=>?_;subst aa;rw[aO];lia
   ·intro i ys H' hi av;exact bp av λ_ s6 _=>eG _ _ (aj.of (s6 _ _ g5)) (aX (by rw[aO];exact wg))
   ·intro ys H' av;exact bp av λ_ s6 _=>ak _ (aj.of (s6 _ _ g5)) (by rw[aO];exact w7)
   ·intro i ys H6 hi av z H7 eW;refine bp av λ_ s6 aa=>af aa λns aa e=>?_;subst aa;refine oA eW λeH dG=>?_;subst eH;have hz:=dG _ (aj.of (s6 _ _ g5));rw[f9,aX (show i<qs.length by exact wg)]at hz;have ez:z=qs[i].2:=(dq hz).symm;refine aW (km qs[i] (hp.mem_iff.mp (uo _))) λa' k e1 e2=>?_;rw[e1]at ez;subst ez;refine⟨a',⟨_,rfl,aI.of (s6 _ _ (Yi _ _ e2)),rfl,_,_,rfl,_,_,rfl,rfl,?_⟩⟩;dsimp only[j'];rw[if_pos rfl];exact vr rfl (eM hi s6 (ak (ns++[k]) (by rw[gg];rfl) (by rw[dM,e];rfl)))
   ·intro ys H6 av;refine bp av λ_ s6 aa=>af aa λns aa e=>?_;subst aa;refine⟨by rw[aO,dP];lia,λl1 Ht=>?_⟩;generalize eU:upd H6 l1 (.lst (ns.map V.int))=H7;have s7:ai H6 (H7):=eU ▸ (aM (ai.refl _) Ht);have r7:mJ (H7) 60 l1:=eU ▸ (EN (by exact w7));clear eU;refine ak _ rfl (vr rfl ⟨(sl (n:=2)),(λl2 xJ=>aG (nw (o:=.lst [.ref l0,.ref l1]) xJ) λH8 e s8 g8=>?_)⟩);rw[e];clear e;have xG:=s2.trans (Yi.trans (s6.trans s7));have Zv:=(xG.trans s8) _ _ g0;exact u1 _ _ _ (⟨l0,l1,l2,rfl,Zv,g8,⟨cJ n,Zv,by exact w7⟩,(r7.same s8),(s1.trans (xG.trans s8)),((s1.trans xG).free xJ),rfl⟩)
theorem two(c:Int):∃kd:Str,jg [V.str "row",V.str "name"] (c%2)=a_ (.str kd)/\(kd = "row"\/kd = "name"\/kd = "none"):=by
 have h1:0<=c%2:=yc _ qc;have h2:c%2<2:=zu _ qc;have h:c%2=0\/c%2=1:=li;rcases h with e | e <;> rw[e]
 ·exact⟨_,rfl,.inl rfl⟩
 ·exact⟨_,rfl,.inr (.inl rfl)⟩
section
variable{t:a9}{C CT PT:e_}
def VL(K:PySem.W.Frag)(PT:e_):Sp:=λvs H Q _=>∃(a:e_) (ns:List Int),vs=[.ref a]/\aj K H a (ns.map V.int)/\ns.length<=63/\cq PT LP LQ H/\∀H',Q (.bl c_) H'
theorem Aj:ba ["_law_script","_law_program_here","_law_kind","_law_machine","_law_row","_law_handed"] ["_law_script"] (aT yz):=bg
theorem agR(F:aV K "law" "law" yz f fd)(cM:fb K C)(dE:mg "len" = b_)(jI:mg "list" = b_)
  (GC:ax P w K mg base aB 1 fC jT zLu (Lr K)) (kC:PySem.W.keepIn K (.ref fC)=c_) (bC:Binds K jT zLu []) (mC:mg "_law_cell_at" = a_ (.ref fC))
  (GG:ax P w K mg base aB 3 fG DI ["_law_cell"] Tv) (kG:PySem.W.keepIn K (.ref fG)=c_) (bG:Binds K DI ["_law_cell"] []) (mG:mg "_law_program" = a_ (.ref fG))
  (GR:ax P w K mg base aB 9 fR DH zLm (VH K t C CT PT)) (kR:PySem.W.keepIn K (.ref fR)=c_) (bR:Binds K DH zLm []) (mR:mg "_law_ran" = a_ (.ref fR))
  (GO:ax P w K mg base aB 1 fO sh zLp UK) (kO:PySem.W.keepIn K (.ref fO)=c_) (bO:Binds K sh zLp []) (mO:mg "_law_rows" = a_ (.ref fO))
  (GS:ax P w K mg base aB 1 fS jQ zLe (zX t C CT)) (bS:Binds K jQ zLe []) (mS:Meth K C "deeds" fS)
  (GH:ax P w K mg base aB 11 fH PD zLc (Tw t C CT PT)) (kH:PySem.W.keepIn K (.ref fH)=c_) (bH:Binds K PD zLc []) (mH:mg "_law_holds" = a_ (.ref fH)) :
  ax P w K mg base aB 12 f fd ["_law_script"] (VL K PT):=by
 refine F.ok Aj (λvs H Q E h=>?_) λaL Ar outer s H vs Q E hr h=>?_
 ·obtain⟨a,ns,rfl,_⟩:=h;rfl
 ·obtain⟨a,ns,rfl,hS,hlen,lam,q⟩:=h;have hu:=hr.units;have cX:=hr.mono (show 1<=11 by decide);have rj:=hr.mono (show 3<=11 by decide);have hr9:=hr.mono (show 9<=11 by decide);refine let R1:TS:=_;let R2:TS:=_;let R3:TS:=_;let R4:TS:=_;let R5:TS:=_;⟨_,aD (bJ (i:=1) Aj.nd rfl (aP rfl) (dr GG rj rfl mG kG bG .nil aR (ae (dr GC cX rfl mC kC bC .nil aR (ae (pv 0) (ae aq ag))) ag))) (pR R5 (aD (bJ (i:=2) Aj.nd rfl (aP rfl) (az aS (dN (ae cZ (ae cZ ag))) (bb iN (dr GC cX rfl mC kC bC .nil aR (ae (pv 0) (ae aq ag))) aq))) (pR R4 (aD (bJ (i:=3) Aj.nd rfl (aP rfl) (dr GR hr9 rfl mR kR bR .nil aR (ae (pv 0) (ae (pv 1) (ae (pv 2) ag))))) (pR R3 (aD (pB mf rfl (rQ (dr GO cX rfl mO kO bO .nil aR (ae (cg fg rfl dE PySem.boot_len (ae (ip (pv 3) cM.cl mS GS cX bS .nil aR) ag)) (ae (ip (pv 3) cM.cl mS GS cX bS .nil aR) (ae (bb pA (dr GC cX rfl mC kC bC .nil aR (ae (pv 0) (ae aq ag))) aq) ag))))) (de (i:=4) Aj.nd rfl (aP rfl)) (pR R2 (aD (bJ (i:=5) Aj.nd rfl (aP rfl) (rO zF rfl jI zS (ae (pv 4) ag))) (pR R1 (aE (b9 (PW.pt (pw_or (kQ (gF (dr GH hr rfl mH kH bH .nil aR (ae (pv 3) (ae (pv 1) (ae (pv 5) ag)))))) (pw_or1 (br (uK hu) (pv 5) (pv 4) (bf _))))) (aE (a8 nD)) cD)))))) (aE (a8 nD)))))))),?_⟩
  refine⟨_,rfl,a,ns,0,rfl,hS,qc,_,rfl,λH1 v ps s1 hP hg h3 _=>?_⟩;obtain⟨kd,ek,pe⟩:=two (Al ns 1);refine⟨(sl (n:=2)),λq0 nq0=>?_⟩;obtain⟨H2,e,s2,g2⟩:=nw (o:=.lst [.str "row",.str "name"]) nq0;rw[e];clear e;have qi:=s1.trans s2;refine⟨_,rfl,a,ns,1,rfl,zT (aF.of qi) hS,qc,_,_,rfl,rfl,(by show (0:Int)<2;decide),q0,_,_,.str kd,rfl,rfl,aj.of g2,ek,⟨_,rfl,_,rfl,_,rfl,a,ns,v,ps,kd,rfl,zT (aF.of qi) hS,hlen,hP.keep λb xs e=>s2 _ _ e,hg,h3,pe,gj lam qi,λH3 m A S M hR W HM km gY NP k3=>?_⟩⟩;have k03:=(aF.of qi).trans k3;have hP3:mw H3 v S.ps:=by rw[km];exact(hP.keep λb xs e=>s2 _ _ e).keep k3.lQ
  refine aW (id M.obj) λdx fs hm G=>vM rfl hm (G.ms _ dk) ⟨m,A,S,rfl,M,λl4 Ol n4 Dq=>⟨l4,Ol,rfl,.inl (aj.of aA),?_⟩⟩;rw[Paired.length Dq];have s4:ai H3 (upd H3 l4 (.lst Ol)):=aM (ai.refl _) n4;generalize upd H3 l4 (.lst Ol)=H4 at s4 ⊢;refine vM rfl (s4 _ _ hm) (G.ms _ dk) ⟨m,A,S,rfl,M.same s4,λl5 X5 n5 Dp=>?_⟩;obtain⟨H5,e,s5,g5⟩:=nw (o:=.lst X5) n5;rw[e];clear e;have Yg:=s4.trans s5;refine⟨_,rfl,a,ns,1,rfl,zT (k03.trans (aF.of Yg)) hS,qc,_,_,rfl,rfl,⟨qc,qc⟩,S.ac.length,l5,X5,S.ac,_,rfl,g5,Paired.cw Dp λ_ _ q=>q.keep λb xs e=>s5 _ _ e,rfl,w4,λH6 l6 rs s6 Oz g6 vx _=>⟨l6,rfl,⟨_,aj.of g6⟩,?_⟩⟩;have Ye:=Yg.trans s6
  let W1:IV:=λi σ H'=>∃z4 z5,σ=[a_ (.ref a),a_ v,a_ (.str kd),a_ (.ref m),z4,z5]/\aF eN H6 H'/\cq PT LP LQ H'
  refine Kl (xs:=rs.map V.ref) W1 ⟨b_,b_,rfl,aF.refl _,gj NP Ye⟩ ?_ ?_ ?_
  ·intro i σ H' _ av;obtain⟨_,_,_,k7,_⟩:=av;exact aj.of (k7.iC g6)
  ·intro i y σ H7 hy av;obtain⟨z4,z5,rfl,k7,yE⟩:=av;rw[f9]at hy;cases OU:rs[i]? with
   | none=>rw[OU]at hy;cases hy
   | some r=>
   rw[OU]at hy;cases hy;obtain⟨ms,gr,hms⟩:=vx r (bo OU);have Zt:=k7.iC gr;refine⟨_,rfl,r,_,rfl,.inl (aj.of Zt),λlh nlh=>?_⟩;obtain⟨H8,e,s8,g8⟩:=nw (o:=.lst (ms.map V.int)) nlh;rw[e];clear e;have YU:=(aF.of Ye).trans (k7.trans (aF.of s8));exact⟨_,rfl,_,rfl,_,rfl,m,A,S,v,lh,ms,rfl,M.eP YU,hR,W,HM,hP3.keep YU.lQ,gj yE s8,g8,hms,λH9 k9 NO=>⟨_,rfl,fj (vr rfl (vr rfl (zU (pQ (k9.iC g8)) (pQ (k9.iC (s8 _ _ Zt))) (yd _) ⟨_,rfl,fj ⟨_,_,rfl,k7.trans ((aF.of s8).trans k9),NO⟩⟩)))⟩⟩
  ·intro σ H' av;obtain⟨_,_,rfl,_,_⟩:=av;exact q H'
end
end TL
namespace TL
open PySem PySem.Spec PyProof.Rows PySem.SeqAt L2 L3
theorem V9{us:List f_}(h:us.length=1):∃a,us=[a]:=P9.mp h
theorem FV{us:List f_}{n:Nat}(h:us.length=n+1):∃a l,us=a::l/\l.length=n:=by
 cases us with
 | nil=>cases h
 | cons a l=>exact⟨a,l,rfl,D8 h⟩
theorem V8{us:List f_}(h:us.length=2):∃a b,us=[a,b]:=aW (FV h) λa _ e h=>oE (V9 h) λb z=>⟨a,b,by rw[e,z]⟩
theorem V7{us:List f_}(h:us.length=3):∃a b c,us=[a,b,c]:=aW (FV h) λa _ e h=>xy (V8 h) λb c z=>⟨a,b,c,by rw[e,z]⟩
theorem V6{us:List f_}(h:us.length=4):∃a b c d,us=[a,b,c,d]:=aW (FV h) λa _ e h=>WD (V7 h) λb c d z=>⟨a,b,c,d,by rw[e,z]⟩
theorem aiX{us:List f_}(h:us.length=5):∃a b c d e,us=[a,b,c,d,e]:=aW (FV h) λa _ e h=>aiK (V6 h) λb c d f z=>⟨a,b,c,d,f,by rw[e,z]⟩
abbrev xD(x q:Str)(st:Stmt)(ps:List Str):Prop:=∀(kV doc pm:f_) (an:Option e_) (aL ct:f_) (us:List f_),us.length=ps.length->uA (W.fnOf x q (nz st) (ir st) (aT st) .none kV doc pm an aL ct) ⟨us,[]⟩=pure (ps.zip us)
section
variable{K:W.Frag}{h:j_}{mg:Str->Option f_}{x q m:Str}{st:Stmt}{f c e:e_}
theorem eA(X:K.In h)(G:h.Ns gi mg)(p:fN K x)(l:HT.bc K (gN K x)=fp x x st)(ps:List Str)(hb:xD x x st ps):∃fd,aV K x x st (gN K x) fd/\W.keepIn K (.ref (gN K x))=c_/\Binds K fd ps []/\mg x=a_ (.ref (gN K x)):=by
 obtain⟨oc,od,kV,dc,pm,an,cd,ct,sl,l1,c1⟩:=HT.wO l p.2.1;have F:=Vi (st:=st) l1 c1 p.2.2;exact⟨_,F,p.2.2,F.binds hb,W.mg_of X G (HT.lN p.1)⟩
theorem dU(p:fM K c m q)(l:HT.bc K (gM K c m)=fp m q st)(ps:List Str)(hb:xD m q st ps):∃fd,aV K m q st (gM K c m) fd/\Binds K fd ps []/\Meth K c m (gM K c m):=by
 obtain⟨oc,od,kV,dc,pm,an,cd,ct,sl,l1,c1⟩:=HT.wO l p.2.1;have F:=Vi (st:=st) l1 c1 p.2.2.1;exact⟨_,F,F.binds hb,HT.lN p.1,p.2.2.2,p.2.2.1⟩
theorem akE(p:fM K c m q)(l:HT.bc K (gM K c m)=fp m q st)(ci:HT.F2 K (gM K c m)=c_)(ps:List Str)(hb:xD m q st ps):∃fd,xp K m q st (gM K c m) fd (HT.Ax K (gM K c m))/\Binds K fd ps []/\Meth K c m (gM K c m):=by
 obtain⟨oc,od,kV,dc,pm,an,ct,sl,l1,c1⟩:=HT.aht l p.2.1 ci;have F:=af7 (st:=st) l1 c1 p.2.2.1;exact⟨_,F,F.fun.binds hb,HT.lN p.1,p.2.2.2,p.2.2.1⟩
theorem mkD{d:Str}(p:fM K c m q)(l:HT.FX K (gM K c m)=fp m q st)(df:HT.FZ K (gM K c m) d=c_):∃fd,CH K m q st (gM K c m) fd d:=by
 obtain⟨oc,od,T,kV,dc,pm,an,cd,ct,sl,c1,d1,n1,vt,tk,e1,e2,e3⟩:=HT.ahr l p.2.1 df;exact⟨_,⟨⟨oc,od,T,kV,dc,pm,an,cd,ct,sl,c1,d1,n1,vt,tk,rfl,e1,e2,e3⟩,p.2.2.1⟩⟩
theorem tR(X:K.In h)(G:h.Ns gi mg)(p:cK K x):fQ K (gN K x)/\mg x=a_ (.ref (gN K x)):=⟨⟨p.2.1,p.2.2.1,p.2.2.2.1,p.2.2.2.2⟩,W.mg_of X G (HT.lN p.1)⟩
theorem Of(p:xF K c e):Vt K c e:=⟨⟨p.1,p.2.1⟩,p.2.2.1,p.2.2.2.1,p.2.2.2.2.1,p.2.2.2.2.2⟩
end
def Vv(l:W.OpenLaw)(w:k_)(K:W.Frag)(mg:Str->Option f_)(fa:e_):Prop:=
  ∃fd:iJ,(∀(s:g_) (v:f_),BindsTo s fd ⟨[v],[]⟩ [("_law_script",v)])/\(∃c,W.codeHdIn K c 425=c_)/\∀base:j_,K.In base->base.Ns gi mg->vh mg base->ax l.prog w K mg base aB 12 fa fd ["_law_script"] (VL K 425)
theorem sL9{K:W.Frag}(E:seen K=c_)(i:Nat){b:Bool}(h:(AG K ())[i]?=a_ b):b=true:=DY.mp E b (bo h)
section
variable{K:W.Frag}(E:seen K=c_)
theorem ar{K:W.Frag}(E:seen K=c_)(i:Nat){p:Prop}{d:Decidable p}(h:(AG K ())[i]?=a_ (@decide p d)):p:=@of_decide_eq_true p d (sL9 E i h)
def Sf:=ar E 10 rfl
def Sg:=ar E 15 rfl
def Se:=ar E 20 rfl
def Rj:=ar E 25 rfl
def Rh:=ar E 30 rfl
def Ri:=ar E 35 rfl
def QX:=ar E 40 rfl
def Rg:=ar E 43 rfl
def QC:=ar E 48 rfl
def LZ:=ar E 63 rfl
def Kn:=ar E 64 rfl
def Kp:=ar E 65 rfl
def Km:=ar E 66 rfl
def JR:=ar E 67 rfl
def JP:=ar E 68 rfl
def JQ:=ar E 69 rfl
def rV:=ar E 70 rfl
def Ld:=ar E 76 rfl
def Up:=ar E 81 rfl
def Ko:=ar E 86 rfl
def Uo:=ar E 171 rfl
def Ul:=ar E 172 rfl
def Um:=ar E 233 rfl
def Sb:=ar E 238 rfl
def Sa:=ar E 239 rfl
def Sd:=ar E 240 rfl
end
theorem bj{K:W.Frag}(E:rX K=qK)(i:Nat){a b:Option HT.sj}(h:(rX K)[i]?=a_ a)(g:qK[i]?=a_ b):a=b:=by rw[E,g]at h;exact(dq h).symm
theorem jf{x q:Str}{st:Stmt}{ps:List Str}(l:ps.length=1:=by rfl)(h:∀(kV doc pm:f_) (an:Option e_) (aL ct:f_) (u0:f_),uA (W.fnOf x q (nz st) (ir st) (aT st) .none kV doc pm an aL ct) ⟨[u0],[]⟩=pure (ps.zip [u0]):=by intros;rfl):xD x q st ps:=by
 intro k1 k2 k3 k4 k5 k6 us hl;obtain⟨u0,e⟩:=V9 (hl.trans l);subst e;exact h k1 k2 k3 k4 k5 k6 u0
theorem gy{x q:Str}{st:Stmt}{ps:List Str}(l:ps.length=2:=by rfl)(h:∀(kV doc pm:f_) (an:Option e_) (aL ct:f_) (u0 u1:f_),uA (W.fnOf x q (nz st) (ir st) (aT st) .none kV doc pm an aL ct) ⟨[u0,u1],[]⟩=pure (ps.zip [u0,u1]):=by intros;rfl):xD x q st ps:=by
 intro k1 k2 k3 k4 k5 k6 us hl;obtain⟨u0,u1,e⟩:=V8 (hl.trans l);subst e;exact h k1 k2 k3 k4 k5 k6 u0 u1
theorem lX{x q:Str}{st:Stmt}{ps:List Str}(l:ps.length=3:=by rfl)(h:∀(kV doc pm:f_) (an:Option e_) (aL ct:f_) (u0 u1 u2:f_),uA (W.fnOf x q (nz st) (ir st) (aT st) .none kV doc pm an aL ct) ⟨[u0,u1,u2],[]⟩=pure (ps.zip [u0,u1,u2]):=by intros;rfl):xD x q st ps:=by
 intro k1 k2 k3 k4 k5 k6 us hl;obtain⟨u0,u1,u2,e⟩:=V7 (hl.trans l);subst e;exact h k1 k2 k3 k4 k5 k6 u0 u1 u2
theorem G0{x q:Str}{st:Stmt}{ps:List Str}(l:ps.length=4:=by rfl)(h:∀(kV doc pm:f_) (an:Option e_) (aL ct:f_) (u0 u1 u2 u3:f_),uA (W.fnOf x q (nz st) (ir st) (aT st) .none kV doc pm an aL ct) ⟨[u0,u1,u2,u3],[]⟩=pure (ps.zip [u0,u1,u2,u3]):=by intros;rfl):xD x q st ps:=by
 intro k1 k2 k3 k4 k5 k6 us hl;obtain⟨u0,u1,u2,u3,e⟩:=V6 (hl.trans l);subst e;exact h k1 k2 k3 k4 k5 k6 u0 u1 u2 u3
theorem bn5{x q:Str}{st:Stmt}{ps:List Str}(l:ps.length=5:=by rfl)(h:∀(kV doc pm:f_) (an:Option e_) (aL ct:f_) (u0 u1 u2 u3 u4:f_),uA (W.fnOf x q (nz st) (ir st) (aT st) .none kV doc pm an aL ct) ⟨[u0,u1,u2,u3,u4],[]⟩=pure (ps.zip [u0,u1,u2,u3,u4]):=by intros;rfl):xD x q st ps:=by
 intro k1 k2 k3 k4 k5 k6 us hl;obtain⟨u0,u1,u2,u3,u4,e⟩:=aiX (hl.trans l);subst e;exact h k1 k2 k3 k4 k5 k6 u0 u1 u2 u3 u4
theorem facts{l:W.OpenLaw}{w:k_}{K:W.Frag}{h:j_}{mg:Str->Option f_}{fa:e_}(E:(seen K,rX K)=(c_,qK))(X:K.In h)(G:h.Ns gi mg)(hfa:mg "law" = a_ (.ref fa)):Vv l w K mg fa:=by
 have hb:=(ye E).1;have hl:=(ye E).2;refine cR (eA X G (ar hb 59 rfl) (bj hl 0 rfl rfl) zLF jf) λqb FW kW bW gW=>?_;refine cR (eA X G (ar hb 60 rfl) (bj hl 1 rfl rfl) ["word"] jf) λqZ FB kB bB gB=>?_;refine cR (eA X G (ar hb 61 rfl) (bj hl 2 rfl rfl) ["told"] jf) λjQ FS kS bS gS=>?_;refine cR (eA X G (ar hb 62 rfl) (bj hl 3 rfl rfl) ["told"] jf) λsh FO kO bO gO=>?_;refine aG (dU (LZ hb) (bj hl 4 rfl rfl) zLb gy) λiF FI bI MI=>?_;refine aG (dU (Kn hb) (bj hl 5 rfl rfl) zLb gy) λFC amK N9 Xy=>?_;refine aG (dU (Kp hb) (bj hl 6 rfl rfl) zLb gy) λFD am3 Oa Xz=>?_;refine aG (dU (Km hb) (bj hl 7 rfl rfl) zLb gy) λFA amJ N8 Xx=>?_;refine aG (dU (JR hb) (bj hl 8 rfl rfl) zLb gy) λFg aki Nf Wu=>?_;refine aG (dU (JP hb) (bj hl 9 rfl rfl) zLb gy) λFe akf Nc Ws=>?_;refine aG (dU (JQ hb) (bj hl 10 rfl rfl) zLb gy) λFf akh Nd Wt=>?_;refine aG (dU (rV hb) (bj hl 11 rfl rfl) zLe jf) λNB FEm yL MEm=>?_;refine aG (dU (ar hb 71 rfl) (bj hl 12 rfl rfl) zLe jf) λLX akg MW aka=>?_;refine aG (dU (ar hb 72 rfl) (bj hl 13 rfl rfl) zLe jf) λLY akj MX akb=>?_;refine cR (eA X G (ar hb 73 rfl) (bj hl 14 rfl rfl) zLE jf) λan5 FHC kHC bHC gHC=>?_;refine cR (eA X G (ar hb 74 rfl) (bj hl 15 rfl rfl) zLA lX) λan6 FFI kFI bFI gFI=>?_;refine cR (eA X G (ar hb 75 rfl) (bj hl 16 rfl rfl) zLE jf) λan1 FLO kLO bLO gLO=>?_;refine aG (dU (Ld hb) (bj hl 17 rfl rfl) ["self","kind"] gy) λanK FTI bTI MTI=>?_;refine aG (dU (ar hb 77 rfl) (bj hl 18 rfl rfl) zLt G0) λanO FTA bTA MTA=>?_;refine aG (dU (ar hb 78 rfl) (bj hl 19 rfl rfl) zLj gy) λanJ FTL bTL MTL=>?_;refine aG (akE (ar hb 79 rfl) (bj hl 20 rfl rfl) (ar hb 80 rfl) zLe jf) λanL Z6 ZI MTF=>?_;refine aG (dU (ar hb 82 rfl) (bj hl 21 rfl rfl) zLj gy) λanH FTT bTT MTT=>?_;refine aG (dU (ar hb 83 rfl) (bj hl 22 rfl rfl) zLe jf) λanM FTE bTE MTE=>?_;refine aG (dU (ar hb 84 rfl) (bj hl 23 rfl rfl) zLe jf) λanN FTD bTD MTD=>?_;refine cR (eA X G (ar hb 85 rfl) (bj hl 24 rfl rfl) ["kind"] jf) λanI FTO kTO bTO gTO=>?_;refine oE (mkD (Ko hb) (bj hl 25 rfl rfl) (ar hb 87 rfl)) λanc XG=>?_;refine aG (dU (ar hb 88 rfl) (bj hl 26 rfl rfl) zLa gy) λaom FAE ZQ MAE=>?_;refine aG (dU (ar hb 89 rfl) (bj hl 27 rfl rfl) zLa gy) λanY FMY bMY MMY=>?_;refine aG (dU (ar hb 90 rfl) (bj hl 28 rfl rfl) zLe jf) λaoi FCR ZN MCR=>?_;refine aG (dU (ar hb 91 rfl) (bj hl 29 rfl rfl) zLe jf) λanZ FMV PN MMV=>?_;refine aG (dU (ar hb 92 rfl) (bj hl 30 rfl rfl) zLw gy) λaob FDO Ig MDO=>?_;refine aG (dU (ar hb 93 rfl) (bj hl 31 rfl rfl) zLa gy) λan' FDS bDS MDS=>?_;refine aG (dU (ar hb 94 rfl) (bj hl 32 rfl rfl) zLh lX) λan9 FDT bDT MDT=>?_;refine aG (dU (ar hb 95 rfl) (bj hl 33 rfl rfl) zLh lX) λaod FDL bDL MDL=>?_;refine aG (dU (ar hb 96 rfl) (bj hl 34 rfl rfl) zLh lX) λan8 FDW bDW MDW=>?_;refine aG (dU (ar hb 97 rfl) (bj hl 35 rfl rfl) zLv lX) λaoh FCY ZM MCY=>?_;refine aG (dU (ar hb 98 rfl) (bj hl 36 rfl rfl) zLC gy) λaoj FCM ZO MCM=>?_;refine aG (dU (ar hb 99 rfl) (bj hl 37 rfl rfl) zLj gy) λanW FOB ZJ MOB=>?_;refine aG (dU (ar hb 100 rfl) (bj hl 38 rfl rfl) zLe jf) λanQ FSE bSE MSE=>?_;refine aG (dU (ar hb 101 rfl) (bj hl 39 rfl rfl) zLa gy) λanG FWH bWH MWH=>?_;refine aG (dU (ar hb 102 rfl) (bj hl 40 rfl rfl) zLa gy) λanR FSD PL MSD=>?_;refine aG (dU (ar hb 103 rfl) (bj hl 41 rfl rfl) zLa gy) λanT FRG bRG MRG=>?_;refine aG (dU (ar hb 104 rfl) (bj hl 42 rfl rfl) zLa gy) λanF FWT bWT MWT=>?_;refine aG (dU (ar hb 105 rfl) (bj hl 43 rfl rfl) zLe jf) λaol FBO ZP MBO=>?_;refine aG (dU (ar hb 106 rfl) (bj hl 44 rfl rfl) zLe jf) λaoe FDE DO MDE=>?_;refine aG (dU (ar hb 107 rfl) (bj hl 45 rfl rfl) zLe jf) λaoc FDN ZL MDN=>?_;refine aG (dU (ar hb 108 rfl) (bj hl 46 rfl rfl) ["self","number"] gy) λaog FDA bDA MDA=>?_;refine aG (dU (ar hb 109 rfl) (bj hl 47 rfl rfl) zLj gy) λanV FOV bOV MOV=>?_;refine cR (eA X G (ar hb 110 rfl) (bj hl 48 rfl rfl) zLz lX) λanU FPB kPB bPB gPB=>?_;refine cR (eA X G (ar hb 111 rfl) (bj hl 49 rfl rfl) ["move"] jf) λan4 FHF kHF bHF gHF=>?_;refine cR (eA X G (ar hb 112 rfl) (bj hl 50 rfl rfl) ["part"] jf) λanP FSO kSO bSO gSO=>?_;refine aG (dU (ar hb 113 rfl) (bj hl 51 rfl rfl) zLD gy) λanb amI Xq Xw=>?_;refine cR (eA X G (ar hb 114 rfl) (bj hl 52 rfl rfl) ["row","many"] gy) λan7 FEO kEO bEO gEO=>?_;refine cR (eA X G (ar hb 115 rfl) (bj hl 53 rfl rfl) zLg lX) λan0 FMG YT ZK Zu=>?_;refine cR (eA X G (ar hb 116 rfl) (bj hl 54 rfl rfl) zLg lX) λaok FCD kCD bCD gCD=>?_;refine cR (eA X G (ar hb 117 rfl) (bj hl 55 rfl rfl) ["done","told","row"] lX) λan2 FIL kIL bIL gIL=>?_;refine cR (eA X G (ar hb 118 rfl) (bj hl 56 rfl rfl) zLB lX) λaof FDD kDD bDD gDD=>?_;refine cR (eA X G (ar hb 119 rfl) (bj hl 57 rfl rfl) ["plain","machine"] gy) λaoa FDR kDR bDR gDR=>?_;refine cR (eA X G (ar hb 120 rfl) (bj hl 58 rfl rfl) ["machine","row"] gy) λanS FRP kRP bRP gRP=>?_;refine cR (eA X G (ar hb 121 rfl) (bj hl 59 rfl rfl) zLu gy) λanw am1 WZ Xu Xm=>?_;refine cR (eA X G (ar hb 122 rfl) (bj hl 60 rfl rfl) zLx gy) λanp amV WW Xr Xk=>?_;refine cR (eA X G (ar hb 123 rfl) (bj hl 61 rfl rfl) zLy gy) λanf amM ak0 amc alX=>?_;refine cR (eA X G (ar hb 124 rfl) (bj hl 62 rfl rfl) zLn lX) λank amR ak5 amh al2=>?_;refine cR (eA X G (ar hb 125 rfl) (bj hl 63 rfl rfl) zLo lX) λanl amS ak6 ami al3=>?_;refine cR (eA X G (ar hb 126 rfl) (bj hl 64 rfl rfl) ["_law_cell"] jf) λanj amQ ak4 amg al1=>?_;refine cR (eA X G (ar hb 127 rfl) (bj hl 65 rfl rfl) ["_law_program_here"] jf) λano amU ak8 amk al5=>?_;refine cR (eA X G (ar hb 128 rfl) (bj hl 66 rfl rfl) zLs gy) λanx am2 W0 Xv Xn=>?_;refine cR (eA X G (ar hb 129 rfl) (bj hl 67 rfl rfl) zLq lX) λang amN ak1 amd alY=>?_;refine cR (eA X G (ar hb 130 rfl) (bj hl 68 rfl rfl) zLf bn5) λane amL akZ amb alW=>?_;refine cR (eA X G (ar hb 131 rfl) (bj hl 69 rfl rfl) zLk G0) λanv am0 alb amo al9=>?_;refine cR (eA X G (ar hb 132 rfl) (bj hl 70 rfl rfl) zLd G0) λanu amZ WY Xs Xl=>?_;refine cR (eA X G (ar hb 133 rfl) (bj hl 71 rfl rfl) zLl lX) λanq amW ak9 aml al6=>?_;refine cR (eA X G (ar hb 134 rfl) (bj hl 72 rfl rfl) zLm lX) λani amP ak3 amf al0=>?_;refine cR (eA X G (ar hb 135 rfl) (bj hl 73 rfl rfl) zLi G0) λanm amT ak7 amj al4=>?_;refine cR (eA X G (ar hb 136 rfl) (bj hl 74 rfl rfl) zLc lX) λans amY ala amn al8=>?_;refine cR (eA X G (ar hb 137 rfl) (bj hl 75 rfl rfl) zLc lX) λanr amX ak' amm al7=>?_;refine cR (eA X G (ar hb 138 rfl) (bj hl 76 rfl rfl) zLp lX) λanh amO ak2 ame alZ=>?_;refine cR (eA X G (ar hb 139 rfl) (bj hl 77 rfl rfl) ["_law_script"] jf) λaj9 XH anz aon alV=>?_;have e:=hfa.symm.trans alV;cases e;refine oA (tR X G (ar hb 8 rfl)) λam9 aie=>?_;refine oA (tR X G (ar hb 9 rfl)) λyv aj7=>?_;refine oA (tR X G (ar hb 14 rfl)) λwQ aj8=>?_;refine oA (tR X G (ar hb 19 rfl)) λuX aj6=>?_;refine oA (tR X G (ar hb 24 rfl)) λuP aih=>?_;refine oA (tR X G (ar hb 29 rfl)) λtj aid=>?_;refine oA (tR X G (ar hb 34 rfl)) λwH aif=>?_;refine oA (tR X G (ar hb 39 rfl)) λB0 agh=>?_;refine oA (tR X G (ar hb 42 rfl)) λaii aic=>?_;refine oA (tR X G (ar hb 47 rfl)) λadj Sr=>?_;have Xy:Mk K (iQ K) (Md K):=⟨(Sf hb).1,HT.lN (Kn hb).1,(Kn hb).2.2.2,(Sf hb).2⟩;have Xz:Mk K (iT K) (Mf K):=⟨(Sg hb).1,HT.lN (Kp hb).1,(Kp hb).2.2.2,(Sg hb).2⟩;have Xx:Mk K (iP K) (Mb K):=⟨(Se hb).1,HT.lN (Km hb).1,(Km hb).2.2.2,(Se hb).2⟩;have Wu:Mk K (iM K) (Ll K):=⟨(Rj hb).1,HT.lN (JR hb).1,(JR hb).2.2.2,(Rj hb).2⟩;have Ws:Mk K (iK K) (Lj K):=⟨(Rh hb).1,HT.lN (JP hb).1,(JP hb).2.2.2,(Rh hb).2⟩;have Wt:Mk K (iL K) (Lk K):=⟨(Ri hb).1,HT.lN (JQ hb).1,(JQ hb).2.2.2,(Ri hb).2⟩;have aij:Mk K (oh K) (Ay K):=⟨(QX hb).1,(ar hb 145 rfl),(LZ hb).2.2.2,(QX hb).2⟩;have aj':Mk K (fo K) (Wi K):=⟨(Rg hb).1,HT.lN (Ld hb).1,(Ld hb).2.2.2,(Rg hb).2⟩;have Tq:Mk K (cG K) (Me K):=⟨(QC hb).1,HT.lN (Ko hb).1,(Ko hb).2.2.2,(QC hb).2⟩;have acg:=MTA;have abk:=MTL;have QE:=MTF;have abK:=MTT;have aa3:=MTE;have abj:=MTD;have Qr:=MAE;have aaU:=MMY;have Qm:=MCR;have IQ:=MMV;have D7:=MDO;have aaK:=MDS;have aaV:=MDT;have aaL:=MDL;have aaJ:=MDW;have Qt:=MCY;have Qz:=MCM;have Qj:=MOB;have aaT:=MSE;have aa4:=MWH;have IB:=MSD;have aaz:=MRG;have aaI:=MWT;have Qu:=MBO;have Bm:=MDE;have Qd:=MDN;have aaM:=MDA;have abb:=MOV;have abm:Meth K (iQ K) "empties" (qM K):=⟨(ar hb 140 rfl),(rV hb).2.2.2,(rV hb).2.2.1⟩;have abn:Meth K (iT K) "empties" (qM K):=⟨(ar hb 141 rfl),(rV hb).2.2.2,(rV hb).2.2.1⟩;have abl:Meth K (iP K) "empties" (qM K):=⟨(ar hb 142 rfl),(rV hb).2.2.2,(rV hb).2.2.1⟩;have abc:Meth K (iM K) "empties" (qM K):=⟨(ar hb 143 rfl),(rV hb).2.2.2,(rV hb).2.2.1⟩;have aa':=aka;have aa5:=akb;have aba:Meth K (iL K) "empties" (qM K):=⟨(ar hb 144 rfl),(rV hb).2.2.2,(rV hb).2.2.1⟩;have aa6:MZ K (uF K) "__init__" (Ay K):=⟨(ar hb 146 rfl),(ar hb 147 rfl),HT.ahk (ar hb 148 rfl),(LZ hb).2.2.1⟩;have Jc:=W.mg_none_of X G (ar hb 149 rfl);have Vy:=W.mg_none_of X G (ar hb 150 rfl);have UB:=W.mg_none_of X G (ar hb 151 rfl);have Vx:=W.mg_none_of X G (ar hb 152 rfl);have BQ:=W.mg_none_of X G (ar hb 153 rfl);have jM:=W.mg_none_of X G (ar hb 154 rfl);have Vz:=W.mg_none_of X G (ar hb 155 rfl);have ah9:=W.mg_none_of X G (ar hb 156 rfl);have D5:=W.mg_none_of X G (ar hb 157 rfl);have qE:=W.mg_none_of X G (ar hb 158 rfl);have wm:=W.mg_none_of X G (ar hb 159 rfl);have Mg:=W.mg_none_of X G (ar hb 160 rfl);have ah':=W.mg_none_of X G (ar hb 161 rfl);have Eo:=W.mg_none_of X G (ar hb 162 rfl);have abi:=W.mg_none_of X G (ar hb 163 rfl);have aia:∃u,mg "TOP" = a_ u/\RelV (.int jD) u:=by obtain⟨t,e⟩:=HT.Cc (ar hb 164 rfl);exact⟨_,W.mg_of X G e,_,rfl⟩
 have Tp:∃u,mg "NAMES" = a_ u/\RelV (.int 12) u:=by obtain⟨t,e⟩:=HT.Cc (ar hb 165 rfl);exact⟨_,W.mg_of X G e,_,rfl⟩
 have abA:∃u,mg "REGISTERS" = a_ u/\RelV (.int 4) u:=by obtain⟨t,e⟩:=HT.Cc (ar hb 166 rfl);exact⟨_,W.mg_of X G e,_,rfl⟩
 have acf:∃u,mg "LONGEST" = a_ u/\RelV (.int 120) u:=by obtain⟨t,e⟩:=HT.Cc (ar hb 167 rfl);exact⟨_,W.mg_of X G e,_,rfl⟩
 have adi:∃u,mg "CLERKS" = a_ u/\RelV (.int 4) u:=by obtain⟨t,e⟩:=HT.Cc (ar hb 168 rfl);exact⟨_,W.mg_of X G e,_,rfl⟩
 have ajX:=W.mg_of X G (HT.lN (ar hb 0 rfl));have ajV:=W.mg_of X G (HT.lN (ar hb 1 rfl));have XNo:=Of (ar hb 2 rfl);have Wo:=W.mg_of X G (HT.lN (ar hb 3 rfl));have ZS:=Of (ar hb 4 rfl);have ajW:=W.mg_of X G (HT.lN (ar hb 5 rfl));have XKd:=Of (ar hb 6 rfl);have M7:=W.mg_of X G (HT.lN (ar hb 7 rfl));have aeI:=W.mg_of X G (HT.lN (ar hb 169 rfl));have aeJ:∀H:Hp,aI K H (To K) [.str "row",.str "name",.str "none"]:=λH=>HT.aeP (ar hb 170 rfl) (by show 3<=cW;decide) H;have bl:Bl mg:=⟨Jc,Vy,UB,Vx,BQ,jM,Vz,ah9⟩;have bt:BT mg:=⟨Jc,Vy,UB,Vx,jM,Vz,qE,D5,Mg,Eo⟩;have cn:Cn mg:=⟨aia,Tp,abA,acf⟩
 have T1:tm K mg ⟨(WR K),(WU K),(WS K),(WT K),(Ay K),(Md K),(Mf K),(Mb K),(Ll K),(Lj K),(Lk K),(uF K),(iQ K),(iT K),(iP K),(iM K),(iK K),(oh K),(iL K),_,_,_,_,_,_,_,_,_,_,_⟩:=
  ⟨bl,cn,FW,bW,gW,FB,bB,gB,FS,bS,gS,FO,bO,gO,⟨FI,bI,aa6,aie,BQ⟩,B0,(ar hb 41 rfl),aij,agh,yv,(ar hb 11 rfl),(ar hb 12 rfl),(ar hb 13 rfl),Xy,aj7,amK,N9,wQ,(ar hb 16 rfl),(ar hb 17 rfl),(ar hb 18 rfl),Xz,aj8,am3,Oa,uX,(ar hb 21 rfl),(ar hb 22 rfl),(ar hb 23 rfl),Xx,aj6,amJ,N8,uP,(ar hb 26 rfl),(ar hb 27 rfl),(ar hb 28 rfl),Wu,aih,aki,Nf,tj,(ar hb 31 rfl),(ar hb 32 rfl),(ar hb 33 rfl),Ws,aid,akf,Nc,wH,(ar hb 36 rfl),(ar hb 37 rfl),(ar hb 38 rfl),Wt,aif,akh,Nd⟩
 obtain⟨t,u,O⟩:∃t u,yA K mg t u:=⟨_,⟨(qM K),(Uz K),(UA K),_,_,_⟩,⟨T1,FEm,yL,akg,MW,akj,MX,(Uo hb),(Ul hb),abm,abn,abl,abc,aa',aa5,aba,⟨(ar hb 173 rfl),(ar hb 174 rfl),(ar hb 175 rfl),(ar hb 176 rfl),(ar hb 177 rfl),(ar hb 178 rfl),(ar hb 179 rfl),(ar hb 180 rfl)⟩,⟨(ar hb 181 rfl),(ar hb 182 rfl),(ar hb 183 rfl),(ar hb 184 rfl),(ar hb 185 rfl),(ar hb 186 rfl),(ar hb 187 rfl),(ar hb 188 rfl)⟩,⟨(ar hb 189 rfl),(ar hb 190 rfl),(ar hb 191 rfl),(ar hb 192 rfl),(ar hb 193 rfl),(ar hb 194 rfl),(ar hb 195 rfl),(ar hb 196 rfl)⟩,⟨(ar hb 197 rfl),(ar hb 198 rfl),(ar hb 199 rfl),(ar hb 200 rfl),(ar hb 201 rfl),(ar hb 202 rfl),(ar hb 203 rfl),(ar hb 204 rfl)⟩,⟨(ar hb 205 rfl),(ar hb 206 rfl),(ar hb 207 rfl),(ar hb 208 rfl),(ar hb 209 rfl),(ar hb 210 rfl),(ar hb 211 rfl),(ar hb 212 rfl)⟩,⟨(ar hb 213 rfl),(ar hb 214 rfl),(ar hb 215 rfl),(ar hb 216 rfl),(ar hb 217 rfl),(ar hb 218 rfl),(ar hb 219 rfl),(ar hb 220 rfl)⟩,⟨(ar hb 221 rfl),(ar hb 222 rfl),(ar hb 223 rfl),(ar hb 224 rfl),(ar hb 225 rfl),(ar hb 226 rfl),(ar hb 227 rfl),(ar hb 228 rfl)⟩⟩⟩;have T:=O.st;have cM:fb K (cG K):=⟨adj,(ar hb 49 rfl),(ar hb 50 rfl),(ar hb 51 rfl),(ar hb 52 rfl),(ar hb 53 rfl),(ar hb 54 rfl),(ar hb 55 rfl),(ar hb 56 rfl),(ar hb 57 rfl),(ar hb 58 rfl)⟩;have cT:oC K (fo K):=⟨aii,(ar hb 44 rfl),(ar hb 45 rfl),(ar hb 46 rfl)⟩;have b3:=afU XG;have xf:XF K (jN K):=⟨(ar hb 231 rfl),xcd (ar hb 232 rfl),(Sb hb),(Sa hb),(Sd hb)⟩;have XU1:XU K (jN K) (Cs K):=⟨(ar hb 234 rfl),(ar hb 235 rfl),⟨(Sb hb),(Sa hb),(Sd hb),(ar hb 241 rfl),(ar hb 242 rfl),(Uo hb),(Ul hb),(ar hb 243 rfl)⟩,(ar hb 236 rfl),(ar hb 237 rfl),xf,(Um hb)⟩;have ZT:G9 K (jN K) (Vw K):=⟨(ar hb 229 rfl),Xw.1,Xw.2,(ar hb 230 rfl)⟩;unfold Vv;refine⟨aj9,λs v=>?_,⟨_,Up hb⟩,λbase h1 h2 h3=>?_⟩
 ·obtain⟨_,_,_,_,_,_,_,_,_,e,_⟩:=XH.ex;rw[e];exact .of_eq rfl
 ·exact(by
  have hC:=W.codeHd_of_K h1 (Up hb);have GTD:=ab0 (P:=l.prog) (w:=w) (mg:=mg) (base:=base) FTD bt cT;have GTE:=acG (P:=l.prog) (w:=w) (mg:=mg) (base:=base) FTE bt cT;have GTF:=Q8 (P:=l.prog) (w:=w) (mg:=mg) (base:=base) Z6 bt cT hC h3;have GTT:=adL (P:=l.prog) (w:=w) (mg:=mg) (base:=base) FTT bt cT hC h3 FW bW gW Z6 ZI QE ZS.xc Wo;have GTA:=afq (P:=l.prog) (w:=w) (mg:=mg) (base:=base) FTA cT;have GTL:=ab1 (P:=l.prog) (w:=w) (mg:=mg) (base:=base) FTL bt cT;have GTO:=acF (P:=l.prog) (w:=w) (mg:=mg) (base:=base) FTO bt cT aj' FTI bTI aic Tp aeI aeJ XKd.xc ajW (PT:=425);have Z5:=adZ (P:=l.prog) (w:=w) (mg:=mg) (base:=base) (t:=t) (CT:=(fo K)) FAE jM cM;have GWH:=adK (P:=l.prog) (w:=w) (mg:=mg) (base:=base) (t:=t) (CT:=(fo K)) FWH cM;have PX:=abt (P:=l.prog) (w:=w) (mg:=mg) (base:=base) (t:=t) (CT:=(fo K)) FSD cM;have GRG:=abu (P:=l.prog) (w:=w) (mg:=mg) (base:=base) (t:=t) (CT:=(fo K)) FRG wm cM;have Z4:=adY (P:=l.prog) (w:=w) (mg:=mg) (base:=base) (t:=t) (CT:=(fo K)) FBO wm cM;have DQ:=adV (P:=l.prog) (w:=w) (mg:=mg) (base:=base) (t:=t) (CT:=(fo K)) FDE wm cM;have GOV:=afx (P:=l.prog) (w:=w) (mg:=mg) (base:=base) (t:=t) (CT:=(fo K)) FOV wm cM;have GWT:=abZ (t:=t) FWT cM cT GTD bTD abj;have GMY:=adP FMY cM cT O Z5 ZQ Qr GTE bTE aa3;have Z2:=ab5 (t:=t) FCR cM cT D5 GTF ZI QE;have PY:=acK FMV cM jM qE GMY bMY aaU Z2 ZN Qm;have Z3:=afH (P:=l.prog) (w:=w) (mg:=mg) (base:=base) (t:=t) (CT:=(fo K)) FCM cM;have ZY:=ab3 (P:=l.prog) (w:=w) (mg:=mg) (base:=base) (t:=t) (CT:=(fo K)) FOB cM jM;have Z1:=adX FCY cM cT GTT bTT abK Z3 ZO Qz;have GDT:=adU FDT cM cT jM T GTA bTA acg Z1 ZM Qt;have GDL:=acO FDL cM cT T GTL bTL abk ZY ZJ Qj;have GDW:=acM FDW cM T jM ZY ZJ Qj Z3 ZO Qz;have GPB:=aa8 (P:=l.prog) (w:=w) (mg:=mg) (base:=base) FPB O;have GDS:=acN FDS cM O GPB kPB bPB gPB GDT bDT aaV GDL bDL aaL GDW bDW aaJ;have GHF:=afB (P:=l.prog) (w:=w) (mg:=mg) (base:=base) FHF T;have Ij:=agW FDO cM GHF kHF bHF gHF PY PN IQ GDS bDS aaK Z1 ZM Qt ZS.xc Wo;have GSO:=ab2 (P:=l.prog) (w:=w) (mg:=mg) (base:=base) FSO T BQ;have GLO:=(afz (P:=l.prog) (w:=w) (mg:=mg) (base:=base) FLO bl D5 (agX FHC bl adi) kHC bHC gHC (afC FFI O XNo ajV) kFI bFI gFI);have GMI:=adQ XG cM T BQ qE GLO kLO bLO gLO GTO kTO bTO gTO GSO kSO bSO gSO;have GSE:=acI FSE cM jM Z2 ZN Qm Ij Ig D7;have Z0:=afE (P:=l.prog) (w:=w) (mg:=mg) (base:=base) (t:=t) (CT:=(fo K)) FDN jM cM;have GDA:=acP (P:=l.prog) (w:=w) (mg:=mg) (base:=base) (t:=t) (CT:=(fo K)) FDA cM;have ZZ:=adO FMG cM PX PL IB Z5 ZQ Qr;have GCD:=adW FCD cM Z0 ZL Qd ZZ YT ZK Zu Ij Ig D7;have GDR:=afu FDR cM jM qE ZZ YT ZK Zu Ij Ig D7;have GIL:=acL (P:=l.prog) (w:=w) (mg:=mg) (base:=base) FIL;have ZX:=aiG (P:=l.prog) (w:=w) (mg:=mg) (base:=base) amI xf (Um hb);have GDD:=ab4 FDD cM D5 DQ DO Bm GCD kCD bCD gCD GDA bDA aaM GIL kIL bIL gIL ZT ZX Xq M7;have GEO:=afD (P:=l.prog) (w:=w) (mg:=mg) (base:=base) FEO T Eo wm qE;have GRP:=acJ FRP cM GEO kEO bEO gEO Z0 ZL Qd ZT ZX Xq M7 Tq GMI Sr b3 GDD kDD bDD gDD GDR kDR bDR gDR;have XD:=afo (P:=l.prog) (w:=w) (mg:=mg) (base:=base) am1 jM;have XA:=agQ (P:=l.prog) (w:=w) (mg:=mg) (base:=base) amV;have amu:=acH amM qE XA WW Xr Xk;have amz:=afw amR XA WW Xr Xk;have amA:=agU (P:=l.prog) (w:=w) (mg:=mg) (base:=base) amS;have amy:=adS amQ jM qE BQ amu ak0 amc alX amA ak6 ami al3;have TT:=(⟨cM,GWH,bWH,aa4,PX,PL,IB,GRG,bRG,aaz,GWT,bWT,aaI,Z4,ZP,Qu,DQ,DO,Bm,GOV,bOV,abb⟩:Tells l.prog w K mg base t (cG K) (fo K) (Wh K) (Wj K) (Wk K) (Wg K) (Wn K) (Wm K) (Wl K) _ _ _ _ _ _ _);have amC:=agV (P:=l.prog) (w:=w) (mg:=mg) (base:=base) amU qE;have XE:=agZ (P:=l.prog) (w:=w) (mg:=mg) (base:=base) am2;have amv:=afs (P:=l.prog) (w:=w) (mg:=mg) (base:=base) amN jM ah';have amt:=agS amL jM XE W0 Xv Xn;have amG:=afG am0 jM XE W0 Xv Xn amv ak1 amd alY amt akZ amb alW;have XB:=afF amZ amG alb amo al9;have amD:=afA amW jM qE TT;have amB:=afy amT jM XB WY Xs Xl;have amF:=agY (PT:=425) amY cM jM qE Eo wm DQ DO Bm amC ak8 amk al5 amB ak7 amj al4 PX PL IB XB WY Xs Xl;have amE:=adT amX cM jM Jc abi ajX M7 XU1 amF ala amn al8 DQ DO Bm Z4 ZP Qu PY PN IQ GRP kRP bRP gRP amD ak9 aml al6;have amw:=aft (P:=l.prog) (w:=w) (mg:=mg) (base:=base) amO Eo wm qE Mg;have amx:=agT amP cM jM qE Mg Tq GMI Sr b3 PY PN IQ Ij Ig D7 amz ak5 amh al2 XD WZ Xu Xm GSE bSE aaT;exact agR XH cM jM wm XD WZ Xu Xm amy ak4 amg al1 amx ak3 amf al0 amw ak2 ame alZ DQ DO Bm amE ak' amm al7)
theorem walk{l:W.OpenLaw}{q:l_}{loose:List Str}{XP:(Str->Option f_)->j_->Prop}{d:DefRec}(hn:l.most=a_ 63)(Pc:d.params.defaults=[])(hdn:d.name = "law") :
  W.WalkO q loose XP (HT.uM TL.si 425 (λK=>(seen K,rX K)) (c_,qK)).says l.row.toRowW d [] (λf vs=>PySem.call f vs):=by
 refine Att.abJ hn Pc λw s₀ s₁ mg mb fa o pm cd doc a vs ns G Y ho hd jj A0 NU hints hlen hg=>?_;obtain⟨K,KX,KN,hT,E⟩:=Y;rw[hdn]at A0;obtain⟨fd,hb,⟨c,hc⟩,hF⟩:=facts (l:=l) (w:=w) E KX G.T.g A0
 have bm:vh mg s₁.heap:=by
  obtain⟨bm,ob,b1,b2,b3,b4,b5,b6⟩:=G.T.bmain;refine⟨bm,ob,b1,b2,λz=>?_,b3,b4,b5,b6⟩;obtain⟨o',es,ep,e,rq,_⟩:=G.T.g;rw[z,e]at b3;cases b3;rw[rq]at b6;cases b6
 exact acS (ts:=[425]) KX G.T.g G.T.b G.T.builtins G.T.nolimit hg bm (λb hb=>by rw[gJ.mp hb];exact hT) (λb hb=>by rw[gJ.mp hb];exact((W.codeHd_of_K KX hc).tab hT).isCodeTable) (λb hb=>by rw[gJ.mp hb];exact KN) NU hints (cC hlen qc) ⟨rfl,qc,qc⟩ hF hb (λH hO hS=>⟨a,ns,rfl,hS,hlen,⟨#[],hO.2 425 (by simp),.inl rfl⟩,λ_=>rfl⟩) λH e s' z=>z
end TL
open PySem PySem.W PyProof.Rows
theorem TL.left:W.LeftO PySem.Challenge.rw_traylate_k46_replayed.row.prog TL.qv [] (λs=>W.xlAt TL.qv [] s&&W.recOk PySem.Challenge.rw_traylate_k46_replayed.row.records s) (HT.uM TL.si 425 (λK=>(TL.seen K,TL.rX K)) (c_,TL.qK)).obs (HT.uM TL.si 425 (λK=>(TL.seen K,TL.rX K)) (c_,TL.qK)).val 13382:=by
 refine HT.afW ?a ?b ?c ?d
 case a=>kernel_rfl
 case b=>kernel_rfl
 case c=>intro s;kernel_rfl
 case d=>intro w os;exact HT.both (HT.tJ (HT.pY (TL.l2 w os))) (HT.both (TL.r2 w os) (TL.r3 w os))
theorem PySem.Challenge.cw_traylate_k46_replayed_holds : PySem.Challenge.rw_traylate_k46_replayed.Holds := by
 w_on;o_law
 refine W.holds_open (q:=TL.qv) (loose:=[]) (XP:=W.XL TL.qv []) (YP:=(HT.uM TL.si 425 (λK=>(TL.seen K,TL.rX K)) (c_,TL.qK)).says) (d:=TL.dl) (kwd:=[]) TL.left (HT.uM TL.si 425 (λK=>(TL.seen K,TL.rX K)) (c_,TL.qK)).of (HT.uM TL.si 425 (λK=>(TL.seen K,TL.rX K)) (c_,TL.qK)).keeps (λs e=>W.xl_of s (Qg.mp e).1) W.XL.keeps ?h1 ?h2 ?h3 (λs e=>W.recFacts_of (Qg.mp e).2) ?h4 (by assumption) ?h5 ⟨rfl,rfl,rfl,rfl,rfl,dk⟩ ?hw (TL.walk (l:=PySem.Challenge.rw_traylate_k46_replayed) ?w1 ?w2 ?w3)
 case h1=>kernel_rfl
 case h2=>kernel_rfl
 case h3=>kernel_rfl
 case h4=>kernel_rfl
 case h5=>kernel_rfl
 case hw=>w_witness2
 case w1=>kernel_rfl
 case w2=>kernel_rfl
 case w3=>kernel_rfl
#print axioms PySem.Challenge.cw_traylate_k46_replayed_holds
